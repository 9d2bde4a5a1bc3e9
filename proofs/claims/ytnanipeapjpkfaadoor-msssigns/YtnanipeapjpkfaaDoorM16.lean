/- The walk of MssSigns. -/
import Derived.Test.YtnanipeapjpkfaaDoorM15
namespace Go.Proofs.YtnanipeapjpkfaaDoor
set_option maxRecDepth 100000
open Go.RowKit
set_option maxHeartbeats 4000000 in
theorem signs_law {seed : List (BitVec 8)} (hx : seed.length = 32) (kind height next : Int) {ps : List Pt} {mA : Option Addr} {mC : Nat} (w : World) (hK : Tab w) (vM : (Fk.mg ps).f (.slice mA (ps).length mC) w) :
    Calls Tryd.prog 3 #[.agg ((seed).map V ++ ([.int .i64 (kind), .int .i64 (height), .int .i64 (next), .slice mA (ps).length mC] : List Value)).toArray] w fun e w' => e = .returned (.bool true) ∧ Below w.heap.size w w' := by
  have vnil : (Fk.hs (([] : List (List (BitVec 8))))).f (.slice none 0 0) w := ⟨none, 0, 0, 0, rfl, fun h => by simp at h, fun h => by simp at h, fun i x hi => by simp at hi⟩
  go_enter Tryd.func3, Tryd.ntmps3
  refine code_both (fun f w1 => f.tmps.size = 218 ∧ f.defers = [] ∧ f.eval (.tmp 0) = .agg ((seed).map V ++ ([.int .i64 (kind), .int .i64 (height), .int .i64 (next), .slice mA (ps).length mC] : List Value)).toArray ∧ Below w.heap.size w (w1)) ⟨rfl, rfl, rfl, Below.refl _ _⟩ ?_
  rintro f0 w0 ⟨sz, df, x0, bl⟩
  have bl0 := bl
  refine wp_seq ?_
  -- R0
  refine wp_region_seq [] (by kernel_rfl) (by kernel_rfl) (by rw [sz]; kernel_rfl) (by kernel_rfl) trivial ?_
  intro f1 w1 A hb
  replace bl0 := bl
  replace x0 := (A.old 0 rfl).trans x0
  replace bl := (bl.trans (Below.mono hb bl.size))
  replace sz := A.size.trans sz
  replace df := A.defs.trans df
  clear A hb
  refine wl_one (.nw w1.heap.size 26 ((seed).map V ++ ([.int .i64 (kind), .int .i64 (height), .int .i64 (next), .slice mA (ps).length mC] : List Value))) rfl 1 rfl (by rw [sz]; decide) (st_box 26 (.tmp 0) rfl _ _ (by rw [show _ = _ from x0]; kernel_rfl) (Nat.le_refl _)) ?_
  intro f2 w2 df2 sz2 old2 new2 hb
  replace bl0 := bl
  replace x0 := (old2 0 rfl).trans x0
  have x1 : Fk.f (.nw w1.heap.size 26 ((seed).map V ++ ([.int .i64 (kind), .int .i64 (height), .int .i64 (next), .slice mA (ps).length mC] : List Value))) (f2.eval (.tmp 1)) w2 := new2
  replace bl := (bl.trans (Below.mono hb bl.size))
  replace sz := sz2.trans sz
  replace df := df2.trans df
  clear df2 sz2 old2 new2 hb
  obtain ⟨g1, hg1, e1, m1⟩ := x1
  have x1 := e1
  clear e1
  have hw1 : w.heap.size ≤ g1 := Nat.le_trans bl0.size hg1
  clear x0
  refine wl_one (.eq (.bool false)) rfl 2 rfl (by rw [sz]; decide) (st_assign (.const (.bool false)) rfl rfl) ?_
  intro f3 w3 df2 sz2 old2 new2 hb
  replace bl0 := bl
  replace x1 := (old2 1 rfl).trans x1
  have x2 : f3.eval (.tmp 2) = .bool false := new2
  have lt_m1 := Ob.lt m1
  replace m1 := Ob.below m1 hb
  replace bl := (bl.trans (Below.mono hb bl.size))
  replace sz := sz2.trans sz
  replace df := df2.trans df
  clear df2 sz2 old2 new2 hb
  refine wpList_nil ?_
  show Code.wp _ _ _ _ _
  refine wp_seq ?_
  refine wp_seq ?_
  by_cases hc : 3 < height ∨ 12 < ps.length
  rotate_left
  · skip
    have hht : height ≤ 3 := by omega
    have hps : ps.length ≤ 12 := by omega
    clear hc
    -- R1
    refine wp_all_seq [.eq (.pointer (some ⟨g1, 33, none⟩)), .eq (.int .i64 (height)), .eq (.bool false), .eq (.bool false), .eq (.pointer (some ⟨g1, 35, none⟩)), .eq (.slice mA (ps).length mC), .eq (.int .i64 ((ps.length : Nat) : Int)), .eq (.bool false), .eq (.bool false)] (by kernel_rfl) (by kernel_rfl) (by rw [sz]; kernel_rfl) (by kernel_rfl) ⟨fun hw ac u K => ?_, fun hw ac u K => ?_, fun hw ac u K => ?_, fun hw ac u K => ?_, fun hw ac u K => ?_, fun hw ac u K => ?_, fun hw ac u K => ?_, fun hw ac u K => ?_, fun hw ac u K => ?_, trivial⟩ ?_
    · exact st_field 26 2 (.tmp 1) rfl ((K.old 1 rfl).trans x1) (by kernel_rfl)
    · exact st_loadc 3 (.tmp 14) rfl (by kernel_rfl) (K.dep 0 14 rfl) (Ob.cell (Ob.below m1 K.grow) 33 ((at_head hx 1 _).trans rfl))
    · exact st_gtr 3 (.tmp 15) (.const (.int .i64 3)) rfl .i64 ((height)) (3) (K.dep 1 15 rfl) rfl _ (by rw [eq_comm, decide_eq_false_iff_not]; omega)
    · exact st_move (.tmp 16) rfl (K.dep 2 16 rfl)
    · exact st_field 26 4 (.tmp 1) rfl ((K.old 1 rfl).trans x1) (by kernel_rfl)
    · exact st_loadc 24 (.tmp 18) rfl (by kernel_rfl) (K.dep 4 18 rfl) (Ob.cell (Ob.below m1 K.grow) 35 ((at_head hx 3 _).trans rfl))
    · exact st_lenm (.tmp 19) rfl (fk_val (K.dep 5 19 rfl) (Fk.mono _ _ _ _ vM (bl.trans (Below.mono K.grow bl.size))))
    · exact st_gtr 3 (.tmp 20) (.const (.int .i64 12)) rfl .i64 (((ps.length : Nat) : Int)) (12) (K.dep 6 20 rfl) rfl _ (by rw [eq_comm, decide_eq_false_iff_not]; omega)
    · exact st_pick_f' (.tmp 17) (.const (.bool true)) (.tmp 21) rfl (K.dep 3 17 rfl) (K.dep 7 21 rfl)
    intro f4 w4 A hb
    replace bl0 := bl
    replace x1 := (A.old 1 rfl).trans x1
    replace x2 := (A.old 2 rfl).trans x2
    have x22 : f4.eval (.tmp 22) = .bool false := A.has 8 22 rfl
    have lt_m1 := Ob.lt m1
    replace m1 := Ob.below m1 hb
    replace bl := (bl.trans (Below.mono hb bl.size))
    replace sz := A.size.trans sz
    replace df := A.defs.trans df
    clear A hb
    show Code.wp _ _ _ _ _
    refine wp_cond_false x22 ?_
    refine wp_skip ?_
    show Code.wp _ _ _ _ _
    refine wp_seq ?_
    by_cases hv : kind < 1 ∨ 2 < kind ∨ height < 0 ∨ next < 0 ∨ ((2 ^ height.toNat : Nat) : Int) < next
    rotate_left
    · skip
      have h3p : 0 ≤ height := by omega
      have h4p : 0 ≤ next := by omega
      have h1p : 0 ≤ kind := by omega
      obtain ⟨ht, rfl⟩ := Int.eq_ofNat_of_zero_le h3p
      obtain ⟨nx, rfl⟩ := Int.eq_ofNat_of_zero_le h4p
      obtain ⟨kd, rfl⟩ := Int.eq_ofNat_of_zero_le h1p
      rw [Int.toNat_natCast] at hv
      have h1 : 1 ≤ kd := by omega
      have h2 : kd ≤ 2 := by omega
      have h3 : ht ≤ 3 := by omega
      have h38 : ht ≤ 8 := by omega
      have hp8 := pow3 h3
      have h4 : nx ≤ 2 ^ ht := by
        by_cases hh : nx ≤ 2 ^ ht
        · exact hh
        · exact absurd (Or.inr (Or.inr (Or.inr (Or.inr (Int.ofNat_lt.2 (Nat.lt_of_not_le hh)))))) hv
      clear hv h3p h4p h1p
      obtain ⟨y, ey⟩ : ∃ y, Box (rt (lv seed kd) 0 ht = y) := ⟨_, ⟨rfl⟩⟩
      have hy : y.length = 32 := by rw [← ey.out]; exact rt_len _ _ _ _
      -- R3
      refine wp_all_seq [.eq (.pointer (some ⟨g1, 0, none⟩)), .eq (.agg ((seed).map V).toArray), .eq (.pointer (some ⟨g1, 32, none⟩)), .eq (.int .i64 ((kd : Nat) : Int)), .eq (.pointer (some ⟨g1, 33, none⟩)), .eq (.int .i64 ((ht : Nat) : Int)), .eq (.pointer (some ⟨g1, 34, none⟩)), .eq (.int .i64 ((nx : Nat) : Int)), .t2 (.nw w4.heap.size 69 ((seed).map V ++ ([.int .i64 ((kd : Nat) : Int), .int .i64 ((ht : Nat) : Int), .int .i64 ((nx : Nat) : Int)] : List Value))) (.int .i64 0), .t2 (.nw w4.heap.size 69 ((seed).map V ++ ([.int .i64 ((kd : Nat) : Int), .int .i64 ((ht : Nat) : Int), .int .i64 ((nx : Nat) : Int)] : List Value))) (.int .i64 0), .nw w4.heap.size 69 ((seed).map V ++ ([.int .i64 ((kd : Nat) : Int), .int .i64 ((ht : Nat) : Int), .int .i64 ((nx : Nat) : Int)] : List Value)), .eq (.int .i64 0), .nw w4.heap.size 69 ((seed).map V ++ ([.int .i64 ((kd : Nat) : Int), .int .i64 ((ht : Nat) : Int), .int .i64 ((nx : Nat) : Int)] : List Value)), .eq (.int .i64 0)] (by kernel_rfl) (by kernel_rfl) (by rw [sz]; kernel_rfl) (by kernel_rfl) ⟨fun hw ac u K => ?_, fun hw ac u K => ?_, fun hw ac u K => ?_, fun hw ac u K => ?_, fun hw ac u K => ?_, fun hw ac u K => ?_, fun hw ac u K => ?_, fun hw ac u K => ?_, fun hw ac u K => ?_, fun hw ac u K => ?_, fun hw ac u K => ?_, fun hw ac u K => ?_, fun hw ac u K => ?_, fun hw ac u K => ?_, trivial⟩ ?_
      · exact st_field 26 0 (.tmp 1) rfl ((K.old 1 rfl).trans x1) (by kernel_rfl)
      · exact st_loadhd (.tmp 25) rfl (g1) (seed) (K.dep 0 25 rfl) hx (Ob.below m1 K.grow)
      · exact st_field 26 1 (.tmp 1) rfl ((K.old 1 rfl).trans x1) (by kernel_rfl)
      · exact st_loadc 3 (.tmp 27) rfl (by kernel_rfl) (K.dep 2 27 rfl) (Ob.cell (Ob.below m1 K.grow) 32 ((at_head hx 0 _).trans rfl))
      · exact st_field 26 2 (.tmp 1) rfl ((K.old 1 rfl).trans x1) (by kernel_rfl)
      · exact st_loadc 3 (.tmp 29) rfl (by kernel_rfl) (K.dep 4 29 rfl) (Ob.cell (Ob.below m1 K.grow) 33 ((at_head hx 1 _).trans rfl))
      · exact st_field 26 3 (.tmp 1) rfl ((K.old 1 rfl).trans x1) (by kernel_rfl)
      · exact st_loadc 3 (.tmp 31) rfl (by kernel_rfl) (K.dep 6 31 rfl) (Ob.cell (Ob.below m1 K.grow) 34 ((at_head hx 2 _).trans rfl))
      · exact st_call 9 (.func 9) _ _ #[.agg ((seed).map V).toArray, .int .i64 ((kd : Nat) : Int), .int .i64 ((ht : Nat) : Int), .int .i64 ((nx : Nat) : Int)] rfl rfl (arg4 (K.dep 1 26 rfl) (K.dep 3 28 rfl) (K.dep 5 30 rfl) (K.dep 7 32 rfl)) Tryd.enter9 (fk_nw K.grow.size (by exact restore_ok seed kd ht nx hx h1 h2 h38 h4 _))
      · exact st_move (.tmp 33) rfl (K.dep 8 33 rfl)
      · exact st_t2a (.tmp 24) rfl (K.dep 9 24 rfl)
      · exact st_t2b (.tmp 24) rfl (K.dep 9 24 rfl)
      · exact st_assign (.tmp 34) rfl (K.dep 10 34 rfl)
      · exact st_assign (.tmp 35) rfl (K.dep 11 35 rfl)
      intro f5 w5 A hb
      replace bl0 := bl
      replace x1 := (A.old 1 rfl).trans x1
      replace x2 := (A.old 2 rfl).trans x2
      replace x22 := (A.old 22 rfl).trans x22
      have x3 : Fk.f (.nw w4.heap.size 69 ((seed).map V ++ ([.int .i64 ((kd : Nat) : Int), .int .i64 ((ht : Nat) : Int), .int .i64 ((nx : Nat) : Int)] : List Value))) (f5.eval (.tmp 3)) w5 := A.has 12 3 rfl
      have x4 : f5.eval (.tmp 4) = .int .i64 0 := A.has 13 4 rfl
      have lt_m1 := Ob.lt m1
      replace m1 := Ob.below m1 hb
      replace bl := (bl.trans (Below.mono hb bl.size))
      replace sz := A.size.trans sz
      replace df := A.defs.trans df
      clear A hb
      obtain ⟨g3, hg3, e3, m3⟩ := x3
      have x3 := e3
      clear e3
      have nm1_3 : g1 ≠ g3 := Nat.ne_of_lt (Nat.lt_of_lt_of_le lt_m1 hg3)
      have hw3 : w.heap.size ≤ g3 := Nat.le_trans bl0.size hg3
      show Code.wp _ _ _ _ _
      refine wp_seq ?_
      refine wp_seq ?_
      -- R4
      refine wp_all [.eq (.pointer (some ⟨g1, 32, none⟩)), .eq (.int .i64 ((kd : Nat) : Int)), .eq (.bool false), .eq (.bool false), .eq (.pointer (some ⟨g1, 32, none⟩)), .eq (.int .i64 ((kd : Nat) : Int)), .eq (.bool false), .eq (.bool false), .eq (.bool false), .eq (.pointer (some ⟨g1, 33, none⟩)), .eq (.int .i64 ((ht : Nat) : Int)), .eq (.bool false), .eq (.bool false), .eq (.bool false), .eq (.pointer (some ⟨g1, 34, none⟩)), .eq (.int .i64 ((nx : Nat) : Int)), .eq (.bool false), .eq (.bool false), .eq (.bool false), .eq (.pointer (some ⟨g1, 34, none⟩)), .eq (.int .i64 ((nx : Nat) : Int)), .eq (.pointer (some ⟨g1, 33, none⟩)), .eq (.int .i64 ((ht : Nat) : Int)), .eq (.int .i64 ((2 ^ ht : Nat) : Int)), .eq (.bool false), .eq (.bool false)] Tryd.mixed (by kernel_rfl) (by kernel_rfl) (by rw [sz]; kernel_rfl) (by kernel_rfl) ⟨fun hw ac u K => ?_, fun hw ac u K => ?_, fun hw ac u K => ?_, fun hw ac u K => ?_, fun hw ac u K => ?_, fun hw ac u K => ?_, fun hw ac u K => ?_, fun hw ac u K => ?_, fun hw ac u K => ?_, fun hw ac u K => ?_, fun hw ac u K => ?_, fun hw ac u K => ?_, fun hw ac u K => ?_, fun hw ac u K => ?_, fun hw ac u K => ?_, fun hw ac u K => ?_, fun hw ac u K => ?_, fun hw ac u K => ?_, fun hw ac u K => ?_, fun hw ac u K => ?_, fun hw ac u K => ?_, fun hw ac u K => ?_, fun hw ac u K => ?_, fun hw ac u K => ?_, fun hw ac u K => ?_, fun hw ac u K => ?_, trivial⟩ ?_
      · exact st_field 26 1 (.tmp 1) rfl ((K.old 1 rfl).trans x1) (by kernel_rfl)
      · exact st_loadc 3 (.tmp 36) rfl (by kernel_rfl) (K.dep 0 36 rfl) (Ob.cell (Ob.below m1 K.grow) 32 ((at_head hx 0 _).trans rfl))
      · exact st_lss 3 (.tmp 37) (.const (.int .i64 1)) rfl .i64 (((kd : Nat) : Int)) (1) (K.dep 1 37 rfl) rfl _ (by rw [eq_comm, decide_eq_false_iff_not]; omega)
      · exact st_move (.tmp 38) rfl (K.dep 2 38 rfl)
      · exact st_field 26 1 (.tmp 1) rfl ((K.old 1 rfl).trans x1) (by kernel_rfl)
      · exact st_loadc 3 (.tmp 40) rfl (by kernel_rfl) (K.dep 4 40 rfl) (Ob.cell (Ob.below m1 K.grow) 32 ((at_head hx 0 _).trans rfl))
      · exact st_gtr 3 (.tmp 41) (.const (.int .i64 2)) rfl .i64 (((kd : Nat) : Int)) (2) (K.dep 5 41 rfl) rfl _ (by rw [eq_comm, decide_eq_false_iff_not]; omega)
      · exact st_pick_f' (.tmp 39) (.const (.bool true)) (.tmp 42) rfl (K.dep 3 39 rfl) (K.dep 6 42 rfl)
      · exact st_move (.tmp 43) rfl (K.dep 7 43 rfl)
      · exact st_field 26 2 (.tmp 1) rfl ((K.old 1 rfl).trans x1) (by kernel_rfl)
      · exact st_loadc 3 (.tmp 45) rfl (by kernel_rfl) (K.dep 9 45 rfl) (Ob.cell (Ob.below m1 K.grow) 33 ((at_head hx 1 _).trans rfl))
      · exact st_lss 3 (.tmp 46) (.const (.int .i64 0)) rfl .i64 (((ht : Nat) : Int)) (0) (K.dep 10 46 rfl) rfl _ (by rw [eq_comm, decide_eq_false_iff_not]; omega)
      · exact st_pick_f' (.tmp 44) (.const (.bool true)) (.tmp 47) rfl (K.dep 8 44 rfl) (K.dep 11 47 rfl)
      · exact st_move (.tmp 48) rfl (K.dep 12 48 rfl)
      · exact st_field 26 3 (.tmp 1) rfl ((K.old 1 rfl).trans x1) (by kernel_rfl)
      · exact st_loadc 3 (.tmp 50) rfl (by kernel_rfl) (K.dep 14 50 rfl) (Ob.cell (Ob.below m1 K.grow) 34 ((at_head hx 2 _).trans rfl))
      · exact st_lss 3 (.tmp 51) (.const (.int .i64 0)) rfl .i64 (((nx : Nat) : Int)) (0) (K.dep 15 51 rfl) rfl _ (by rw [eq_comm, decide_eq_false_iff_not]; omega)
      · exact st_pick_f' (.tmp 49) (.const (.bool true)) (.tmp 52) rfl (K.dep 13 49 rfl) (K.dep 16 52 rfl)
      · exact st_move (.tmp 53) rfl (K.dep 17 53 rfl)
      · exact st_field 26 3 (.tmp 1) rfl ((K.old 1 rfl).trans x1) (by kernel_rfl)
      · exact st_loadc 3 (.tmp 55) rfl (by kernel_rfl) (K.dep 19 55 rfl) (Ob.cell (Ob.below m1 K.grow) 34 ((at_head hx 2 _).trans rfl))
      · exact st_field 26 2 (.tmp 1) rfl ((K.old 1 rfl).trans x1) (by kernel_rfl)
      · exact st_loadc 3 (.tmp 57) rfl (by kernel_rfl) (K.dep 21 57 rfl) (Ob.cell (Ob.below m1 K.grow) 33 ((at_head hx 1 _).trans rfl))
      · exact st_shl 3 3 (.const (.int .i64 1)) (.tmp 58) rfl (1) (ht) rfl (K.dep 22 58 rfl) (2 ^ ht) (by simp) (pow_le (by omega)) (by omega)
      · exact st_gtr 3 (.tmp 56) (.tmp 59) rfl .i64 (((nx : Nat) : Int)) (((2 ^ ht : Nat) : Int)) (K.dep 20 56 rfl) (K.dep 23 59 rfl) _ (by rw [eq_comm, decide_eq_false_iff_not]; exact fun h => absurd (Int.ofNat_lt.1 h) (by omega))
      · exact st_pick_f' (.tmp 54) (.const (.bool true)) (.tmp 60) rfl (K.dep 18 54 rfl) (K.dep 24 60 rfl)
      intro f6 w6 A hb
      replace bl0 := bl
      replace x1 := (A.old 1 rfl).trans x1
      replace x2 := (A.old 2 rfl).trans x2
      replace x22 := (A.old 22 rfl).trans x22
      replace x3 := (A.old 3 rfl).trans x3
      replace x4 := (A.old 4 rfl).trans x4
      have x61 : f6.eval (.tmp 61) = .bool false := A.has 25 61 rfl
      have lt_m1 := Ob.lt m1
      replace m1 := Ob.below m1 hb
      have lt_m3 := Ob.lt m3
      replace m3 := Ob.below m3 hb
      replace bl := (bl.trans (Below.mono hb bl.size))
      replace sz := A.size.trans sz
      replace df := A.defs.trans df
      clear A hb
      show Code.wp _ _ _ _ _
      refine wp_cond_false x61 ?_
      refine wp_skip ?_
      show Code.wp _ _ _ _ _
      refine wp_seq ?_
      refine wp_seq ?_
      -- R6
      refine wp_all_seq [.eq (.int .i64 0), .eq (.bool false), .eq (.bool false), .eq (.pointer (some ⟨g3, 0, none⟩)), .eq (.bool false), .eq (.bool false)] (by kernel_rfl) (by kernel_rfl) (by rw [sz]; kernel_rfl) (by kernel_rfl) ⟨fun hw ac u K => ?_, fun hw ac u K => ?_, fun hw ac u K => ?_, fun hw ac u K => ?_, fun hw ac u K => ?_, fun hw ac u K => ?_, trivial⟩ ?_
      · exact st_move (.tmp 4) rfl ((K.old 4 rfl).trans x4)
      · exact st_neqi 29 (.tmp 71) (.const (.int .i64 0)) rfl .i64 (0) (0) (K.dep 0 71 rfl) rfl _ (by rfl)
      · exact st_move (.tmp 72) rfl (K.dep 1 72 rfl)
      · exact st_move (.tmp 3) rfl ((K.old 3 rfl).trans x3)
      · exact st_bin .eql 28 28 (.tmp 74) _ rfl (K.dep 3 74 rfl) rfl (by kernel_rfl)
      · exact st_pick_f' (.tmp 73) (.const (.bool true)) (.tmp 75) rfl (K.dep 2 73 rfl) (K.dep 4 75 rfl)
      intro f7 w7 A hb
      replace bl0 := bl
      replace x1 := (A.old 1 rfl).trans x1
      replace x2 := (A.old 2 rfl).trans x2
      replace x22 := (A.old 22 rfl).trans x22
      replace x3 := (A.old 3 rfl).trans x3
      replace x4 := (A.old 4 rfl).trans x4
      replace x61 := (A.old 61 rfl).trans x61
      have x76 : f7.eval (.tmp 76) = .bool false := A.has 5 76 rfl
      have lt_m1 := Ob.lt m1
      replace m1 := Ob.below m1 hb
      have lt_m3 := Ob.lt m3
      replace m3 := Ob.below m3 hb
      replace bl := (bl.trans (Below.mono hb bl.size))
      replace sz := A.size.trans sz
      replace df := A.defs.trans df
      clear A hb
      show Code.wp _ _ _ _ _
      refine wp_cond_false x76 ?_
      refine wp_skip ?_
      show Code.wp _ _ _ _ _
      refine wp_seq ?_
      have ltB := Ob.lt m3
      -- R8
      refine wp_all_seq [.eq (.pointer (some ⟨g1, 0, none⟩)), .eq (.agg ((seed).map V).toArray), .eq (.pointer (some ⟨g1, 32, none⟩)), .eq (.int .i64 ((kd : Nat) : Int)), .eq (.pointer (some ⟨g1, 33, none⟩)), .eq (.int .i64 ((ht : Nat) : Int)), .ow w7.heap.size (seg (lv seed kd) 0 ht), .ow w7.heap.size (seg (lv seed kd) 0 ht)] (by kernel_rfl) (by kernel_rfl) (by rw [sz]; kernel_rfl) (by kernel_rfl) ⟨fun hw ac u K => ?_, fun hw ac u K => ?_, fun hw ac u K => ?_, fun hw ac u K => ?_, fun hw ac u K => ?_, fun hw ac u K => ?_, fun hw ac u K => ?_, fun hw ac u K => ?_, trivial⟩ ?_
      · exact st_field 26 0 (.tmp 1) rfl ((K.old 1 rfl).trans x1) (by kernel_rfl)
      · exact st_loadhd (.tmp 77) rfl (g1) (seed) (K.dep 0 77 rfl) hx (Ob.below m1 K.grow)
      · exact st_field 26 1 (.tmp 1) rfl ((K.old 1 rfl).trans x1) (by kernel_rfl)
      · exact st_loadc 3 (.tmp 79) rfl (by kernel_rfl) (K.dep 2 79 rfl) (Ob.cell (Ob.below m1 K.grow) 32 ((at_head hx 0 _).trans rfl))
      · exact st_field 26 2 (.tmp 1) rfl ((K.old 1 rfl).trans x1) (by kernel_rfl)
      · exact st_loadc 3 (.tmp 81) rfl (by kernel_rfl) (K.dep 4 81 rfl) (Ob.cell (Ob.below m1 K.grow) 33 ((at_head hx 1 _).trans rfl))
      · exact st_call 10 (.func 10) _ _ #[.agg ((seed).map V).toArray, .int .i64 ((kd : Nat) : Int), .int .i64 ((ht : Nat) : Int)] rfl rfl (arg3 (K.dep 1 78 rfl) (K.dep 3 80 rfl) (K.dep 5 82 rfl)) Tryd.enter10 (fk_ow K.grow.size (leaves_any hx h1 h2 h3 _ (hK.below (bl.trans (Below.mono K.grow bl.size)))))
      · exact st_assign (.tmp 83) rfl (K.dep 6 83 rfl)
      intro f8 w8 A hb
      replace bl0 := bl
      replace x1 := (A.old 1 rfl).trans x1
      replace x2 := (A.old 2 rfl).trans x2
      replace x22 := (A.old 22 rfl).trans x22
      replace x3 := (A.old 3 rfl).trans x3
      replace x4 := (A.old 4 rfl).trans x4
      replace x61 := (A.old 61 rfl).trans x61
      replace x76 := (A.old 76 rfl).trans x76
      have x5 : Fk.f (.ow w7.heap.size (seg (lv seed kd) 0 ht)) (f8.eval (.tmp 5)) w8 := A.has 7 5 rfl
      have lt_m1 := Ob.lt m1
      replace m1 := Ob.below m1 hb
      have lt_m3 := Ob.lt m3
      replace m3 := Ob.below m3 hb
      replace bl := (bl.trans (Below.mono hb bl.size))
      replace sz := A.size.trans sz
      replace df := A.defs.trans df
      clear A hb
      show Code.wp _ _ _ _ _
      refine wp_seq ?_
      obtain ⟨v5, e5⟩ : ∃ v, f8.eval (.tmp 5) = v := ⟨_, rfl⟩
      have q5 := x5
      rw [e5] at q5
      replace x5 := e5
      clear e5
      -- R9
      refine wp_region_seq [.eq (.pointer (some ⟨g3, 0, none⟩)), .eq (.agg ((y).map V).toArray), .nw w8.heap.size 23 ((hz).map V)] (by kernel_rfl) (by kernel_rfl) (by rw [sz]; kernel_rfl) (by kernel_rfl) ⟨fun hw ac u K => ?_, fun hw ac u K => ?_, fun hw ac u K => ?_, trivial⟩ ?_
      · exact st_move (.tmp 3) rfl ((K.old 3 rfl).trans x3)
      · exact st_call 11 (.func 11) _ _ #[.pointer (some ⟨g3, 0, none⟩)] rfl rfl (one_arg (K.dep 0 84 rfl)) Tryd.enter11 (fk_of (public_key hx h1 h2 h38 _ (Ob.below m3 K.grow) (hK.below (bl.trans (Below.mono K.grow bl.size))) ey))
      · exact st_alloc23 rfl _ K.grow.size
      intro f9 w9 A hb
      have S_q5 := q5
      have hbS0 := Below.refl w8.heap.size w8
      have hbS := hb
      replace bl0 := bl
      replace x1 := (A.old 1 rfl).trans x1
      replace x2 := (A.old 2 rfl).trans x2
      replace x22 := (A.old 22 rfl).trans x22
      replace x3 := (A.old 3 rfl).trans x3
      replace x4 := (A.old 4 rfl).trans x4
      replace x61 := (A.old 61 rfl).trans x61
      replace x76 := (A.old 76 rfl).trans x76
      replace x5 := (A.old 5 rfl).trans x5
      have x6 : Fk.f (.nw w8.heap.size 23 ((hz).map V)) (f9.eval (.tmp 6)) w9 := A.has 2 6 rfl
      have x85 : f9.eval (.tmp 85) = .agg ((y).map V).toArray := A.has 1 85 rfl
      have lt_m1 := Ob.lt m1
      replace m1 := Ob.below m1 hb
      have lt_m3 := Ob.lt m3
      replace m3 := Ob.below m3 hb
      replace q5 := Fk.mono _ _ _ _ q5 hb
      replace bl := (bl.trans (Below.mono hb bl.size))
      replace sz := A.size.trans sz
      replace df := A.defs.trans df
      clear A hb
      obtain ⟨g6, hg6, e6, m6⟩ := x6
      have x6 := e6
      clear e6
      have nm1_6 : g1 ≠ g6 := Nat.ne_of_lt (Nat.lt_of_lt_of_le lt_m1 hg6)
      have nm3_6 : g3 ≠ g6 := Nat.ne_of_lt (Nat.lt_of_lt_of_le lt_m3 hg6)
      have hw6 : w.heap.size ≤ g6 := Nat.le_trans bl0.size hg6
      have hs6 := Nat.le_trans hbS0.size hg6
      refine wl_store rfl (.tmp 6) (.tmp 85) rfl rfl (g6) (y) (hz) x6 x85 m6 hz_len hy ?_
      replace m1 : Ob (w9.setRow g6 ((y).map V : List Value).toArray) (g1) 26 ((seed).map V ++ ([.int .i64 ((kd : Nat) : Int), .int .i64 ((ht : Nat) : Int), .int .i64 ((nx : Nat) : Int), .slice mA (ps).length mC] : List Value)) := Ob.setRow_other m1 _ nm1_6
      replace m3 : Ob (w9.setRow g6 ((y).map V : List Value).toArray) (g3) 69 ((seed).map V ++ ([.int .i64 ((kd : Nat) : Int), .int .i64 ((ht : Nat) : Int), .int .i64 ((nx : Nat) : Int)] : List Value)) := Ob.setRow_other m3 _ nm3_6
      replace m6 : Ob (w9.setRow g6 ((y).map V : List Value).toArray) (g6) 23 ((y).map V) := Ob.setRow m6 ((y).map V)
      replace hbS : Below _ _ (w9.setRow g6 ((y).map V : List Value).toArray) := hbS.trans (below_setRow _ _ _ _ hs6)
      replace q5 := Fk.mono _ _ _ _ S_q5 hbS
      replace bl : Below w.heap.size w (w9.setRow g6 ((y).map V : List Value).toArray) := bl.trans (below_setRow _ _ _ _ hw6)
      generalize w9.setRow g6 ((y).map V : List Value).toArray = w10b at bl m1 m3 m6 q5 hbS ⊢
      refine wpList_nil ?_
      clear hbS hbS0 S_q5
      clear x85
      show Code.wp _ _ _ _ _
      refine wp_seq ?_
      refine wp_seq ?_
      -- R10
      refine wp_all [.eq (.agg ((y).map V).toArray), .eq (v5), .eq (.agg ((y).map V).toArray), .eq (.bool false)] Tryd.mixed (by kernel_rfl) (by kernel_rfl) (by rw [sz]; kernel_rfl) (by kernel_rfl) ⟨fun hw ac u K => ?_, fun hw ac u K => ?_, fun hw ac u K => ?_, fun hw ac u K => ?_, trivial⟩ ?_
      · exact st_load23 (.tmp 6) rfl (g6) (y) ((K.old 6 rfl).trans x6) hy (Ob.below m6 K.grow)
      · exact st_move (.tmp 5) rfl ((K.old 5 rfl).trans x5)
      · exact st_call 12 (.func 12) _ _ #[v5] rfl rfl (one_arg (K.dep 1 87 rfl)) Tryd.enter12 (fk_of (lroot_any ht 0 _ _ h3 (ow_hc (Fk.mono _ _ _ _ q5 K.grow)) (hK.below (bl.trans (Below.mono K.grow bl.size))) ey))
      · exact st_neqh (.tmp 86) (.tmp 88) rfl (y) (y) hy hy (K.dep 0 86 rfl) (K.dep 2 88 rfl) _ (by simp)
      intro f11 w11 A hb
      replace bl0 := bl
      replace x1 := (A.old 1 rfl).trans x1
      replace x2 := (A.old 2 rfl).trans x2
      replace x22 := (A.old 22 rfl).trans x22
      replace x3 := (A.old 3 rfl).trans x3
      replace x4 := (A.old 4 rfl).trans x4
      replace x61 := (A.old 61 rfl).trans x61
      replace x76 := (A.old 76 rfl).trans x76
      replace x5 := (A.old 5 rfl).trans x5
      replace x6 := (A.old 6 rfl).trans x6
      have x89 : f11.eval (.tmp 89) = .bool false := A.has 3 89 rfl
      have lt_m1 := Ob.lt m1
      replace m1 := Ob.below m1 hb
      have lt_m3 := Ob.lt m3
      replace m3 := Ob.below m3 hb
      have lt_m6 := Ob.lt m6
      replace m6 := Ob.below m6 hb
      replace q5 := Fk.mono _ _ _ _ q5 hb
      replace bl := (bl.trans (Below.mono hb bl.size))
      replace sz := A.size.trans sz
      replace df := A.defs.trans df
      clear A hb
      show Code.wp _ _ _ _ _
      refine wp_cond_false x89 ?_
      refine wp_skip ?_
      show Code.wp _ _ _ _ _
      refine wp_seq ?_
      -- R12
      refine wp_all_seq [.eq (.pointer (some ⟨g1, 34, none⟩)), .eq (.int .i64 ((nx : Nat) : Int)), .eq (.int .i64 ((nx : Nat) : Int))] (by kernel_rfl) (by kernel_rfl) (by rw [sz]; kernel_rfl) (by kernel_rfl) ⟨fun hw ac u K => ?_, fun hw ac u K => ?_, fun hw ac u K => ?_, trivial⟩ ?_
      · exact st_field 26 3 (.tmp 1) rfl ((K.old 1 rfl).trans x1) (by kernel_rfl)
      · exact st_loadc 3 (.tmp 90) rfl (by kernel_rfl) (K.dep 0 90 rfl) (Ob.cell (Ob.below m1 K.grow) 34 ((at_head hx 2 _).trans rfl))
      · exact st_assign (.tmp 91) rfl (K.dep 1 91 rfl)
      intro f12 w12 A hb
      replace bl0 := bl
      replace x1 := (A.old 1 rfl).trans x1
      replace x2 := (A.old 2 rfl).trans x2
      replace x22 := (A.old 22 rfl).trans x22
      replace x3 := (A.old 3 rfl).trans x3
      replace x4 := (A.old 4 rfl).trans x4
      replace x61 := (A.old 61 rfl).trans x61
      replace x76 := (A.old 76 rfl).trans x76
      replace x5 := (A.old 5 rfl).trans x5
      replace x6 := (A.old 6 rfl).trans x6
      replace x89 := (A.old 89 rfl).trans x89
      have x7 : f12.eval (.tmp 7) = .int .i64 ((nx : Nat) : Int) := A.has 2 7 rfl
      have lt_m1 := Ob.lt m1
      replace m1 := Ob.below m1 hb
      have lt_m3 := Ob.lt m3
      replace m3 := Ob.below m3 hb
      have lt_m6 := Ob.lt m6
      replace m6 := Ob.below m6 hb
      replace q5 := Fk.mono _ _ _ _ q5 hb
      replace bl := (bl.trans (Below.mono hb bl.size))
      replace sz := A.size.trans sz
      replace df := A.defs.trans df
      clear A hb
      show Code.wp _ _ _ _ _
      refine wp_seq ?_
      refine wp_seq ?_
      -- R13
      refine wp_all_seq [.eq (.pointer (some ⟨g1, 35, none⟩)), .eq (.slice mA (ps).length mC), .eq (.int .i64 ((ps.length : Nat) : Int)), .eq (.int .i64 0)] (by kernel_rfl) (by kernel_rfl) (by rw [sz]; kernel_rfl) (by kernel_rfl) ⟨fun hw ac u K => ?_, fun hw ac u K => ?_, fun hw ac u K => ?_, fun hw ac u K => ?_, trivial⟩ ?_
      · exact st_field 26 4 (.tmp 1) rfl ((K.old 1 rfl).trans x1) (by kernel_rfl)
      · exact st_loadc 24 (.tmp 92) rfl (by kernel_rfl) (K.dep 0 92 rfl) (Ob.cell (Ob.below m1 K.grow) 35 ((at_head hx 3 _).trans rfl))
      · exact st_lenm (.tmp 93) rfl (fk_val (K.dep 1 93 rfl) (Fk.mono _ _ _ _ vM (bl.trans (Below.mono K.grow bl.size))))
      · exact st_move (.const (.int .i64 0)) rfl rfl
      intro f13 w13 A hb
      replace bl0 := bl
      replace x1 := (A.old 1 rfl).trans x1
      replace x2 := (A.old 2 rfl).trans x2
      replace x22 := (A.old 22 rfl).trans x22
      replace x3 := (A.old 3 rfl).trans x3
      replace x4 := (A.old 4 rfl).trans x4
      replace x61 := (A.old 61 rfl).trans x61
      replace x76 := (A.old 76 rfl).trans x76
      replace x5 := (A.old 5 rfl).trans x5
      replace x6 := (A.old 6 rfl).trans x6
      replace x89 := (A.old 89 rfl).trans x89
      replace x7 := (A.old 7 rfl).trans x7
      have x93 : f13.eval (.tmp 93) = .slice mA (ps).length mC := A.has 1 93 rfl
      have x94 : f13.eval (.tmp 94) = .int .i64 ((ps.length : Nat) : Int) := A.has 2 94 rfl
      have x95 : f13.eval (.tmp 95) = .int .i64 0 := A.has 3 95 rfl
      have lt_m1 := Ob.lt m1
      replace m1 := Ob.below m1 hb
      have lt_m3 := Ob.lt m3
      replace m3 := Ob.below m3 hb
      have lt_m6 := Ob.lt m6
      replace m6 := Ob.below m6 hb
      replace q5 := Fk.mono _ _ _ _ q5 hb
      replace bl := (bl.trans (Below.mono hb bl.size))
      replace sz := A.size.trans sz
      replace df := A.defs.trans df
      clear A hb
      show Code.wp _ _ _ _ _
      refine wp_block ?_
      refine wp_loop (fun f v1 => ∃ k : Nat, k ≤ ps.length ∧ f.tmps.size = 218 ∧ f.defers = [] ∧ f.eval (.tmp 1) = .pointer (some ⟨g1, 0, none⟩) ∧ f.eval (.tmp 2) = .bool false ∧ f.eval (.tmp 22) = .bool false ∧ f.eval (.tmp 3) = .pointer (some ⟨g3, 0, none⟩) ∧ f.eval (.tmp 4) = .int .i64 0 ∧ f.eval (.tmp 61) = .bool false ∧ f.eval (.tmp 76) = .bool false ∧ f.eval (.tmp 5) = v5 ∧ f.eval (.tmp 6) = .pointer (some ⟨g6, 0, none⟩) ∧ f.eval (.tmp 89) = .bool false ∧ f.eval (.tmp 93) = .slice mA (ps).length mC ∧ f.eval (.tmp 94) = .int .i64 ((ps.length : Nat) : Int) ∧ f.eval (.tmp 95) = .int .i64 ((k : Nat) : Int) ∧ f.eval (.tmp 7) = .int .i64 ((nxt nx ht k : Nat) : Int) ∧ Ob v1 (g1) 26 ((seed).map V ++ ([.int .i64 ((kd : Nat) : Int), .int .i64 ((ht : Nat) : Int), .int .i64 ((nx : Nat) : Int), .slice mA (ps).length mC] : List Value)) ∧ Ob v1 (g3) 69 ((seed).map V ++ ([.int .i64 ((kd : Nat) : Int), .int .i64 ((ht : Nat) : Int), .int .i64 ((nxt nx ht k : Nat) : Int)] : List Value)) ∧ Ob v1 (g6) 23 ((y).map V) ∧ Fk.f (.ow w7.heap.size (seg (lv seed kd) 0 ht)) (v5) v1 ∧ Below w.heap.size w (v1)) (fun f _ => ps.length - (intOf (f.eval (.tmp 95))).toNat) ⟨0, Nat.zero_le _, sz, df, x1, x2, x22, x3, x4, x61, x76, x5, x6, x89, x93, x94, x95, (by rw [nxt_zero h4]; exact x7), m1, (by rw [nxt_zero h4]; exact m3), m6, q5, bl⟩ ?_
      intro f14 w14 hI
      clear sz df bl bl0 x1 x2 x22 x3 x4 x61 x76 x5 x6 x89 x7 x93 x94 x95 m1 m3 m6 q5
      obtain ⟨k, hk, sz, df, x1, x2, x22, x3, x4, x61, x76, x5, x6, x89, x93, x94, x95, x7, m1, m3, m6, q5, bl⟩ := hI
      have bl0 := bl
      have hcnt := x95
      refine wp_seq ?_
      by_cases hlt : k < ps.length
      rotate_left
      · skip
        -- R14
        refine wp_all_seq [.eq (.bool false)] (by kernel_rfl) (by kernel_rfl) (by rw [sz]; kernel_rfl) (by kernel_rfl) ⟨fun hw ac u K => ?_, trivial⟩ ?_
        · exact st_lss 3 (.tmp 95) (.tmp 94) rfl .i64 (((k : Nat) : Int)) (((ps.length : Nat) : Int)) ((K.old 95 rfl).trans x95) ((K.old 94 rfl).trans x94) _ (by first | (simp; done) | (simp; omega))
        intro f15 w15 A hb
        replace bl0 := bl
        replace x1 := (A.old 1 rfl).trans x1
        replace x2 := (A.old 2 rfl).trans x2
        replace x22 := (A.old 22 rfl).trans x22
        replace x3 := (A.old 3 rfl).trans x3
        replace x4 := (A.old 4 rfl).trans x4
        replace x61 := (A.old 61 rfl).trans x61
        replace x76 := (A.old 76 rfl).trans x76
        replace x5 := (A.old 5 rfl).trans x5
        replace x6 := (A.old 6 rfl).trans x6
        replace x89 := (A.old 89 rfl).trans x89
        replace x7 := (A.old 7 rfl).trans x7
        replace x93 := (A.old 93 rfl).trans x93
        replace x94 := (A.old 94 rfl).trans x94
        replace x95 := (A.old 95 rfl).trans x95
        have x96 : f15.eval (.tmp 96) = .bool false := A.has 0 96 rfl
        have lt_m1 := Ob.lt m1
        replace m1 := Ob.below m1 hb
        have lt_m3 := Ob.lt m3
        replace m3 := Ob.below m3 hb
        have lt_m6 := Ob.lt m6
        replace m6 := Ob.below m6 hb
        replace q5 := Fk.mono _ _ _ _ q5 hb
        replace bl := (bl.trans (Below.mono hb bl.size))
        replace sz := A.size.trans sz
        replace df := A.defs.trans df
        clear A hb
        show Code.wp _ _ _ _ _
        refine wp_seq ?_
        refine wp_cond_false x96 ?_
        refine wp_exit ?_
        show Code.wp _ _ _ _ _
        refine wp_seq ?_
        -- R31
        refine wp_all_seq [.eq (.bool true), .eq (.bool true)] (by kernel_rfl) (by kernel_rfl) (by rw [sz]; kernel_rfl) (by kernel_rfl) ⟨fun hw ac u K => ?_, fun hw ac u K => ?_, trivial⟩ ?_
        · exact st_call 8 (.func 8) _ _ #[] rfl rfl rfl Tryd.enter8 (fk_of (awake_any _ (hK.below (bl.trans (Below.mono K.grow bl.size)))))
        · exact st_assign (.tmp 217) rfl (K.dep 0 217 rfl)
        intro f16 w16 A hb
        replace bl0 := bl
        replace x1 := (A.old 1 rfl).trans x1
        clear x2
        replace x22 := (A.old 22 rfl).trans x22
        replace x3 := (A.old 3 rfl).trans x3
        replace x4 := (A.old 4 rfl).trans x4
        replace x61 := (A.old 61 rfl).trans x61
        replace x76 := (A.old 76 rfl).trans x76
        replace x5 := (A.old 5 rfl).trans x5
        replace x6 := (A.old 6 rfl).trans x6
        replace x89 := (A.old 89 rfl).trans x89
        replace x7 := (A.old 7 rfl).trans x7
        replace x93 := (A.old 93 rfl).trans x93
        replace x94 := (A.old 94 rfl).trans x94
        replace x95 := (A.old 95 rfl).trans x95
        replace x96 := (A.old 96 rfl).trans x96
        have x2 : f16.eval (.tmp 2) = .bool true := A.has 1 2 rfl
        have lt_m1 := Ob.lt m1
        replace m1 := Ob.below m1 hb
        have lt_m3 := Ob.lt m3
        replace m3 := Ob.below m3 hb
        have lt_m6 := Ob.lt m6
        replace m6 := Ob.below m6 hb
        replace q5 := Fk.mono _ _ _ _ q5 hb
        replace bl := (bl.trans (Below.mono hb bl.size))
        replace sz := A.size.trans sz
        replace df := A.defs.trans df
        clear A hb
        show Code.wp _ _ _ _ _
        refine wp_ret ?_
        repeat (first | with_reducible refine then_ret ?_ | with_reducible refine block_ret ?_)
        exact bodyPost_ret (v := .bool true) (ret_slot rfl f16 _ x2 _ _) df ⟨rfl, bl⟩
      obtain ⟨p, hpk⟩ : ∃ p, ps[k]? = some p := ⟨_, List.getElem?_eq_getElem hlt⟩
      have hsm := mg_ok vM hpk
      have vp : (Fk.sl p.bs).f (.slice p.sp p.m p.c) w := ⟨_, _, _, _, _, rfl, hsm⟩
      -- R14
      refine wp_all_seq [.eq (.bool true)] (by kernel_rfl) (by kernel_rfl) (by rw [sz]; kernel_rfl) (by kernel_rfl) ⟨fun hw ac u K => ?_, trivial⟩ ?_
      · exact st_lss 3 (.tmp 95) (.tmp 94) rfl .i64 (((k : Nat) : Int)) (((ps.length : Nat) : Int)) ((K.old 95 rfl).trans x95) ((K.old 94 rfl).trans x94) _ (by first | (simp; done) | (simp; omega))
      intro f15 w15 A hb
      replace bl0 := bl
      replace x1 := (A.old 1 rfl).trans x1
      replace x2 := (A.old 2 rfl).trans x2
      replace x22 := (A.old 22 rfl).trans x22
      replace x3 := (A.old 3 rfl).trans x3
      replace x4 := (A.old 4 rfl).trans x4
      replace x61 := (A.old 61 rfl).trans x61
      replace x76 := (A.old 76 rfl).trans x76
      replace x5 := (A.old 5 rfl).trans x5
      replace x6 := (A.old 6 rfl).trans x6
      replace x89 := (A.old 89 rfl).trans x89
      replace x7 := (A.old 7 rfl).trans x7
      replace x93 := (A.old 93 rfl).trans x93
      replace x94 := (A.old 94 rfl).trans x94
      replace x95 := (A.old 95 rfl).trans x95
      have x96 : f15.eval (.tmp 96) = .bool true := A.has 0 96 rfl
      have lt_m1 := Ob.lt m1
      replace m1 := Ob.below m1 hb
      have lt_m3 := Ob.lt m3
      replace m3 := Ob.below m3 hb
      have lt_m6 := Ob.lt m6
      replace m6 := Ob.below m6 hb
      replace q5 := Fk.mono _ _ _ _ q5 hb
      replace bl := (bl.trans (Below.mono hb bl.size))
      replace sz := A.size.trans sz
      replace df := A.defs.trans df
      clear A hb
      show Code.wp _ _ _ _ _
      refine wp_seq ?_
      refine wp_cond_true x96 ?_
      refine wp_skip ?_
      show Code.wp _ _ _ _ _
      refine wp_seq ?_
      refine wp_block ?_
      refine wp_seq ?_
      -- R15
      refine wp_all_seq [.pv (.slice p.sp p.m p.c), .eq (.slice p.sp p.m p.c), .eq (.slice p.sp p.m p.c)] (by kernel_rfl) (by kernel_rfl) (by rw [sz]; kernel_rfl) (by kernel_rfl) ⟨fun hw ac u K => ?_, fun hw ac u K => ?_, fun hw ac u K => ?_, trivial⟩ ?_
      · exact st_idxm (.tmp 93) (.tmp 95) rfl (fk_val ((K.old 93 rfl).trans x93) (Fk.mono _ _ _ _ vM (bl.trans (Below.mono K.grow bl.size)))) k p ((K.old 95 rfl).trans x95) hpk
      · exact st_loadsl (.tmp 97) rfl (K.dep 0 97 rfl)
      · exact st_assign (.tmp 98) rfl (K.dep 1 98 rfl)
      intro f16 w16 A hb
      replace bl0 := bl
      replace x1 := (A.old 1 rfl).trans x1
      replace x2 := (A.old 2 rfl).trans x2
      replace x22 := (A.old 22 rfl).trans x22
      replace x3 := (A.old 3 rfl).trans x3
      replace x4 := (A.old 4 rfl).trans x4
      replace x61 := (A.old 61 rfl).trans x61
      replace x76 := (A.old 76 rfl).trans x76
      replace x5 := (A.old 5 rfl).trans x5
      replace x6 := (A.old 6 rfl).trans x6
      replace x89 := (A.old 89 rfl).trans x89
      replace x7 := (A.old 7 rfl).trans x7
      replace x93 := (A.old 93 rfl).trans x93
      replace x94 := (A.old 94 rfl).trans x94
      replace x95 := (A.old 95 rfl).trans x95
      replace x96 := (A.old 96 rfl).trans x96
      have x9 : f16.eval (.tmp 9) = .slice p.sp p.m p.c := A.has 2 9 rfl
      have lt_m1 := Ob.lt m1
      replace m1 := Ob.below m1 hb
      have lt_m3 := Ob.lt m3
      replace m3 := Ob.below m3 hb
      have lt_m6 := Ob.lt m6
      replace m6 := Ob.below m6 hb
      replace q5 := Fk.mono _ _ _ _ q5 hb
      replace bl := (bl.trans (Below.mono hb bl.size))
      replace sz := A.size.trans sz
      replace df := A.defs.trans df
      clear A hb
      show Code.wp _ _ _ _ _
      refine wp_seq ?_
      refine wp_seq ?_
      by_cases hl2 : 200 < p.bs.length
      rotate_left
      · skip
        have hml : p.bs.length ≤ 900000 := by omega
        -- R16
        refine wp_all_seq [.eq (.slice p.sp p.m p.c), .eq (.int .i64 (((p.bs).length : Nat) : Int)), .eq (.bool false)] (by kernel_rfl) (by kernel_rfl) (by rw [sz]; kernel_rfl) (by kernel_rfl) ⟨fun hw ac u K => ?_, fun hw ac u K => ?_, fun hw ac u K => ?_, trivial⟩ ?_
        · exact st_move (.tmp 9) rfl ((K.old 9 rfl).trans x9)
        · exact st_lenb (.tmp 99) rfl (fk_val (K.dep 0 99 rfl) (Fk.mono _ _ _ _ vp (bl.trans (Below.mono K.grow bl.size))))
        · exact st_gtr 3 (.tmp 100) (.const (.int .i64 200)) rfl .i64 ((((p.bs).length : Nat) : Int)) (200) (K.dep 1 100 rfl) rfl _ (by rw [eq_comm, decide_eq_false_iff_not]; omega)
        intro f17 w17 A hb
        replace bl0 := bl
        replace x1 := (A.old 1 rfl).trans x1
        replace x2 := (A.old 2 rfl).trans x2
        replace x22 := (A.old 22 rfl).trans x22
        replace x3 := (A.old 3 rfl).trans x3
        replace x4 := (A.old 4 rfl).trans x4
        replace x61 := (A.old 61 rfl).trans x61
        replace x76 := (A.old 76 rfl).trans x76
        replace x5 := (A.old 5 rfl).trans x5
        replace x6 := (A.old 6 rfl).trans x6
        replace x89 := (A.old 89 rfl).trans x89
        replace x7 := (A.old 7 rfl).trans x7
        replace x93 := (A.old 93 rfl).trans x93
        replace x94 := (A.old 94 rfl).trans x94
        replace x95 := (A.old 95 rfl).trans x95
        replace x96 := (A.old 96 rfl).trans x96
        replace x9 := (A.old 9 rfl).trans x9
        have x101 : f17.eval (.tmp 101) = .bool false := A.has 2 101 rfl
        have lt_m1 := Ob.lt m1
        replace m1 := Ob.below m1 hb
        have lt_m3 := Ob.lt m3
        replace m3 := Ob.below m3 hb
        have lt_m6 := Ob.lt m6
        replace m6 := Ob.below m6 hb
        replace q5 := Fk.mono _ _ _ _ q5 hb
        replace bl := (bl.trans (Below.mono hb bl.size))
        replace sz := A.size.trans sz
        replace df := A.defs.trans df
        clear A hb
        show Code.wp _ _ _ _ _
        refine wp_cond_false x101 ?_
        refine wp_skip ?_
        show Code.wp _ _ _ _ _
        refine wp_seq ?_
        by_cases hex : nxt nx ht k = 2 ^ ht
        rotate_left
        · skip
          have hstep := nxt_step hex
          have hl8 : nxt nx ht k < 2 ^ ht := Nat.lt_of_le_of_ne (nxt_le _ _ _) hex
          have hni : nxt nx ht k ≤ 2147483647 := by have := pow3 h3; omega
          obtain ⟨h, eh⟩ : ∃ h, Box (ms p.bs = h) := ⟨_, ⟨rfl⟩⟩
          have hh : h.length = 32 := by rw [← eh.out]; exact ms_len _
          obtain ⟨S, eS⟩ : ∃ S, Box (sgp seed kd (nxt nx ht k) h = S) := ⟨_, ⟨rfl⟩⟩
          obtain ⟨P, eP⟩ : ∃ P, Box (firsts (pth (lv seed kd) (nxt nx ht k)) ht = P) := ⟨_, ⟨rfl⟩⟩
          have eSm : Box (sgp seed kd (nxt nx ht k) (ms p.bs) = S) := ⟨by rw [eh.out]; exact eS.out⟩
          have hSn : S.length = npt kd := by rw [← eS.out, sgp_len h1 h2]
          have hSl : S.length ≤ 100000 := by rw [hSn]; unfold npt; split <;> omega
          have hPn : P.length = ht := by rw [← eP.out, firsts_len]
          have hPl : P.length ≤ 100000 := by omega
          have hvr := right_sig h1 h2 h3 hl8 eS eP ey
          -- R18
          refine wp_region_seq [.eq (.pointer (some ⟨g3, 0, none⟩)), .eq (.slice p.sp p.m p.c)] (by kernel_rfl) (by kernel_rfl) (by rw [sz]; kernel_rfl) (by kernel_rfl) ⟨fun hw ac u K => ?_, fun hw ac u K => ?_, trivial⟩ ?_
          · exact st_move (.tmp 3) rfl ((K.old 3 rfl).trans x3)
          · exact st_move (.tmp 9) rfl ((K.old 9 rfl).trans x9)
          intro f18 w18 A hb
          have S_q5 := q5
          have hbS0 := Below.refl w17.heap.size w17
          have hbS := hb
          replace bl0 := bl
          replace x1 := (A.old 1 rfl).trans x1
          replace x2 := (A.old 2 rfl).trans x2
          replace x22 := (A.old 22 rfl).trans x22
          replace x3 := (A.old 3 rfl).trans x3
          replace x4 := (A.old 4 rfl).trans x4
          replace x61 := (A.old 61 rfl).trans x61
          replace x76 := (A.old 76 rfl).trans x76
          replace x5 := (A.old 5 rfl).trans x5
          replace x6 := (A.old 6 rfl).trans x6
          replace x89 := (A.old 89 rfl).trans x89
          replace x7 := (A.old 7 rfl).trans x7
          replace x93 := (A.old 93 rfl).trans x93
          replace x94 := (A.old 94 rfl).trans x94
          replace x95 := (A.old 95 rfl).trans x95
          replace x96 := (A.old 96 rfl).trans x96
          replace x9 := (A.old 9 rfl).trans x9
          replace x101 := (A.old 101 rfl).trans x101
          have x104 : f18.eval (.tmp 104) = .pointer (some ⟨g3, 0, none⟩) := A.has 0 104 rfl
          have x105 : f18.eval (.tmp 105) = .slice p.sp p.m p.c := A.has 1 105 rfl
          have lt_m1 := Ob.lt m1
          replace m1 := Ob.below m1 hb
          have lt_m3 := Ob.lt m3
          replace m3 := Ob.below m3 hb
          have lt_m6 := Ob.lt m6
          replace m6 := Ob.below m6 hb
          replace q5 := Fk.mono _ _ _ _ q5 hb
          replace bl := (bl.trans (Below.mono hb bl.size))
          replace sz := A.size.trans sz
          replace df := A.defs.trans df
          clear A hb
          have h0_3 : 0 < g3 := Nat.lt_of_lt_of_le hK.pos hw3
          refine wl_call 13 (.func 13) _ _ #[.pointer (some ⟨g3, 0, none⟩), .slice p.sp p.m p.c] rfl 106 rfl (by rw [sz]; decide) rfl rfl (arg2 x104 x105) Tryd.enter13 (SigR g3 seed kd ht (nxt nx ht k) S P w18) (sign_call hx h1 h2 h38 hl8 _ m3 (hK.below bl) h0_3 hml (Sl.below hsm bl (fun hm => (hsm.src hm).2.1)) (fun hm => Nat.ne_of_lt (Nat.lt_of_lt_of_le (hsm.src hm).2.1 hw3)) eSm eP) ?_
          intro f19 w19 df2 sz2 old2 hR
          obtain ⟨sA106, sC106, sb106, so106, pA106, pC106, pb106, po106, e106, hsb106, q106a, hpb106, q106b, mK, O⟩ := hR
          replace x1 := (old2 1 rfl).trans x1
          replace x2 := (old2 2 rfl).trans x2
          replace x22 := (old2 22 rfl).trans x22
          replace x3 := (old2 3 rfl).trans x3
          replace x4 := (old2 4 rfl).trans x4
          replace x61 := (old2 61 rfl).trans x61
          replace x76 := (old2 76 rfl).trans x76
          replace x5 := (old2 5 rfl).trans x5
          replace x6 := (old2 6 rfl).trans x6
          replace x89 := (old2 89 rfl).trans x89
          replace x7 := (old2 7 rfl).trans x7
          replace x93 := (old2 93 rfl).trans x93
          replace x94 := (old2 94 rfl).trans x94
          replace x95 := (old2 95 rfl).trans x95
          replace x96 := (old2 96 rfl).trans x96
          replace x9 := (old2 9 rfl).trans x9
          replace x101 := (old2 101 rfl).trans x101
          replace x104 := (old2 104 rfl).trans x104
          replace x105 := (old2 105 rfl).trans x105
          replace m1 := Ob.only m1 O nm1_3
          replace m3 := mK
          clear mK
          replace m6 := Ob.only m6 O nm3_6.symm
          replace q5 := ow_only q5 O ltB
          replace bl := bl.trans (Only.below O _ hw3 bl.size)
          replace sz := sz2.trans sz
          replace df := df2.trans df
          have x106 := e106
          have v106a : Fk.f (.hs (S)) (.slice sA106 (S).length sC106) w19 := hl_hs q106a
          have v106b : Fk.f (.hs (P)) (.slice pA106 (P).length pC106) w19 := hl_hs q106b
          clear df2 sz2 old2 O e106
          have S_q5 := q5
          have S_v106a := v106a
          have S_v106b := v106b
          have hbS := Below.refl w19.heap.size w19
          have hbS0 := hbS
          clear x104
          clear x105
          refine wl_one (.eq (.tuple #[.agg ([.int .i64 ((kd : Nat) : Int), .int .i64 ((nxt nx ht k : Nat) : Int), .slice sA106 (S).length sC106, .slice pA106 (P).length pC106] : List Value).toArray, .int .i64 0])) rfl 103 rfl (by rw [sz]; decide) (st_move (.tmp 106) rfl x106) ?_
          intro f20 w20 df2 sz2 old2 new2 hb
          replace hbS0 := hbS
          replace hbS := hbS.trans (Below.mono hb hbS.size)
          replace bl0 := bl
          replace x1 := (old2 1 rfl).trans x1
          replace x2 := (old2 2 rfl).trans x2
          replace x22 := (old2 22 rfl).trans x22
          replace x3 := (old2 3 rfl).trans x3
          replace x4 := (old2 4 rfl).trans x4
          replace x61 := (old2 61 rfl).trans x61
          replace x76 := (old2 76 rfl).trans x76
          replace x5 := (old2 5 rfl).trans x5
          replace x6 := (old2 6 rfl).trans x6
          replace x89 := (old2 89 rfl).trans x89
          replace x7 := (old2 7 rfl).trans x7
          replace x93 := (old2 93 rfl).trans x93
          replace x94 := (old2 94 rfl).trans x94
          replace x95 := (old2 95 rfl).trans x95
          replace x96 := (old2 96 rfl).trans x96
          replace x9 := (old2 9 rfl).trans x9
          replace x101 := (old2 101 rfl).trans x101
          replace x106 := (old2 106 rfl).trans x106
          have x103 : f20.eval (.tmp 103) = .tuple #[.agg ([.int .i64 ((kd : Nat) : Int), .int .i64 ((nxt nx ht k : Nat) : Int), .slice sA106 (S).length sC106, .slice pA106 (P).length pC106] : List Value).toArray, .int .i64 0] := new2
          have lt_m1 := Ob.lt m1
          replace m1 := Ob.below m1 hb
          have lt_m3 := Ob.lt m3
          replace m3 := Ob.below m3 hb
          have lt_m6 := Ob.lt m6
          replace m6 := Ob.below m6 hb
          replace q5 := Fk.mono _ _ _ _ q5 hb
          replace v106a := Fk.mono _ _ _ _ v106a hb
          replace v106b := Fk.mono _ _ _ _ v106b hb
          replace bl := (bl.trans (Below.mono hb bl.size))
          replace sz := sz2.trans sz
          replace df := df2.trans df
          clear df2 sz2 old2 new2 hb
          clear x106
          refine wl_one (.eq (.agg ([.int .i64 ((kd : Nat) : Int), .int .i64 ((nxt nx ht k : Nat) : Int), .slice sA106 (S).length sC106, .slice pA106 (P).length pC106] : List Value).toArray)) rfl 107 rfl (by rw [sz]; decide) (st_ext0 (.tmp 103) rfl x103 rfl) ?_
          intro f21 w21 df2 sz2 old2 new2 hb
          replace hbS0 := hbS
          replace hbS := hbS.trans (Below.mono hb hbS.size)
          replace bl0 := bl
          replace x1 := (old2 1 rfl).trans x1
          replace x2 := (old2 2 rfl).trans x2
          replace x22 := (old2 22 rfl).trans x22
          replace x3 := (old2 3 rfl).trans x3
          replace x4 := (old2 4 rfl).trans x4
          replace x61 := (old2 61 rfl).trans x61
          replace x76 := (old2 76 rfl).trans x76
          replace x5 := (old2 5 rfl).trans x5
          replace x6 := (old2 6 rfl).trans x6
          replace x89 := (old2 89 rfl).trans x89
          replace x7 := (old2 7 rfl).trans x7
          replace x93 := (old2 93 rfl).trans x93
          replace x94 := (old2 94 rfl).trans x94
          replace x95 := (old2 95 rfl).trans x95
          replace x96 := (old2 96 rfl).trans x96
          replace x9 := (old2 9 rfl).trans x9
          replace x101 := (old2 101 rfl).trans x101
          replace x103 := (old2 103 rfl).trans x103
          have x107 : f21.eval (.tmp 107) = .agg ([.int .i64 ((kd : Nat) : Int), .int .i64 ((nxt nx ht k : Nat) : Int), .slice sA106 (S).length sC106, .slice pA106 (P).length pC106] : List Value).toArray := new2
          have lt_m1 := Ob.lt m1
          replace m1 := Ob.below m1 hb
          have lt_m3 := Ob.lt m3
          replace m3 := Ob.below m3 hb
          have lt_m6 := Ob.lt m6
          replace m6 := Ob.below m6 hb
          replace q5 := Fk.mono _ _ _ _ q5 hb
          replace v106a := Fk.mono _ _ _ _ v106a hb
          replace v106b := Fk.mono _ _ _ _ v106b hb
          replace bl := (bl.trans (Below.mono hb bl.size))
          replace sz := sz2.trans sz
          replace df := df2.trans df
          clear df2 sz2 old2 new2 hb
          refine wl_one (.eq (.int .i64 0)) rfl 108 rfl (by rw [sz]; decide) (st_ext1 (.tmp 103) rfl x103 rfl) ?_
          intro f22 w22 df2 sz2 old2 new2 hb
          replace hbS0 := hbS
          replace hbS := hbS.trans (Below.mono hb hbS.size)
          replace bl0 := bl
          replace x1 := (old2 1 rfl).trans x1
          replace x2 := (old2 2 rfl).trans x2
          replace x22 := (old2 22 rfl).trans x22
          replace x3 := (old2 3 rfl).trans x3
          replace x4 := (old2 4 rfl).trans x4
          replace x61 := (old2 61 rfl).trans x61
          replace x76 := (old2 76 rfl).trans x76
          replace x5 := (old2 5 rfl).trans x5
          replace x6 := (old2 6 rfl).trans x6
          replace x89 := (old2 89 rfl).trans x89
          replace x7 := (old2 7 rfl).trans x7
          replace x93 := (old2 93 rfl).trans x93
          replace x94 := (old2 94 rfl).trans x94
          replace x95 := (old2 95 rfl).trans x95
          replace x96 := (old2 96 rfl).trans x96
          replace x9 := (old2 9 rfl).trans x9
          replace x101 := (old2 101 rfl).trans x101
          replace x103 := (old2 103 rfl).trans x103
          replace x107 := (old2 107 rfl).trans x107
          have x108 : f22.eval (.tmp 108) = .int .i64 0 := new2
          have lt_m1 := Ob.lt m1
          replace m1 := Ob.below m1 hb
          have lt_m3 := Ob.lt m3
          replace m3 := Ob.below m3 hb
          have lt_m6 := Ob.lt m6
          replace m6 := Ob.below m6 hb
          replace q5 := Fk.mono _ _ _ _ q5 hb
          replace v106a := Fk.mono _ _ _ _ v106a hb
          replace v106b := Fk.mono _ _ _ _ v106b hb
          replace bl := (bl.trans (Below.mono hb bl.size))
          replace sz := sz2.trans sz
          replace df := df2.trans df
          clear df2 sz2 old2 new2 hb
          clear x103
          refine wl_one (.nw w22.heap.size 38 [.int .i64 0, .int .i64 0, .slice none 0 0, .slice none 0 0]) rfl 10 rfl (by rw [sz]; decide) (st_alloc 38 rfl _ _ (by kernel_rfl) (Nat.le_refl _)) ?_
          intro f23 w23 df2 sz2 old2 new2 hb
          replace hbS0 := hbS
          replace hbS := hbS.trans (Below.mono hb hbS.size)
          replace bl0 := bl
          replace x1 := (old2 1 rfl).trans x1
          replace x2 := (old2 2 rfl).trans x2
          replace x22 := (old2 22 rfl).trans x22
          replace x3 := (old2 3 rfl).trans x3
          replace x4 := (old2 4 rfl).trans x4
          replace x61 := (old2 61 rfl).trans x61
          replace x76 := (old2 76 rfl).trans x76
          replace x5 := (old2 5 rfl).trans x5
          replace x6 := (old2 6 rfl).trans x6
          replace x89 := (old2 89 rfl).trans x89
          replace x7 := (old2 7 rfl).trans x7
          replace x93 := (old2 93 rfl).trans x93
          replace x94 := (old2 94 rfl).trans x94
          replace x95 := (old2 95 rfl).trans x95
          replace x96 := (old2 96 rfl).trans x96
          replace x9 := (old2 9 rfl).trans x9
          replace x101 := (old2 101 rfl).trans x101
          replace x107 := (old2 107 rfl).trans x107
          replace x108 := (old2 108 rfl).trans x108
          have x10 : Fk.f (.nw w22.heap.size 38 [.int .i64 0, .int .i64 0, .slice none 0 0, .slice none 0 0]) (f23.eval (.tmp 10)) w23 := new2
          have lt_m1 := Ob.lt m1
          replace m1 := Ob.below m1 hb
          have lt_m3 := Ob.lt m3
          replace m3 := Ob.below m3 hb
          have lt_m6 := Ob.lt m6
          replace m6 := Ob.below m6 hb
          replace q5 := Fk.mono _ _ _ _ q5 hb
          replace v106a := Fk.mono _ _ _ _ v106a hb
          replace v106b := Fk.mono _ _ _ _ v106b hb
          replace bl := (bl.trans (Below.mono hb bl.size))
          replace sz := sz2.trans sz
          replace df := df2.trans df
          clear df2 sz2 old2 new2 hb
          obtain ⟨g10, hg10, e10, m10⟩ := x10
          have x10 := e10
          clear e10
          have nm1_10 : g1 ≠ g10 := Nat.ne_of_lt (Nat.lt_of_lt_of_le lt_m1 hg10)
          have nm3_10 : g3 ≠ g10 := Nat.ne_of_lt (Nat.lt_of_lt_of_le lt_m3 hg10)
          have nm6_10 : g6 ≠ g10 := Nat.ne_of_lt (Nat.lt_of_lt_of_le lt_m6 hg10)
          have hw10 : w.heap.size ≤ g10 := Nat.le_trans bl0.size hg10
          have hs10 := Nat.le_trans hbS0.size hg10
          refine wl_str rfl 38 (.tmp 10) (.tmp 107) rfl rfl (g10) ([.int .i64 ((kd : Nat) : Int), .int .i64 ((nxt nx ht k : Nat) : Int), .slice sA106 (S).length sC106, .slice pA106 (P).length pC106] : List Value).toArray x10 x107 38 _ m10 (by kernel_rfl) (by kernel_rfl) (by kernel_rfl) ?_
          replace m1 : Ob (w23.setRow g10 ([.int .i64 ((kd : Nat) : Int), .int .i64 ((nxt nx ht k : Nat) : Int), .slice sA106 (S).length sC106, .slice pA106 (P).length pC106] : List Value).toArray) (g1) 26 ((seed).map V ++ ([.int .i64 ((kd : Nat) : Int), .int .i64 ((ht : Nat) : Int), .int .i64 ((nx : Nat) : Int), .slice mA (ps).length mC] : List Value)) := Ob.setRow_other m1 _ nm1_10
          replace m3 : Ob (w23.setRow g10 ([.int .i64 ((kd : Nat) : Int), .int .i64 ((nxt nx ht k : Nat) : Int), .slice sA106 (S).length sC106, .slice pA106 (P).length pC106] : List Value).toArray) (g3) 69 ((seed).map V ++ ([.int .i64 ((kd : Nat) : Int), .int .i64 ((ht : Nat) : Int), .int .i64 ((nxt nx ht k + 1 : Nat) : Int)] : List Value)) := Ob.setRow_other m3 _ nm3_10
          replace m6 : Ob (w23.setRow g10 ([.int .i64 ((kd : Nat) : Int), .int .i64 ((nxt nx ht k : Nat) : Int), .slice sA106 (S).length sC106, .slice pA106 (P).length pC106] : List Value).toArray) (g6) 23 ((y).map V) := Ob.setRow_other m6 _ nm6_10
          replace m10 : Ob (w23.setRow g10 ([.int .i64 ((kd : Nat) : Int), .int .i64 ((nxt nx ht k : Nat) : Int), .slice sA106 (S).length sC106, .slice pA106 (P).length pC106] : List Value).toArray) (g10) 38 ([.int .i64 ((kd : Nat) : Int), .int .i64 ((nxt nx ht k : Nat) : Int), .slice sA106 (S).length sC106, .slice pA106 (P).length pC106]) := Ob.setRow m10 ([.int .i64 ((kd : Nat) : Int), .int .i64 ((nxt nx ht k : Nat) : Int), .slice sA106 (S).length sC106, .slice pA106 (P).length pC106])
          replace hbS : Below _ _ (w23.setRow g10 ([.int .i64 ((kd : Nat) : Int), .int .i64 ((nxt nx ht k : Nat) : Int), .slice sA106 (S).length sC106, .slice pA106 (P).length pC106] : List Value).toArray) := hbS.trans (below_setRow _ _ _ _ hs10)
          replace q5 := Fk.mono _ _ _ _ S_q5 hbS
          replace v106a := Fk.mono _ _ _ _ S_v106a hbS
          replace v106b := Fk.mono _ _ _ _ S_v106b hbS
          replace bl : Below w.heap.size w (w23.setRow g10 ([.int .i64 ((kd : Nat) : Int), .int .i64 ((nxt nx ht k : Nat) : Int), .slice sA106 (S).length sC106, .slice pA106 (P).length pC106] : List Value).toArray) := bl.trans (below_setRow _ _ _ _ hw10)
          generalize w23.setRow g10 ([.int .i64 ((kd : Nat) : Int), .int .i64 ((nxt nx ht k : Nat) : Int), .slice sA106 (S).length sC106, .slice pA106 (P).length pC106] : List Value).toArray = w24b at bl m1 m3 m6 m10 q5 v106a v106b hbS ⊢
          clear x107
          refine wl_one (.eq (.int .i64 0)) rfl 11 rfl (by rw [sz]; decide) (st_assign (.tmp 108) rfl x108) ?_
          intro f25 w25 df2 sz2 old2 new2 hb
          replace hbS0 := hbS
          replace hbS := hbS.trans (Below.mono hb hbS.size)
          replace bl0 := bl
          replace x1 := (old2 1 rfl).trans x1
          replace x2 := (old2 2 rfl).trans x2
          replace x22 := (old2 22 rfl).trans x22
          replace x3 := (old2 3 rfl).trans x3
          replace x4 := (old2 4 rfl).trans x4
          replace x61 := (old2 61 rfl).trans x61
          replace x76 := (old2 76 rfl).trans x76
          replace x5 := (old2 5 rfl).trans x5
          replace x6 := (old2 6 rfl).trans x6
          replace x89 := (old2 89 rfl).trans x89
          replace x7 := (old2 7 rfl).trans x7
          replace x93 := (old2 93 rfl).trans x93
          replace x94 := (old2 94 rfl).trans x94
          replace x95 := (old2 95 rfl).trans x95
          replace x96 := (old2 96 rfl).trans x96
          replace x9 := (old2 9 rfl).trans x9
          replace x101 := (old2 101 rfl).trans x101
          replace x108 := (old2 108 rfl).trans x108
          replace x10 := (old2 10 rfl).trans x10
          have x11 : f25.eval (.tmp 11) = .int .i64 0 := new2
          have lt_m1 := Ob.lt m1
          replace m1 := Ob.below m1 hb
          have lt_m3 := Ob.lt m3
          replace m3 := Ob.below m3 hb
          have lt_m6 := Ob.lt m6
          replace m6 := Ob.below m6 hb
          have lt_m10 := Ob.lt m10
          replace m10 := Ob.below m10 hb
          replace q5 := Fk.mono _ _ _ _ q5 hb
          replace v106a := Fk.mono _ _ _ _ v106a hb
          replace v106b := Fk.mono _ _ _ _ v106b hb
          replace bl := (bl.trans (Below.mono hb bl.size))
          replace sz := sz2.trans sz
          replace df := df2.trans df
          clear df2 sz2 old2 new2 hb
          refine wpList_nil ?_
          clear hbS hbS0 S_q5 S_v106a S_v106b
          clear x108
          show Code.wp _ _ _ _ _
          refine wp_seq ?_
          refine wp_seq ?_
          -- R19
          refine wp_all_seq [.eq (.int .i64 ((nxt nx ht k : Nat) : Int)), .eq (v5), .eq (.int .i64 ((2 ^ ht : Nat) : Int)), .eq (.bool false)] (by kernel_rfl) (by kernel_rfl) (by rw [sz]; kernel_rfl) (by kernel_rfl) ⟨fun hw ac u K => ?_, fun hw ac u K => ?_, fun hw ac u K => ?_, fun hw ac u K => ?_, trivial⟩ ?_
          · exact st_move (.tmp 7) rfl ((K.old 7 rfl).trans x7)
          · exact st_move (.tmp 5) rfl ((K.old 5 rfl).trans x5)
          · exact st_lenc (.tmp 110) rfl (2 ^ ht) (seg_len _ _ _) (fk_val (K.dep 1 110 rfl) (ow_hc (Fk.mono _ _ _ _ q5 K.grow)))
          · exact st_eqi 3 (.tmp 109) (.tmp 111) rfl .i64 (((nxt nx ht k : Nat) : Int)) (((2 ^ ht : Nat) : Int)) (K.dep 0 109 rfl) (K.dep 2 111 rfl) _ (by rw [eq_comm, decide_eq_false_iff_not]; exact fun e => hex (Int.ofNat.inj e))
          intro f26 w26 A hb
          replace bl0 := bl
          replace x1 := (A.old 1 rfl).trans x1
          replace x2 := (A.old 2 rfl).trans x2
          replace x22 := (A.old 22 rfl).trans x22
          replace x3 := (A.old 3 rfl).trans x3
          replace x4 := (A.old 4 rfl).trans x4
          replace x61 := (A.old 61 rfl).trans x61
          replace x76 := (A.old 76 rfl).trans x76
          replace x5 := (A.old 5 rfl).trans x5
          replace x6 := (A.old 6 rfl).trans x6
          replace x89 := (A.old 89 rfl).trans x89
          replace x7 := (A.old 7 rfl).trans x7
          replace x93 := (A.old 93 rfl).trans x93
          replace x94 := (A.old 94 rfl).trans x94
          replace x95 := (A.old 95 rfl).trans x95
          replace x96 := (A.old 96 rfl).trans x96
          replace x9 := (A.old 9 rfl).trans x9
          replace x101 := (A.old 101 rfl).trans x101
          replace x10 := (A.old 10 rfl).trans x10
          replace x11 := (A.old 11 rfl).trans x11
          have x112 : f26.eval (.tmp 112) = .bool false := A.has 3 112 rfl
          have lt_m1 := Ob.lt m1
          replace m1 := Ob.below m1 hb
          have lt_m3 := Ob.lt m3
          replace m3 := Ob.below m3 hb
          have lt_m6 := Ob.lt m6
          replace m6 := Ob.below m6 hb
          have lt_m10 := Ob.lt m10
          replace m10 := Ob.below m10 hb
          replace q5 := Fk.mono _ _ _ _ q5 hb
          replace v106a := Fk.mono _ _ _ _ v106a hb
          replace v106b := Fk.mono _ _ _ _ v106b hb
          replace bl := (bl.trans (Below.mono hb bl.size))
          replace sz := A.size.trans sz
          replace df := A.defs.trans df
          clear A hb
          show Code.wp _ _ _ _ _
          refine wp_cond_false x112 ?_
          refine wp_skip ?_
          show Code.wp _ _ _ _ _
          refine wp_seq ?_
          rcases (show kd = 1 ∨ kd = 2 by omega) with hkd | hkd
          rotate_left
          · skip
            have eS1 := sgp_two hkd eS
            obtain ⟨S1, eS0⟩ : ∃ S, Box (all67 (sigOf seed (nxt nx ht k) h) = S) := ⟨_, ⟨rfl⟩⟩
            -- R22
            refine wp_all [.eq (.pointer (some ⟨g1, 0, none⟩)), .eq (.agg ((seed).map V).toArray), .eq (.int .i64 ((nxt nx ht k : Nat) : Int)), .eq (.slice p.sp p.m p.c), .eq (.agg ((h).map V).toArray), .t2 (.hn w.heap.size (S1)) (.int .i64 0), .t2 (.hn w.heap.size (S1)) (.int .i64 0), .hn w.heap.size (S1), .eq (.int .i64 0), .hn w.heap.size (S1), .eq (.int .i64 0)] Tryd.mixed (by kernel_rfl) (by kernel_rfl) (by rw [sz]; kernel_rfl) (by kernel_rfl) ⟨fun hw ac u K => ?_, fun hw ac u K => ?_, fun hw ac u K => ?_, fun hw ac u K => ?_, fun hw ac u K => ?_, fun hw ac u K => ?_, fun hw ac u K => ?_, fun hw ac u K => ?_, fun hw ac u K => ?_, fun hw ac u K => ?_, fun hw ac u K => ?_, trivial⟩ ?_
            · exact st_field 26 0 (.tmp 1) rfl ((K.old 1 rfl).trans x1) (by kernel_rfl)
            · exact st_loadhd (.tmp 133) rfl (g1) (seed) (K.dep 0 133 rfl) hx (Ob.below m1 K.grow)
            · exact st_move (.tmp 7) rfl ((K.old 7 rfl).trans x7)
            · exact st_move (.tmp 9) rfl ((K.old 9 rfl).trans x9)
            · exact st_call 17 (.func 17) _ _ #[.slice p.sp p.m p.c] rfl rfl (one_arg (K.dep 3 136 rfl)) Tryd.enter17 (fk_message hml (hK.below (bl.trans (Below.mono K.grow bl.size))) (Fk.mono _ _ _ _ vp (bl.trans (Below.mono K.grow bl.size))) eh)
            · exact st_call 16 (.func 16) _ _ #[.agg ((seed).map V).toArray, .int .i64 ((nxt nx ht k : Nat) : Int), .agg ((h).map V).toArray] rfl rfl (arg3 (K.dep 1 134 rfl) (K.dep 2 135 rfl) (K.dep 4 137 rfl)) Tryd.enter16 (fk_sign_one hx hh hni (hK.below (bl.trans (Below.mono K.grow bl.size))) (Nat.le_trans bl.size K.grow.size) eS0)
            · exact st_move (.tmp 138) rfl (K.dep 5 138 rfl)
            · exact st_t2a (.tmp 132) rfl (K.dep 6 132 rfl)
            · exact st_t2b (.tmp 132) rfl (K.dep 6 132 rfl)
            · exact st_assign (.tmp 139) rfl (K.dep 7 139 rfl)
            · exact st_assign (.tmp 140) rfl (K.dep 8 140 rfl)
            intro f27 w27 A hb
            replace bl0 := bl
            replace x1 := (A.old 1 rfl).trans x1
            replace x2 := (A.old 2 rfl).trans x2
            replace x22 := (A.old 22 rfl).trans x22
            replace x3 := (A.old 3 rfl).trans x3
            replace x4 := (A.old 4 rfl).trans x4
            replace x61 := (A.old 61 rfl).trans x61
            replace x76 := (A.old 76 rfl).trans x76
            replace x5 := (A.old 5 rfl).trans x5
            replace x6 := (A.old 6 rfl).trans x6
            replace x89 := (A.old 89 rfl).trans x89
            replace x7 := (A.old 7 rfl).trans x7
            replace x93 := (A.old 93 rfl).trans x93
            replace x94 := (A.old 94 rfl).trans x94
            replace x95 := (A.old 95 rfl).trans x95
            replace x96 := (A.old 96 rfl).trans x96
            replace x9 := (A.old 9 rfl).trans x9
            replace x101 := (A.old 101 rfl).trans x101
            replace x10 := (A.old 10 rfl).trans x10
            replace x11 := (A.old 11 rfl).trans x11
            replace x112 := (A.old 112 rfl).trans x112
            have x12 : Fk.f (.hn w.heap.size (S1)) (f27.eval (.tmp 12)) w27 := A.has 9 12 rfl
            have lt_m1 := Ob.lt m1
            replace m1 := Ob.below m1 hb
            have lt_m3 := Ob.lt m3
            replace m3 := Ob.below m3 hb
            have lt_m6 := Ob.lt m6
            replace m6 := Ob.below m6 hb
            have lt_m10 := Ob.lt m10
            replace m10 := Ob.below m10 hb
            replace q5 := Fk.mono _ _ _ _ q5 hb
            replace v106a := Fk.mono _ _ _ _ v106a hb
            replace v106b := Fk.mono _ _ _ _ v106b hb
            replace bl := (bl.trans (Below.mono hb bl.size))
            replace sz := A.size.trans sz
            replace df := A.defs.trans df
            clear A hb
            show Code.wp _ _ _ _ _
            refine wp_seq ?_
            refine wp_seq ?_
            -- R23
            refine wp_all_seq [.eq (.pointer (some ⟨g1, 32, none⟩)), .eq (.int .i64 ((kd : Nat) : Int)), .eq (.bool true)] (by kernel_rfl) (by kernel_rfl) (by rw [sz]; kernel_rfl) (by kernel_rfl) ⟨fun hw ac u K => ?_, fun hw ac u K => ?_, fun hw ac u K => ?_, trivial⟩ ?_
            · exact st_field 26 1 (.tmp 1) rfl ((K.old 1 rfl).trans x1) (by kernel_rfl)
            · exact st_loadc 3 (.tmp 141) rfl (by kernel_rfl) (K.dep 0 141 rfl) (Ob.cell (Ob.below m1 K.grow) 32 ((at_head hx 0 _).trans rfl))
            · exact st_eqi 3 (.tmp 142) (.const (.int .i64 2)) rfl .i64 (((kd : Nat) : Int)) (2) (K.dep 1 142 rfl) rfl _ (by simp [hkd])
            intro f28 w28 A hb
            replace bl0 := bl
            replace x1 := (A.old 1 rfl).trans x1
            replace x2 := (A.old 2 rfl).trans x2
            replace x22 := (A.old 22 rfl).trans x22
            replace x3 := (A.old 3 rfl).trans x3
            replace x4 := (A.old 4 rfl).trans x4
            replace x61 := (A.old 61 rfl).trans x61
            replace x76 := (A.old 76 rfl).trans x76
            replace x5 := (A.old 5 rfl).trans x5
            replace x6 := (A.old 6 rfl).trans x6
            replace x89 := (A.old 89 rfl).trans x89
            replace x7 := (A.old 7 rfl).trans x7
            replace x93 := (A.old 93 rfl).trans x93
            replace x94 := (A.old 94 rfl).trans x94
            replace x95 := (A.old 95 rfl).trans x95
            replace x96 := (A.old 96 rfl).trans x96
            replace x9 := (A.old 9 rfl).trans x9
            replace x101 := (A.old 101 rfl).trans x101
            replace x10 := (A.old 10 rfl).trans x10
            replace x11 := (A.old 11 rfl).trans x11
            replace x112 := (A.old 112 rfl).trans x112
            replace x12 := f_at (A.old 12 rfl) (Fk.mono _ _ _ _ x12 hb)
            have x143 : f28.eval (.tmp 143) = .bool true := A.has 2 143 rfl
            have lt_m1 := Ob.lt m1
            replace m1 := Ob.below m1 hb
            have lt_m3 := Ob.lt m3
            replace m3 := Ob.below m3 hb
            have lt_m6 := Ob.lt m6
            replace m6 := Ob.below m6 hb
            have lt_m10 := Ob.lt m10
            replace m10 := Ob.below m10 hb
            replace q5 := Fk.mono _ _ _ _ q5 hb
            replace v106a := Fk.mono _ _ _ _ v106a hb
            replace v106b := Fk.mono _ _ _ _ v106b hb
            replace bl := (bl.trans (Below.mono hb bl.size))
            replace sz := A.size.trans sz
            replace df := A.defs.trans df
            clear A hb
            show Code.wp _ _ _ _ _
            refine wp_cond_true x143 ?_
            -- R24
            refine wp_all [.eq (.pointer (some ⟨g1, 0, none⟩)), .eq (.agg ((seed).map V).toArray), .eq (.int .i64 ((nxt nx ht k : Nat) : Int)), .eq (.slice p.sp p.m p.c), .eq (.agg ((h).map V).toArray), .t2 (.hn w.heap.size (S)) (.int .i64 0), .t2 (.hn w.heap.size (S)) (.int .i64 0), .hn w.heap.size (S), .eq (.int .i64 0), .hn w.heap.size (S)] Tryd.mixed (by kernel_rfl) (by kernel_rfl) (by rw [sz]; kernel_rfl) (by kernel_rfl) ⟨fun hw ac u K => ?_, fun hw ac u K => ?_, fun hw ac u K => ?_, fun hw ac u K => ?_, fun hw ac u K => ?_, fun hw ac u K => ?_, fun hw ac u K => ?_, fun hw ac u K => ?_, fun hw ac u K => ?_, fun hw ac u K => ?_, trivial⟩ ?_
            · exact st_field 26 0 (.tmp 1) rfl ((K.old 1 rfl).trans x1) (by kernel_rfl)
            · exact st_loadhd (.tmp 145) rfl (g1) (seed) (K.dep 0 145 rfl) hx (Ob.below m1 K.grow)
            · exact st_move (.tmp 7) rfl ((K.old 7 rfl).trans x7)
            · exact st_move (.tmp 9) rfl ((K.old 9 rfl).trans x9)
            · exact st_call 17 (.func 17) _ _ #[.slice p.sp p.m p.c] rfl rfl (one_arg (K.dep 3 148 rfl)) Tryd.enter17 (fk_message hml (hK.below (bl.trans (Below.mono K.grow bl.size))) (Fk.mono _ _ _ _ vp (bl.trans (Below.mono K.grow bl.size))) eh)
            · exact st_call 18 (.func 18) _ _ #[.agg ((seed).map V).toArray, .int .i64 ((nxt nx ht k : Nat) : Int), .agg ((h).map V).toArray] rfl rfl (arg3 (K.dep 1 146 rfl) (K.dep 2 147 rfl) (K.dep 4 149 rfl)) Tryd.enter18 (fk_sign_two hx hh hni (hK.below (bl.trans (Below.mono K.grow bl.size))) (Nat.le_trans bl.size K.grow.size) eS1)
            · exact st_move (.tmp 150) rfl (K.dep 5 150 rfl)
            · exact st_t2a (.tmp 144) rfl (K.dep 6 144 rfl)
            · exact st_t2b (.tmp 144) rfl (K.dep 6 144 rfl)
            · exact st_assign (.tmp 151) rfl (K.dep 7 151 rfl)
            intro f29 w29 A hb
            replace bl0 := bl
            replace x1 := (A.old 1 rfl).trans x1
            replace x2 := (A.old 2 rfl).trans x2
            replace x22 := (A.old 22 rfl).trans x22
            replace x3 := (A.old 3 rfl).trans x3
            replace x4 := (A.old 4 rfl).trans x4
            replace x61 := (A.old 61 rfl).trans x61
            replace x76 := (A.old 76 rfl).trans x76
            replace x5 := (A.old 5 rfl).trans x5
            replace x6 := (A.old 6 rfl).trans x6
            replace x89 := (A.old 89 rfl).trans x89
            replace x7 := (A.old 7 rfl).trans x7
            replace x93 := (A.old 93 rfl).trans x93
            replace x94 := (A.old 94 rfl).trans x94
            replace x95 := (A.old 95 rfl).trans x95
            replace x96 := (A.old 96 rfl).trans x96
            replace x9 := (A.old 9 rfl).trans x9
            replace x101 := (A.old 101 rfl).trans x101
            replace x10 := (A.old 10 rfl).trans x10
            replace x11 := (A.old 11 rfl).trans x11
            replace x112 := (A.old 112 rfl).trans x112
            clear x12
            replace x143 := (A.old 143 rfl).trans x143
            have x12 : Fk.f (.hn w.heap.size (S)) (f29.eval (.tmp 12)) w29 := A.has 9 12 rfl
            have lt_m1 := Ob.lt m1
            replace m1 := Ob.below m1 hb
            have lt_m3 := Ob.lt m3
            replace m3 := Ob.below m3 hb
            have lt_m6 := Ob.lt m6
            replace m6 := Ob.below m6 hb
            have lt_m10 := Ob.lt m10
            replace m10 := Ob.below m10 hb
            replace q5 := Fk.mono _ _ _ _ q5 hb
            replace v106a := Fk.mono _ _ _ _ v106a hb
            replace v106b := Fk.mono _ _ _ _ v106b hb
            replace bl := (bl.trans (Below.mono hb bl.size))
            replace sz := A.size.trans sz
            replace df := A.defs.trans df
            clear A hb
            show Code.wp _ _ _ _ _
            refine wp_seq ?_
            refine wp_seq ?_
            -- R25
            refine wp_all [.eq (.int .i64 0), .eq (.bool false), .eq (.bool false), .eq (.pointer (some ⟨g10, 0, none⟩)), .eq (.int .i64 ((kd : Nat) : Int)), .eq (.pointer (some ⟨g1, 32, none⟩)), .eq (.int .i64 ((kd : Nat) : Int)), .eq (.bool false), .eq (.bool false), .eq (.bool false), .eq (.pointer (some ⟨g10, 1, none⟩)), .eq (.int .i64 ((nxt nx ht k : Nat) : Int)), .eq (.int .i64 ((nxt nx ht k : Nat) : Int)), .eq (.bool false), .eq (.bool false), .eq (.bool false), .eq (.pointer (some ⟨g10, 2, none⟩)), .eq (.slice sA106 (S).length sC106), .hn w.heap.size (S), .eq (.bool true), .eq (.bool false), .eq (.bool false), .eq (.bool false), .eq (.pointer (some ⟨g10, 3, none⟩)), .eq (.slice pA106 (P).length pC106), .eq (v5), .eq (.int .i64 ((nxt nx ht k : Nat) : Int)), .hs (P), .eq (.bool true), .eq (.bool false), .eq (.bool false), .eq (.bool false), .eq (.agg ((y).map V).toArray), .eq (.pointer (some ⟨g1, 32, none⟩)), .eq (.int .i64 ((kd : Nat) : Int)), .eq (.pointer (some ⟨g1, 33, none⟩)), .eq (.int .i64 ((ht : Nat) : Int)), .eq (.slice p.sp p.m p.c), .eq (.agg ([.int .i64 ((kd : Nat) : Int), .int .i64 ((nxt nx ht k : Nat) : Int), .slice sA106 (S).length sC106, .slice pA106 (P).length pC106] : List Value).toArray), .eq (.int .i64 0), .eq (.bool false), .eq (.bool false)] Tryd.mixed (by kernel_rfl) (by kernel_rfl) (by rw [sz]; kernel_rfl) (by kernel_rfl) ⟨fun hw ac u K => ?_, fun hw ac u K => ?_, fun hw ac u K => ?_, fun hw ac u K => ?_, fun hw ac u K => ?_, fun hw ac u K => ?_, fun hw ac u K => ?_, fun hw ac u K => ?_, fun hw ac u K => ?_, fun hw ac u K => ?_, fun hw ac u K => ?_, fun hw ac u K => ?_, fun hw ac u K => ?_, fun hw ac u K => ?_, fun hw ac u K => ?_, fun hw ac u K => ?_, fun hw ac u K => ?_, fun hw ac u K => ?_, fun hw ac u K => ?_, fun hw ac u K => ?_, fun hw ac u K => ?_, fun hw ac u K => ?_, fun hw ac u K => ?_, fun hw ac u K => ?_, fun hw ac u K => ?_, fun hw ac u K => ?_, fun hw ac u K => ?_, fun hw ac u K => ?_, fun hw ac u K => ?_, fun hw ac u K => ?_, fun hw ac u K => ?_, fun hw ac u K => ?_, fun hw ac u K => ?_, fun hw ac u K => ?_, fun hw ac u K => ?_, fun hw ac u K => ?_, fun hw ac u K => ?_, fun hw ac u K => ?_, fun hw ac u K => ?_, fun hw ac u K => ?_, fun hw ac u K => ?_, fun hw ac u K => ?_, trivial⟩ ?_
            · exact st_move (.tmp 11) rfl ((K.old 11 rfl).trans x11)
            · exact st_neqi 29 (.tmp 153) (.const (.int .i64 0)) rfl .i64 (0) (0) (K.dep 0 153 rfl) rfl _ (by rfl)
            · exact st_move (.tmp 154) rfl (K.dep 1 154 rfl)
            · exact st_field 38 0 (.tmp 10) rfl ((K.old 10 rfl).trans x10) (by kernel_rfl)
            · exact st_loadc 3 (.tmp 156) rfl (by kernel_rfl) (K.dep 3 156 rfl) (Ob.cell (Ob.below m10 K.grow) 0 rfl)
            · exact st_field 26 1 (.tmp 1) rfl ((K.old 1 rfl).trans x1) (by kernel_rfl)
            · exact st_loadc 3 (.tmp 158) rfl (by kernel_rfl) (K.dep 5 158 rfl) (Ob.cell (Ob.below m1 K.grow) 32 ((at_head hx 0 _).trans rfl))
            · exact st_neqi 3 (.tmp 157) (.tmp 159) rfl .i64 (((kd : Nat) : Int)) (((kd : Nat) : Int)) (K.dep 4 157 rfl) (K.dep 6 159 rfl) _ (by simp)
            · exact st_pick_f' (.tmp 155) (.const (.bool true)) (.tmp 160) rfl (K.dep 2 155 rfl) (K.dep 7 160 rfl)
            · exact st_move (.tmp 161) rfl (K.dep 8 161 rfl)
            · exact st_field 38 1 (.tmp 10) rfl ((K.old 10 rfl).trans x10) (by kernel_rfl)
            · exact st_loadc 3 (.tmp 163) rfl (by kernel_rfl) (K.dep 10 163 rfl) (Ob.cell (Ob.below m10 K.grow) 1 rfl)
            · exact st_move (.tmp 7) rfl ((K.old 7 rfl).trans x7)
            · exact st_neqi 3 (.tmp 164) (.tmp 165) rfl .i64 (((nxt nx ht k : Nat) : Int)) (((nxt nx ht k : Nat) : Int)) (K.dep 11 164 rfl) (K.dep 12 165 rfl) _ (by simp)
            · exact st_pick_f' (.tmp 162) (.const (.bool true)) (.tmp 166) rfl (K.dep 9 162 rfl) (K.dep 13 166 rfl)
            · exact st_move (.tmp 167) rfl (K.dep 14 167 rfl)
            · exact st_field 38 2 (.tmp 10) rfl ((K.old 10 rfl).trans x10) (by kernel_rfl)
            · exact st_loadc 32 (.tmp 169) rfl (by kernel_rfl) (K.dep 16 169 rfl) (Ob.cell (Ob.below m10 K.grow) 2 rfl)
            · exact st_move (.tmp 12) rfl (f_at (K.old 12 rfl) (Fk.mono _ _ _ _ x12 K.grow))
            · exact st_call 19 (.func 19) _ _ #[.slice sA106 (S).length sC106, ac.eval (.tmp 171)] rfl rfl (arg2 (K.dep 17 170 rfl) rfl) Tryd.enter19 (fk_of (same_any hSl _ (Fk.mono _ _ _ _ v106a K.grow) (hn_hs (K.dep 18 171 rfl)) true (by simp)))
            · exact st_not (.tmp 172) rfl true (K.dep 19 172 rfl)
            · exact st_pick_f' (.tmp 168) (.const (.bool true)) (.tmp 173) rfl (K.dep 15 168 rfl) (K.dep 20 173 rfl)
            · exact st_move (.tmp 174) rfl (K.dep 21 174 rfl)
            · exact st_field 38 3 (.tmp 10) rfl ((K.old 10 rfl).trans x10) (by kernel_rfl)
            · exact st_loadc 32 (.tmp 176) rfl (by kernel_rfl) (K.dep 23 176 rfl) (Ob.cell (Ob.below m10 K.grow) 3 rfl)
            · exact st_move (.tmp 5) rfl ((K.old 5 rfl).trans x5)
            · exact st_move (.tmp 7) rfl ((K.old 7 rfl).trans x7)
            · exact st_call 20 (.func 20) _ _ #[v5, .int .i64 ((nxt nx ht k : Nat) : Int)] rfl rfl (arg2 (K.dep 25 178 rfl) (K.dep 26 179 rfl)) Tryd.enter20 (lpath_hs ht _ _ _ h3 hl8 (ow_hc (Fk.mono _ _ _ _ q5 K.grow)) (hK.below (bl.trans (Below.mono K.grow bl.size))) eP)
            · exact st_call 19 (.func 19) _ _ #[.slice pA106 (P).length pC106, ac.eval (.tmp 180)] rfl rfl (arg2 (K.dep 24 177 rfl) rfl) Tryd.enter19 (fk_of (same_any hPl _ (Fk.mono _ _ _ _ v106b K.grow) (K.dep 27 180 rfl) true (by simp)))
            · exact st_not (.tmp 181) rfl true (K.dep 28 181 rfl)
            · exact st_pick_f' (.tmp 175) (.const (.bool true)) (.tmp 182) rfl (K.dep 22 175 rfl) (K.dep 29 182 rfl)
            · exact st_move (.tmp 183) rfl (K.dep 30 183 rfl)
            · exact st_load23 (.tmp 6) rfl (g6) (y) ((K.old 6 rfl).trans x6) hy (Ob.below m6 K.grow)
            · exact st_field 26 1 (.tmp 1) rfl ((K.old 1 rfl).trans x1) (by kernel_rfl)
            · exact st_loadc 3 (.tmp 186) rfl (by kernel_rfl) (K.dep 33 186 rfl) (Ob.cell (Ob.below m1 K.grow) 32 ((at_head hx 0 _).trans rfl))
            · exact st_field 26 2 (.tmp 1) rfl ((K.old 1 rfl).trans x1) (by kernel_rfl)
            · exact st_loadc 3 (.tmp 188) rfl (by kernel_rfl) (K.dep 35 188 rfl) (Ob.cell (Ob.below m1 K.grow) 33 ((at_head hx 1 _).trans rfl))
            · exact st_move (.tmp 9) rfl ((K.old 9 rfl).trans x9)
            · exact st_loadz 38 (.tmp 10) rfl (g10) 0 [.int .i64 ((kd : Nat) : Int), .int .i64 ((nxt nx ht k : Nat) : Int), .slice sA106 (S).length sC106, .slice pA106 (P).length pC106] (by kernel_rfl) (by kernel_rfl) ((K.old 10 rfl).trans x10) (Ob.range (Ob.below m10 K.grow) 0 _ (fun j v hj => by simpa using hj))
            · exact st_call 21 (.func 21) _ _ #[.agg ((y).map V).toArray, .int .i64 ((kd : Nat) : Int), .int .i64 ((ht : Nat) : Int), .slice p.sp p.m p.c, .agg ([.int .i64 ((kd : Nat) : Int), .int .i64 ((nxt nx ht k : Nat) : Int), .slice sA106 (S).length sC106, .slice pA106 (P).length pC106] : List Value).toArray] rfl rfl (arg5 (K.dep 32 185 rfl) (K.dep 34 187 rfl) (K.dep 36 189 rfl) (K.dep 37 190 rfl) (K.dep 38 191 rfl)) Tryd.enter21 (fk_of (verify_any h1 h2 h38 _ hl8 hy hPn _ _ hml (Fk.mono _ _ _ _ vp (bl.trans (Below.mono K.grow bl.size))) (hK.below (bl.trans (Below.mono K.grow bl.size))) (Fk.mono _ _ _ _ v106a K.grow) (Fk.mono _ _ _ _ v106b K.grow) eh hSn 0 hvr))
            · exact st_neqi 29 (.tmp 192) (.const (.int .i64 0)) rfl .i64 (0) (0) (K.dep 39 192 rfl) rfl _ (by rfl)
            · exact st_pick_f' (.tmp 184) (.const (.bool true)) (.tmp 193) rfl (K.dep 31 184 rfl) (K.dep 40 193 rfl)
            intro f30 w30 A hb
            replace bl0 := bl
            replace x1 := (A.old 1 rfl).trans x1
            replace x2 := (A.old 2 rfl).trans x2
            replace x22 := (A.old 22 rfl).trans x22
            replace x3 := (A.old 3 rfl).trans x3
            replace x4 := (A.old 4 rfl).trans x4
            replace x61 := (A.old 61 rfl).trans x61
            replace x76 := (A.old 76 rfl).trans x76
            replace x5 := (A.old 5 rfl).trans x5
            replace x6 := (A.old 6 rfl).trans x6
            replace x89 := (A.old 89 rfl).trans x89
            replace x7 := (A.old 7 rfl).trans x7
            replace x93 := (A.old 93 rfl).trans x93
            replace x94 := (A.old 94 rfl).trans x94
            replace x95 := (A.old 95 rfl).trans x95
            replace x96 := (A.old 96 rfl).trans x96
            replace x9 := (A.old 9 rfl).trans x9
            replace x101 := (A.old 101 rfl).trans x101
            replace x10 := (A.old 10 rfl).trans x10
            replace x11 := (A.old 11 rfl).trans x11
            replace x112 := (A.old 112 rfl).trans x112
            replace x143 := (A.old 143 rfl).trans x143
            replace x12 := f_at (A.old 12 rfl) (Fk.mono _ _ _ _ x12 hb)
            have x194 : f30.eval (.tmp 194) = .bool false := A.has 41 194 rfl
            have lt_m1 := Ob.lt m1
            replace m1 := Ob.below m1 hb
            have lt_m3 := Ob.lt m3
            replace m3 := Ob.below m3 hb
            have lt_m6 := Ob.lt m6
            replace m6 := Ob.below m6 hb
            have lt_m10 := Ob.lt m10
            replace m10 := Ob.below m10 hb
            replace q5 := Fk.mono _ _ _ _ q5 hb
            replace v106a := Fk.mono _ _ _ _ v106a hb
            replace v106b := Fk.mono _ _ _ _ v106b hb
            replace bl := (bl.trans (Below.mono hb bl.size))
            replace sz := A.size.trans sz
            replace df := A.defs.trans df
            clear A hb
            clear x12
            show Code.wp _ _ _ _ _
            refine wp_cond_false x194 ?_
            refine wp_skip ?_
            show Code.wp _ _ _ _ _
            refine wp_seq ?_
            -- R27
            refine wp_region_seq [.eq (.int .i64 ((nxt nx ht k : Nat) : Int)), .eq (.int .i64 (((nxt nx ht k) + 1 : Nat) : Int))] (by kernel_rfl) (by kernel_rfl) (by rw [sz]; kernel_rfl) (by kernel_rfl) ⟨fun hw ac u K => ?_, fun hw ac u K => ?_, trivial⟩ ?_
            · exact st_move (.tmp 7) rfl ((K.old 7 rfl).trans x7)
            · exact st_add (.tmp 195) (.const (.int .i64 1)) rfl (nxt nx ht k) (1) ((nxt nx ht k) + 1) (K.dep 0 195 rfl) rfl (by omega) (by omega)
            intro f31 w31 A hb
            replace bl0 := bl
            replace x1 := (A.old 1 rfl).trans x1
            replace x2 := (A.old 2 rfl).trans x2
            replace x22 := (A.old 22 rfl).trans x22
            replace x3 := (A.old 3 rfl).trans x3
            replace x4 := (A.old 4 rfl).trans x4
            replace x61 := (A.old 61 rfl).trans x61
            replace x76 := (A.old 76 rfl).trans x76
            replace x5 := (A.old 5 rfl).trans x5
            replace x6 := (A.old 6 rfl).trans x6
            replace x89 := (A.old 89 rfl).trans x89
            replace x7 := (A.old 7 rfl).trans x7
            replace x93 := (A.old 93 rfl).trans x93
            replace x94 := (A.old 94 rfl).trans x94
            replace x95 := (A.old 95 rfl).trans x95
            replace x96 := (A.old 96 rfl).trans x96
            replace x9 := (A.old 9 rfl).trans x9
            replace x101 := (A.old 101 rfl).trans x101
            replace x10 := (A.old 10 rfl).trans x10
            replace x11 := (A.old 11 rfl).trans x11
            replace x112 := (A.old 112 rfl).trans x112
            replace x143 := (A.old 143 rfl).trans x143
            replace x194 := (A.old 194 rfl).trans x194
            have x196 : f31.eval (.tmp 196) = .int .i64 (((nxt nx ht k) + 1 : Nat) : Int) := A.has 1 196 rfl
            have lt_m1 := Ob.lt m1
            replace m1 := Ob.below m1 hb
            have lt_m3 := Ob.lt m3
            replace m3 := Ob.below m3 hb
            have lt_m6 := Ob.lt m6
            replace m6 := Ob.below m6 hb
            have lt_m10 := Ob.lt m10
            replace m10 := Ob.below m10 hb
            replace q5 := Fk.mono _ _ _ _ q5 hb
            replace v106a := Fk.mono _ _ _ _ v106a hb
            replace v106b := Fk.mono _ _ _ _ v106b hb
            replace bl := (bl.trans (Below.mono hb bl.size))
            replace sz := A.size.trans sz
            replace df := A.defs.trans df
            clear A hb
            refine wl_one (.eq (.int .i64 (((nxt nx ht k) + 1 : Nat) : Int))) rfl 7 rfl (by rw [sz]; decide) (st_assign (.tmp 196) rfl x196) ?_
            intro f32 w32 df2 sz2 old2 new2 hb
            replace bl0 := bl
            replace x1 := (old2 1 rfl).trans x1
            replace x2 := (old2 2 rfl).trans x2
            replace x22 := (old2 22 rfl).trans x22
            replace x3 := (old2 3 rfl).trans x3
            replace x4 := (old2 4 rfl).trans x4
            replace x61 := (old2 61 rfl).trans x61
            replace x76 := (old2 76 rfl).trans x76
            replace x5 := (old2 5 rfl).trans x5
            replace x6 := (old2 6 rfl).trans x6
            replace x89 := (old2 89 rfl).trans x89
            clear x7
            replace x93 := (old2 93 rfl).trans x93
            replace x94 := (old2 94 rfl).trans x94
            replace x95 := (old2 95 rfl).trans x95
            replace x96 := (old2 96 rfl).trans x96
            replace x9 := (old2 9 rfl).trans x9
            replace x101 := (old2 101 rfl).trans x101
            replace x10 := (old2 10 rfl).trans x10
            replace x11 := (old2 11 rfl).trans x11
            replace x112 := (old2 112 rfl).trans x112
            replace x143 := (old2 143 rfl).trans x143
            replace x194 := (old2 194 rfl).trans x194
            replace x196 := (old2 196 rfl).trans x196
            have x7 : f32.eval (.tmp 7) = .int .i64 (((nxt nx ht k) + 1 : Nat) : Int) := new2
            have lt_m1 := Ob.lt m1
            replace m1 := Ob.below m1 hb
            have lt_m3 := Ob.lt m3
            replace m3 := Ob.below m3 hb
            have lt_m6 := Ob.lt m6
            replace m6 := Ob.below m6 hb
            have lt_m10 := Ob.lt m10
            replace m10 := Ob.below m10 hb
            replace q5 := Fk.mono _ _ _ _ q5 hb
            replace v106a := Fk.mono _ _ _ _ v106a hb
            replace v106b := Fk.mono _ _ _ _ v106b hb
            replace bl := (bl.trans (Below.mono hb bl.size))
            replace sz := sz2.trans sz
            replace df := df2.trans df
            clear df2 sz2 old2 new2 hb
            refine wpList_nil ?_
            clear x196
            show Code.wp _ _ _ _ _
            refine wp_seq ?_
            -- R28
            refine wp_all [.eq (.pointer (some ⟨g3, 0, none⟩)), .eq (.int .i64 ((nxt nx ht k + 1 : Nat) : Int)), .eq (.int .i64 (((nxt nx ht k) + 1 : Nat) : Int)), .eq (.bool false), .eq (.bool false), .eq (.pointer (some ⟨g3, 0, none⟩)), .eq (.int .i64 ((2 ^ ht - (nxt nx ht k + 1) : Nat) : Int)), .eq (v5), .eq (.int .i64 ((2 ^ ht : Nat) : Int)), .eq (.int .i64 (((nxt nx ht k) + 1 : Nat) : Int)), .eq (.int .i64 (((2 ^ ht) - ((nxt nx ht k) + 1) : Nat) : Int)), .eq (.bool false), .eq (.bool false), .eq (.bool false), .eq (.pointer (some ⟨g3, 0, none⟩)), .eq (.agg ((y).map V).toArray), .eq (.agg ((y).map V).toArray), .eq (.bool false), .eq (.bool false)] Tryd.mixed (by kernel_rfl) (by kernel_rfl) (by rw [sz]; kernel_rfl) (by kernel_rfl) ⟨fun hw ac u K => ?_, fun hw ac u K => ?_, fun hw ac u K => ?_, fun hw ac u K => ?_, fun hw ac u K => ?_, fun hw ac u K => ?_, fun hw ac u K => ?_, fun hw ac u K => ?_, fun hw ac u K => ?_, fun hw ac u K => ?_, fun hw ac u K => ?_, fun hw ac u K => ?_, fun hw ac u K => ?_, fun hw ac u K => ?_, fun hw ac u K => ?_, fun hw ac u K => ?_, fun hw ac u K => ?_, fun hw ac u K => ?_, fun hw ac u K => ?_, trivial⟩ ?_
            · exact st_move (.tmp 3) rfl ((K.old 3 rfl).trans x3)
            · exact st_call 15 (.func 15) _ _ #[.pointer (some ⟨g3, 0, none⟩)] rfl rfl (one_arg (K.dep 0 197 rfl)) Tryd.enter15 (fk_of (next_any hx _ (Ob.below m3 K.grow)))
            · exact st_move (.tmp 7) rfl ((K.old 7 rfl).trans x7)
            · exact st_neqi 3 (.tmp 198) (.tmp 199) rfl .i64 (((nxt nx ht k + 1 : Nat) : Int)) ((((nxt nx ht k) + 1 : Nat) : Int)) (K.dep 1 198 rfl) (K.dep 2 199 rfl) _ (by simp)
            · exact st_move (.tmp 200) rfl (K.dep 3 200 rfl)
            · exact st_move (.tmp 3) rfl ((K.old 3 rfl).trans x3)
            · exact st_call 14 (.func 14) _ _ #[.pointer (some ⟨g3, 0, none⟩)] rfl rfl (one_arg (K.dep 5 202 rfl)) Tryd.enter14 (fk_of (left_any hx _ h38 hl8 (Ob.below m3 K.grow)))
            · exact st_move (.tmp 5) rfl ((K.old 5 rfl).trans x5)
            · exact st_lenc (.tmp 204) rfl (2 ^ ht) (seg_len _ _ _) (fk_val (K.dep 7 204 rfl) (ow_hc (Fk.mono _ _ _ _ q5 K.grow)))
            · exact st_move (.tmp 7) rfl ((K.old 7 rfl).trans x7)
            · exact st_sub (.tmp 205) (.tmp 206) rfl (2 ^ ht) ((nxt nx ht k) + 1) ((2 ^ ht) - ((nxt nx ht k) + 1)) (K.dep 8 205 rfl) (K.dep 9 206 rfl) (by omega) (by omega)
            · exact st_neqi 3 (.tmp 203) (.tmp 207) rfl .i64 (((2 ^ ht - (nxt nx ht k + 1) : Nat) : Int)) ((((2 ^ ht) - ((nxt nx ht k) + 1) : Nat) : Int)) (K.dep 6 203 rfl) (K.dep 10 207 rfl) _ (by simp)
            · exact st_pick_f' (.tmp 201) (.const (.bool true)) (.tmp 208) rfl (K.dep 4 201 rfl) (K.dep 11 208 rfl)
            · exact st_move (.tmp 209) rfl (K.dep 12 209 rfl)
            · exact st_move (.tmp 3) rfl ((K.old 3 rfl).trans x3)
            · exact st_call 11 (.func 11) _ _ #[.pointer (some ⟨g3, 0, none⟩)] rfl rfl (one_arg (K.dep 14 211 rfl)) Tryd.enter11 (fk_of (public_key hx h1 h2 h38 _ (Ob.below m3 K.grow) (hK.below (bl.trans (Below.mono K.grow bl.size))) ey))
            · exact st_load23 (.tmp 6) rfl (g6) (y) ((K.old 6 rfl).trans x6) hy (Ob.below m6 K.grow)
            · exact st_neqh (.tmp 212) (.tmp 213) rfl (y) (y) hy hy (K.dep 15 212 rfl) (K.dep 16 213 rfl) _ (by simp)
            · exact st_pick_f' (.tmp 210) (.const (.bool true)) (.tmp 214) rfl (K.dep 13 210 rfl) (K.dep 17 214 rfl)
            intro f33 w33 A hb
            replace bl0 := bl
            replace x1 := (A.old 1 rfl).trans x1
            replace x2 := (A.old 2 rfl).trans x2
            replace x22 := (A.old 22 rfl).trans x22
            replace x3 := (A.old 3 rfl).trans x3
            replace x4 := (A.old 4 rfl).trans x4
            replace x61 := (A.old 61 rfl).trans x61
            replace x76 := (A.old 76 rfl).trans x76
            replace x5 := (A.old 5 rfl).trans x5
            replace x6 := (A.old 6 rfl).trans x6
            replace x89 := (A.old 89 rfl).trans x89
            replace x93 := (A.old 93 rfl).trans x93
            replace x94 := (A.old 94 rfl).trans x94
            replace x95 := (A.old 95 rfl).trans x95
            replace x96 := (A.old 96 rfl).trans x96
            replace x9 := (A.old 9 rfl).trans x9
            replace x101 := (A.old 101 rfl).trans x101
            replace x10 := (A.old 10 rfl).trans x10
            replace x11 := (A.old 11 rfl).trans x11
            replace x112 := (A.old 112 rfl).trans x112
            replace x143 := (A.old 143 rfl).trans x143
            replace x194 := (A.old 194 rfl).trans x194
            replace x7 := (A.old 7 rfl).trans x7
            have x215 : f33.eval (.tmp 215) = .bool false := A.has 18 215 rfl
            have lt_m1 := Ob.lt m1
            replace m1 := Ob.below m1 hb
            have lt_m3 := Ob.lt m3
            replace m3 := Ob.below m3 hb
            have lt_m6 := Ob.lt m6
            replace m6 := Ob.below m6 hb
            have lt_m10 := Ob.lt m10
            replace m10 := Ob.below m10 hb
            replace q5 := Fk.mono _ _ _ _ q5 hb
            replace v106a := Fk.mono _ _ _ _ v106a hb
            replace v106b := Fk.mono _ _ _ _ v106b hb
            replace bl := (bl.trans (Below.mono hb bl.size))
            replace sz := A.size.trans sz
            replace df := A.defs.trans df
            clear A hb
            show Code.wp _ _ _ _ _
            refine wp_cond_false x215 ?_
            refine wp_skip ?_
            show Code.wp _ _ _ _ _
            -- R30
            refine wp_region_seq [.eq (.int .i64 ((k + 1 : Nat) : Int))] (by kernel_rfl) (by kernel_rfl) (by rw [sz]; kernel_rfl) (by kernel_rfl) ⟨fun hw ac u K => ?_, trivial⟩ ?_
            · exact st_add (.tmp 95) (.const (.int .i64 1)) rfl (k) (1) (k + 1) ((K.old 95 rfl).trans x95) rfl (by omega) (by omega)
            intro f34 w34 A hb
            replace bl0 := bl
            replace x1 := (A.old 1 rfl).trans x1
            replace x2 := (A.old 2 rfl).trans x2
            replace x22 := (A.old 22 rfl).trans x22
            replace x3 := (A.old 3 rfl).trans x3
            replace x4 := (A.old 4 rfl).trans x4
            replace x61 := (A.old 61 rfl).trans x61
            replace x76 := (A.old 76 rfl).trans x76
            replace x5 := (A.old 5 rfl).trans x5
            replace x6 := (A.old 6 rfl).trans x6
            replace x89 := (A.old 89 rfl).trans x89
            replace x93 := (A.old 93 rfl).trans x93
            replace x94 := (A.old 94 rfl).trans x94
            replace x95 := (A.old 95 rfl).trans x95
            replace x96 := (A.old 96 rfl).trans x96
            replace x9 := (A.old 9 rfl).trans x9
            replace x101 := (A.old 101 rfl).trans x101
            replace x10 := (A.old 10 rfl).trans x10
            replace x11 := (A.old 11 rfl).trans x11
            replace x112 := (A.old 112 rfl).trans x112
            replace x143 := (A.old 143 rfl).trans x143
            replace x194 := (A.old 194 rfl).trans x194
            replace x7 := (A.old 7 rfl).trans x7
            replace x215 := (A.old 215 rfl).trans x215
            have x216 : f34.eval (.tmp 216) = .int .i64 ((k + 1 : Nat) : Int) := A.has 0 216 rfl
            have lt_m1 := Ob.lt m1
            replace m1 := Ob.below m1 hb
            have lt_m3 := Ob.lt m3
            replace m3 := Ob.below m3 hb
            have lt_m6 := Ob.lt m6
            replace m6 := Ob.below m6 hb
            have lt_m10 := Ob.lt m10
            replace m10 := Ob.below m10 hb
            replace q5 := Fk.mono _ _ _ _ q5 hb
            replace v106a := Fk.mono _ _ _ _ v106a hb
            replace v106b := Fk.mono _ _ _ _ v106b hb
            replace bl := (bl.trans (Below.mono hb bl.size))
            replace sz := A.size.trans sz
            replace df := A.defs.trans df
            clear A hb
            refine wl_one (.eq (.int .i64 ((k + 1 : Nat) : Int))) rfl 95 rfl (by rw [sz]; decide) (st_move (.tmp 216) rfl x216) ?_
            intro f35 w35 df2 sz2 old2 new2 hb
            replace bl0 := bl
            replace x1 := (old2 1 rfl).trans x1
            replace x2 := (old2 2 rfl).trans x2
            replace x22 := (old2 22 rfl).trans x22
            replace x3 := (old2 3 rfl).trans x3
            replace x4 := (old2 4 rfl).trans x4
            replace x61 := (old2 61 rfl).trans x61
            replace x76 := (old2 76 rfl).trans x76
            replace x5 := (old2 5 rfl).trans x5
            replace x6 := (old2 6 rfl).trans x6
            replace x89 := (old2 89 rfl).trans x89
            replace x93 := (old2 93 rfl).trans x93
            replace x94 := (old2 94 rfl).trans x94
            clear x95
            replace x96 := (old2 96 rfl).trans x96
            replace x9 := (old2 9 rfl).trans x9
            replace x101 := (old2 101 rfl).trans x101
            replace x10 := (old2 10 rfl).trans x10
            replace x11 := (old2 11 rfl).trans x11
            replace x112 := (old2 112 rfl).trans x112
            replace x143 := (old2 143 rfl).trans x143
            replace x194 := (old2 194 rfl).trans x194
            replace x7 := (old2 7 rfl).trans x7
            replace x215 := (old2 215 rfl).trans x215
            replace x216 := (old2 216 rfl).trans x216
            have x95 : f35.eval (.tmp 95) = .int .i64 ((k + 1 : Nat) : Int) := new2
            have lt_m1 := Ob.lt m1
            replace m1 := Ob.below m1 hb
            have lt_m3 := Ob.lt m3
            replace m3 := Ob.below m3 hb
            have lt_m6 := Ob.lt m6
            replace m6 := Ob.below m6 hb
            have lt_m10 := Ob.lt m10
            replace m10 := Ob.below m10 hb
            replace q5 := Fk.mono _ _ _ _ q5 hb
            replace v106a := Fk.mono _ _ _ _ v106a hb
            replace v106b := Fk.mono _ _ _ _ v106b hb
            replace bl := (bl.trans (Below.mono hb bl.size))
            replace sz := sz2.trans sz
            replace df := df2.trans df
            clear df2 sz2 old2 new2 hb
            refine wpList_nil ?_
            clear x216
            show (∃ _, _) ∧ _
            replace x7 : Fk.f (.eq (.int .i64 ((nxt nx ht (k + 1) : Nat) : Int))) (f35.eval (.tmp 7)) w35 := (by rw [hstep]; exact x7)
            refine ⟨⟨k + 1, by omega, sz, df, x1, x2, x22, x3, x4, x61, x76, x5, x6, x89, x93, x94, x95, x7, m1, (by rw [hstep]; exact m3), m6, q5, bl⟩, ?_⟩
            rw [show f35.eval (.tmp 95) = _ from x95, show _ = _ from hcnt]
            simp [intOf]
            omega
          have eS1 := sgp_one hkd eS
          -- R22
          refine wp_all [.eq (.pointer (some ⟨g1, 0, none⟩)), .eq (.agg ((seed).map V).toArray), .eq (.int .i64 ((nxt nx ht k : Nat) : Int)), .eq (.slice p.sp p.m p.c), .eq (.agg ((h).map V).toArray), .t2 (.hn w.heap.size (S)) (.int .i64 0), .t2 (.hn w.heap.size (S)) (.int .i64 0), .hn w.heap.size (S), .eq (.int .i64 0), .hn w.heap.size (S), .eq (.int .i64 0)] Tryd.mixed (by kernel_rfl) (by kernel_rfl) (by rw [sz]; kernel_rfl) (by kernel_rfl) ⟨fun hw ac u K => ?_, fun hw ac u K => ?_, fun hw ac u K => ?_, fun hw ac u K => ?_, fun hw ac u K => ?_, fun hw ac u K => ?_, fun hw ac u K => ?_, fun hw ac u K => ?_, fun hw ac u K => ?_, fun hw ac u K => ?_, fun hw ac u K => ?_, trivial⟩ ?_
          · exact st_field 26 0 (.tmp 1) rfl ((K.old 1 rfl).trans x1) (by kernel_rfl)
          · exact st_loadhd (.tmp 133) rfl (g1) (seed) (K.dep 0 133 rfl) hx (Ob.below m1 K.grow)
          · exact st_move (.tmp 7) rfl ((K.old 7 rfl).trans x7)
          · exact st_move (.tmp 9) rfl ((K.old 9 rfl).trans x9)
          · exact st_call 17 (.func 17) _ _ #[.slice p.sp p.m p.c] rfl rfl (one_arg (K.dep 3 136 rfl)) Tryd.enter17 (fk_message hml (hK.below (bl.trans (Below.mono K.grow bl.size))) (Fk.mono _ _ _ _ vp (bl.trans (Below.mono K.grow bl.size))) eh)
          · exact st_call 16 (.func 16) _ _ #[.agg ((seed).map V).toArray, .int .i64 ((nxt nx ht k : Nat) : Int), .agg ((h).map V).toArray] rfl rfl (arg3 (K.dep 1 134 rfl) (K.dep 2 135 rfl) (K.dep 4 137 rfl)) Tryd.enter16 (fk_sign_one hx hh hni (hK.below (bl.trans (Below.mono K.grow bl.size))) (Nat.le_trans bl.size K.grow.size) eS1)
          · exact st_move (.tmp 138) rfl (K.dep 5 138 rfl)
          · exact st_t2a (.tmp 132) rfl (K.dep 6 132 rfl)
          · exact st_t2b (.tmp 132) rfl (K.dep 6 132 rfl)
          · exact st_assign (.tmp 139) rfl (K.dep 7 139 rfl)
          · exact st_assign (.tmp 140) rfl (K.dep 8 140 rfl)
          intro f27 w27 A hb
          replace bl0 := bl
          replace x1 := (A.old 1 rfl).trans x1
          replace x2 := (A.old 2 rfl).trans x2
          replace x22 := (A.old 22 rfl).trans x22
          replace x3 := (A.old 3 rfl).trans x3
          replace x4 := (A.old 4 rfl).trans x4
          replace x61 := (A.old 61 rfl).trans x61
          replace x76 := (A.old 76 rfl).trans x76
          replace x5 := (A.old 5 rfl).trans x5
          replace x6 := (A.old 6 rfl).trans x6
          replace x89 := (A.old 89 rfl).trans x89
          replace x7 := (A.old 7 rfl).trans x7
          replace x93 := (A.old 93 rfl).trans x93
          replace x94 := (A.old 94 rfl).trans x94
          replace x95 := (A.old 95 rfl).trans x95
          replace x96 := (A.old 96 rfl).trans x96
          replace x9 := (A.old 9 rfl).trans x9
          replace x101 := (A.old 101 rfl).trans x101
          replace x10 := (A.old 10 rfl).trans x10
          replace x11 := (A.old 11 rfl).trans x11
          replace x112 := (A.old 112 rfl).trans x112
          have x12 : Fk.f (.hn w.heap.size (S)) (f27.eval (.tmp 12)) w27 := A.has 9 12 rfl
          have lt_m1 := Ob.lt m1
          replace m1 := Ob.below m1 hb
          have lt_m3 := Ob.lt m3
          replace m3 := Ob.below m3 hb
          have lt_m6 := Ob.lt m6
          replace m6 := Ob.below m6 hb
          have lt_m10 := Ob.lt m10
          replace m10 := Ob.below m10 hb
          replace q5 := Fk.mono _ _ _ _ q5 hb
          replace v106a := Fk.mono _ _ _ _ v106a hb
          replace v106b := Fk.mono _ _ _ _ v106b hb
          replace bl := (bl.trans (Below.mono hb bl.size))
          replace sz := A.size.trans sz
          replace df := A.defs.trans df
          clear A hb
          show Code.wp _ _ _ _ _
          refine wp_seq ?_
          refine wp_seq ?_
          -- R23
          refine wp_all_seq [.eq (.pointer (some ⟨g1, 32, none⟩)), .eq (.int .i64 ((kd : Nat) : Int)), .eq (.bool false)] (by kernel_rfl) (by kernel_rfl) (by rw [sz]; kernel_rfl) (by kernel_rfl) ⟨fun hw ac u K => ?_, fun hw ac u K => ?_, fun hw ac u K => ?_, trivial⟩ ?_
          · exact st_field 26 1 (.tmp 1) rfl ((K.old 1 rfl).trans x1) (by kernel_rfl)
          · exact st_loadc 3 (.tmp 141) rfl (by kernel_rfl) (K.dep 0 141 rfl) (Ob.cell (Ob.below m1 K.grow) 32 ((at_head hx 0 _).trans rfl))
          · exact st_eqi 3 (.tmp 142) (.const (.int .i64 2)) rfl .i64 (((kd : Nat) : Int)) (2) (K.dep 1 142 rfl) rfl _ (by simp [hkd])
          intro f28 w28 A hb
          replace bl0 := bl
          replace x1 := (A.old 1 rfl).trans x1
          replace x2 := (A.old 2 rfl).trans x2
          replace x22 := (A.old 22 rfl).trans x22
          replace x3 := (A.old 3 rfl).trans x3
          replace x4 := (A.old 4 rfl).trans x4
          replace x61 := (A.old 61 rfl).trans x61
          replace x76 := (A.old 76 rfl).trans x76
          replace x5 := (A.old 5 rfl).trans x5
          replace x6 := (A.old 6 rfl).trans x6
          replace x89 := (A.old 89 rfl).trans x89
          replace x7 := (A.old 7 rfl).trans x7
          replace x93 := (A.old 93 rfl).trans x93
          replace x94 := (A.old 94 rfl).trans x94
          replace x95 := (A.old 95 rfl).trans x95
          replace x96 := (A.old 96 rfl).trans x96
          replace x9 := (A.old 9 rfl).trans x9
          replace x101 := (A.old 101 rfl).trans x101
          replace x10 := (A.old 10 rfl).trans x10
          replace x11 := (A.old 11 rfl).trans x11
          replace x112 := (A.old 112 rfl).trans x112
          replace x12 := f_at (A.old 12 rfl) (Fk.mono _ _ _ _ x12 hb)
          have x143 : f28.eval (.tmp 143) = .bool false := A.has 2 143 rfl
          have lt_m1 := Ob.lt m1
          replace m1 := Ob.below m1 hb
          have lt_m3 := Ob.lt m3
          replace m3 := Ob.below m3 hb
          have lt_m6 := Ob.lt m6
          replace m6 := Ob.below m6 hb
          have lt_m10 := Ob.lt m10
          replace m10 := Ob.below m10 hb
          replace q5 := Fk.mono _ _ _ _ q5 hb
          replace v106a := Fk.mono _ _ _ _ v106a hb
          replace v106b := Fk.mono _ _ _ _ v106b hb
          replace bl := (bl.trans (Below.mono hb bl.size))
          replace sz := A.size.trans sz
          replace df := A.defs.trans df
          clear A hb
          show Code.wp _ _ _ _ _
          refine wp_cond_false x143 ?_
          refine wp_skip ?_
          show Code.wp _ _ _ _ _
          refine wp_seq ?_
          refine wp_seq ?_
          -- R25
          refine wp_all [.eq (.int .i64 0), .eq (.bool false), .eq (.bool false), .eq (.pointer (some ⟨g10, 0, none⟩)), .eq (.int .i64 ((kd : Nat) : Int)), .eq (.pointer (some ⟨g1, 32, none⟩)), .eq (.int .i64 ((kd : Nat) : Int)), .eq (.bool false), .eq (.bool false), .eq (.bool false), .eq (.pointer (some ⟨g10, 1, none⟩)), .eq (.int .i64 ((nxt nx ht k : Nat) : Int)), .eq (.int .i64 ((nxt nx ht k : Nat) : Int)), .eq (.bool false), .eq (.bool false), .eq (.bool false), .eq (.pointer (some ⟨g10, 2, none⟩)), .eq (.slice sA106 (S).length sC106), .hn w.heap.size (S), .eq (.bool true), .eq (.bool false), .eq (.bool false), .eq (.bool false), .eq (.pointer (some ⟨g10, 3, none⟩)), .eq (.slice pA106 (P).length pC106), .eq (v5), .eq (.int .i64 ((nxt nx ht k : Nat) : Int)), .hs (P), .eq (.bool true), .eq (.bool false), .eq (.bool false), .eq (.bool false), .eq (.agg ((y).map V).toArray), .eq (.pointer (some ⟨g1, 32, none⟩)), .eq (.int .i64 ((kd : Nat) : Int)), .eq (.pointer (some ⟨g1, 33, none⟩)), .eq (.int .i64 ((ht : Nat) : Int)), .eq (.slice p.sp p.m p.c), .eq (.agg ([.int .i64 ((kd : Nat) : Int), .int .i64 ((nxt nx ht k : Nat) : Int), .slice sA106 (S).length sC106, .slice pA106 (P).length pC106] : List Value).toArray), .eq (.int .i64 0), .eq (.bool false), .eq (.bool false)] Tryd.mixed (by kernel_rfl) (by kernel_rfl) (by rw [sz]; kernel_rfl) (by kernel_rfl) ⟨fun hw ac u K => ?_, fun hw ac u K => ?_, fun hw ac u K => ?_, fun hw ac u K => ?_, fun hw ac u K => ?_, fun hw ac u K => ?_, fun hw ac u K => ?_, fun hw ac u K => ?_, fun hw ac u K => ?_, fun hw ac u K => ?_, fun hw ac u K => ?_, fun hw ac u K => ?_, fun hw ac u K => ?_, fun hw ac u K => ?_, fun hw ac u K => ?_, fun hw ac u K => ?_, fun hw ac u K => ?_, fun hw ac u K => ?_, fun hw ac u K => ?_, fun hw ac u K => ?_, fun hw ac u K => ?_, fun hw ac u K => ?_, fun hw ac u K => ?_, fun hw ac u K => ?_, fun hw ac u K => ?_, fun hw ac u K => ?_, fun hw ac u K => ?_, fun hw ac u K => ?_, fun hw ac u K => ?_, fun hw ac u K => ?_, fun hw ac u K => ?_, fun hw ac u K => ?_, fun hw ac u K => ?_, fun hw ac u K => ?_, fun hw ac u K => ?_, fun hw ac u K => ?_, fun hw ac u K => ?_, fun hw ac u K => ?_, fun hw ac u K => ?_, fun hw ac u K => ?_, fun hw ac u K => ?_, fun hw ac u K => ?_, trivial⟩ ?_
          · exact st_move (.tmp 11) rfl ((K.old 11 rfl).trans x11)
          · exact st_neqi 29 (.tmp 153) (.const (.int .i64 0)) rfl .i64 (0) (0) (K.dep 0 153 rfl) rfl _ (by rfl)
          · exact st_move (.tmp 154) rfl (K.dep 1 154 rfl)
          · exact st_field 38 0 (.tmp 10) rfl ((K.old 10 rfl).trans x10) (by kernel_rfl)
          · exact st_loadc 3 (.tmp 156) rfl (by kernel_rfl) (K.dep 3 156 rfl) (Ob.cell (Ob.below m10 K.grow) 0 rfl)
          · exact st_field 26 1 (.tmp 1) rfl ((K.old 1 rfl).trans x1) (by kernel_rfl)
          · exact st_loadc 3 (.tmp 158) rfl (by kernel_rfl) (K.dep 5 158 rfl) (Ob.cell (Ob.below m1 K.grow) 32 ((at_head hx 0 _).trans rfl))
          · exact st_neqi 3 (.tmp 157) (.tmp 159) rfl .i64 (((kd : Nat) : Int)) (((kd : Nat) : Int)) (K.dep 4 157 rfl) (K.dep 6 159 rfl) _ (by simp)
          · exact st_pick_f' (.tmp 155) (.const (.bool true)) (.tmp 160) rfl (K.dep 2 155 rfl) (K.dep 7 160 rfl)
          · exact st_move (.tmp 161) rfl (K.dep 8 161 rfl)
          · exact st_field 38 1 (.tmp 10) rfl ((K.old 10 rfl).trans x10) (by kernel_rfl)
          · exact st_loadc 3 (.tmp 163) rfl (by kernel_rfl) (K.dep 10 163 rfl) (Ob.cell (Ob.below m10 K.grow) 1 rfl)
          · exact st_move (.tmp 7) rfl ((K.old 7 rfl).trans x7)
          · exact st_neqi 3 (.tmp 164) (.tmp 165) rfl .i64 (((nxt nx ht k : Nat) : Int)) (((nxt nx ht k : Nat) : Int)) (K.dep 11 164 rfl) (K.dep 12 165 rfl) _ (by simp)
          · exact st_pick_f' (.tmp 162) (.const (.bool true)) (.tmp 166) rfl (K.dep 9 162 rfl) (K.dep 13 166 rfl)
          · exact st_move (.tmp 167) rfl (K.dep 14 167 rfl)
          · exact st_field 38 2 (.tmp 10) rfl ((K.old 10 rfl).trans x10) (by kernel_rfl)
          · exact st_loadc 32 (.tmp 169) rfl (by kernel_rfl) (K.dep 16 169 rfl) (Ob.cell (Ob.below m10 K.grow) 2 rfl)
          · exact st_move (.tmp 12) rfl (f_at (K.old 12 rfl) (Fk.mono _ _ _ _ x12 K.grow))
          · exact st_call 19 (.func 19) _ _ #[.slice sA106 (S).length sC106, ac.eval (.tmp 171)] rfl rfl (arg2 (K.dep 17 170 rfl) rfl) Tryd.enter19 (fk_of (same_any hSl _ (Fk.mono _ _ _ _ v106a K.grow) (hn_hs (K.dep 18 171 rfl)) true (by simp)))
          · exact st_not (.tmp 172) rfl true (K.dep 19 172 rfl)
          · exact st_pick_f' (.tmp 168) (.const (.bool true)) (.tmp 173) rfl (K.dep 15 168 rfl) (K.dep 20 173 rfl)
          · exact st_move (.tmp 174) rfl (K.dep 21 174 rfl)
          · exact st_field 38 3 (.tmp 10) rfl ((K.old 10 rfl).trans x10) (by kernel_rfl)
          · exact st_loadc 32 (.tmp 176) rfl (by kernel_rfl) (K.dep 23 176 rfl) (Ob.cell (Ob.below m10 K.grow) 3 rfl)
          · exact st_move (.tmp 5) rfl ((K.old 5 rfl).trans x5)
          · exact st_move (.tmp 7) rfl ((K.old 7 rfl).trans x7)
          · exact st_call 20 (.func 20) _ _ #[v5, .int .i64 ((nxt nx ht k : Nat) : Int)] rfl rfl (arg2 (K.dep 25 178 rfl) (K.dep 26 179 rfl)) Tryd.enter20 (lpath_hs ht _ _ _ h3 hl8 (ow_hc (Fk.mono _ _ _ _ q5 K.grow)) (hK.below (bl.trans (Below.mono K.grow bl.size))) eP)
          · exact st_call 19 (.func 19) _ _ #[.slice pA106 (P).length pC106, ac.eval (.tmp 180)] rfl rfl (arg2 (K.dep 24 177 rfl) rfl) Tryd.enter19 (fk_of (same_any hPl _ (Fk.mono _ _ _ _ v106b K.grow) (K.dep 27 180 rfl) true (by simp)))
          · exact st_not (.tmp 181) rfl true (K.dep 28 181 rfl)
          · exact st_pick_f' (.tmp 175) (.const (.bool true)) (.tmp 182) rfl (K.dep 22 175 rfl) (K.dep 29 182 rfl)
          · exact st_move (.tmp 183) rfl (K.dep 30 183 rfl)
          · exact st_load23 (.tmp 6) rfl (g6) (y) ((K.old 6 rfl).trans x6) hy (Ob.below m6 K.grow)
          · exact st_field 26 1 (.tmp 1) rfl ((K.old 1 rfl).trans x1) (by kernel_rfl)
          · exact st_loadc 3 (.tmp 186) rfl (by kernel_rfl) (K.dep 33 186 rfl) (Ob.cell (Ob.below m1 K.grow) 32 ((at_head hx 0 _).trans rfl))
          · exact st_field 26 2 (.tmp 1) rfl ((K.old 1 rfl).trans x1) (by kernel_rfl)
          · exact st_loadc 3 (.tmp 188) rfl (by kernel_rfl) (K.dep 35 188 rfl) (Ob.cell (Ob.below m1 K.grow) 33 ((at_head hx 1 _).trans rfl))
          · exact st_move (.tmp 9) rfl ((K.old 9 rfl).trans x9)
          · exact st_loadz 38 (.tmp 10) rfl (g10) 0 [.int .i64 ((kd : Nat) : Int), .int .i64 ((nxt nx ht k : Nat) : Int), .slice sA106 (S).length sC106, .slice pA106 (P).length pC106] (by kernel_rfl) (by kernel_rfl) ((K.old 10 rfl).trans x10) (Ob.range (Ob.below m10 K.grow) 0 _ (fun j v hj => by simpa using hj))
          · exact st_call 21 (.func 21) _ _ #[.agg ((y).map V).toArray, .int .i64 ((kd : Nat) : Int), .int .i64 ((ht : Nat) : Int), .slice p.sp p.m p.c, .agg ([.int .i64 ((kd : Nat) : Int), .int .i64 ((nxt nx ht k : Nat) : Int), .slice sA106 (S).length sC106, .slice pA106 (P).length pC106] : List Value).toArray] rfl rfl (arg5 (K.dep 32 185 rfl) (K.dep 34 187 rfl) (K.dep 36 189 rfl) (K.dep 37 190 rfl) (K.dep 38 191 rfl)) Tryd.enter21 (fk_of (verify_any h1 h2 h38 _ hl8 hy hPn _ _ hml (Fk.mono _ _ _ _ vp (bl.trans (Below.mono K.grow bl.size))) (hK.below (bl.trans (Below.mono K.grow bl.size))) (Fk.mono _ _ _ _ v106a K.grow) (Fk.mono _ _ _ _ v106b K.grow) eh hSn 0 hvr))
          · exact st_neqi 29 (.tmp 192) (.const (.int .i64 0)) rfl .i64 (0) (0) (K.dep 39 192 rfl) rfl _ (by rfl)
          · exact st_pick_f' (.tmp 184) (.const (.bool true)) (.tmp 193) rfl (K.dep 31 184 rfl) (K.dep 40 193 rfl)
          intro f29 w29 A hb
          replace bl0 := bl
          replace x1 := (A.old 1 rfl).trans x1
          replace x2 := (A.old 2 rfl).trans x2
          replace x22 := (A.old 22 rfl).trans x22
          replace x3 := (A.old 3 rfl).trans x3
          replace x4 := (A.old 4 rfl).trans x4
          replace x61 := (A.old 61 rfl).trans x61
          replace x76 := (A.old 76 rfl).trans x76
          replace x5 := (A.old 5 rfl).trans x5
          replace x6 := (A.old 6 rfl).trans x6
          replace x89 := (A.old 89 rfl).trans x89
          replace x7 := (A.old 7 rfl).trans x7
          replace x93 := (A.old 93 rfl).trans x93
          replace x94 := (A.old 94 rfl).trans x94
          replace x95 := (A.old 95 rfl).trans x95
          replace x96 := (A.old 96 rfl).trans x96
          replace x9 := (A.old 9 rfl).trans x9
          replace x101 := (A.old 101 rfl).trans x101
          replace x10 := (A.old 10 rfl).trans x10
          replace x11 := (A.old 11 rfl).trans x11
          replace x112 := (A.old 112 rfl).trans x112
          replace x12 := f_at (A.old 12 rfl) (Fk.mono _ _ _ _ x12 hb)
          replace x143 := (A.old 143 rfl).trans x143
          have x194 : f29.eval (.tmp 194) = .bool false := A.has 41 194 rfl
          have lt_m1 := Ob.lt m1
          replace m1 := Ob.below m1 hb
          have lt_m3 := Ob.lt m3
          replace m3 := Ob.below m3 hb
          have lt_m6 := Ob.lt m6
          replace m6 := Ob.below m6 hb
          have lt_m10 := Ob.lt m10
          replace m10 := Ob.below m10 hb
          replace q5 := Fk.mono _ _ _ _ q5 hb
          replace v106a := Fk.mono _ _ _ _ v106a hb
          replace v106b := Fk.mono _ _ _ _ v106b hb
          replace bl := (bl.trans (Below.mono hb bl.size))
          replace sz := A.size.trans sz
          replace df := A.defs.trans df
          clear A hb
          clear x12
          show Code.wp _ _ _ _ _
          refine wp_cond_false x194 ?_
          refine wp_skip ?_
          show Code.wp _ _ _ _ _
          refine wp_seq ?_
          -- R27
          refine wp_region_seq [.eq (.int .i64 ((nxt nx ht k : Nat) : Int)), .eq (.int .i64 (((nxt nx ht k) + 1 : Nat) : Int))] (by kernel_rfl) (by kernel_rfl) (by rw [sz]; kernel_rfl) (by kernel_rfl) ⟨fun hw ac u K => ?_, fun hw ac u K => ?_, trivial⟩ ?_
          · exact st_move (.tmp 7) rfl ((K.old 7 rfl).trans x7)
          · exact st_add (.tmp 195) (.const (.int .i64 1)) rfl (nxt nx ht k) (1) ((nxt nx ht k) + 1) (K.dep 0 195 rfl) rfl (by omega) (by omega)
          intro f30 w30 A hb
          replace bl0 := bl
          replace x1 := (A.old 1 rfl).trans x1
          replace x2 := (A.old 2 rfl).trans x2
          replace x22 := (A.old 22 rfl).trans x22
          replace x3 := (A.old 3 rfl).trans x3
          replace x4 := (A.old 4 rfl).trans x4
          replace x61 := (A.old 61 rfl).trans x61
          replace x76 := (A.old 76 rfl).trans x76
          replace x5 := (A.old 5 rfl).trans x5
          replace x6 := (A.old 6 rfl).trans x6
          replace x89 := (A.old 89 rfl).trans x89
          replace x7 := (A.old 7 rfl).trans x7
          replace x93 := (A.old 93 rfl).trans x93
          replace x94 := (A.old 94 rfl).trans x94
          replace x95 := (A.old 95 rfl).trans x95
          replace x96 := (A.old 96 rfl).trans x96
          replace x9 := (A.old 9 rfl).trans x9
          replace x101 := (A.old 101 rfl).trans x101
          replace x10 := (A.old 10 rfl).trans x10
          replace x11 := (A.old 11 rfl).trans x11
          replace x112 := (A.old 112 rfl).trans x112
          replace x143 := (A.old 143 rfl).trans x143
          replace x194 := (A.old 194 rfl).trans x194
          have x196 : f30.eval (.tmp 196) = .int .i64 (((nxt nx ht k) + 1 : Nat) : Int) := A.has 1 196 rfl
          have lt_m1 := Ob.lt m1
          replace m1 := Ob.below m1 hb
          have lt_m3 := Ob.lt m3
          replace m3 := Ob.below m3 hb
          have lt_m6 := Ob.lt m6
          replace m6 := Ob.below m6 hb
          have lt_m10 := Ob.lt m10
          replace m10 := Ob.below m10 hb
          replace q5 := Fk.mono _ _ _ _ q5 hb
          replace v106a := Fk.mono _ _ _ _ v106a hb
          replace v106b := Fk.mono _ _ _ _ v106b hb
          replace bl := (bl.trans (Below.mono hb bl.size))
          replace sz := A.size.trans sz
          replace df := A.defs.trans df
          clear A hb
          refine wl_one (.eq (.int .i64 (((nxt nx ht k) + 1 : Nat) : Int))) rfl 7 rfl (by rw [sz]; decide) (st_assign (.tmp 196) rfl x196) ?_
          intro f31 w31 df2 sz2 old2 new2 hb
          replace bl0 := bl
          replace x1 := (old2 1 rfl).trans x1
          replace x2 := (old2 2 rfl).trans x2
          replace x22 := (old2 22 rfl).trans x22
          replace x3 := (old2 3 rfl).trans x3
          replace x4 := (old2 4 rfl).trans x4
          replace x61 := (old2 61 rfl).trans x61
          replace x76 := (old2 76 rfl).trans x76
          replace x5 := (old2 5 rfl).trans x5
          replace x6 := (old2 6 rfl).trans x6
          replace x89 := (old2 89 rfl).trans x89
          clear x7
          replace x93 := (old2 93 rfl).trans x93
          replace x94 := (old2 94 rfl).trans x94
          replace x95 := (old2 95 rfl).trans x95
          replace x96 := (old2 96 rfl).trans x96
          replace x9 := (old2 9 rfl).trans x9
          replace x101 := (old2 101 rfl).trans x101
          replace x10 := (old2 10 rfl).trans x10
          replace x11 := (old2 11 rfl).trans x11
          replace x112 := (old2 112 rfl).trans x112
          replace x143 := (old2 143 rfl).trans x143
          replace x194 := (old2 194 rfl).trans x194
          replace x196 := (old2 196 rfl).trans x196
          have x7 : f31.eval (.tmp 7) = .int .i64 (((nxt nx ht k) + 1 : Nat) : Int) := new2
          have lt_m1 := Ob.lt m1
          replace m1 := Ob.below m1 hb
          have lt_m3 := Ob.lt m3
          replace m3 := Ob.below m3 hb
          have lt_m6 := Ob.lt m6
          replace m6 := Ob.below m6 hb
          have lt_m10 := Ob.lt m10
          replace m10 := Ob.below m10 hb
          replace q5 := Fk.mono _ _ _ _ q5 hb
          replace v106a := Fk.mono _ _ _ _ v106a hb
          replace v106b := Fk.mono _ _ _ _ v106b hb
          replace bl := (bl.trans (Below.mono hb bl.size))
          replace sz := sz2.trans sz
          replace df := df2.trans df
          clear df2 sz2 old2 new2 hb
          refine wpList_nil ?_
          clear x196
          show Code.wp _ _ _ _ _
          refine wp_seq ?_
          -- R28
          refine wp_all [.eq (.pointer (some ⟨g3, 0, none⟩)), .eq (.int .i64 ((nxt nx ht k + 1 : Nat) : Int)), .eq (.int .i64 (((nxt nx ht k) + 1 : Nat) : Int)), .eq (.bool false), .eq (.bool false), .eq (.pointer (some ⟨g3, 0, none⟩)), .eq (.int .i64 ((2 ^ ht - (nxt nx ht k + 1) : Nat) : Int)), .eq (v5), .eq (.int .i64 ((2 ^ ht : Nat) : Int)), .eq (.int .i64 (((nxt nx ht k) + 1 : Nat) : Int)), .eq (.int .i64 (((2 ^ ht) - ((nxt nx ht k) + 1) : Nat) : Int)), .eq (.bool false), .eq (.bool false), .eq (.bool false), .eq (.pointer (some ⟨g3, 0, none⟩)), .eq (.agg ((y).map V).toArray), .eq (.agg ((y).map V).toArray), .eq (.bool false), .eq (.bool false)] Tryd.mixed (by kernel_rfl) (by kernel_rfl) (by rw [sz]; kernel_rfl) (by kernel_rfl) ⟨fun hw ac u K => ?_, fun hw ac u K => ?_, fun hw ac u K => ?_, fun hw ac u K => ?_, fun hw ac u K => ?_, fun hw ac u K => ?_, fun hw ac u K => ?_, fun hw ac u K => ?_, fun hw ac u K => ?_, fun hw ac u K => ?_, fun hw ac u K => ?_, fun hw ac u K => ?_, fun hw ac u K => ?_, fun hw ac u K => ?_, fun hw ac u K => ?_, fun hw ac u K => ?_, fun hw ac u K => ?_, fun hw ac u K => ?_, fun hw ac u K => ?_, trivial⟩ ?_
          · exact st_move (.tmp 3) rfl ((K.old 3 rfl).trans x3)
          · exact st_call 15 (.func 15) _ _ #[.pointer (some ⟨g3, 0, none⟩)] rfl rfl (one_arg (K.dep 0 197 rfl)) Tryd.enter15 (fk_of (next_any hx _ (Ob.below m3 K.grow)))
          · exact st_move (.tmp 7) rfl ((K.old 7 rfl).trans x7)
          · exact st_neqi 3 (.tmp 198) (.tmp 199) rfl .i64 (((nxt nx ht k + 1 : Nat) : Int)) ((((nxt nx ht k) + 1 : Nat) : Int)) (K.dep 1 198 rfl) (K.dep 2 199 rfl) _ (by simp)
          · exact st_move (.tmp 200) rfl (K.dep 3 200 rfl)
          · exact st_move (.tmp 3) rfl ((K.old 3 rfl).trans x3)
          · exact st_call 14 (.func 14) _ _ #[.pointer (some ⟨g3, 0, none⟩)] rfl rfl (one_arg (K.dep 5 202 rfl)) Tryd.enter14 (fk_of (left_any hx _ h38 hl8 (Ob.below m3 K.grow)))
          · exact st_move (.tmp 5) rfl ((K.old 5 rfl).trans x5)
          · exact st_lenc (.tmp 204) rfl (2 ^ ht) (seg_len _ _ _) (fk_val (K.dep 7 204 rfl) (ow_hc (Fk.mono _ _ _ _ q5 K.grow)))
          · exact st_move (.tmp 7) rfl ((K.old 7 rfl).trans x7)
          · exact st_sub (.tmp 205) (.tmp 206) rfl (2 ^ ht) ((nxt nx ht k) + 1) ((2 ^ ht) - ((nxt nx ht k) + 1)) (K.dep 8 205 rfl) (K.dep 9 206 rfl) (by omega) (by omega)
          · exact st_neqi 3 (.tmp 203) (.tmp 207) rfl .i64 (((2 ^ ht - (nxt nx ht k + 1) : Nat) : Int)) ((((2 ^ ht) - ((nxt nx ht k) + 1) : Nat) : Int)) (K.dep 6 203 rfl) (K.dep 10 207 rfl) _ (by simp)
          · exact st_pick_f' (.tmp 201) (.const (.bool true)) (.tmp 208) rfl (K.dep 4 201 rfl) (K.dep 11 208 rfl)
          · exact st_move (.tmp 209) rfl (K.dep 12 209 rfl)
          · exact st_move (.tmp 3) rfl ((K.old 3 rfl).trans x3)
          · exact st_call 11 (.func 11) _ _ #[.pointer (some ⟨g3, 0, none⟩)] rfl rfl (one_arg (K.dep 14 211 rfl)) Tryd.enter11 (fk_of (public_key hx h1 h2 h38 _ (Ob.below m3 K.grow) (hK.below (bl.trans (Below.mono K.grow bl.size))) ey))
          · exact st_load23 (.tmp 6) rfl (g6) (y) ((K.old 6 rfl).trans x6) hy (Ob.below m6 K.grow)
          · exact st_neqh (.tmp 212) (.tmp 213) rfl (y) (y) hy hy (K.dep 15 212 rfl) (K.dep 16 213 rfl) _ (by simp)
          · exact st_pick_f' (.tmp 210) (.const (.bool true)) (.tmp 214) rfl (K.dep 13 210 rfl) (K.dep 17 214 rfl)
          intro f32 w32 A hb
          replace bl0 := bl
          replace x1 := (A.old 1 rfl).trans x1
          replace x2 := (A.old 2 rfl).trans x2
          replace x22 := (A.old 22 rfl).trans x22
          replace x3 := (A.old 3 rfl).trans x3
          replace x4 := (A.old 4 rfl).trans x4
          replace x61 := (A.old 61 rfl).trans x61
          replace x76 := (A.old 76 rfl).trans x76
          replace x5 := (A.old 5 rfl).trans x5
          replace x6 := (A.old 6 rfl).trans x6
          replace x89 := (A.old 89 rfl).trans x89
          replace x93 := (A.old 93 rfl).trans x93
          replace x94 := (A.old 94 rfl).trans x94
          replace x95 := (A.old 95 rfl).trans x95
          replace x96 := (A.old 96 rfl).trans x96
          replace x9 := (A.old 9 rfl).trans x9
          replace x101 := (A.old 101 rfl).trans x101
          replace x10 := (A.old 10 rfl).trans x10
          replace x11 := (A.old 11 rfl).trans x11
          replace x112 := (A.old 112 rfl).trans x112
          replace x143 := (A.old 143 rfl).trans x143
          replace x194 := (A.old 194 rfl).trans x194
          replace x7 := (A.old 7 rfl).trans x7
          have x215 : f32.eval (.tmp 215) = .bool false := A.has 18 215 rfl
          have lt_m1 := Ob.lt m1
          replace m1 := Ob.below m1 hb
          have lt_m3 := Ob.lt m3
          replace m3 := Ob.below m3 hb
          have lt_m6 := Ob.lt m6
          replace m6 := Ob.below m6 hb
          have lt_m10 := Ob.lt m10
          replace m10 := Ob.below m10 hb
          replace q5 := Fk.mono _ _ _ _ q5 hb
          replace v106a := Fk.mono _ _ _ _ v106a hb
          replace v106b := Fk.mono _ _ _ _ v106b hb
          replace bl := (bl.trans (Below.mono hb bl.size))
          replace sz := A.size.trans sz
          replace df := A.defs.trans df
          clear A hb
          show Code.wp _ _ _ _ _
          refine wp_cond_false x215 ?_
          refine wp_skip ?_
          show Code.wp _ _ _ _ _
          -- R30
          refine wp_region_seq [.eq (.int .i64 ((k + 1 : Nat) : Int))] (by kernel_rfl) (by kernel_rfl) (by rw [sz]; kernel_rfl) (by kernel_rfl) ⟨fun hw ac u K => ?_, trivial⟩ ?_
          · exact st_add (.tmp 95) (.const (.int .i64 1)) rfl (k) (1) (k + 1) ((K.old 95 rfl).trans x95) rfl (by omega) (by omega)
          intro f33 w33 A hb
          replace bl0 := bl
          replace x1 := (A.old 1 rfl).trans x1
          replace x2 := (A.old 2 rfl).trans x2
          replace x22 := (A.old 22 rfl).trans x22
          replace x3 := (A.old 3 rfl).trans x3
          replace x4 := (A.old 4 rfl).trans x4
          replace x61 := (A.old 61 rfl).trans x61
          replace x76 := (A.old 76 rfl).trans x76
          replace x5 := (A.old 5 rfl).trans x5
          replace x6 := (A.old 6 rfl).trans x6
          replace x89 := (A.old 89 rfl).trans x89
          replace x93 := (A.old 93 rfl).trans x93
          replace x94 := (A.old 94 rfl).trans x94
          replace x95 := (A.old 95 rfl).trans x95
          replace x96 := (A.old 96 rfl).trans x96
          replace x9 := (A.old 9 rfl).trans x9
          replace x101 := (A.old 101 rfl).trans x101
          replace x10 := (A.old 10 rfl).trans x10
          replace x11 := (A.old 11 rfl).trans x11
          replace x112 := (A.old 112 rfl).trans x112
          replace x143 := (A.old 143 rfl).trans x143
          replace x194 := (A.old 194 rfl).trans x194
          replace x7 := (A.old 7 rfl).trans x7
          replace x215 := (A.old 215 rfl).trans x215
          have x216 : f33.eval (.tmp 216) = .int .i64 ((k + 1 : Nat) : Int) := A.has 0 216 rfl
          have lt_m1 := Ob.lt m1
          replace m1 := Ob.below m1 hb
          have lt_m3 := Ob.lt m3
          replace m3 := Ob.below m3 hb
          have lt_m6 := Ob.lt m6
          replace m6 := Ob.below m6 hb
          have lt_m10 := Ob.lt m10
          replace m10 := Ob.below m10 hb
          replace q5 := Fk.mono _ _ _ _ q5 hb
          replace v106a := Fk.mono _ _ _ _ v106a hb
          replace v106b := Fk.mono _ _ _ _ v106b hb
          replace bl := (bl.trans (Below.mono hb bl.size))
          replace sz := A.size.trans sz
          replace df := A.defs.trans df
          clear A hb
          refine wl_one (.eq (.int .i64 ((k + 1 : Nat) : Int))) rfl 95 rfl (by rw [sz]; decide) (st_move (.tmp 216) rfl x216) ?_
          intro f34 w34 df2 sz2 old2 new2 hb
          replace bl0 := bl
          replace x1 := (old2 1 rfl).trans x1
          replace x2 := (old2 2 rfl).trans x2
          replace x22 := (old2 22 rfl).trans x22
          replace x3 := (old2 3 rfl).trans x3
          replace x4 := (old2 4 rfl).trans x4
          replace x61 := (old2 61 rfl).trans x61
          replace x76 := (old2 76 rfl).trans x76
          replace x5 := (old2 5 rfl).trans x5
          replace x6 := (old2 6 rfl).trans x6
          replace x89 := (old2 89 rfl).trans x89
          replace x93 := (old2 93 rfl).trans x93
          replace x94 := (old2 94 rfl).trans x94
          clear x95
          replace x96 := (old2 96 rfl).trans x96
          replace x9 := (old2 9 rfl).trans x9
          replace x101 := (old2 101 rfl).trans x101
          replace x10 := (old2 10 rfl).trans x10
          replace x11 := (old2 11 rfl).trans x11
          replace x112 := (old2 112 rfl).trans x112
          replace x143 := (old2 143 rfl).trans x143
          replace x194 := (old2 194 rfl).trans x194
          replace x7 := (old2 7 rfl).trans x7
          replace x215 := (old2 215 rfl).trans x215
          replace x216 := (old2 216 rfl).trans x216
          have x95 : f34.eval (.tmp 95) = .int .i64 ((k + 1 : Nat) : Int) := new2
          have lt_m1 := Ob.lt m1
          replace m1 := Ob.below m1 hb
          have lt_m3 := Ob.lt m3
          replace m3 := Ob.below m3 hb
          have lt_m6 := Ob.lt m6
          replace m6 := Ob.below m6 hb
          have lt_m10 := Ob.lt m10
          replace m10 := Ob.below m10 hb
          replace q5 := Fk.mono _ _ _ _ q5 hb
          replace v106a := Fk.mono _ _ _ _ v106a hb
          replace v106b := Fk.mono _ _ _ _ v106b hb
          replace bl := (bl.trans (Below.mono hb bl.size))
          replace sz := sz2.trans sz
          replace df := df2.trans df
          clear df2 sz2 old2 new2 hb
          refine wpList_nil ?_
          clear x216
          show (∃ _, _) ∧ _
          replace x7 : Fk.f (.eq (.int .i64 ((nxt nx ht (k + 1) : Nat) : Int))) (f34.eval (.tmp 7)) w34 := (by rw [hstep]; exact x7)
          refine ⟨⟨k + 1, by omega, sz, df, x1, x2, x22, x3, x4, x61, x76, x5, x6, x89, x93, x94, x95, x7, m1, (by rw [hstep]; exact m3), m6, q5, bl⟩, ?_⟩
          rw [show f34.eval (.tmp 95) = _ from x95, show _ = _ from hcnt]
          simp [intOf]
          omega
        have hstep := nxt_out hex
        -- R18
        refine wp_region_seq [.eq (.pointer (some ⟨g3, 0, none⟩)), .eq (.slice p.sp p.m p.c), .eq (.tuple #[.agg ([.int .i64 0, .int .i64 0, .slice none 0 0, .slice none 0 0] : List Value).toArray, .int .i64 20]), .eq (.tuple #[.agg ([.int .i64 0, .int .i64 0, .slice none 0 0, .slice none 0 0] : List Value).toArray, .int .i64 20]), .eq (.agg ([.int .i64 0, .int .i64 0, .slice none 0 0, .slice none 0 0] : List Value).toArray), .eq (.int .i64 20), .nw w17.heap.size 38 [.int .i64 0, .int .i64 0, .slice none 0 0, .slice none 0 0]] (by kernel_rfl) (by kernel_rfl) (by rw [sz]; kernel_rfl) (by kernel_rfl) ⟨fun hw ac u K => ?_, fun hw ac u K => ?_, fun hw ac u K => ?_, fun hw ac u K => ?_, fun hw ac u K => ?_, fun hw ac u K => ?_, fun hw ac u K => ?_, trivial⟩ ?_
        · exact st_move (.tmp 3) rfl ((K.old 3 rfl).trans x3)
        · exact st_move (.tmp 9) rfl ((K.old 9 rfl).trans x9)
        · exact st_call 13 (.func 13) _ _ #[.pointer (some ⟨g3, 0, none⟩), .slice p.sp p.m p.c] rfl rfl (arg2 (K.dep 0 104 rfl) (K.dep 1 105 rfl)) Tryd.enter13 (fk_of (sign_out hx h38 hex _ (Ob.below m3 K.grow) _))
        · exact st_move (.tmp 106) rfl (K.dep 2 106 rfl)
        · exact st_ext0 (.tmp 103) rfl (K.dep 3 103 rfl) rfl
        · exact st_ext1 (.tmp 103) rfl (K.dep 3 103 rfl) rfl
        · exact st_alloc 38 rfl _ _ (by kernel_rfl) K.grow.size
        intro f18 w18 A hb
        have S_q5 := q5
        have hbS0 := Below.refl w17.heap.size w17
        have hbS := hb
        replace bl0 := bl
        replace x1 := (A.old 1 rfl).trans x1
        replace x2 := (A.old 2 rfl).trans x2
        replace x22 := (A.old 22 rfl).trans x22
        replace x3 := (A.old 3 rfl).trans x3
        replace x4 := (A.old 4 rfl).trans x4
        replace x61 := (A.old 61 rfl).trans x61
        replace x76 := (A.old 76 rfl).trans x76
        replace x5 := (A.old 5 rfl).trans x5
        replace x6 := (A.old 6 rfl).trans x6
        replace x89 := (A.old 89 rfl).trans x89
        replace x7 := (A.old 7 rfl).trans x7
        replace x93 := (A.old 93 rfl).trans x93
        replace x94 := (A.old 94 rfl).trans x94
        replace x95 := (A.old 95 rfl).trans x95
        replace x96 := (A.old 96 rfl).trans x96
        replace x9 := (A.old 9 rfl).trans x9
        replace x101 := (A.old 101 rfl).trans x101
        have x10 : Fk.f (.nw w17.heap.size 38 [.int .i64 0, .int .i64 0, .slice none 0 0, .slice none 0 0]) (f18.eval (.tmp 10)) w18 := A.has 6 10 rfl
        have x107 : f18.eval (.tmp 107) = .agg ([.int .i64 0, .int .i64 0, .slice none 0 0, .slice none 0 0] : List Value).toArray := A.has 4 107 rfl
        have x108 : f18.eval (.tmp 108) = .int .i64 20 := A.has 5 108 rfl
        have lt_m1 := Ob.lt m1
        replace m1 := Ob.below m1 hb
        have lt_m3 := Ob.lt m3
        replace m3 := Ob.below m3 hb
        have lt_m6 := Ob.lt m6
        replace m6 := Ob.below m6 hb
        replace q5 := Fk.mono _ _ _ _ q5 hb
        replace bl := (bl.trans (Below.mono hb bl.size))
        replace sz := A.size.trans sz
        replace df := A.defs.trans df
        clear A hb
        obtain ⟨g10, hg10, e10, m10⟩ := x10
        have x10 := e10
        clear e10
        have nm1_10 : g1 ≠ g10 := Nat.ne_of_lt (Nat.lt_of_lt_of_le lt_m1 hg10)
        have nm3_10 : g3 ≠ g10 := Nat.ne_of_lt (Nat.lt_of_lt_of_le lt_m3 hg10)
        have nm6_10 : g6 ≠ g10 := Nat.ne_of_lt (Nat.lt_of_lt_of_le lt_m6 hg10)
        have hw10 : w.heap.size ≤ g10 := Nat.le_trans bl0.size hg10
        have hs10 := Nat.le_trans hbS0.size hg10
        refine wl_str rfl 38 (.tmp 10) (.tmp 107) rfl rfl (g10) ([.int .i64 0, .int .i64 0, .slice none 0 0, .slice none 0 0] : List Value).toArray x10 x107 38 _ m10 (by kernel_rfl) (by kernel_rfl) (by kernel_rfl) ?_
        replace m1 : Ob (w18.setRow g10 ([.int .i64 0, .int .i64 0, .slice none 0 0, .slice none 0 0] : List Value).toArray) (g1) 26 ((seed).map V ++ ([.int .i64 ((kd : Nat) : Int), .int .i64 ((ht : Nat) : Int), .int .i64 ((nx : Nat) : Int), .slice mA (ps).length mC] : List Value)) := Ob.setRow_other m1 _ nm1_10
        replace m3 : Ob (w18.setRow g10 ([.int .i64 0, .int .i64 0, .slice none 0 0, .slice none 0 0] : List Value).toArray) (g3) 69 ((seed).map V ++ ([.int .i64 ((kd : Nat) : Int), .int .i64 ((ht : Nat) : Int), .int .i64 ((nxt nx ht k : Nat) : Int)] : List Value)) := Ob.setRow_other m3 _ nm3_10
        replace m6 : Ob (w18.setRow g10 ([.int .i64 0, .int .i64 0, .slice none 0 0, .slice none 0 0] : List Value).toArray) (g6) 23 ((y).map V) := Ob.setRow_other m6 _ nm6_10
        replace m10 : Ob (w18.setRow g10 ([.int .i64 0, .int .i64 0, .slice none 0 0, .slice none 0 0] : List Value).toArray) (g10) 38 ([.int .i64 0, .int .i64 0, .slice none 0 0, .slice none 0 0]) := Ob.setRow m10 ([.int .i64 0, .int .i64 0, .slice none 0 0, .slice none 0 0])
        replace hbS : Below _ _ (w18.setRow g10 ([.int .i64 0, .int .i64 0, .slice none 0 0, .slice none 0 0] : List Value).toArray) := hbS.trans (below_setRow _ _ _ _ hs10)
        replace q5 := Fk.mono _ _ _ _ S_q5 hbS
        replace bl : Below w.heap.size w (w18.setRow g10 ([.int .i64 0, .int .i64 0, .slice none 0 0, .slice none 0 0] : List Value).toArray) := bl.trans (below_setRow _ _ _ _ hw10)
        generalize w18.setRow g10 ([.int .i64 0, .int .i64 0, .slice none 0 0, .slice none 0 0] : List Value).toArray = w19b at bl m1 m3 m6 m10 q5 hbS ⊢
        clear x107
        refine wl_one (.eq (.int .i64 20)) rfl 11 rfl (by rw [sz]; decide) (st_assign (.tmp 108) rfl x108) ?_
        intro f20 w20 df2 sz2 old2 new2 hb
        replace hbS0 := hbS
        replace hbS := hbS.trans (Below.mono hb hbS.size)
        replace bl0 := bl
        replace x1 := (old2 1 rfl).trans x1
        replace x2 := (old2 2 rfl).trans x2
        replace x22 := (old2 22 rfl).trans x22
        replace x3 := (old2 3 rfl).trans x3
        replace x4 := (old2 4 rfl).trans x4
        replace x61 := (old2 61 rfl).trans x61
        replace x76 := (old2 76 rfl).trans x76
        replace x5 := (old2 5 rfl).trans x5
        replace x6 := (old2 6 rfl).trans x6
        replace x89 := (old2 89 rfl).trans x89
        replace x7 := (old2 7 rfl).trans x7
        replace x93 := (old2 93 rfl).trans x93
        replace x94 := (old2 94 rfl).trans x94
        replace x95 := (old2 95 rfl).trans x95
        replace x96 := (old2 96 rfl).trans x96
        replace x9 := (old2 9 rfl).trans x9
        replace x101 := (old2 101 rfl).trans x101
        replace x10 := (old2 10 rfl).trans x10
        replace x108 := (old2 108 rfl).trans x108
        have x11 : f20.eval (.tmp 11) = .int .i64 20 := new2
        have lt_m1 := Ob.lt m1
        replace m1 := Ob.below m1 hb
        have lt_m3 := Ob.lt m3
        replace m3 := Ob.below m3 hb
        have lt_m6 := Ob.lt m6
        replace m6 := Ob.below m6 hb
        have lt_m10 := Ob.lt m10
        replace m10 := Ob.below m10 hb
        replace q5 := Fk.mono _ _ _ _ q5 hb
        replace bl := (bl.trans (Below.mono hb bl.size))
        replace sz := sz2.trans sz
        replace df := df2.trans df
        clear df2 sz2 old2 new2 hb
        refine wpList_nil ?_
        clear hbS hbS0 S_q5
        clear x108
        show Code.wp _ _ _ _ _
        refine wp_seq ?_
        refine wp_seq ?_
        -- R19
        refine wp_all_seq [.eq (.int .i64 ((nxt nx ht k : Nat) : Int)), .eq (v5), .eq (.int .i64 ((2 ^ ht : Nat) : Int)), .eq (.bool true)] (by kernel_rfl) (by kernel_rfl) (by rw [sz]; kernel_rfl) (by kernel_rfl) ⟨fun hw ac u K => ?_, fun hw ac u K => ?_, fun hw ac u K => ?_, fun hw ac u K => ?_, trivial⟩ ?_
        · exact st_move (.tmp 7) rfl ((K.old 7 rfl).trans x7)
        · exact st_move (.tmp 5) rfl ((K.old 5 rfl).trans x5)
        · exact st_lenc (.tmp 110) rfl (2 ^ ht) (seg_len _ _ _) (fk_val (K.dep 1 110 rfl) (ow_hc (Fk.mono _ _ _ _ q5 K.grow)))
        · exact st_eqi 3 (.tmp 109) (.tmp 111) rfl .i64 (((nxt nx ht k : Nat) : Int)) (((2 ^ ht : Nat) : Int)) (K.dep 0 109 rfl) (K.dep 2 111 rfl) _ (by rw [eq_comm, decide_eq_true_iff, hex])
        intro f21 w21 A hb
        replace bl0 := bl
        replace x1 := (A.old 1 rfl).trans x1
        replace x2 := (A.old 2 rfl).trans x2
        replace x22 := (A.old 22 rfl).trans x22
        replace x3 := (A.old 3 rfl).trans x3
        replace x4 := (A.old 4 rfl).trans x4
        replace x61 := (A.old 61 rfl).trans x61
        replace x76 := (A.old 76 rfl).trans x76
        replace x5 := (A.old 5 rfl).trans x5
        replace x6 := (A.old 6 rfl).trans x6
        replace x89 := (A.old 89 rfl).trans x89
        replace x7 := (A.old 7 rfl).trans x7
        replace x93 := (A.old 93 rfl).trans x93
        replace x94 := (A.old 94 rfl).trans x94
        replace x95 := (A.old 95 rfl).trans x95
        replace x96 := (A.old 96 rfl).trans x96
        replace x9 := (A.old 9 rfl).trans x9
        replace x101 := (A.old 101 rfl).trans x101
        replace x10 := (A.old 10 rfl).trans x10
        replace x11 := (A.old 11 rfl).trans x11
        have x112 : f21.eval (.tmp 112) = .bool true := A.has 3 112 rfl
        have lt_m1 := Ob.lt m1
        replace m1 := Ob.below m1 hb
        have lt_m3 := Ob.lt m3
        replace m3 := Ob.below m3 hb
        have lt_m6 := Ob.lt m6
        replace m6 := Ob.below m6 hb
        have lt_m10 := Ob.lt m10
        replace m10 := Ob.below m10 hb
        replace q5 := Fk.mono _ _ _ _ q5 hb
        replace bl := (bl.trans (Below.mono hb bl.size))
        replace sz := A.size.trans sz
        replace df := A.defs.trans df
        clear A hb
        show Code.wp _ _ _ _ _
        refine wp_cond_true x112 ?_
        refine wp_seq ?_
        refine wp_seq ?_
        -- R20
        refine wp_all_seq [.eq (.int .i64 20), .eq (.bool false), .eq (.bool false), .eq (.pointer (some ⟨g10, 2, none⟩)), .eq (.slice none 0 0), .eq (.int .i64 (((([] : List (List (BitVec 8)))).length : Nat) : Int)), .eq (.bool false), .eq (.bool false), .eq (.bool false), .eq (.pointer (some ⟨g3, 0, none⟩)), .eq (.int .i64 ((2 ^ ht - nxt nx ht k : Nat) : Int)), .eq (.bool false), .eq (.bool false), .eq (.bool false), .eq (.pointer (some ⟨g3, 0, none⟩)), .eq (.int .i64 ((nxt nx ht k : Nat) : Int)), .eq (.int .i64 ((nxt nx ht k : Nat) : Int)), .eq (.bool false), .eq (.bool false)] (by kernel_rfl) (by kernel_rfl) (by rw [sz]; kernel_rfl) (by kernel_rfl) ⟨fun hw ac u K => ?_, fun hw ac u K => ?_, fun hw ac u K => ?_, fun hw ac u K => ?_, fun hw ac u K => ?_, fun hw ac u K => ?_, fun hw ac u K => ?_, fun hw ac u K => ?_, fun hw ac u K => ?_, fun hw ac u K => ?_, fun hw ac u K => ?_, fun hw ac u K => ?_, fun hw ac u K => ?_, fun hw ac u K => ?_, fun hw ac u K => ?_, fun hw ac u K => ?_, fun hw ac u K => ?_, fun hw ac u K => ?_, fun hw ac u K => ?_, trivial⟩ ?_
        · exact st_move (.tmp 11) rfl ((K.old 11 rfl).trans x11)
        · exact st_neqi 29 (.tmp 113) (.const (.int .i64 20)) rfl .i64 (20) (20) (K.dep 0 113 rfl) rfl _ (by rfl)
        · exact st_move (.tmp 114) rfl (K.dep 1 114 rfl)
        · exact st_field 38 2 (.tmp 10) rfl ((K.old 10 rfl).trans x10) (by kernel_rfl)
        · exact st_loadc 32 (.tmp 116) rfl (by kernel_rfl) (K.dep 3 116 rfl) (Ob.cell (Ob.below m10 K.grow) 2 rfl)
        · exact st_lenh (.tmp 117) rfl (fk_val (K.dep 4 117 rfl) (Fk.mono _ _ _ _ vnil (bl.trans (Below.mono K.grow bl.size))))
        · exact st_neqi 3 (.tmp 118) (.const (.int .i64 0)) rfl .i64 ((((([] : List (List (BitVec 8)))).length : Nat) : Int)) (0) (K.dep 5 118 rfl) rfl _ (by simp)
        · exact st_pick_f' (.tmp 115) (.const (.bool true)) (.tmp 119) rfl (K.dep 2 115 rfl) (K.dep 6 119 rfl)
        · exact st_move (.tmp 120) rfl (K.dep 7 120 rfl)
        · exact st_move (.tmp 3) rfl ((K.old 3 rfl).trans x3)
        · exact st_call 14 (.func 14) _ _ #[.pointer (some ⟨g3, 0, none⟩)] rfl rfl (one_arg (K.dep 9 122 rfl)) Tryd.enter14 (fk_of (left_any hx _ h38 (nxt_le _ _ _) (Ob.below m3 K.grow)))
        · exact st_neqi 3 (.tmp 123) (.const (.int .i64 0)) rfl .i64 (((2 ^ ht - nxt nx ht k : Nat) : Int)) (0) (K.dep 10 123 rfl) rfl _ (by rw [hex]; simp)
        · exact st_pick_f' (.tmp 121) (.const (.bool true)) (.tmp 124) rfl (K.dep 8 121 rfl) (K.dep 11 124 rfl)
        · exact st_move (.tmp 125) rfl (K.dep 12 125 rfl)
        · exact st_move (.tmp 3) rfl ((K.old 3 rfl).trans x3)
        · exact st_call 15 (.func 15) _ _ #[.pointer (some ⟨g3, 0, none⟩)] rfl rfl (one_arg (K.dep 14 127 rfl)) Tryd.enter15 (fk_of (next_any hx _ (Ob.below m3 K.grow)))
        · exact st_move (.tmp 7) rfl ((K.old 7 rfl).trans x7)
        · exact st_neqi 3 (.tmp 128) (.tmp 129) rfl .i64 (((nxt nx ht k : Nat) : Int)) (((nxt nx ht k : Nat) : Int)) (K.dep 15 128 rfl) (K.dep 16 129 rfl) _ (by simp)
        · exact st_pick_f' (.tmp 126) (.const (.bool true)) (.tmp 130) rfl (K.dep 13 126 rfl) (K.dep 17 130 rfl)
        intro f22 w22 A hb
        replace bl0 := bl
        replace x1 := (A.old 1 rfl).trans x1
        replace x2 := (A.old 2 rfl).trans x2
        replace x22 := (A.old 22 rfl).trans x22
        replace x3 := (A.old 3 rfl).trans x3
        replace x4 := (A.old 4 rfl).trans x4
        replace x61 := (A.old 61 rfl).trans x61
        replace x76 := (A.old 76 rfl).trans x76
        replace x5 := (A.old 5 rfl).trans x5
        replace x6 := (A.old 6 rfl).trans x6
        replace x89 := (A.old 89 rfl).trans x89
        replace x7 := (A.old 7 rfl).trans x7
        replace x93 := (A.old 93 rfl).trans x93
        replace x94 := (A.old 94 rfl).trans x94
        replace x95 := (A.old 95 rfl).trans x95
        replace x96 := (A.old 96 rfl).trans x96
        replace x9 := (A.old 9 rfl).trans x9
        replace x101 := (A.old 101 rfl).trans x101
        replace x10 := (A.old 10 rfl).trans x10
        replace x11 := (A.old 11 rfl).trans x11
        replace x112 := (A.old 112 rfl).trans x112
        have x131 : f22.eval (.tmp 131) = .bool false := A.has 18 131 rfl
        have lt_m1 := Ob.lt m1
        replace m1 := Ob.below m1 hb
        have lt_m3 := Ob.lt m3
        replace m3 := Ob.below m3 hb
        have lt_m6 := Ob.lt m6
        replace m6 := Ob.below m6 hb
        have lt_m10 := Ob.lt m10
        replace m10 := Ob.below m10 hb
        replace q5 := Fk.mono _ _ _ _ q5 hb
        replace bl := (bl.trans (Below.mono hb bl.size))
        replace sz := A.size.trans sz
        replace df := A.defs.trans df
        clear A hb
        show Code.wp _ _ _ _ _
        refine wp_cond_false x131 ?_
        refine wp_skip ?_
        show Code.wp _ _ _ _ _
        refine wp_exit ?_
        show Code.wp _ _ _ _ _
        -- R30
        refine wp_region_seq [.eq (.int .i64 ((k + 1 : Nat) : Int))] (by kernel_rfl) (by kernel_rfl) (by rw [sz]; kernel_rfl) (by kernel_rfl) ⟨fun hw ac u K => ?_, trivial⟩ ?_
        · exact st_add (.tmp 95) (.const (.int .i64 1)) rfl (k) (1) (k + 1) ((K.old 95 rfl).trans x95) rfl (by omega) (by omega)
        intro f23 w23 A hb
        replace bl0 := bl
        replace x1 := (A.old 1 rfl).trans x1
        replace x2 := (A.old 2 rfl).trans x2
        replace x22 := (A.old 22 rfl).trans x22
        replace x3 := (A.old 3 rfl).trans x3
        replace x4 := (A.old 4 rfl).trans x4
        replace x61 := (A.old 61 rfl).trans x61
        replace x76 := (A.old 76 rfl).trans x76
        replace x5 := (A.old 5 rfl).trans x5
        replace x6 := (A.old 6 rfl).trans x6
        replace x89 := (A.old 89 rfl).trans x89
        replace x7 := (A.old 7 rfl).trans x7
        replace x93 := (A.old 93 rfl).trans x93
        replace x94 := (A.old 94 rfl).trans x94
        replace x95 := (A.old 95 rfl).trans x95
        replace x96 := (A.old 96 rfl).trans x96
        replace x9 := (A.old 9 rfl).trans x9
        replace x101 := (A.old 101 rfl).trans x101
        replace x10 := (A.old 10 rfl).trans x10
        replace x11 := (A.old 11 rfl).trans x11
        replace x112 := (A.old 112 rfl).trans x112
        replace x131 := (A.old 131 rfl).trans x131
        have x216 : f23.eval (.tmp 216) = .int .i64 ((k + 1 : Nat) : Int) := A.has 0 216 rfl
        have lt_m1 := Ob.lt m1
        replace m1 := Ob.below m1 hb
        have lt_m3 := Ob.lt m3
        replace m3 := Ob.below m3 hb
        have lt_m6 := Ob.lt m6
        replace m6 := Ob.below m6 hb
        have lt_m10 := Ob.lt m10
        replace m10 := Ob.below m10 hb
        replace q5 := Fk.mono _ _ _ _ q5 hb
        replace bl := (bl.trans (Below.mono hb bl.size))
        replace sz := A.size.trans sz
        replace df := A.defs.trans df
        clear A hb
        refine wl_one (.eq (.int .i64 ((k + 1 : Nat) : Int))) rfl 95 rfl (by rw [sz]; decide) (st_move (.tmp 216) rfl x216) ?_
        intro f24 w24 df2 sz2 old2 new2 hb
        replace bl0 := bl
        replace x1 := (old2 1 rfl).trans x1
        replace x2 := (old2 2 rfl).trans x2
        replace x22 := (old2 22 rfl).trans x22
        replace x3 := (old2 3 rfl).trans x3
        replace x4 := (old2 4 rfl).trans x4
        replace x61 := (old2 61 rfl).trans x61
        replace x76 := (old2 76 rfl).trans x76
        replace x5 := (old2 5 rfl).trans x5
        replace x6 := (old2 6 rfl).trans x6
        replace x89 := (old2 89 rfl).trans x89
        replace x7 := (old2 7 rfl).trans x7
        replace x93 := (old2 93 rfl).trans x93
        replace x94 := (old2 94 rfl).trans x94
        clear x95
        replace x96 := (old2 96 rfl).trans x96
        replace x9 := (old2 9 rfl).trans x9
        replace x101 := (old2 101 rfl).trans x101
        replace x10 := (old2 10 rfl).trans x10
        replace x11 := (old2 11 rfl).trans x11
        replace x112 := (old2 112 rfl).trans x112
        replace x131 := (old2 131 rfl).trans x131
        replace x216 := (old2 216 rfl).trans x216
        have x95 : f24.eval (.tmp 95) = .int .i64 ((k + 1 : Nat) : Int) := new2
        have lt_m1 := Ob.lt m1
        replace m1 := Ob.below m1 hb
        have lt_m3 := Ob.lt m3
        replace m3 := Ob.below m3 hb
        have lt_m6 := Ob.lt m6
        replace m6 := Ob.below m6 hb
        have lt_m10 := Ob.lt m10
        replace m10 := Ob.below m10 hb
        replace q5 := Fk.mono _ _ _ _ q5 hb
        replace bl := (bl.trans (Below.mono hb bl.size))
        replace sz := sz2.trans sz
        replace df := df2.trans df
        clear df2 sz2 old2 new2 hb
        refine wpList_nil ?_
        clear x216
        show (∃ _, _) ∧ _
        replace x7 : Fk.f (.eq (.int .i64 ((nxt nx ht (k + 1) : Nat) : Int))) (f24.eval (.tmp 7)) w24 := (by rw [hstep]; exact x7)
        refine ⟨⟨k + 1, by omega, sz, df, x1, x2, x22, x3, x4, x61, x76, x5, x6, x89, x93, x94, x95, x7, m1, (by rw [hstep]; exact m3), m6, q5, bl⟩, ?_⟩
        rw [show f24.eval (.tmp 95) = _ from x95, show _ = _ from hcnt]
        simp [intOf]
        omega
      -- R16
      refine wp_all_seq [.eq (.slice p.sp p.m p.c), .eq (.int .i64 (((p.bs).length : Nat) : Int)), .eq (.bool true)] (by kernel_rfl) (by kernel_rfl) (by rw [sz]; kernel_rfl) (by kernel_rfl) ⟨fun hw ac u K => ?_, fun hw ac u K => ?_, fun hw ac u K => ?_, trivial⟩ ?_
      · exact st_move (.tmp 9) rfl ((K.old 9 rfl).trans x9)
      · exact st_lenb (.tmp 99) rfl (fk_val (K.dep 0 99 rfl) (Fk.mono _ _ _ _ vp (bl.trans (Below.mono K.grow bl.size))))
      · exact st_gtr 3 (.tmp 100) (.const (.int .i64 200)) rfl .i64 ((((p.bs).length : Nat) : Int)) (200) (K.dep 1 100 rfl) rfl _ (by rw [eq_comm, decide_eq_true_iff]; omega)
      intro f17 w17 A hb
      replace bl0 := bl
      replace x1 := (A.old 1 rfl).trans x1
      replace x2 := (A.old 2 rfl).trans x2
      replace x22 := (A.old 22 rfl).trans x22
      replace x3 := (A.old 3 rfl).trans x3
      replace x4 := (A.old 4 rfl).trans x4
      replace x61 := (A.old 61 rfl).trans x61
      replace x76 := (A.old 76 rfl).trans x76
      replace x5 := (A.old 5 rfl).trans x5
      replace x6 := (A.old 6 rfl).trans x6
      replace x89 := (A.old 89 rfl).trans x89
      replace x7 := (A.old 7 rfl).trans x7
      replace x93 := (A.old 93 rfl).trans x93
      replace x94 := (A.old 94 rfl).trans x94
      replace x95 := (A.old 95 rfl).trans x95
      replace x96 := (A.old 96 rfl).trans x96
      replace x9 := (A.old 9 rfl).trans x9
      have x101 : f17.eval (.tmp 101) = .bool true := A.has 2 101 rfl
      have lt_m1 := Ob.lt m1
      replace m1 := Ob.below m1 hb
      have lt_m3 := Ob.lt m3
      replace m3 := Ob.below m3 hb
      have lt_m6 := Ob.lt m6
      replace m6 := Ob.below m6 hb
      replace q5 := Fk.mono _ _ _ _ q5 hb
      replace bl := (bl.trans (Below.mono hb bl.size))
      replace sz := A.size.trans sz
      replace df := A.defs.trans df
      clear A hb
      show Code.wp _ _ _ _ _
      refine wp_cond_true x101 ?_
      refine wp_seq ?_
      -- R17
      refine wp_all_seq [.eq (.bool true), .eq (.bool true)] (by kernel_rfl) (by kernel_rfl) (by rw [sz]; kernel_rfl) (by kernel_rfl) ⟨fun hw ac u K => ?_, fun hw ac u K => ?_, trivial⟩ ?_
      · exact st_call 8 (.func 8) _ _ #[] rfl rfl rfl Tryd.enter8 (fk_of (awake_any _ (hK.below (bl.trans (Below.mono K.grow bl.size)))))
      · exact st_assign (.tmp 102) rfl (K.dep 0 102 rfl)
      intro f18 w18 A hb
      replace bl0 := bl
      replace x1 := (A.old 1 rfl).trans x1
      clear x2
      replace x22 := (A.old 22 rfl).trans x22
      replace x3 := (A.old 3 rfl).trans x3
      replace x4 := (A.old 4 rfl).trans x4
      replace x61 := (A.old 61 rfl).trans x61
      replace x76 := (A.old 76 rfl).trans x76
      replace x5 := (A.old 5 rfl).trans x5
      replace x6 := (A.old 6 rfl).trans x6
      replace x89 := (A.old 89 rfl).trans x89
      replace x7 := (A.old 7 rfl).trans x7
      replace x93 := (A.old 93 rfl).trans x93
      replace x94 := (A.old 94 rfl).trans x94
      replace x95 := (A.old 95 rfl).trans x95
      replace x96 := (A.old 96 rfl).trans x96
      replace x9 := (A.old 9 rfl).trans x9
      replace x101 := (A.old 101 rfl).trans x101
      have x2 : f18.eval (.tmp 2) = .bool true := A.has 1 2 rfl
      have lt_m1 := Ob.lt m1
      replace m1 := Ob.below m1 hb
      have lt_m3 := Ob.lt m3
      replace m3 := Ob.below m3 hb
      have lt_m6 := Ob.lt m6
      replace m6 := Ob.below m6 hb
      replace q5 := Fk.mono _ _ _ _ q5 hb
      replace bl := (bl.trans (Below.mono hb bl.size))
      replace sz := A.size.trans sz
      replace df := A.defs.trans df
      clear A hb
      show Code.wp _ _ _ _ _
      refine wp_ret ?_
      repeat (first | with_reducible refine then_ret ?_ | with_reducible refine block_ret ?_)
      exact bodyPost_ret (v := .bool true) (ret_slot rfl f18 _ x2 _ _) df ⟨rfl, bl⟩
    -- R3
    refine wp_all_seq [.eq (.pointer (some ⟨g1, 0, none⟩)), .eq (.agg ((seed).map V).toArray), .eq (.pointer (some ⟨g1, 32, none⟩)), .eq (.int .i64 (kind)), .eq (.pointer (some ⟨g1, 33, none⟩)), .eq (.int .i64 (height)), .eq (.pointer (some ⟨g1, 34, none⟩)), .eq (.int .i64 (next)), .eq (.tuple #[.pointer none, .int .i64 11]), .eq (.tuple #[.pointer none, .int .i64 11]), .eq (.pointer none), .eq (.int .i64 11), .eq (.pointer none), .eq (.int .i64 11)] (by kernel_rfl) (by kernel_rfl) (by rw [sz]; kernel_rfl) (by kernel_rfl) ⟨fun hw ac u K => ?_, fun hw ac u K => ?_, fun hw ac u K => ?_, fun hw ac u K => ?_, fun hw ac u K => ?_, fun hw ac u K => ?_, fun hw ac u K => ?_, fun hw ac u K => ?_, fun hw ac u K => ?_, fun hw ac u K => ?_, fun hw ac u K => ?_, fun hw ac u K => ?_, fun hw ac u K => ?_, fun hw ac u K => ?_, trivial⟩ ?_
    · exact st_field 26 0 (.tmp 1) rfl ((K.old 1 rfl).trans x1) (by kernel_rfl)
    · exact st_loadhd (.tmp 25) rfl (g1) (seed) (K.dep 0 25 rfl) hx (Ob.below m1 K.grow)
    · exact st_field 26 1 (.tmp 1) rfl ((K.old 1 rfl).trans x1) (by kernel_rfl)
    · exact st_loadc 3 (.tmp 27) rfl (by kernel_rfl) (K.dep 2 27 rfl) (Ob.cell (Ob.below m1 K.grow) 32 ((at_head hx 0 _).trans rfl))
    · exact st_field 26 2 (.tmp 1) rfl ((K.old 1 rfl).trans x1) (by kernel_rfl)
    · exact st_loadc 3 (.tmp 29) rfl (by kernel_rfl) (K.dep 4 29 rfl) (Ob.cell (Ob.below m1 K.grow) 33 ((at_head hx 1 _).trans rfl))
    · exact st_field 26 3 (.tmp 1) rfl ((K.old 1 rfl).trans x1) (by kernel_rfl)
    · exact st_loadc 3 (.tmp 31) rfl (by kernel_rfl) (K.dep 6 31 rfl) (Ob.cell (Ob.below m1 K.grow) 34 ((at_head hx 2 _).trans rfl))
    · exact st_call 9 (.func 9) _ _ #[.agg ((seed).map V).toArray, .int .i64 (kind), .int .i64 (height), .int .i64 (next)] rfl rfl (arg4 (K.dep 1 26 rfl) (K.dep 3 28 rfl) (K.dep 5 30 rfl) (K.dep 7 32 rfl)) Tryd.enter9 (fk_of (restore_no seed kind height next (by omega) _))
    · exact st_move (.tmp 33) rfl (K.dep 8 33 rfl)
    · exact st_ext0 (.tmp 24) rfl (K.dep 9 24 rfl) rfl
    · exact st_ext1 (.tmp 24) rfl (K.dep 9 24 rfl) rfl
    · exact st_assign (.tmp 34) rfl (K.dep 10 34 rfl)
    · exact st_assign (.tmp 35) rfl (K.dep 11 35 rfl)
    intro f5 w5 A hb
    replace bl0 := bl
    replace x1 := (A.old 1 rfl).trans x1
    replace x2 := (A.old 2 rfl).trans x2
    replace x22 := (A.old 22 rfl).trans x22
    have x3 : f5.eval (.tmp 3) = .pointer none := A.has 12 3 rfl
    have x4 : f5.eval (.tmp 4) = .int .i64 11 := A.has 13 4 rfl
    have lt_m1 := Ob.lt m1
    replace m1 := Ob.below m1 hb
    replace bl := (bl.trans (Below.mono hb bl.size))
    replace sz := A.size.trans sz
    replace df := A.defs.trans df
    clear A hb
    show Code.wp _ _ _ _ _
    refine wp_seq ?_
    refine wp_seq ?_
    have hcs : kind < 1 ∨ (1 ≤ kind ∧ 2 < kind) ∨ (1 ≤ kind ∧ kind ≤ 2 ∧ height < 0) ∨ (1 ≤ kind ∧ kind ≤ 2 ∧ 0 ≤ height ∧ next < 0) ∨ (1 ≤ kind ∧ kind ≤ 2 ∧ 0 ≤ height ∧ 0 ≤ next ∧ ((2 ^ height.toNat : Nat) : Int) < next) := by omega
    clear hv
    rcases hcs with hcs | hcs | hcs | hcs | hcs
    · skip
      -- R4
      refine wp_all [.eq (.pointer (some ⟨g1, 32, none⟩)), .eq (.int .i64 (kind)), .eq (.bool true), .eq (.bool true), .any, .any, .any, .eq (.bool true), .eq (.bool true), .any, .any, .any, .eq (.bool true), .eq (.bool true), .any, .any, .any, .eq (.bool true), .eq (.bool true), .any, .any, .any, .any, .any, .any, .eq (.bool true)] Tryd.mixed (by kernel_rfl) (by kernel_rfl) (by rw [sz]; kernel_rfl) (by kernel_rfl) ⟨fun hw ac u K => ?_, fun hw ac u K => ?_, fun hw ac u K => ?_, fun hw ac u K => ?_, fun hw ac u K => ?_, fun hw ac u K => ?_, fun hw ac u K => ?_, fun hw ac u K => ?_, fun hw ac u K => ?_, fun hw ac u K => ?_, fun hw ac u K => ?_, fun hw ac u K => ?_, fun hw ac u K => ?_, fun hw ac u K => ?_, fun hw ac u K => ?_, fun hw ac u K => ?_, fun hw ac u K => ?_, fun hw ac u K => ?_, fun hw ac u K => ?_, fun hw ac u K => ?_, fun hw ac u K => ?_, fun hw ac u K => ?_, fun hw ac u K => ?_, fun hw ac u K => ?_, fun hw ac u K => ?_, fun hw ac u K => ?_, trivial⟩ ?_
      · exact st_field 26 1 (.tmp 1) rfl ((K.old 1 rfl).trans x1) (by kernel_rfl)
      · exact st_loadc 3 (.tmp 36) rfl (by kernel_rfl) (K.dep 0 36 rfl) (Ob.cell (Ob.below m1 K.grow) 32 ((at_head hx 0 _).trans rfl))
      · exact st_lss 3 (.tmp 37) (.const (.int .i64 1)) rfl .i64 ((kind)) (1) (K.dep 1 37 rfl) rfl _ (by rw [eq_comm, decide_eq_true_iff]; omega)
      · exact st_move (.tmp 38) rfl (K.dep 2 38 rfl)
      · exact (Bool.false_ne_true hw).elim
      · exact (Bool.false_ne_true hw).elim
      · exact (Bool.false_ne_true hw).elim
      · exact st_pick_t (.tmp 39) (.const (.bool true)) (.tmp 42) rfl (K.dep 3 39 rfl) rfl
      · exact st_move (.tmp 43) rfl (K.dep 7 43 rfl)
      · exact (Bool.false_ne_true hw).elim
      · exact (Bool.false_ne_true hw).elim
      · exact (Bool.false_ne_true hw).elim
      · exact st_pick_t (.tmp 44) (.const (.bool true)) (.tmp 47) rfl (K.dep 8 44 rfl) rfl
      · exact st_move (.tmp 48) rfl (K.dep 12 48 rfl)
      · exact (Bool.false_ne_true hw).elim
      · exact (Bool.false_ne_true hw).elim
      · exact (Bool.false_ne_true hw).elim
      · exact st_pick_t (.tmp 49) (.const (.bool true)) (.tmp 52) rfl (K.dep 13 49 rfl) rfl
      · exact st_move (.tmp 53) rfl (K.dep 17 53 rfl)
      · exact (Bool.false_ne_true hw).elim
      · exact (Bool.false_ne_true hw).elim
      · exact (Bool.false_ne_true hw).elim
      · exact (Bool.false_ne_true hw).elim
      · exact (Bool.false_ne_true hw).elim
      · exact (Bool.false_ne_true hw).elim
      · exact st_pick_t (.tmp 54) (.const (.bool true)) (.tmp 60) rfl (K.dep 18 54 rfl) rfl
      intro f6 w6 A hb
      replace bl0 := bl
      replace x1 := (A.old 1 rfl).trans x1
      replace x2 := (A.old 2 rfl).trans x2
      replace x22 := (A.old 22 rfl).trans x22
      replace x3 := (A.old 3 rfl).trans x3
      replace x4 := (A.old 4 rfl).trans x4
      have x61 : f6.eval (.tmp 61) = .bool true := A.has 25 61 rfl
      have lt_m1 := Ob.lt m1
      replace m1 := Ob.below m1 hb
      replace bl := (bl.trans (Below.mono hb bl.size))
      replace sz := A.size.trans sz
      replace df := A.defs.trans df
      clear A hb
      show Code.wp _ _ _ _ _
      refine wp_cond_true x61 ?_
      refine wp_seq ?_
      -- R5
      refine wp_all_seq [.eq (.int .i64 11), .eq (.bool true), .eq (.bool true), .eq (.pointer none), .eq (.bool true), .eq (.bool true), .eq (.bool true), .eq (.bool true), .eq (.bool true), .eq (.bool true)] (by kernel_rfl) (by kernel_rfl) (by rw [sz]; kernel_rfl) (by kernel_rfl) ⟨fun hw ac u K => ?_, fun hw ac u K => ?_, fun hw ac u K => ?_, fun hw ac u K => ?_, fun hw ac u K => ?_, fun hw ac u K => ?_, fun hw ac u K => ?_, fun hw ac u K => ?_, fun hw ac u K => ?_, fun hw ac u K => ?_, trivial⟩ ?_
      · exact st_move (.tmp 4) rfl ((K.old 4 rfl).trans x4)
      · exact st_eqi 29 (.tmp 62) (.const (.int .i64 11)) rfl .i64 (11) (11) (K.dep 0 62 rfl) rfl _ (by rfl)
      · exact st_move (.tmp 63) rfl (K.dep 1 63 rfl)
      · exact st_move (.tmp 3) rfl ((K.old 3 rfl).trans x3)
      · exact st_bin .eql 28 28 (.tmp 65) _ rfl (K.dep 3 65 rfl) rfl (by kernel_rfl)
      · exact st_pick_t (.tmp 64) (.tmp 66) (.const (.bool false)) rfl (K.dep 2 64 rfl) (K.dep 4 66 rfl)
      · exact st_move (.tmp 67) rfl (K.dep 5 67 rfl)
      · exact st_call 8 (.func 8) _ _ #[] rfl rfl rfl Tryd.enter8 (fk_of (awake_any _ (hK.below (bl.trans (Below.mono K.grow bl.size)))))
      · exact st_pick_t (.tmp 68) (.tmp 69) (.const (.bool false)) rfl (K.dep 6 68 rfl) (K.dep 7 69 rfl)
      · exact st_assign (.tmp 70) rfl (K.dep 8 70 rfl)
      intro f7 w7 A hb
      replace bl0 := bl
      replace x1 := (A.old 1 rfl).trans x1
      clear x2
      replace x22 := (A.old 22 rfl).trans x22
      replace x3 := (A.old 3 rfl).trans x3
      replace x4 := (A.old 4 rfl).trans x4
      replace x61 := (A.old 61 rfl).trans x61
      have x2 : f7.eval (.tmp 2) = .bool true := A.has 9 2 rfl
      have lt_m1 := Ob.lt m1
      replace m1 := Ob.below m1 hb
      replace bl := (bl.trans (Below.mono hb bl.size))
      replace sz := A.size.trans sz
      replace df := A.defs.trans df
      clear A hb
      show Code.wp _ _ _ _ _
      refine wp_ret ?_
      repeat (first | with_reducible refine then_ret ?_ | with_reducible refine block_ret ?_)
      exact bodyPost_ret (v := .bool true) (ret_slot rfl f7 _ x2 _ _) df ⟨rfl, bl⟩
    · skip
      -- R4
      refine wp_all [.eq (.pointer (some ⟨g1, 32, none⟩)), .eq (.int .i64 (kind)), .eq (.bool false), .eq (.bool false), .eq (.pointer (some ⟨g1, 32, none⟩)), .eq (.int .i64 (kind)), .eq (.bool true), .eq (.bool true), .eq (.bool true), .any, .any, .any, .eq (.bool true), .eq (.bool true), .any, .any, .any, .eq (.bool true), .eq (.bool true), .any, .any, .any, .any, .any, .any, .eq (.bool true)] Tryd.mixed (by kernel_rfl) (by kernel_rfl) (by rw [sz]; kernel_rfl) (by kernel_rfl) ⟨fun hw ac u K => ?_, fun hw ac u K => ?_, fun hw ac u K => ?_, fun hw ac u K => ?_, fun hw ac u K => ?_, fun hw ac u K => ?_, fun hw ac u K => ?_, fun hw ac u K => ?_, fun hw ac u K => ?_, fun hw ac u K => ?_, fun hw ac u K => ?_, fun hw ac u K => ?_, fun hw ac u K => ?_, fun hw ac u K => ?_, fun hw ac u K => ?_, fun hw ac u K => ?_, fun hw ac u K => ?_, fun hw ac u K => ?_, fun hw ac u K => ?_, fun hw ac u K => ?_, fun hw ac u K => ?_, fun hw ac u K => ?_, fun hw ac u K => ?_, fun hw ac u K => ?_, fun hw ac u K => ?_, fun hw ac u K => ?_, trivial⟩ ?_
      · exact st_field 26 1 (.tmp 1) rfl ((K.old 1 rfl).trans x1) (by kernel_rfl)
      · exact st_loadc 3 (.tmp 36) rfl (by kernel_rfl) (K.dep 0 36 rfl) (Ob.cell (Ob.below m1 K.grow) 32 ((at_head hx 0 _).trans rfl))
      · exact st_lss 3 (.tmp 37) (.const (.int .i64 1)) rfl .i64 ((kind)) (1) (K.dep 1 37 rfl) rfl _ (by rw [eq_comm, decide_eq_false_iff_not]; omega)
      · exact st_move (.tmp 38) rfl (K.dep 2 38 rfl)
      · exact st_field 26 1 (.tmp 1) rfl ((K.old 1 rfl).trans x1) (by kernel_rfl)
      · exact st_loadc 3 (.tmp 40) rfl (by kernel_rfl) (K.dep 4 40 rfl) (Ob.cell (Ob.below m1 K.grow) 32 ((at_head hx 0 _).trans rfl))
      · exact st_gtr 3 (.tmp 41) (.const (.int .i64 2)) rfl .i64 ((kind)) (2) (K.dep 5 41 rfl) rfl _ (by rw [eq_comm, decide_eq_true_iff]; omega)
      · exact st_pick_f' (.tmp 39) (.const (.bool true)) (.tmp 42) rfl (K.dep 3 39 rfl) (K.dep 6 42 rfl)
      · exact st_move (.tmp 43) rfl (K.dep 7 43 rfl)
      · exact (Bool.false_ne_true hw).elim
      · exact (Bool.false_ne_true hw).elim
      · exact (Bool.false_ne_true hw).elim
      · exact st_pick_t (.tmp 44) (.const (.bool true)) (.tmp 47) rfl (K.dep 8 44 rfl) rfl
      · exact st_move (.tmp 48) rfl (K.dep 12 48 rfl)
      · exact (Bool.false_ne_true hw).elim
      · exact (Bool.false_ne_true hw).elim
      · exact (Bool.false_ne_true hw).elim
      · exact st_pick_t (.tmp 49) (.const (.bool true)) (.tmp 52) rfl (K.dep 13 49 rfl) rfl
      · exact st_move (.tmp 53) rfl (K.dep 17 53 rfl)
      · exact (Bool.false_ne_true hw).elim
      · exact (Bool.false_ne_true hw).elim
      · exact (Bool.false_ne_true hw).elim
      · exact (Bool.false_ne_true hw).elim
      · exact (Bool.false_ne_true hw).elim
      · exact (Bool.false_ne_true hw).elim
      · exact st_pick_t (.tmp 54) (.const (.bool true)) (.tmp 60) rfl (K.dep 18 54 rfl) rfl
      intro f6 w6 A hb
      replace bl0 := bl
      replace x1 := (A.old 1 rfl).trans x1
      replace x2 := (A.old 2 rfl).trans x2
      replace x22 := (A.old 22 rfl).trans x22
      replace x3 := (A.old 3 rfl).trans x3
      replace x4 := (A.old 4 rfl).trans x4
      have x61 : f6.eval (.tmp 61) = .bool true := A.has 25 61 rfl
      have lt_m1 := Ob.lt m1
      replace m1 := Ob.below m1 hb
      replace bl := (bl.trans (Below.mono hb bl.size))
      replace sz := A.size.trans sz
      replace df := A.defs.trans df
      clear A hb
      show Code.wp _ _ _ _ _
      refine wp_cond_true x61 ?_
      refine wp_seq ?_
      -- R5
      refine wp_all_seq [.eq (.int .i64 11), .eq (.bool true), .eq (.bool true), .eq (.pointer none), .eq (.bool true), .eq (.bool true), .eq (.bool true), .eq (.bool true), .eq (.bool true), .eq (.bool true)] (by kernel_rfl) (by kernel_rfl) (by rw [sz]; kernel_rfl) (by kernel_rfl) ⟨fun hw ac u K => ?_, fun hw ac u K => ?_, fun hw ac u K => ?_, fun hw ac u K => ?_, fun hw ac u K => ?_, fun hw ac u K => ?_, fun hw ac u K => ?_, fun hw ac u K => ?_, fun hw ac u K => ?_, fun hw ac u K => ?_, trivial⟩ ?_
      · exact st_move (.tmp 4) rfl ((K.old 4 rfl).trans x4)
      · exact st_eqi 29 (.tmp 62) (.const (.int .i64 11)) rfl .i64 (11) (11) (K.dep 0 62 rfl) rfl _ (by rfl)
      · exact st_move (.tmp 63) rfl (K.dep 1 63 rfl)
      · exact st_move (.tmp 3) rfl ((K.old 3 rfl).trans x3)
      · exact st_bin .eql 28 28 (.tmp 65) _ rfl (K.dep 3 65 rfl) rfl (by kernel_rfl)
      · exact st_pick_t (.tmp 64) (.tmp 66) (.const (.bool false)) rfl (K.dep 2 64 rfl) (K.dep 4 66 rfl)
      · exact st_move (.tmp 67) rfl (K.dep 5 67 rfl)
      · exact st_call 8 (.func 8) _ _ #[] rfl rfl rfl Tryd.enter8 (fk_of (awake_any _ (hK.below (bl.trans (Below.mono K.grow bl.size)))))
      · exact st_pick_t (.tmp 68) (.tmp 69) (.const (.bool false)) rfl (K.dep 6 68 rfl) (K.dep 7 69 rfl)
      · exact st_assign (.tmp 70) rfl (K.dep 8 70 rfl)
      intro f7 w7 A hb
      replace bl0 := bl
      replace x1 := (A.old 1 rfl).trans x1
      clear x2
      replace x22 := (A.old 22 rfl).trans x22
      replace x3 := (A.old 3 rfl).trans x3
      replace x4 := (A.old 4 rfl).trans x4
      replace x61 := (A.old 61 rfl).trans x61
      have x2 : f7.eval (.tmp 2) = .bool true := A.has 9 2 rfl
      have lt_m1 := Ob.lt m1
      replace m1 := Ob.below m1 hb
      replace bl := (bl.trans (Below.mono hb bl.size))
      replace sz := A.size.trans sz
      replace df := A.defs.trans df
      clear A hb
      show Code.wp _ _ _ _ _
      refine wp_ret ?_
      repeat (first | with_reducible refine then_ret ?_ | with_reducible refine block_ret ?_)
      exact bodyPost_ret (v := .bool true) (ret_slot rfl f7 _ x2 _ _) df ⟨rfl, bl⟩
    · skip
      -- R4
      refine wp_all [.eq (.pointer (some ⟨g1, 32, none⟩)), .eq (.int .i64 (kind)), .eq (.bool false), .eq (.bool false), .eq (.pointer (some ⟨g1, 32, none⟩)), .eq (.int .i64 (kind)), .eq (.bool false), .eq (.bool false), .eq (.bool false), .eq (.pointer (some ⟨g1, 33, none⟩)), .eq (.int .i64 (height)), .eq (.bool true), .eq (.bool true), .eq (.bool true), .any, .any, .any, .eq (.bool true), .eq (.bool true), .any, .any, .any, .any, .any, .any, .eq (.bool true)] Tryd.mixed (by kernel_rfl) (by kernel_rfl) (by rw [sz]; kernel_rfl) (by kernel_rfl) ⟨fun hw ac u K => ?_, fun hw ac u K => ?_, fun hw ac u K => ?_, fun hw ac u K => ?_, fun hw ac u K => ?_, fun hw ac u K => ?_, fun hw ac u K => ?_, fun hw ac u K => ?_, fun hw ac u K => ?_, fun hw ac u K => ?_, fun hw ac u K => ?_, fun hw ac u K => ?_, fun hw ac u K => ?_, fun hw ac u K => ?_, fun hw ac u K => ?_, fun hw ac u K => ?_, fun hw ac u K => ?_, fun hw ac u K => ?_, fun hw ac u K => ?_, fun hw ac u K => ?_, fun hw ac u K => ?_, fun hw ac u K => ?_, fun hw ac u K => ?_, fun hw ac u K => ?_, fun hw ac u K => ?_, fun hw ac u K => ?_, trivial⟩ ?_
      · exact st_field 26 1 (.tmp 1) rfl ((K.old 1 rfl).trans x1) (by kernel_rfl)
      · exact st_loadc 3 (.tmp 36) rfl (by kernel_rfl) (K.dep 0 36 rfl) (Ob.cell (Ob.below m1 K.grow) 32 ((at_head hx 0 _).trans rfl))
      · exact st_lss 3 (.tmp 37) (.const (.int .i64 1)) rfl .i64 ((kind)) (1) (K.dep 1 37 rfl) rfl _ (by rw [eq_comm, decide_eq_false_iff_not]; omega)
      · exact st_move (.tmp 38) rfl (K.dep 2 38 rfl)
      · exact st_field 26 1 (.tmp 1) rfl ((K.old 1 rfl).trans x1) (by kernel_rfl)
      · exact st_loadc 3 (.tmp 40) rfl (by kernel_rfl) (K.dep 4 40 rfl) (Ob.cell (Ob.below m1 K.grow) 32 ((at_head hx 0 _).trans rfl))
      · exact st_gtr 3 (.tmp 41) (.const (.int .i64 2)) rfl .i64 ((kind)) (2) (K.dep 5 41 rfl) rfl _ (by rw [eq_comm, decide_eq_false_iff_not]; omega)
      · exact st_pick_f' (.tmp 39) (.const (.bool true)) (.tmp 42) rfl (K.dep 3 39 rfl) (K.dep 6 42 rfl)
      · exact st_move (.tmp 43) rfl (K.dep 7 43 rfl)
      · exact st_field 26 2 (.tmp 1) rfl ((K.old 1 rfl).trans x1) (by kernel_rfl)
      · exact st_loadc 3 (.tmp 45) rfl (by kernel_rfl) (K.dep 9 45 rfl) (Ob.cell (Ob.below m1 K.grow) 33 ((at_head hx 1 _).trans rfl))
      · exact st_lss 3 (.tmp 46) (.const (.int .i64 0)) rfl .i64 ((height)) (0) (K.dep 10 46 rfl) rfl _ (by rw [eq_comm, decide_eq_true_iff]; omega)
      · exact st_pick_f' (.tmp 44) (.const (.bool true)) (.tmp 47) rfl (K.dep 8 44 rfl) (K.dep 11 47 rfl)
      · exact st_move (.tmp 48) rfl (K.dep 12 48 rfl)
      · exact (Bool.false_ne_true hw).elim
      · exact (Bool.false_ne_true hw).elim
      · exact (Bool.false_ne_true hw).elim
      · exact st_pick_t (.tmp 49) (.const (.bool true)) (.tmp 52) rfl (K.dep 13 49 rfl) rfl
      · exact st_move (.tmp 53) rfl (K.dep 17 53 rfl)
      · exact (Bool.false_ne_true hw).elim
      · exact (Bool.false_ne_true hw).elim
      · exact (Bool.false_ne_true hw).elim
      · exact (Bool.false_ne_true hw).elim
      · exact (Bool.false_ne_true hw).elim
      · exact (Bool.false_ne_true hw).elim
      · exact st_pick_t (.tmp 54) (.const (.bool true)) (.tmp 60) rfl (K.dep 18 54 rfl) rfl
      intro f6 w6 A hb
      replace bl0 := bl
      replace x1 := (A.old 1 rfl).trans x1
      replace x2 := (A.old 2 rfl).trans x2
      replace x22 := (A.old 22 rfl).trans x22
      replace x3 := (A.old 3 rfl).trans x3
      replace x4 := (A.old 4 rfl).trans x4
      have x61 : f6.eval (.tmp 61) = .bool true := A.has 25 61 rfl
      have lt_m1 := Ob.lt m1
      replace m1 := Ob.below m1 hb
      replace bl := (bl.trans (Below.mono hb bl.size))
      replace sz := A.size.trans sz
      replace df := A.defs.trans df
      clear A hb
      show Code.wp _ _ _ _ _
      refine wp_cond_true x61 ?_
      refine wp_seq ?_
      -- R5
      refine wp_all_seq [.eq (.int .i64 11), .eq (.bool true), .eq (.bool true), .eq (.pointer none), .eq (.bool true), .eq (.bool true), .eq (.bool true), .eq (.bool true), .eq (.bool true), .eq (.bool true)] (by kernel_rfl) (by kernel_rfl) (by rw [sz]; kernel_rfl) (by kernel_rfl) ⟨fun hw ac u K => ?_, fun hw ac u K => ?_, fun hw ac u K => ?_, fun hw ac u K => ?_, fun hw ac u K => ?_, fun hw ac u K => ?_, fun hw ac u K => ?_, fun hw ac u K => ?_, fun hw ac u K => ?_, fun hw ac u K => ?_, trivial⟩ ?_
      · exact st_move (.tmp 4) rfl ((K.old 4 rfl).trans x4)
      · exact st_eqi 29 (.tmp 62) (.const (.int .i64 11)) rfl .i64 (11) (11) (K.dep 0 62 rfl) rfl _ (by rfl)
      · exact st_move (.tmp 63) rfl (K.dep 1 63 rfl)
      · exact st_move (.tmp 3) rfl ((K.old 3 rfl).trans x3)
      · exact st_bin .eql 28 28 (.tmp 65) _ rfl (K.dep 3 65 rfl) rfl (by kernel_rfl)
      · exact st_pick_t (.tmp 64) (.tmp 66) (.const (.bool false)) rfl (K.dep 2 64 rfl) (K.dep 4 66 rfl)
      · exact st_move (.tmp 67) rfl (K.dep 5 67 rfl)
      · exact st_call 8 (.func 8) _ _ #[] rfl rfl rfl Tryd.enter8 (fk_of (awake_any _ (hK.below (bl.trans (Below.mono K.grow bl.size)))))
      · exact st_pick_t (.tmp 68) (.tmp 69) (.const (.bool false)) rfl (K.dep 6 68 rfl) (K.dep 7 69 rfl)
      · exact st_assign (.tmp 70) rfl (K.dep 8 70 rfl)
      intro f7 w7 A hb
      replace bl0 := bl
      replace x1 := (A.old 1 rfl).trans x1
      clear x2
      replace x22 := (A.old 22 rfl).trans x22
      replace x3 := (A.old 3 rfl).trans x3
      replace x4 := (A.old 4 rfl).trans x4
      replace x61 := (A.old 61 rfl).trans x61
      have x2 : f7.eval (.tmp 2) = .bool true := A.has 9 2 rfl
      have lt_m1 := Ob.lt m1
      replace m1 := Ob.below m1 hb
      replace bl := (bl.trans (Below.mono hb bl.size))
      replace sz := A.size.trans sz
      replace df := A.defs.trans df
      clear A hb
      show Code.wp _ _ _ _ _
      refine wp_ret ?_
      repeat (first | with_reducible refine then_ret ?_ | with_reducible refine block_ret ?_)
      exact bodyPost_ret (v := .bool true) (ret_slot rfl f7 _ x2 _ _) df ⟨rfl, bl⟩
    · skip
      -- R4
      refine wp_all [.eq (.pointer (some ⟨g1, 32, none⟩)), .eq (.int .i64 (kind)), .eq (.bool false), .eq (.bool false), .eq (.pointer (some ⟨g1, 32, none⟩)), .eq (.int .i64 (kind)), .eq (.bool false), .eq (.bool false), .eq (.bool false), .eq (.pointer (some ⟨g1, 33, none⟩)), .eq (.int .i64 (height)), .eq (.bool false), .eq (.bool false), .eq (.bool false), .eq (.pointer (some ⟨g1, 34, none⟩)), .eq (.int .i64 (next)), .eq (.bool true), .eq (.bool true), .eq (.bool true), .any, .any, .any, .any, .any, .any, .eq (.bool true)] Tryd.mixed (by kernel_rfl) (by kernel_rfl) (by rw [sz]; kernel_rfl) (by kernel_rfl) ⟨fun hw ac u K => ?_, fun hw ac u K => ?_, fun hw ac u K => ?_, fun hw ac u K => ?_, fun hw ac u K => ?_, fun hw ac u K => ?_, fun hw ac u K => ?_, fun hw ac u K => ?_, fun hw ac u K => ?_, fun hw ac u K => ?_, fun hw ac u K => ?_, fun hw ac u K => ?_, fun hw ac u K => ?_, fun hw ac u K => ?_, fun hw ac u K => ?_, fun hw ac u K => ?_, fun hw ac u K => ?_, fun hw ac u K => ?_, fun hw ac u K => ?_, fun hw ac u K => ?_, fun hw ac u K => ?_, fun hw ac u K => ?_, fun hw ac u K => ?_, fun hw ac u K => ?_, fun hw ac u K => ?_, fun hw ac u K => ?_, trivial⟩ ?_
      · exact st_field 26 1 (.tmp 1) rfl ((K.old 1 rfl).trans x1) (by kernel_rfl)
      · exact st_loadc 3 (.tmp 36) rfl (by kernel_rfl) (K.dep 0 36 rfl) (Ob.cell (Ob.below m1 K.grow) 32 ((at_head hx 0 _).trans rfl))
      · exact st_lss 3 (.tmp 37) (.const (.int .i64 1)) rfl .i64 ((kind)) (1) (K.dep 1 37 rfl) rfl _ (by rw [eq_comm, decide_eq_false_iff_not]; omega)
      · exact st_move (.tmp 38) rfl (K.dep 2 38 rfl)
      · exact st_field 26 1 (.tmp 1) rfl ((K.old 1 rfl).trans x1) (by kernel_rfl)
      · exact st_loadc 3 (.tmp 40) rfl (by kernel_rfl) (K.dep 4 40 rfl) (Ob.cell (Ob.below m1 K.grow) 32 ((at_head hx 0 _).trans rfl))
      · exact st_gtr 3 (.tmp 41) (.const (.int .i64 2)) rfl .i64 ((kind)) (2) (K.dep 5 41 rfl) rfl _ (by rw [eq_comm, decide_eq_false_iff_not]; omega)
      · exact st_pick_f' (.tmp 39) (.const (.bool true)) (.tmp 42) rfl (K.dep 3 39 rfl) (K.dep 6 42 rfl)
      · exact st_move (.tmp 43) rfl (K.dep 7 43 rfl)
      · exact st_field 26 2 (.tmp 1) rfl ((K.old 1 rfl).trans x1) (by kernel_rfl)
      · exact st_loadc 3 (.tmp 45) rfl (by kernel_rfl) (K.dep 9 45 rfl) (Ob.cell (Ob.below m1 K.grow) 33 ((at_head hx 1 _).trans rfl))
      · exact st_lss 3 (.tmp 46) (.const (.int .i64 0)) rfl .i64 ((height)) (0) (K.dep 10 46 rfl) rfl _ (by rw [eq_comm, decide_eq_false_iff_not]; omega)
      · exact st_pick_f' (.tmp 44) (.const (.bool true)) (.tmp 47) rfl (K.dep 8 44 rfl) (K.dep 11 47 rfl)
      · exact st_move (.tmp 48) rfl (K.dep 12 48 rfl)
      · exact st_field 26 3 (.tmp 1) rfl ((K.old 1 rfl).trans x1) (by kernel_rfl)
      · exact st_loadc 3 (.tmp 50) rfl (by kernel_rfl) (K.dep 14 50 rfl) (Ob.cell (Ob.below m1 K.grow) 34 ((at_head hx 2 _).trans rfl))
      · exact st_lss 3 (.tmp 51) (.const (.int .i64 0)) rfl .i64 ((next)) (0) (K.dep 15 51 rfl) rfl _ (by rw [eq_comm, decide_eq_true_iff]; omega)
      · exact st_pick_f' (.tmp 49) (.const (.bool true)) (.tmp 52) rfl (K.dep 13 49 rfl) (K.dep 16 52 rfl)
      · exact st_move (.tmp 53) rfl (K.dep 17 53 rfl)
      · exact (Bool.false_ne_true hw).elim
      · exact (Bool.false_ne_true hw).elim
      · exact (Bool.false_ne_true hw).elim
      · exact (Bool.false_ne_true hw).elim
      · exact (Bool.false_ne_true hw).elim
      · exact (Bool.false_ne_true hw).elim
      · exact st_pick_t (.tmp 54) (.const (.bool true)) (.tmp 60) rfl (K.dep 18 54 rfl) rfl
      intro f6 w6 A hb
      replace bl0 := bl
      replace x1 := (A.old 1 rfl).trans x1
      replace x2 := (A.old 2 rfl).trans x2
      replace x22 := (A.old 22 rfl).trans x22
      replace x3 := (A.old 3 rfl).trans x3
      replace x4 := (A.old 4 rfl).trans x4
      have x61 : f6.eval (.tmp 61) = .bool true := A.has 25 61 rfl
      have lt_m1 := Ob.lt m1
      replace m1 := Ob.below m1 hb
      replace bl := (bl.trans (Below.mono hb bl.size))
      replace sz := A.size.trans sz
      replace df := A.defs.trans df
      clear A hb
      show Code.wp _ _ _ _ _
      refine wp_cond_true x61 ?_
      refine wp_seq ?_
      -- R5
      refine wp_all_seq [.eq (.int .i64 11), .eq (.bool true), .eq (.bool true), .eq (.pointer none), .eq (.bool true), .eq (.bool true), .eq (.bool true), .eq (.bool true), .eq (.bool true), .eq (.bool true)] (by kernel_rfl) (by kernel_rfl) (by rw [sz]; kernel_rfl) (by kernel_rfl) ⟨fun hw ac u K => ?_, fun hw ac u K => ?_, fun hw ac u K => ?_, fun hw ac u K => ?_, fun hw ac u K => ?_, fun hw ac u K => ?_, fun hw ac u K => ?_, fun hw ac u K => ?_, fun hw ac u K => ?_, fun hw ac u K => ?_, trivial⟩ ?_
      · exact st_move (.tmp 4) rfl ((K.old 4 rfl).trans x4)
      · exact st_eqi 29 (.tmp 62) (.const (.int .i64 11)) rfl .i64 (11) (11) (K.dep 0 62 rfl) rfl _ (by rfl)
      · exact st_move (.tmp 63) rfl (K.dep 1 63 rfl)
      · exact st_move (.tmp 3) rfl ((K.old 3 rfl).trans x3)
      · exact st_bin .eql 28 28 (.tmp 65) _ rfl (K.dep 3 65 rfl) rfl (by kernel_rfl)
      · exact st_pick_t (.tmp 64) (.tmp 66) (.const (.bool false)) rfl (K.dep 2 64 rfl) (K.dep 4 66 rfl)
      · exact st_move (.tmp 67) rfl (K.dep 5 67 rfl)
      · exact st_call 8 (.func 8) _ _ #[] rfl rfl rfl Tryd.enter8 (fk_of (awake_any _ (hK.below (bl.trans (Below.mono K.grow bl.size)))))
      · exact st_pick_t (.tmp 68) (.tmp 69) (.const (.bool false)) rfl (K.dep 6 68 rfl) (K.dep 7 69 rfl)
      · exact st_assign (.tmp 70) rfl (K.dep 8 70 rfl)
      intro f7 w7 A hb
      replace bl0 := bl
      replace x1 := (A.old 1 rfl).trans x1
      clear x2
      replace x22 := (A.old 22 rfl).trans x22
      replace x3 := (A.old 3 rfl).trans x3
      replace x4 := (A.old 4 rfl).trans x4
      replace x61 := (A.old 61 rfl).trans x61
      have x2 : f7.eval (.tmp 2) = .bool true := A.has 9 2 rfl
      have lt_m1 := Ob.lt m1
      replace m1 := Ob.below m1 hb
      replace bl := (bl.trans (Below.mono hb bl.size))
      replace sz := A.size.trans sz
      replace df := A.defs.trans df
      clear A hb
      show Code.wp _ _ _ _ _
      refine wp_ret ?_
      repeat (first | with_reducible refine then_ret ?_ | with_reducible refine block_ret ?_)
      exact bodyPost_ret (v := .bool true) (ret_slot rfl f7 _ x2 _ _) df ⟨rfl, bl⟩
    obtain ⟨h1, h2, h3, h4, h5⟩ := hcs
    obtain ⟨ht, rfl⟩ := Int.eq_ofNat_of_zero_le h3
    obtain ⟨nx, rfl⟩ := Int.eq_ofNat_of_zero_le h4
    rw [Int.toNat_natCast] at h5
    -- R4
    refine wp_all [.eq (.pointer (some ⟨g1, 32, none⟩)), .eq (.int .i64 (kind)), .eq (.bool false), .eq (.bool false), .eq (.pointer (some ⟨g1, 32, none⟩)), .eq (.int .i64 (kind)), .eq (.bool false), .eq (.bool false), .eq (.bool false), .eq (.pointer (some ⟨g1, 33, none⟩)), .eq (.int .i64 ((ht : Nat) : Int)), .eq (.bool false), .eq (.bool false), .eq (.bool false), .eq (.pointer (some ⟨g1, 34, none⟩)), .eq (.int .i64 ((nx : Nat) : Int)), .eq (.bool false), .eq (.bool false), .eq (.bool false), .eq (.pointer (some ⟨g1, 34, none⟩)), .eq (.int .i64 ((nx : Nat) : Int)), .eq (.pointer (some ⟨g1, 33, none⟩)), .eq (.int .i64 ((ht : Nat) : Int)), .eq (.int .i64 ((2 ^ ht : Nat) : Int)), .eq (.bool true), .eq (.bool true)] Tryd.mixed (by kernel_rfl) (by kernel_rfl) (by rw [sz]; kernel_rfl) (by kernel_rfl) ⟨fun hw ac u K => ?_, fun hw ac u K => ?_, fun hw ac u K => ?_, fun hw ac u K => ?_, fun hw ac u K => ?_, fun hw ac u K => ?_, fun hw ac u K => ?_, fun hw ac u K => ?_, fun hw ac u K => ?_, fun hw ac u K => ?_, fun hw ac u K => ?_, fun hw ac u K => ?_, fun hw ac u K => ?_, fun hw ac u K => ?_, fun hw ac u K => ?_, fun hw ac u K => ?_, fun hw ac u K => ?_, fun hw ac u K => ?_, fun hw ac u K => ?_, fun hw ac u K => ?_, fun hw ac u K => ?_, fun hw ac u K => ?_, fun hw ac u K => ?_, fun hw ac u K => ?_, fun hw ac u K => ?_, fun hw ac u K => ?_, trivial⟩ ?_
    · exact st_field 26 1 (.tmp 1) rfl ((K.old 1 rfl).trans x1) (by kernel_rfl)
    · exact st_loadc 3 (.tmp 36) rfl (by kernel_rfl) (K.dep 0 36 rfl) (Ob.cell (Ob.below m1 K.grow) 32 ((at_head hx 0 _).trans rfl))
    · exact st_lss 3 (.tmp 37) (.const (.int .i64 1)) rfl .i64 ((kind)) (1) (K.dep 1 37 rfl) rfl _ (by rw [eq_comm, decide_eq_false_iff_not]; omega)
    · exact st_move (.tmp 38) rfl (K.dep 2 38 rfl)
    · exact st_field 26 1 (.tmp 1) rfl ((K.old 1 rfl).trans x1) (by kernel_rfl)
    · exact st_loadc 3 (.tmp 40) rfl (by kernel_rfl) (K.dep 4 40 rfl) (Ob.cell (Ob.below m1 K.grow) 32 ((at_head hx 0 _).trans rfl))
    · exact st_gtr 3 (.tmp 41) (.const (.int .i64 2)) rfl .i64 ((kind)) (2) (K.dep 5 41 rfl) rfl _ (by rw [eq_comm, decide_eq_false_iff_not]; omega)
    · exact st_pick_f' (.tmp 39) (.const (.bool true)) (.tmp 42) rfl (K.dep 3 39 rfl) (K.dep 6 42 rfl)
    · exact st_move (.tmp 43) rfl (K.dep 7 43 rfl)
    · exact st_field 26 2 (.tmp 1) rfl ((K.old 1 rfl).trans x1) (by kernel_rfl)
    · exact st_loadc 3 (.tmp 45) rfl (by kernel_rfl) (K.dep 9 45 rfl) (Ob.cell (Ob.below m1 K.grow) 33 ((at_head hx 1 _).trans rfl))
    · exact st_lss 3 (.tmp 46) (.const (.int .i64 0)) rfl .i64 (((ht : Nat) : Int)) (0) (K.dep 10 46 rfl) rfl _ (by rw [eq_comm, decide_eq_false_iff_not]; omega)
    · exact st_pick_f' (.tmp 44) (.const (.bool true)) (.tmp 47) rfl (K.dep 8 44 rfl) (K.dep 11 47 rfl)
    · exact st_move (.tmp 48) rfl (K.dep 12 48 rfl)
    · exact st_field 26 3 (.tmp 1) rfl ((K.old 1 rfl).trans x1) (by kernel_rfl)
    · exact st_loadc 3 (.tmp 50) rfl (by kernel_rfl) (K.dep 14 50 rfl) (Ob.cell (Ob.below m1 K.grow) 34 ((at_head hx 2 _).trans rfl))
    · exact st_lss 3 (.tmp 51) (.const (.int .i64 0)) rfl .i64 (((nx : Nat) : Int)) (0) (K.dep 15 51 rfl) rfl _ (by rw [eq_comm, decide_eq_false_iff_not]; omega)
    · exact st_pick_f' (.tmp 49) (.const (.bool true)) (.tmp 52) rfl (K.dep 13 49 rfl) (K.dep 16 52 rfl)
    · exact st_move (.tmp 53) rfl (K.dep 17 53 rfl)
    · exact st_field 26 3 (.tmp 1) rfl ((K.old 1 rfl).trans x1) (by kernel_rfl)
    · exact st_loadc 3 (.tmp 55) rfl (by kernel_rfl) (K.dep 19 55 rfl) (Ob.cell (Ob.below m1 K.grow) 34 ((at_head hx 2 _).trans rfl))
    · exact st_field 26 2 (.tmp 1) rfl ((K.old 1 rfl).trans x1) (by kernel_rfl)
    · exact st_loadc 3 (.tmp 57) rfl (by kernel_rfl) (K.dep 21 57 rfl) (Ob.cell (Ob.below m1 K.grow) 33 ((at_head hx 1 _).trans rfl))
    · exact st_shl 3 3 (.const (.int .i64 1)) (.tmp 58) rfl (1) (ht) rfl (K.dep 22 58 rfl) (2 ^ ht) (by simp) (pow_le (by omega)) (by omega)
    · exact st_gtr 3 (.tmp 56) (.tmp 59) rfl .i64 (((nx : Nat) : Int)) (((2 ^ ht : Nat) : Int)) (K.dep 20 56 rfl) (K.dep 23 59 rfl) _ (by rw [eq_comm, decide_eq_true_iff]; exact h5)
    · exact st_pick_f' (.tmp 54) (.const (.bool true)) (.tmp 60) rfl (K.dep 18 54 rfl) (K.dep 24 60 rfl)
    intro f6 w6 A hb
    replace bl0 := bl
    replace x1 := (A.old 1 rfl).trans x1
    replace x2 := (A.old 2 rfl).trans x2
    replace x22 := (A.old 22 rfl).trans x22
    replace x3 := (A.old 3 rfl).trans x3
    replace x4 := (A.old 4 rfl).trans x4
    have x61 : f6.eval (.tmp 61) = .bool true := A.has 25 61 rfl
    have lt_m1 := Ob.lt m1
    replace m1 := Ob.below m1 hb
    replace bl := (bl.trans (Below.mono hb bl.size))
    replace sz := A.size.trans sz
    replace df := A.defs.trans df
    clear A hb
    show Code.wp _ _ _ _ _
    refine wp_cond_true x61 ?_
    refine wp_seq ?_
    -- R5
    refine wp_all_seq [.eq (.int .i64 11), .eq (.bool true), .eq (.bool true), .eq (.pointer none), .eq (.bool true), .eq (.bool true), .eq (.bool true), .eq (.bool true), .eq (.bool true), .eq (.bool true)] (by kernel_rfl) (by kernel_rfl) (by rw [sz]; kernel_rfl) (by kernel_rfl) ⟨fun hw ac u K => ?_, fun hw ac u K => ?_, fun hw ac u K => ?_, fun hw ac u K => ?_, fun hw ac u K => ?_, fun hw ac u K => ?_, fun hw ac u K => ?_, fun hw ac u K => ?_, fun hw ac u K => ?_, fun hw ac u K => ?_, trivial⟩ ?_
    · exact st_move (.tmp 4) rfl ((K.old 4 rfl).trans x4)
    · exact st_eqi 29 (.tmp 62) (.const (.int .i64 11)) rfl .i64 (11) (11) (K.dep 0 62 rfl) rfl _ (by rfl)
    · exact st_move (.tmp 63) rfl (K.dep 1 63 rfl)
    · exact st_move (.tmp 3) rfl ((K.old 3 rfl).trans x3)
    · exact st_bin .eql 28 28 (.tmp 65) _ rfl (K.dep 3 65 rfl) rfl (by kernel_rfl)
    · exact st_pick_t (.tmp 64) (.tmp 66) (.const (.bool false)) rfl (K.dep 2 64 rfl) (K.dep 4 66 rfl)
    · exact st_move (.tmp 67) rfl (K.dep 5 67 rfl)
    · exact st_call 8 (.func 8) _ _ #[] rfl rfl rfl Tryd.enter8 (fk_of (awake_any _ (hK.below (bl.trans (Below.mono K.grow bl.size)))))
    · exact st_pick_t (.tmp 68) (.tmp 69) (.const (.bool false)) rfl (K.dep 6 68 rfl) (K.dep 7 69 rfl)
    · exact st_assign (.tmp 70) rfl (K.dep 8 70 rfl)
    intro f7 w7 A hb
    replace bl0 := bl
    replace x1 := (A.old 1 rfl).trans x1
    clear x2
    replace x22 := (A.old 22 rfl).trans x22
    replace x3 := (A.old 3 rfl).trans x3
    replace x4 := (A.old 4 rfl).trans x4
    replace x61 := (A.old 61 rfl).trans x61
    have x2 : f7.eval (.tmp 2) = .bool true := A.has 9 2 rfl
    have lt_m1 := Ob.lt m1
    replace m1 := Ob.below m1 hb
    replace bl := (bl.trans (Below.mono hb bl.size))
    replace sz := A.size.trans sz
    replace df := A.defs.trans df
    clear A hb
    show Code.wp _ _ _ _ _
    refine wp_ret ?_
    repeat (first | with_reducible refine then_ret ?_ | with_reducible refine block_ret ?_)
    exact bodyPost_ret (v := .bool true) (ret_slot rfl f7 _ x2 _ _) df ⟨rfl, bl⟩
  have hcs : 3 < height ∨ (height ≤ 3 ∧ 12 < ps.length) := by omega
  rcases hcs with hcs | hcs
  rotate_left
  · skip
    -- R1
    refine wp_all_seq [.eq (.pointer (some ⟨g1, 33, none⟩)), .eq (.int .i64 (height)), .eq (.bool false), .eq (.bool false), .eq (.pointer (some ⟨g1, 35, none⟩)), .eq (.slice mA (ps).length mC), .eq (.int .i64 ((ps.length : Nat) : Int)), .eq (.bool true), .eq (.bool true)] (by kernel_rfl) (by kernel_rfl) (by rw [sz]; kernel_rfl) (by kernel_rfl) ⟨fun hw ac u K => ?_, fun hw ac u K => ?_, fun hw ac u K => ?_, fun hw ac u K => ?_, fun hw ac u K => ?_, fun hw ac u K => ?_, fun hw ac u K => ?_, fun hw ac u K => ?_, fun hw ac u K => ?_, trivial⟩ ?_
    · exact st_field 26 2 (.tmp 1) rfl ((K.old 1 rfl).trans x1) (by kernel_rfl)
    · exact st_loadc 3 (.tmp 14) rfl (by kernel_rfl) (K.dep 0 14 rfl) (Ob.cell (Ob.below m1 K.grow) 33 ((at_head hx 1 _).trans rfl))
    · exact st_gtr 3 (.tmp 15) (.const (.int .i64 3)) rfl .i64 ((height)) (3) (K.dep 1 15 rfl) rfl _ (by rw [eq_comm, decide_eq_false_iff_not]; omega)
    · exact st_move (.tmp 16) rfl (K.dep 2 16 rfl)
    · exact st_field 26 4 (.tmp 1) rfl ((K.old 1 rfl).trans x1) (by kernel_rfl)
    · exact st_loadc 24 (.tmp 18) rfl (by kernel_rfl) (K.dep 4 18 rfl) (Ob.cell (Ob.below m1 K.grow) 35 ((at_head hx 3 _).trans rfl))
    · exact st_lenm (.tmp 19) rfl (fk_val (K.dep 5 19 rfl) (Fk.mono _ _ _ _ vM (bl.trans (Below.mono K.grow bl.size))))
    · exact st_gtr 3 (.tmp 20) (.const (.int .i64 12)) rfl .i64 (((ps.length : Nat) : Int)) (12) (K.dep 6 20 rfl) rfl _ (by rw [eq_comm, decide_eq_true_iff]; omega)
    · exact st_pick_f' (.tmp 17) (.const (.bool true)) (.tmp 21) rfl (K.dep 3 17 rfl) (K.dep 7 21 rfl)
    intro f4 w4 A hb
    replace bl0 := bl
    replace x1 := (A.old 1 rfl).trans x1
    replace x2 := (A.old 2 rfl).trans x2
    have x22 : f4.eval (.tmp 22) = .bool true := A.has 8 22 rfl
    have lt_m1 := Ob.lt m1
    replace m1 := Ob.below m1 hb
    replace bl := (bl.trans (Below.mono hb bl.size))
    replace sz := A.size.trans sz
    replace df := A.defs.trans df
    clear A hb
    show Code.wp _ _ _ _ _
    refine wp_cond_true x22 ?_
    refine wp_seq ?_
    -- R2
    refine wp_all_seq [.eq (.bool true), .eq (.bool true)] (by kernel_rfl) (by kernel_rfl) (by rw [sz]; kernel_rfl) (by kernel_rfl) ⟨fun hw ac u K => ?_, fun hw ac u K => ?_, trivial⟩ ?_
    · exact st_call 8 (.func 8) _ _ #[] rfl rfl rfl Tryd.enter8 (fk_of (awake_any _ (hK.below (bl.trans (Below.mono K.grow bl.size)))))
    · exact st_assign (.tmp 23) rfl (K.dep 0 23 rfl)
    intro f5 w5 A hb
    replace bl0 := bl
    replace x1 := (A.old 1 rfl).trans x1
    clear x2
    replace x22 := (A.old 22 rfl).trans x22
    have x2 : f5.eval (.tmp 2) = .bool true := A.has 1 2 rfl
    have lt_m1 := Ob.lt m1
    replace m1 := Ob.below m1 hb
    replace bl := (bl.trans (Below.mono hb bl.size))
    replace sz := A.size.trans sz
    replace df := A.defs.trans df
    clear A hb
    show Code.wp _ _ _ _ _
    refine wp_ret ?_
    repeat (first | with_reducible refine then_ret ?_ | with_reducible refine block_ret ?_)
    exact bodyPost_ret (v := .bool true) (ret_slot rfl f5 _ x2 _ _) df ⟨rfl, bl⟩
  -- R1
  refine wp_all_seq [.eq (.pointer (some ⟨g1, 33, none⟩)), .eq (.int .i64 (height)), .eq (.bool true), .eq (.bool true), .any, .any, .any, .any, .eq (.bool true)] (by kernel_rfl) (by kernel_rfl) (by rw [sz]; kernel_rfl) (by kernel_rfl) ⟨fun hw ac u K => ?_, fun hw ac u K => ?_, fun hw ac u K => ?_, fun hw ac u K => ?_, fun hw ac u K => ?_, fun hw ac u K => ?_, fun hw ac u K => ?_, fun hw ac u K => ?_, fun hw ac u K => ?_, trivial⟩ ?_
  · exact st_field 26 2 (.tmp 1) rfl ((K.old 1 rfl).trans x1) (by kernel_rfl)
  · exact st_loadc 3 (.tmp 14) rfl (by kernel_rfl) (K.dep 0 14 rfl) (Ob.cell (Ob.below m1 K.grow) 33 ((at_head hx 1 _).trans rfl))
  · exact st_gtr 3 (.tmp 15) (.const (.int .i64 3)) rfl .i64 ((height)) (3) (K.dep 1 15 rfl) rfl _ (by rw [eq_comm, decide_eq_true_iff]; omega)
  · exact st_move (.tmp 16) rfl (K.dep 2 16 rfl)
  · exact (Bool.false_ne_true hw).elim
  · exact (Bool.false_ne_true hw).elim
  · exact (Bool.false_ne_true hw).elim
  · exact (Bool.false_ne_true hw).elim
  · exact st_pick_t (.tmp 17) (.const (.bool true)) (.tmp 21) rfl (K.dep 3 17 rfl) rfl
  intro f4 w4 A hb
  replace bl0 := bl
  replace x1 := (A.old 1 rfl).trans x1
  replace x2 := (A.old 2 rfl).trans x2
  have x22 : f4.eval (.tmp 22) = .bool true := A.has 8 22 rfl
  have lt_m1 := Ob.lt m1
  replace m1 := Ob.below m1 hb
  replace bl := (bl.trans (Below.mono hb bl.size))
  replace sz := A.size.trans sz
  replace df := A.defs.trans df
  clear A hb
  show Code.wp _ _ _ _ _
  refine wp_cond_true x22 ?_
  refine wp_seq ?_
  -- R2
  refine wp_all_seq [.eq (.bool true), .eq (.bool true)] (by kernel_rfl) (by kernel_rfl) (by rw [sz]; kernel_rfl) (by kernel_rfl) ⟨fun hw ac u K => ?_, fun hw ac u K => ?_, trivial⟩ ?_
  · exact st_call 8 (.func 8) _ _ #[] rfl rfl rfl Tryd.enter8 (fk_of (awake_any _ (hK.below (bl.trans (Below.mono K.grow bl.size)))))
  · exact st_assign (.tmp 23) rfl (K.dep 0 23 rfl)
  intro f5 w5 A hb
  replace bl0 := bl
  replace x1 := (A.old 1 rfl).trans x1
  clear x2
  replace x22 := (A.old 22 rfl).trans x22
  have x2 : f5.eval (.tmp 2) = .bool true := A.has 1 2 rfl
  have lt_m1 := Ob.lt m1
  replace m1 := Ob.below m1 hb
  replace bl := (bl.trans (Below.mono hb bl.size))
  replace sz := A.size.trans sz
  replace df := A.defs.trans df
  clear A hb
  show Code.wp _ _ _ _ _
  refine wp_ret ?_
  repeat (first | with_reducible refine then_ret ?_ | with_reducible refine block_ret ?_)
  exact bodyPost_ret (v := .bool true) (ret_slot rfl f5 _ x2 _ _) df ⟨rfl, bl⟩
end Go.Proofs.YtnanipeapjpkfaaDoor
