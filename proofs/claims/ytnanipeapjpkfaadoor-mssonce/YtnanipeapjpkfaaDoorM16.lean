/- The walk of MssOnce. What the rows of this seat share: what the listed variable gives a walk, an array of bytes opened, the start that fits. A slice of bytes that came in, opened. -/
import Derived.Test.YtnanipeapjpkfaaDoorM14
import Derived.Test.YtnanipeapjpkfaaDoorM15
import Derived.Test.YtnanipeapjpkfaaDoorRows
import Derived.Test.YtnanipeapjpkfaaDoorM2
import Derived.ProofKit
import Derived.LaidMore
import Derived.OpenShut
import Derived.ShutString
import Derived.ChangeOld
import Derived.Lib.LaidTab
import Derived.SevenTiedAt
namespace Go.Proofs.YtnanipeapjpkfaaDoor
set_option maxRecDepth 100000
open Go.RowKit
set_option maxHeartbeats 4000000 in
theorem once_law {seed : List (BitVec 8)} (hx : seed.length = 32) (kind : Int) {msg : List (BitVec 8)} {sp : Option Addr} {mm cc bm om : Nat} (w : World) (hK : Tab w) (hsm : Sl w sp mm cc msg bm om) :
    Calls Tryd.prog 7 #[.agg ((seed).map V).toArray, .int .i64 kind, .slice sp mm cc] w fun e w' => e = .returned (.bool true) ∧ Below w.heap.size w w' := by
  have vm : (Fk.sl msg).f (.slice sp mm cc) w := ⟨sp, mm, cc, bm, om, rfl, hsm⟩
  go_enter Tryd.func7, Tryd.ntmps7
  refine code_both (fun f w1 => f.tmps.size = 104 ∧ f.defers = [] ∧ f.eval (.tmp 0) = .agg ((seed).map V).toArray ∧ f.eval (.tmp 1) = .int .i64 (kind) ∧ f.eval (.tmp 2) = .slice sp mm cc ∧ Below w.heap.size w (w1)) ⟨rfl, rfl, rfl, rfl, rfl, Below.refl _ _⟩ ?_
  rintro f0 w0 ⟨sz, df, x0, x1, x2, bl⟩
  have bl0 := bl
  refine wp_seq ?_
  -- R0
  refine wp_region_seq [] (by kernel_rfl) (by kernel_rfl) (by rw [sz]; kernel_rfl) (by kernel_rfl) trivial ?_
  intro f1 w1 A hb
  replace bl0 := bl
  replace x0 := (A.old 0 rfl).trans x0
  replace x1 := (A.old 1 rfl).trans x1
  replace x2 := (A.old 2 rfl).trans x2
  replace bl := (bl.trans (Below.mono hb bl.size))
  replace sz := A.size.trans sz
  replace df := A.defs.trans df
  clear A hb
  refine wl_one (.nw w1.heap.size 23 ((seed).map V)) rfl 3 rfl (by rw [sz]; decide) (st_box 23 (.tmp 0) rfl _ _ (by rw [show _ = _ from x0]; kernel_rfl) (Nat.le_refl _)) ?_
  intro f2 w2 df2 sz2 old2 new2 hb
  replace bl0 := bl
  replace x0 := (old2 0 rfl).trans x0
  replace x1 := (old2 1 rfl).trans x1
  replace x2 := (old2 2 rfl).trans x2
  have x3 : Fk.f (.nw w1.heap.size 23 ((seed).map V)) (f2.eval (.tmp 3)) w2 := new2
  replace bl := (bl.trans (Below.mono hb bl.size))
  replace sz := sz2.trans sz
  replace df := df2.trans df
  clear df2 sz2 old2 new2 hb
  obtain ⟨g3, hg3, e3, m3⟩ := x3
  have x3 := e3
  clear e3
  have hw3 : w.heap.size ≤ g3 := Nat.le_trans bl0.size hg3
  clear x0
  refine wl_one (.eq (.bool false)) rfl 6 rfl (by rw [sz]; decide) (st_assign (.const (.bool false)) rfl rfl) ?_
  intro f3 w3 df2 sz2 old2 new2 hb
  replace bl0 := bl
  replace x1 := (old2 1 rfl).trans x1
  replace x2 := (old2 2 rfl).trans x2
  replace x3 := (old2 3 rfl).trans x3
  have x6 : f3.eval (.tmp 6) = .bool false := new2
  have lt_m3 := Ob.lt m3
  replace m3 := Ob.below m3 hb
  replace bl := (bl.trans (Below.mono hb bl.size))
  replace sz := sz2.trans sz
  replace df := df2.trans df
  clear df2 sz2 old2 new2 hb
  refine wpList_nil ?_
  show Code.wp _ _ _ _ _
  refine wp_seq ?_
  refine wp_seq ?_
  by_cases hc : kind < 1 ∨ 2 < kind ∨ 200 < msg.length
  rotate_left
  · skip
    obtain ⟨kd, rfl⟩ := Int.eq_ofNat_of_zero_le (show 0 ≤ kind by omega)
    have h1 : 1 ≤ kd := by omega
    have h2 : kd ≤ 2 := by omega
    have hml : msg.length ≤ 900000 := by omega
    have hm2 : msg.length ≤ 200 := by omega
    clear hc
    -- R1
    refine wp_all_seq [.eq (.int .i64 ((kd : Nat) : Int)), .eq (.bool false), .eq (.bool false), .eq (.int .i64 ((kd : Nat) : Int)), .eq (.bool false), .eq (.bool false), .eq (.bool false), .eq (.slice sp mm cc), .eq (.int .i64 (((msg).length : Nat) : Int)), .eq (.bool false), .eq (.bool false)] (by kernel_rfl) (by kernel_rfl) (by rw [sz]; kernel_rfl) (by kernel_rfl) ⟨fun hw ac u K => ?_, fun hw ac u K => ?_, fun hw ac u K => ?_, fun hw ac u K => ?_, fun hw ac u K => ?_, fun hw ac u K => ?_, fun hw ac u K => ?_, fun hw ac u K => ?_, fun hw ac u K => ?_, fun hw ac u K => ?_, fun hw ac u K => ?_, trivial⟩ ?_
    · exact st_move (.tmp 1) rfl ((K.old 1 rfl).trans x1)
    · exact st_lss 3 (.tmp 16) (.const (.int .i64 1)) rfl .i64 (((kd : Nat) : Int)) (1) (K.dep 0 16 rfl) rfl _ (by rw [eq_comm, decide_eq_false_iff_not]; omega)
    · exact st_move (.tmp 17) rfl (K.dep 1 17 rfl)
    · exact st_move (.tmp 1) rfl ((K.old 1 rfl).trans x1)
    · exact st_gtr 3 (.tmp 19) (.const (.int .i64 2)) rfl .i64 (((kd : Nat) : Int)) (2) (K.dep 3 19 rfl) rfl _ (by rw [eq_comm, decide_eq_false_iff_not]; omega)
    · exact st_pick_f' (.tmp 18) (.const (.bool true)) (.tmp 20) rfl (K.dep 2 18 rfl) (K.dep 4 20 rfl)
    · exact st_move (.tmp 21) rfl (K.dep 5 21 rfl)
    · exact st_move (.tmp 2) rfl ((K.old 2 rfl).trans x2)
    · exact st_lenb (.tmp 23) rfl (fk_val (K.dep 7 23 rfl) (Fk.mono _ _ _ _ vm (bl.trans (Below.mono K.grow bl.size))))
    · exact st_gtr 3 (.tmp 24) (.const (.int .i64 200)) rfl .i64 ((((msg).length : Nat) : Int)) (200) (K.dep 8 24 rfl) rfl _ (by rw [eq_comm, decide_eq_false_iff_not]; omega)
    · exact st_pick_f' (.tmp 22) (.const (.bool true)) (.tmp 25) rfl (K.dep 6 22 rfl) (K.dep 9 25 rfl)
    intro f4 w4 A hb
    replace bl0 := bl
    replace x1 := (A.old 1 rfl).trans x1
    replace x2 := (A.old 2 rfl).trans x2
    replace x3 := (A.old 3 rfl).trans x3
    replace x6 := (A.old 6 rfl).trans x6
    have x26 : f4.eval (.tmp 26) = .bool false := A.has 10 26 rfl
    have lt_m3 := Ob.lt m3
    replace m3 := Ob.below m3 hb
    replace bl := (bl.trans (Below.mono hb bl.size))
    replace sz := A.size.trans sz
    replace df := A.defs.trans df
    clear A hb
    show Code.wp _ _ _ _ _
    refine wp_cond_false x26 ?_
    refine wp_skip ?_
    show Code.wp _ _ _ _ _
    refine wp_seq ?_
    -- R3
    refine wp_all_seq [.eq (.agg ((seed).map V).toArray), .eq (.int .i64 ((kd : Nat) : Int)), .t2 (.nw w4.heap.size 69 ((seed).map V ++ ([.int .i64 ((kd : Nat) : Int), .int .i64 ((2 : Nat) : Int), .int .i64 ((0 : Nat) : Int)] : List Value))) (.int .i64 0), .t2 (.nw w4.heap.size 69 ((seed).map V ++ ([.int .i64 ((kd : Nat) : Int), .int .i64 ((2 : Nat) : Int), .int .i64 ((0 : Nat) : Int)] : List Value))) (.int .i64 0), .nw w4.heap.size 69 ((seed).map V ++ ([.int .i64 ((kd : Nat) : Int), .int .i64 ((2 : Nat) : Int), .int .i64 ((0 : Nat) : Int)] : List Value)), .eq (.int .i64 0), .nw w4.heap.size 69 ((seed).map V ++ ([.int .i64 ((kd : Nat) : Int), .int .i64 ((2 : Nat) : Int), .int .i64 ((0 : Nat) : Int)] : List Value)), .eq (.int .i64 0)] (by kernel_rfl) (by kernel_rfl) (by rw [sz]; kernel_rfl) (by kernel_rfl) ⟨fun hw ac u K => ?_, fun hw ac u K => ?_, fun hw ac u K => ?_, fun hw ac u K => ?_, fun hw ac u K => ?_, fun hw ac u K => ?_, fun hw ac u K => ?_, fun hw ac u K => ?_, trivial⟩ ?_
    · exact st_load23 (.tmp 3) rfl (g3) (seed) ((K.old 3 rfl).trans x3) hx (Ob.below m3 K.grow)
    · exact st_move (.tmp 1) rfl ((K.old 1 rfl).trans x1)
    · exact st_call 33 (.func 33) _ _ #[.agg ((seed).map V).toArray, .int .i64 ((kd : Nat) : Int), .int .i64 2] rfl rfl (arg3 (K.dep 0 29 rfl) (K.dep 1 30 rfl) rfl) Tryd.enter33 (fk_nw K.grow.size (by exact new_ok seed kd 2 hx h1 h2 (by omega) _))
    · exact st_move (.tmp 31) rfl (K.dep 2 31 rfl)
    · exact st_t2a (.tmp 28) rfl (K.dep 3 28 rfl)
    · exact st_t2b (.tmp 28) rfl (K.dep 3 28 rfl)
    · exact st_assign (.tmp 32) rfl (K.dep 4 32 rfl)
    · exact st_assign (.tmp 33) rfl (K.dep 5 33 rfl)
    intro f5 w5 A hb
    replace bl0 := bl
    replace x1 := (A.old 1 rfl).trans x1
    replace x2 := (A.old 2 rfl).trans x2
    replace x3 := (A.old 3 rfl).trans x3
    replace x6 := (A.old 6 rfl).trans x6
    replace x26 := (A.old 26 rfl).trans x26
    have x7 : Fk.f (.nw w4.heap.size 69 ((seed).map V ++ ([.int .i64 ((kd : Nat) : Int), .int .i64 ((2 : Nat) : Int), .int .i64 ((0 : Nat) : Int)] : List Value))) (f5.eval (.tmp 7)) w5 := A.has 6 7 rfl
    have x8 : f5.eval (.tmp 8) = .int .i64 0 := A.has 7 8 rfl
    have lt_m3 := Ob.lt m3
    replace m3 := Ob.below m3 hb
    replace bl := (bl.trans (Below.mono hb bl.size))
    replace sz := A.size.trans sz
    replace df := A.defs.trans df
    clear A hb
    obtain ⟨g7, hg7, e7, m7⟩ := x7
    have x7 := e7
    clear e7
    have nm3_7 : g3 ≠ g7 := Nat.ne_of_lt (Nat.lt_of_lt_of_le lt_m3 hg7)
    have hw7 : w.heap.size ≤ g7 := Nat.le_trans bl0.size hg7
    show Code.wp _ _ _ _ _
    refine wp_seq ?_
    refine wp_seq ?_
    -- R4
    refine wp_all_seq [.eq (.int .i64 0), .eq (.bool false), .eq (.bool false), .eq (.pointer (some ⟨g7, 0, none⟩)), .eq (.bool false), .eq (.bool false)] (by kernel_rfl) (by kernel_rfl) (by rw [sz]; kernel_rfl) (by kernel_rfl) ⟨fun hw ac u K => ?_, fun hw ac u K => ?_, fun hw ac u K => ?_, fun hw ac u K => ?_, fun hw ac u K => ?_, fun hw ac u K => ?_, trivial⟩ ?_
    · exact st_move (.tmp 8) rfl ((K.old 8 rfl).trans x8)
    · exact st_neqi 29 (.tmp 34) (.const (.int .i64 0)) rfl .i64 (0) (0) (K.dep 0 34 rfl) rfl _ (by rfl)
    · exact st_move (.tmp 35) rfl (K.dep 1 35 rfl)
    · exact st_move (.tmp 7) rfl ((K.old 7 rfl).trans x7)
    · exact st_bin .eql 28 28 (.tmp 37) _ rfl (K.dep 3 37 rfl) rfl (by kernel_rfl)
    · exact st_pick_f' (.tmp 36) (.const (.bool true)) (.tmp 38) rfl (K.dep 2 36 rfl) (K.dep 4 38 rfl)
    intro f6 w6 A hb
    replace bl0 := bl
    replace x1 := (A.old 1 rfl).trans x1
    replace x2 := (A.old 2 rfl).trans x2
    replace x3 := (A.old 3 rfl).trans x3
    replace x6 := (A.old 6 rfl).trans x6
    replace x26 := (A.old 26 rfl).trans x26
    replace x7 := (A.old 7 rfl).trans x7
    replace x8 := (A.old 8 rfl).trans x8
    have x39 : f6.eval (.tmp 39) = .bool false := A.has 5 39 rfl
    have lt_m3 := Ob.lt m3
    replace m3 := Ob.below m3 hb
    have lt_m7 := Ob.lt m7
    replace m7 := Ob.below m7 hb
    replace bl := (bl.trans (Below.mono hb bl.size))
    replace sz := A.size.trans sz
    replace df := A.defs.trans df
    clear A hb
    clear x8
    show Code.wp _ _ _ _ _
    refine wp_cond_false x39 ?_
    refine wp_skip ?_
    show Code.wp _ _ _ _ _
    refine wp_seq ?_
    -- R6
    refine wp_all_seq [.mp w6.heap.size, .mp w6.heap.size] (by kernel_rfl) (by kernel_rfl) (by rw [sz]; kernel_rfl) (by kernel_rfl) ⟨fun hw ac u K => ?_, fun hw ac u K => ?_, trivial⟩ ?_
    · exact st_mkmap rfl _ K.grow.size
    · exact st_assign (.tmp 40) rfl (K.dep 0 40 rfl)
    intro f7 w7 A hb
    replace bl0 := bl
    replace x1 := (A.old 1 rfl).trans x1
    replace x2 := (A.old 2 rfl).trans x2
    replace x3 := (A.old 3 rfl).trans x3
    replace x6 := (A.old 6 rfl).trans x6
    replace x26 := (A.old 26 rfl).trans x26
    replace x7 := (A.old 7 rfl).trans x7
    replace x39 := (A.old 39 rfl).trans x39
    have x9 : Fk.f (.mp w6.heap.size) (f7.eval (.tmp 9)) w7 := A.has 1 9 rfl
    have lt_m3 := Ob.lt m3
    replace m3 := Ob.below m3 hb
    have lt_m7 := Ob.lt m7
    replace m7 := Ob.below m7 hb
    replace bl := (bl.trans (Below.mono hb bl.size))
    replace sz := A.size.trans sz
    replace df := A.defs.trans df
    clear A hb
    obtain ⟨mb, hgM, x9, mM⟩ := x9
    have hwM : w.heap.size ≤ mb := Nat.le_trans bl0.size hgM
    have nM7 : mb ≠ g7 := Nat.ne_of_gt (Nat.lt_of_lt_of_le lt_m7 hgM)
    have nM3 : mb ≠ g3 := Nat.ne_of_gt (Nat.lt_of_lt_of_le lt_m3 hgM)
    show Code.wp _ _ _ _ _
    refine wp_seq ?_
    refine wp_seq ?_
    -- R7
    refine wp_all_seq [.eq (.int .i64 0)] (by kernel_rfl) (by kernel_rfl) (by rw [sz]; kernel_rfl) (by kernel_rfl) ⟨fun hw ac u K => ?_, trivial⟩ ?_
    · exact st_move (.const (.int .i64 0)) rfl rfl
    intro f8 w8 A hb
    replace bl0 := bl
    replace x1 := (A.old 1 rfl).trans x1
    replace x2 := (A.old 2 rfl).trans x2
    replace x3 := (A.old 3 rfl).trans x3
    replace x6 := (A.old 6 rfl).trans x6
    replace x26 := (A.old 26 rfl).trans x26
    replace x7 := (A.old 7 rfl).trans x7
    replace x39 := (A.old 39 rfl).trans x39
    replace x9 := (A.old 9 rfl).trans x9
    have x41 : f8.eval (.tmp 41) = .int .i64 0 := A.has 0 41 rfl
    have lt_m3 := Ob.lt m3
    replace m3 := Ob.below m3 hb
    have lt_m7 := Ob.lt m7
    replace m7 := Ob.below m7 hb
    replace mM := MapK.below mM hb
    replace bl := (bl.trans (Below.mono hb bl.size))
    replace sz := A.size.trans sz
    replace df := A.defs.trans df
    clear A hb
    show Code.wp _ _ _ _ _
    refine wp_block ?_
    refine wp_loop (fun f v1 => ∃ k : Nat, k ≤ 4 ∧ f.tmps.size = 104 ∧ f.defers = [] ∧ f.eval (.tmp 1) = .int .i64 ((kd : Nat) : Int) ∧ f.eval (.tmp 2) = .slice sp mm cc ∧ f.eval (.tmp 3) = .pointer (some ⟨g3, 0, none⟩) ∧ f.eval (.tmp 6) = .bool false ∧ f.eval (.tmp 26) = .bool false ∧ f.eval (.tmp 7) = .pointer (some ⟨g7, 0, none⟩) ∧ f.eval (.tmp 39) = .bool false ∧ f.eval (.tmp 9) = .map (some mb) ∧ f.eval (.tmp 41) = .int .i64 ((k : Nat) : Int) ∧ Ob v1 (g3) 23 ((seed).map V) ∧ Ob v1 (g7) 69 ((seed).map V ++ ([.int .i64 ((kd : Nat) : Int), .int .i64 ((2 : Nat) : Int), .int .i64 ((k : Nat) : Int)] : List Value)) ∧ MapK v1 mb k ∧ Below w.heap.size w (v1)) (fun f _ => 4 - (intOf (f.eval (.tmp 41))).toNat) ⟨0, Nat.zero_le _, sz, df, x1, x2, x3, x6, x26, x7, x39, x9, x41, m3, m7, mM, bl⟩ ?_
    intro f9 w9 hI
    clear sz df bl bl0 x1 x2 x3 x6 x26 x7 x39 x9 x41 m3 m7 mM
    obtain ⟨k, hk, sz, df, x1, x2, x3, x6, x26, x7, x39, x9, x41, m3, m7, mM, bl⟩ := hI
    have bl0 := bl
    have hcnt := x41
    obtain ⟨S, eS⟩ : ∃ S, Box (sgp seed kd k (ms msg) = S) := ⟨_, ⟨rfl⟩⟩
    obtain ⟨P, eP⟩ : ∃ P, Box (firsts (pth (lv seed kd) k) 2 = P) := ⟨_, ⟨rfl⟩⟩
    have hSl : S.length ≤ 100000 := by rw [← eS.out, sgp_len h1 h2]; unfold npt; split <;> omega
    have hPl : P.length ≤ 100000 := by rw [← eP.out, firsts_len]; omega
    refine wp_seq ?_
    by_cases hlt : k < 4
    rotate_left
    · skip
      have hk4e : k = 4 := by omega
      -- R8
      refine wp_all_seq [.eq (.bool false)] (by kernel_rfl) (by kernel_rfl) (by rw [sz]; kernel_rfl) (by kernel_rfl) ⟨fun hw ac u K => ?_, trivial⟩ ?_
      · exact st_lss 3 (.tmp 41) (.const (.int .i64 4)) rfl .i64 (((k : Nat) : Int)) (4) ((K.old 41 rfl).trans x41) rfl _ (by first | (simp; done) | (simp; omega))
      intro f10 w10 A hb
      replace bl0 := bl
      replace x1 := (A.old 1 rfl).trans x1
      replace x2 := (A.old 2 rfl).trans x2
      replace x3 := (A.old 3 rfl).trans x3
      replace x6 := (A.old 6 rfl).trans x6
      replace x26 := (A.old 26 rfl).trans x26
      replace x7 := (A.old 7 rfl).trans x7
      replace x39 := (A.old 39 rfl).trans x39
      replace x9 := (A.old 9 rfl).trans x9
      replace x41 := (A.old 41 rfl).trans x41
      have x42 : f10.eval (.tmp 42) = .bool false := A.has 0 42 rfl
      have lt_m3 := Ob.lt m3
      replace m3 := Ob.below m3 hb
      have lt_m7 := Ob.lt m7
      replace m7 := Ob.below m7 hb
      replace mM := MapK.below mM hb
      replace bl := (bl.trans (Below.mono hb bl.size))
      replace sz := A.size.trans sz
      replace df := A.defs.trans df
      clear A hb
      show Code.wp _ _ _ _ _
      refine wp_seq ?_
      refine wp_cond_false x42 ?_
      refine wp_exit ?_
      show Code.wp _ _ _ _ _
      refine wp_seq ?_
      -- R18
      refine wp_all_seq [.eq (.pointer (some ⟨g7, 0, none⟩)), .eq (.int .i64 ((2 ^ 2 - k : Nat) : Int)), .eq (.bool true), .eq (.bool true), .eq (.bool true), .eq (.bool true), .eq (.bool true)] (by kernel_rfl) (by kernel_rfl) (by rw [sz]; kernel_rfl) (by kernel_rfl) ⟨fun hw ac u K => ?_, fun hw ac u K => ?_, fun hw ac u K => ?_, fun hw ac u K => ?_, fun hw ac u K => ?_, fun hw ac u K => ?_, fun hw ac u K => ?_, trivial⟩ ?_
      · exact st_move (.tmp 7) rfl ((K.old 7 rfl).trans x7)
      · exact st_call 14 (.func 14) _ _ #[.pointer (some ⟨g7, 0, none⟩)] rfl rfl (one_arg (K.dep 0 98 rfl)) Tryd.enter14 (fk_of (left_any hx _ (by omega) (by omega) (Ob.below m7 K.grow)))
      · exact st_eqi 3 (.tmp 99) (.const (.int .i64 0)) rfl .i64 (((2 ^ 2 - k : Nat) : Int)) (0) (K.dep 1 99 rfl) rfl _ (by rw [eq_comm, decide_eq_true_iff]; omega)
      · exact st_move (.tmp 100) rfl (K.dep 2 100 rfl)
      · exact st_call 8 (.func 8) _ _ #[] rfl rfl rfl Tryd.enter8 (fk_of (awake_any _ (hK.below (bl.trans (Below.mono K.grow bl.size)))))
      · exact st_pick_t (.tmp 101) (.tmp 102) (.const (.bool false)) rfl (K.dep 3 101 rfl) (K.dep 4 102 rfl)
      · exact st_assign (.tmp 103) rfl (K.dep 5 103 rfl)
      intro f11 w11 A hb
      replace bl0 := bl
      replace x1 := (A.old 1 rfl).trans x1
      replace x2 := (A.old 2 rfl).trans x2
      replace x3 := (A.old 3 rfl).trans x3
      clear x6
      replace x26 := (A.old 26 rfl).trans x26
      replace x7 := (A.old 7 rfl).trans x7
      replace x39 := (A.old 39 rfl).trans x39
      replace x9 := (A.old 9 rfl).trans x9
      replace x41 := (A.old 41 rfl).trans x41
      replace x42 := (A.old 42 rfl).trans x42
      have x6 : f11.eval (.tmp 6) = .bool true := A.has 6 6 rfl
      have lt_m3 := Ob.lt m3
      replace m3 := Ob.below m3 hb
      have lt_m7 := Ob.lt m7
      replace m7 := Ob.below m7 hb
      replace mM := MapK.below mM hb
      replace bl := (bl.trans (Below.mono hb bl.size))
      replace sz := A.size.trans sz
      replace df := A.defs.trans df
      clear A hb
      show Code.wp _ _ _ _ _
      refine wp_ret ?_
      repeat (first | with_reducible refine then_ret ?_ | with_reducible refine block_ret ?_)
      exact bodyPost_ret (v := .bool true) (ret_slot rfl f11 _ x6 _ _) df ⟨rfl, bl⟩
    have hk4 : k < 2 ^ 2 := hlt
    have hk5 : k ≤ 2 ^ 2 := Nat.le_of_lt hlt
    -- R8
    refine wp_all_seq [.eq (.bool true)] (by kernel_rfl) (by kernel_rfl) (by rw [sz]; kernel_rfl) (by kernel_rfl) ⟨fun hw ac u K => ?_, trivial⟩ ?_
    · exact st_lss 3 (.tmp 41) (.const (.int .i64 4)) rfl .i64 (((k : Nat) : Int)) (4) ((K.old 41 rfl).trans x41) rfl _ (by first | (simp; done) | (simp; omega))
    intro f10 w10 A hb
    replace bl0 := bl
    replace x1 := (A.old 1 rfl).trans x1
    replace x2 := (A.old 2 rfl).trans x2
    replace x3 := (A.old 3 rfl).trans x3
    replace x6 := (A.old 6 rfl).trans x6
    replace x26 := (A.old 26 rfl).trans x26
    replace x7 := (A.old 7 rfl).trans x7
    replace x39 := (A.old 39 rfl).trans x39
    replace x9 := (A.old 9 rfl).trans x9
    replace x41 := (A.old 41 rfl).trans x41
    have x42 : f10.eval (.tmp 42) = .bool true := A.has 0 42 rfl
    have lt_m3 := Ob.lt m3
    replace m3 := Ob.below m3 hb
    have lt_m7 := Ob.lt m7
    replace m7 := Ob.below m7 hb
    replace mM := MapK.below mM hb
    replace bl := (bl.trans (Below.mono hb bl.size))
    replace sz := A.size.trans sz
    replace df := A.defs.trans df
    clear A hb
    show Code.wp _ _ _ _ _
    refine wp_seq ?_
    refine wp_cond_true x42 ?_
    refine wp_skip ?_
    show Code.wp _ _ _ _ _
    refine wp_seq ?_
    refine wp_block ?_
    refine wp_seq ?_
    have ltM0 := mM.lt
    -- R9
    refine wp_all [.eq (.agg ((seed).map V).toArray), .eq (.int .i64 ((kd : Nat) : Int)), .eq (.pointer (some ⟨g7, 0, none⟩)), .eq (.int .i64 ((k : Nat) : Int)), .t2 (.nw w10.heap.size 69 ((seed).map V ++ ([.int .i64 ((kd : Nat) : Int), .int .i64 ((2 : Nat) : Int), .int .i64 ((k : Nat) : Int)] : List Value))) (.int .i64 0), .t2 (.nw w10.heap.size 69 ((seed).map V ++ ([.int .i64 ((kd : Nat) : Int), .int .i64 ((2 : Nat) : Int), .int .i64 ((k : Nat) : Int)] : List Value))) (.int .i64 0), .nw w10.heap.size 69 ((seed).map V ++ ([.int .i64 ((kd : Nat) : Int), .int .i64 ((2 : Nat) : Int), .int .i64 ((k : Nat) : Int)] : List Value)), .eq (.int .i64 0), .nw w10.heap.size 69 ((seed).map V ++ ([.int .i64 ((kd : Nat) : Int), .int .i64 ((2 : Nat) : Int), .int .i64 ((k : Nat) : Int)] : List Value)), .eq (.int .i64 0)] Tryd.mixed (by kernel_rfl) (by kernel_rfl) (by rw [sz]; kernel_rfl) (by kernel_rfl) ⟨fun hw ac u K => ?_, fun hw ac u K => ?_, fun hw ac u K => ?_, fun hw ac u K => ?_, fun hw ac u K => ?_, fun hw ac u K => ?_, fun hw ac u K => ?_, fun hw ac u K => ?_, fun hw ac u K => ?_, fun hw ac u K => ?_, trivial⟩ ?_
    · exact st_load23 (.tmp 3) rfl (g3) (seed) ((K.old 3 rfl).trans x3) hx (Ob.below m3 K.grow)
    · exact st_move (.tmp 1) rfl ((K.old 1 rfl).trans x1)
    · exact st_move (.tmp 7) rfl ((K.old 7 rfl).trans x7)
    · exact st_call 15 (.func 15) _ _ #[.pointer (some ⟨g7, 0, none⟩)] rfl rfl (one_arg (K.dep 2 46 rfl)) Tryd.enter15 (fk_of (next_any hx _ (Ob.below m7 K.grow)))
    · exact st_call 9 (.func 9) _ _ #[.agg ((seed).map V).toArray, .int .i64 ((kd : Nat) : Int), .int .i64 2, .int .i64 ((k : Nat) : Int)] rfl rfl (arg4 (K.dep 0 44 rfl) (K.dep 1 45 rfl) rfl (K.dep 3 47 rfl)) Tryd.enter9 (fk_nw K.grow.size (by exact restore_ok seed kd 2 k hx h1 h2 (by omega) hk5 _))
    · exact st_move (.tmp 48) rfl (K.dep 4 48 rfl)
    · exact st_t2a (.tmp 43) rfl (K.dep 5 43 rfl)
    · exact st_t2b (.tmp 43) rfl (K.dep 5 43 rfl)
    · exact st_assign (.tmp 49) rfl (K.dep 6 49 rfl)
    · exact st_assign (.tmp 50) rfl (K.dep 7 50 rfl)
    intro f11 w11 A hb
    replace bl0 := bl
    replace x1 := (A.old 1 rfl).trans x1
    replace x2 := (A.old 2 rfl).trans x2
    replace x3 := (A.old 3 rfl).trans x3
    replace x6 := (A.old 6 rfl).trans x6
    replace x26 := (A.old 26 rfl).trans x26
    replace x7 := (A.old 7 rfl).trans x7
    replace x39 := (A.old 39 rfl).trans x39
    replace x9 := (A.old 9 rfl).trans x9
    replace x41 := (A.old 41 rfl).trans x41
    replace x42 := (A.old 42 rfl).trans x42
    have x10 : Fk.f (.nw w10.heap.size 69 ((seed).map V ++ ([.int .i64 ((kd : Nat) : Int), .int .i64 ((2 : Nat) : Int), .int .i64 ((k : Nat) : Int)] : List Value))) (f11.eval (.tmp 10)) w11 := A.has 8 10 rfl
    have x11 : f11.eval (.tmp 11) = .int .i64 0 := A.has 9 11 rfl
    have lt_m3 := Ob.lt m3
    replace m3 := Ob.below m3 hb
    have lt_m7 := Ob.lt m7
    replace m7 := Ob.below m7 hb
    replace mM := MapK.below mM hb
    replace bl := (bl.trans (Below.mono hb bl.size))
    replace sz := A.size.trans sz
    replace df := A.defs.trans df
    clear A hb
    obtain ⟨g10, hg10, e10, m10⟩ := x10
    have x10 := e10
    clear e10
    have nm3_10 : g3 ≠ g10 := Nat.ne_of_lt (Nat.lt_of_lt_of_le lt_m3 hg10)
    have nm7_10 : g7 ≠ g10 := Nat.ne_of_lt (Nat.lt_of_lt_of_le lt_m7 hg10)
    have hw10 : w.heap.size ≤ g10 := Nat.le_trans bl0.size hg10
    show Code.wp _ _ _ _ _
    refine wp_seq ?_
    refine wp_seq ?_
    obtain ⟨y, ey⟩ : ∃ y, Box (rt (lv seed kd) 0 2 = y) := ⟨_, ⟨rfl⟩⟩
    have hy : y.length = 32 := by rw [← ey.out]; exact rt_len _ _ _ _
    have nM10 : mb ≠ g10 := Nat.ne_of_lt (Nat.lt_of_lt_of_le ltM0 hg10)
    -- R10
    refine wp_all_seq [.eq (.int .i64 0), .eq (.bool false), .eq (.bool false), .eq (.pointer (some ⟨g10, 0, none⟩)), .eq (.bool false), .eq (.bool false), .eq (.bool false), .eq (.pointer (some ⟨g10, 0, none⟩)), .eq (.agg ((y).map V).toArray), .eq (.pointer (some ⟨g7, 0, none⟩)), .eq (.agg ((y).map V).toArray), .eq (.bool false), .eq (.bool false)] (by kernel_rfl) (by kernel_rfl) (by rw [sz]; kernel_rfl) (by kernel_rfl) ⟨fun hw ac u K => ?_, fun hw ac u K => ?_, fun hw ac u K => ?_, fun hw ac u K => ?_, fun hw ac u K => ?_, fun hw ac u K => ?_, fun hw ac u K => ?_, fun hw ac u K => ?_, fun hw ac u K => ?_, fun hw ac u K => ?_, fun hw ac u K => ?_, fun hw ac u K => ?_, fun hw ac u K => ?_, trivial⟩ ?_
    · exact st_move (.tmp 11) rfl ((K.old 11 rfl).trans x11)
    · exact st_neqi 29 (.tmp 51) (.const (.int .i64 0)) rfl .i64 (0) (0) (K.dep 0 51 rfl) rfl _ (by rfl)
    · exact st_move (.tmp 52) rfl (K.dep 1 52 rfl)
    · exact st_move (.tmp 10) rfl ((K.old 10 rfl).trans x10)
    · exact st_bin .eql 28 28 (.tmp 54) _ rfl (K.dep 3 54 rfl) rfl (by kernel_rfl)
    · exact st_pick_f' (.tmp 53) (.const (.bool true)) (.tmp 55) rfl (K.dep 2 53 rfl) (K.dep 4 55 rfl)
    · exact st_move (.tmp 56) rfl (K.dep 5 56 rfl)
    · exact st_move (.tmp 10) rfl ((K.old 10 rfl).trans x10)
    · exact st_call 11 (.func 11) _ _ #[.pointer (some ⟨g10, 0, none⟩)] rfl rfl (one_arg (K.dep 7 58 rfl)) Tryd.enter11 (fk_of (public_key hx h1 h2 (by omega) _ (Ob.below m10 K.grow) (hK.below (bl.trans (Below.mono K.grow bl.size))) ey))
    · exact st_move (.tmp 7) rfl ((K.old 7 rfl).trans x7)
    · exact st_call 11 (.func 11) _ _ #[.pointer (some ⟨g7, 0, none⟩)] rfl rfl (one_arg (K.dep 9 60 rfl)) Tryd.enter11 (fk_of (public_key hx h1 h2 (by omega) _ (Ob.below m7 K.grow) (hK.below (bl.trans (Below.mono K.grow bl.size))) ey))
    · exact st_neqh (.tmp 59) (.tmp 61) rfl (y) (y) hy hy (K.dep 8 59 rfl) (K.dep 10 61 rfl) _ (by simp)
    · exact st_pick_f' (.tmp 57) (.const (.bool true)) (.tmp 62) rfl (K.dep 6 57 rfl) (K.dep 11 62 rfl)
    intro f12 w12 A hb
    replace bl0 := bl
    replace x1 := (A.old 1 rfl).trans x1
    replace x2 := (A.old 2 rfl).trans x2
    replace x3 := (A.old 3 rfl).trans x3
    replace x6 := (A.old 6 rfl).trans x6
    replace x26 := (A.old 26 rfl).trans x26
    replace x7 := (A.old 7 rfl).trans x7
    replace x39 := (A.old 39 rfl).trans x39
    replace x9 := (A.old 9 rfl).trans x9
    replace x41 := (A.old 41 rfl).trans x41
    replace x42 := (A.old 42 rfl).trans x42
    replace x10 := (A.old 10 rfl).trans x10
    replace x11 := (A.old 11 rfl).trans x11
    have x63 : f12.eval (.tmp 63) = .bool false := A.has 12 63 rfl
    have lt_m3 := Ob.lt m3
    replace m3 := Ob.below m3 hb
    have lt_m7 := Ob.lt m7
    replace m7 := Ob.below m7 hb
    have lt_m10 := Ob.lt m10
    replace m10 := Ob.below m10 hb
    replace mM := MapK.below mM hb
    replace bl := (bl.trans (Below.mono hb bl.size))
    replace sz := A.size.trans sz
    replace df := A.defs.trans df
    clear A hb
    clear x11
    show Code.wp _ _ _ _ _
    refine wp_cond_false x63 ?_
    refine wp_skip ?_
    show Code.wp _ _ _ _ _
    refine wp_seq ?_
    -- R12
    refine wp_region_seq [.eq (.pointer (some ⟨g7, 0, none⟩)), .eq (.slice sp mm cc)] (by kernel_rfl) (by kernel_rfl) (by rw [sz]; kernel_rfl) (by kernel_rfl) ⟨fun hw ac u K => ?_, fun hw ac u K => ?_, trivial⟩ ?_
    · exact st_move (.tmp 7) rfl ((K.old 7 rfl).trans x7)
    · exact st_move (.tmp 2) rfl ((K.old 2 rfl).trans x2)
    intro f13 w13 A hb
    have S_mM := mM
    have hbS0 := Below.refl w12.heap.size w12
    have hbS := hb
    replace bl0 := bl
    replace x1 := (A.old 1 rfl).trans x1
    replace x2 := (A.old 2 rfl).trans x2
    replace x3 := (A.old 3 rfl).trans x3
    replace x6 := (A.old 6 rfl).trans x6
    replace x26 := (A.old 26 rfl).trans x26
    replace x7 := (A.old 7 rfl).trans x7
    replace x39 := (A.old 39 rfl).trans x39
    replace x9 := (A.old 9 rfl).trans x9
    replace x41 := (A.old 41 rfl).trans x41
    replace x42 := (A.old 42 rfl).trans x42
    replace x10 := (A.old 10 rfl).trans x10
    replace x63 := (A.old 63 rfl).trans x63
    have x65 : f13.eval (.tmp 65) = .pointer (some ⟨g7, 0, none⟩) := A.has 0 65 rfl
    have x66 : f13.eval (.tmp 66) = .slice sp mm cc := A.has 1 66 rfl
    have lt_m3 := Ob.lt m3
    replace m3 := Ob.below m3 hb
    have lt_m7 := Ob.lt m7
    replace m7 := Ob.below m7 hb
    have lt_m10 := Ob.lt m10
    replace m10 := Ob.below m10 hb
    replace mM := MapK.below mM hb
    replace bl := (bl.trans (Below.mono hb bl.size))
    replace sz := A.size.trans sz
    replace df := A.defs.trans df
    clear A hb
    have ltq_m3 := Ob.lt m3
    have ltq_m7 := Ob.lt m7
    have ltq_m10 := Ob.lt m10
    have h0_7 : 0 < g7 := Nat.lt_of_lt_of_le hK.pos hw7
    refine wl_call 13 (.func 13) _ _ #[.pointer (some ⟨g7, 0, none⟩), .slice sp mm cc] rfl 67 rfl (by rw [sz]; decide) rfl rfl (arg2 x65 x66) Tryd.enter13 (SigR g7 seed kd 2 k S P w13) (sign_call hx h1 h2 (by omega) hk4 _ m7 (hK.below bl) h0_7 hml (Sl.below hsm bl (fun hm => (hsm.src hm).2.1)) (fun hm => Nat.ne_of_lt (Nat.lt_of_lt_of_le (hsm.src hm).2.1 hw7)) eS eP) ?_
    intro f14 w14 df2 sz2 old2 hR
    obtain ⟨sA67, sC67, sb67, so67, pA67, pC67, pb67, po67, e67, hsb67, q67a, hpb67, q67b, mK, O⟩ := hR
    replace x1 := (old2 1 rfl).trans x1
    replace x2 := (old2 2 rfl).trans x2
    replace x3 := (old2 3 rfl).trans x3
    replace x6 := (old2 6 rfl).trans x6
    replace x26 := (old2 26 rfl).trans x26
    replace x7 := (old2 7 rfl).trans x7
    replace x39 := (old2 39 rfl).trans x39
    replace x9 := (old2 9 rfl).trans x9
    replace x41 := (old2 41 rfl).trans x41
    replace x42 := (old2 42 rfl).trans x42
    replace x10 := (old2 10 rfl).trans x10
    replace x63 := (old2 63 rfl).trans x63
    replace x65 := (old2 65 rfl).trans x65
    replace x66 := (old2 66 rfl).trans x66
    replace m3 := Ob.only m3 O nm3_7
    replace m7 := mK
    clear mK
    replace m10 := Ob.only m10 O nm7_10.symm
    replace mM := MapK.only mM O nM7
    replace bl := bl.trans (Only.below O _ hw7 bl.size)
    replace sz := sz2.trans sz
    replace df := df2.trans df
    have x67 := e67
    have v67a : Fk.f (.hs (S)) (.slice sA67 (S).length sC67) w14 := hl_hs q67a
    have v67b : Fk.f (.hs (P)) (.slice pA67 (P).length pC67) w14 := hl_hs q67b
    clear df2 sz2 old2 O e67
    have S_v67a := v67a
    have S_v67b := v67b
    have S_mM := mM
    have hbS := Below.refl w14.heap.size w14
    have hbS0 := hbS
    have nq67a_10 : sb67 ≠ g10 := Nat.ne_of_gt (Nat.lt_of_lt_of_le ltq_m10 hsb67)
    have nq67b_10 : pb67 ≠ g10 := Nat.ne_of_gt (Nat.lt_of_lt_of_le ltq_m10 hpb67)
    have S_q67a := q67a
    have S_q67b := q67b
    clear x65
    clear x66
    refine wl_one (.eq (.tuple #[.agg ([.int .i64 ((kd : Nat) : Int), .int .i64 ((k : Nat) : Int), .slice sA67 (S).length sC67, .slice pA67 (P).length pC67] : List Value).toArray, .int .i64 0])) rfl 64 rfl (by rw [sz]; decide) (st_move (.tmp 67) rfl x67) ?_
    intro f15 w15 df2 sz2 old2 new2 hb
    replace hbS0 := hbS
    replace hbS := hbS.trans (Below.mono hb hbS.size)
    replace bl0 := bl
    replace x1 := (old2 1 rfl).trans x1
    replace x2 := (old2 2 rfl).trans x2
    replace x3 := (old2 3 rfl).trans x3
    replace x6 := (old2 6 rfl).trans x6
    replace x26 := (old2 26 rfl).trans x26
    replace x7 := (old2 7 rfl).trans x7
    replace x39 := (old2 39 rfl).trans x39
    replace x9 := (old2 9 rfl).trans x9
    replace x41 := (old2 41 rfl).trans x41
    replace x42 := (old2 42 rfl).trans x42
    replace x10 := (old2 10 rfl).trans x10
    replace x63 := (old2 63 rfl).trans x63
    replace x67 := (old2 67 rfl).trans x67
    have x64 : f15.eval (.tmp 64) = .tuple #[.agg ([.int .i64 ((kd : Nat) : Int), .int .i64 ((k : Nat) : Int), .slice sA67 (S).length sC67, .slice pA67 (P).length pC67] : List Value).toArray, .int .i64 0] := new2
    have lt_m3 := Ob.lt m3
    replace m3 := Ob.below m3 hb
    have lt_m7 := Ob.lt m7
    replace m7 := Ob.below m7 hb
    have lt_m10 := Ob.lt m10
    replace m10 := Ob.below m10 hb
    replace v67a := Fk.mono _ _ _ _ v67a hb
    replace v67b := Fk.mono _ _ _ _ v67b hb
    replace mM := MapK.below mM hb
    replace q67a := q67a.below hb
    replace q67b := q67b.below hb
    replace bl := (bl.trans (Below.mono hb bl.size))
    replace sz := sz2.trans sz
    replace df := df2.trans df
    clear df2 sz2 old2 new2 hb
    clear x67
    refine wl_one (.eq (.agg ([.int .i64 ((kd : Nat) : Int), .int .i64 ((k : Nat) : Int), .slice sA67 (S).length sC67, .slice pA67 (P).length pC67] : List Value).toArray)) rfl 68 rfl (by rw [sz]; decide) (st_ext0 (.tmp 64) rfl x64 rfl) ?_
    intro f16 w16 df2 sz2 old2 new2 hb
    replace hbS0 := hbS
    replace hbS := hbS.trans (Below.mono hb hbS.size)
    replace bl0 := bl
    replace x1 := (old2 1 rfl).trans x1
    replace x2 := (old2 2 rfl).trans x2
    replace x3 := (old2 3 rfl).trans x3
    replace x6 := (old2 6 rfl).trans x6
    replace x26 := (old2 26 rfl).trans x26
    replace x7 := (old2 7 rfl).trans x7
    replace x39 := (old2 39 rfl).trans x39
    replace x9 := (old2 9 rfl).trans x9
    replace x41 := (old2 41 rfl).trans x41
    replace x42 := (old2 42 rfl).trans x42
    replace x10 := (old2 10 rfl).trans x10
    replace x63 := (old2 63 rfl).trans x63
    replace x64 := (old2 64 rfl).trans x64
    have x68 : f16.eval (.tmp 68) = .agg ([.int .i64 ((kd : Nat) : Int), .int .i64 ((k : Nat) : Int), .slice sA67 (S).length sC67, .slice pA67 (P).length pC67] : List Value).toArray := new2
    have lt_m3 := Ob.lt m3
    replace m3 := Ob.below m3 hb
    have lt_m7 := Ob.lt m7
    replace m7 := Ob.below m7 hb
    have lt_m10 := Ob.lt m10
    replace m10 := Ob.below m10 hb
    replace v67a := Fk.mono _ _ _ _ v67a hb
    replace v67b := Fk.mono _ _ _ _ v67b hb
    replace mM := MapK.below mM hb
    replace q67a := q67a.below hb
    replace q67b := q67b.below hb
    replace bl := (bl.trans (Below.mono hb bl.size))
    replace sz := sz2.trans sz
    replace df := df2.trans df
    clear df2 sz2 old2 new2 hb
    refine wl_one (.eq (.int .i64 0)) rfl 69 rfl (by rw [sz]; decide) (st_ext1 (.tmp 64) rfl x64 rfl) ?_
    intro f17 w17 df2 sz2 old2 new2 hb
    replace hbS0 := hbS
    replace hbS := hbS.trans (Below.mono hb hbS.size)
    replace bl0 := bl
    replace x1 := (old2 1 rfl).trans x1
    replace x2 := (old2 2 rfl).trans x2
    replace x3 := (old2 3 rfl).trans x3
    replace x6 := (old2 6 rfl).trans x6
    replace x26 := (old2 26 rfl).trans x26
    replace x7 := (old2 7 rfl).trans x7
    replace x39 := (old2 39 rfl).trans x39
    replace x9 := (old2 9 rfl).trans x9
    replace x41 := (old2 41 rfl).trans x41
    replace x42 := (old2 42 rfl).trans x42
    replace x10 := (old2 10 rfl).trans x10
    replace x63 := (old2 63 rfl).trans x63
    replace x64 := (old2 64 rfl).trans x64
    replace x68 := (old2 68 rfl).trans x68
    have x69 : f17.eval (.tmp 69) = .int .i64 0 := new2
    have lt_m3 := Ob.lt m3
    replace m3 := Ob.below m3 hb
    have lt_m7 := Ob.lt m7
    replace m7 := Ob.below m7 hb
    have lt_m10 := Ob.lt m10
    replace m10 := Ob.below m10 hb
    replace v67a := Fk.mono _ _ _ _ v67a hb
    replace v67b := Fk.mono _ _ _ _ v67b hb
    replace mM := MapK.below mM hb
    replace q67a := q67a.below hb
    replace q67b := q67b.below hb
    replace bl := (bl.trans (Below.mono hb bl.size))
    replace sz := sz2.trans sz
    replace df := df2.trans df
    clear df2 sz2 old2 new2 hb
    clear x64
    refine wl_one (.nw w17.heap.size 38 [.int .i64 0, .int .i64 0, .slice none 0 0, .slice none 0 0]) rfl 12 rfl (by rw [sz]; decide) (st_alloc 38 rfl _ _ (by kernel_rfl) (Nat.le_refl _)) ?_
    intro f18 w18 df2 sz2 old2 new2 hb
    replace hbS0 := hbS
    replace hbS := hbS.trans (Below.mono hb hbS.size)
    replace bl0 := bl
    replace x1 := (old2 1 rfl).trans x1
    replace x2 := (old2 2 rfl).trans x2
    replace x3 := (old2 3 rfl).trans x3
    replace x6 := (old2 6 rfl).trans x6
    replace x26 := (old2 26 rfl).trans x26
    replace x7 := (old2 7 rfl).trans x7
    replace x39 := (old2 39 rfl).trans x39
    replace x9 := (old2 9 rfl).trans x9
    replace x41 := (old2 41 rfl).trans x41
    replace x42 := (old2 42 rfl).trans x42
    replace x10 := (old2 10 rfl).trans x10
    replace x63 := (old2 63 rfl).trans x63
    replace x68 := (old2 68 rfl).trans x68
    replace x69 := (old2 69 rfl).trans x69
    have x12 : Fk.f (.nw w17.heap.size 38 [.int .i64 0, .int .i64 0, .slice none 0 0, .slice none 0 0]) (f18.eval (.tmp 12)) w18 := new2
    have lt_m3 := Ob.lt m3
    replace m3 := Ob.below m3 hb
    have lt_m7 := Ob.lt m7
    replace m7 := Ob.below m7 hb
    have lt_m10 := Ob.lt m10
    replace m10 := Ob.below m10 hb
    replace v67a := Fk.mono _ _ _ _ v67a hb
    replace v67b := Fk.mono _ _ _ _ v67b hb
    replace mM := MapK.below mM hb
    replace q67a := q67a.below hb
    replace q67b := q67b.below hb
    replace bl := (bl.trans (Below.mono hb bl.size))
    replace sz := sz2.trans sz
    replace df := df2.trans df
    clear df2 sz2 old2 new2 hb
    obtain ⟨g12, hg12, e12, m12⟩ := x12
    have x12 := e12
    clear e12
    have nm3_12 : g3 ≠ g12 := Nat.ne_of_lt (Nat.lt_of_lt_of_le lt_m3 hg12)
    have nm7_12 : g7 ≠ g12 := Nat.ne_of_lt (Nat.lt_of_lt_of_le lt_m7 hg12)
    have nm10_12 : g10 ≠ g12 := Nat.ne_of_lt (Nat.lt_of_lt_of_le lt_m10 hg12)
    have hw12 : w.heap.size ≤ g12 := Nat.le_trans bl0.size hg12
    have hs12 := Nat.le_trans hbS0.size hg12
    refine wl_str rfl 38 (.tmp 12) (.tmp 68) rfl rfl (g12) ([.int .i64 ((kd : Nat) : Int), .int .i64 ((k : Nat) : Int), .slice sA67 (S).length sC67, .slice pA67 (P).length pC67] : List Value).toArray x12 x68 38 _ m12 (by kernel_rfl) (by kernel_rfl) (by kernel_rfl) ?_
    replace m3 : Ob (w18.setRow g12 ([.int .i64 ((kd : Nat) : Int), .int .i64 ((k : Nat) : Int), .slice sA67 (S).length sC67, .slice pA67 (P).length pC67] : List Value).toArray) (g3) 23 ((seed).map V) := Ob.setRow_other m3 _ nm3_12
    replace m7 : Ob (w18.setRow g12 ([.int .i64 ((kd : Nat) : Int), .int .i64 ((k : Nat) : Int), .slice sA67 (S).length sC67, .slice pA67 (P).length pC67] : List Value).toArray) (g7) 69 ((seed).map V ++ ([.int .i64 ((kd : Nat) : Int), .int .i64 ((2 : Nat) : Int), .int .i64 ((k + 1 : Nat) : Int)] : List Value)) := Ob.setRow_other m7 _ nm7_12
    replace m10 : Ob (w18.setRow g12 ([.int .i64 ((kd : Nat) : Int), .int .i64 ((k : Nat) : Int), .slice sA67 (S).length sC67, .slice pA67 (P).length pC67] : List Value).toArray) (g10) 69 ((seed).map V ++ ([.int .i64 ((kd : Nat) : Int), .int .i64 ((2 : Nat) : Int), .int .i64 ((k : Nat) : Int)] : List Value)) := Ob.setRow_other m10 _ nm10_12
    replace m12 : Ob (w18.setRow g12 ([.int .i64 ((kd : Nat) : Int), .int .i64 ((k : Nat) : Int), .slice sA67 (S).length sC67, .slice pA67 (P).length pC67] : List Value).toArray) (g12) 38 ([.int .i64 ((kd : Nat) : Int), .int .i64 ((k : Nat) : Int), .slice sA67 (S).length sC67, .slice pA67 (P).length pC67]) := Ob.setRow m12 ([.int .i64 ((kd : Nat) : Int), .int .i64 ((k : Nat) : Int), .slice sA67 (S).length sC67, .slice pA67 (P).length pC67])
    replace hbS : Below _ _ (w18.setRow g12 ([.int .i64 ((kd : Nat) : Int), .int .i64 ((k : Nat) : Int), .slice sA67 (S).length sC67, .slice pA67 (P).length pC67] : List Value).toArray) := hbS.trans (below_setRow _ _ _ _ hs12)
    replace v67a := Fk.mono _ _ _ _ S_v67a hbS
    replace v67b := Fk.mono _ _ _ _ S_v67b hbS
    replace mM := MapK.below S_mM hbS
    replace q67a := S_q67a.below hbS
    replace q67b := S_q67b.below hbS
    replace bl : Below w.heap.size w (w18.setRow g12 ([.int .i64 ((kd : Nat) : Int), .int .i64 ((k : Nat) : Int), .slice sA67 (S).length sC67, .slice pA67 (P).length pC67] : List Value).toArray) := bl.trans (below_setRow _ _ _ _ hw12)
    generalize w18.setRow g12 ([.int .i64 ((kd : Nat) : Int), .int .i64 ((k : Nat) : Int), .slice sA67 (S).length sC67, .slice pA67 (P).length pC67] : List Value).toArray = w19b at bl m3 m7 m10 m12 v67a v67b mM q67a q67b hbS ⊢
    clear x68
    refine wl_one (.eq (.int .i64 0)) rfl 13 rfl (by rw [sz]; decide) (st_assign (.tmp 69) rfl x69) ?_
    intro f20 w20 df2 sz2 old2 new2 hb
    replace hbS0 := hbS
    replace hbS := hbS.trans (Below.mono hb hbS.size)
    replace bl0 := bl
    replace x1 := (old2 1 rfl).trans x1
    replace x2 := (old2 2 rfl).trans x2
    replace x3 := (old2 3 rfl).trans x3
    replace x6 := (old2 6 rfl).trans x6
    replace x26 := (old2 26 rfl).trans x26
    replace x7 := (old2 7 rfl).trans x7
    replace x39 := (old2 39 rfl).trans x39
    replace x9 := (old2 9 rfl).trans x9
    replace x41 := (old2 41 rfl).trans x41
    replace x42 := (old2 42 rfl).trans x42
    replace x10 := (old2 10 rfl).trans x10
    replace x63 := (old2 63 rfl).trans x63
    replace x69 := (old2 69 rfl).trans x69
    replace x12 := (old2 12 rfl).trans x12
    have x13 : f20.eval (.tmp 13) = .int .i64 0 := new2
    have lt_m3 := Ob.lt m3
    replace m3 := Ob.below m3 hb
    have lt_m7 := Ob.lt m7
    replace m7 := Ob.below m7 hb
    have lt_m10 := Ob.lt m10
    replace m10 := Ob.below m10 hb
    have lt_m12 := Ob.lt m12
    replace m12 := Ob.below m12 hb
    replace v67a := Fk.mono _ _ _ _ v67a hb
    replace v67b := Fk.mono _ _ _ _ v67b hb
    replace mM := MapK.below mM hb
    replace q67a := q67a.below hb
    replace q67b := q67b.below hb
    replace bl := (bl.trans (Below.mono hb bl.size))
    replace sz := sz2.trans sz
    replace df := df2.trans df
    clear df2 sz2 old2 new2 hb
    refine wpList_nil ?_
    clear hbS hbS0 S_v67a S_v67b S_mM S_q67a S_q67b
    clear x69
    show Code.wp _ _ _ _ _
    refine wp_seq ?_
    -- R13
    refine wp_region_seq [.eq (.pointer (some ⟨g10, 0, none⟩)), .eq (.slice sp mm cc)] (by kernel_rfl) (by kernel_rfl) (by rw [sz]; kernel_rfl) (by kernel_rfl) ⟨fun hw ac u K => ?_, fun hw ac u K => ?_, trivial⟩ ?_
    · exact st_move (.tmp 10) rfl ((K.old 10 rfl).trans x10)
    · exact st_move (.tmp 2) rfl ((K.old 2 rfl).trans x2)
    intro f21 w21 A hb
    have S_v67a := v67a
    have S_v67b := v67b
    have S_mM := mM
    have S_q67a := q67a
    have S_q67b := q67b
    have hbS0 := Below.refl w20.heap.size w20
    have hbS := hb
    replace bl0 := bl
    replace x1 := (A.old 1 rfl).trans x1
    replace x2 := (A.old 2 rfl).trans x2
    replace x3 := (A.old 3 rfl).trans x3
    replace x6 := (A.old 6 rfl).trans x6
    replace x26 := (A.old 26 rfl).trans x26
    replace x7 := (A.old 7 rfl).trans x7
    replace x39 := (A.old 39 rfl).trans x39
    replace x9 := (A.old 9 rfl).trans x9
    replace x41 := (A.old 41 rfl).trans x41
    replace x42 := (A.old 42 rfl).trans x42
    replace x10 := (A.old 10 rfl).trans x10
    replace x63 := (A.old 63 rfl).trans x63
    replace x12 := (A.old 12 rfl).trans x12
    replace x13 := (A.old 13 rfl).trans x13
    have x71 : f21.eval (.tmp 71) = .pointer (some ⟨g10, 0, none⟩) := A.has 0 71 rfl
    have x72 : f21.eval (.tmp 72) = .slice sp mm cc := A.has 1 72 rfl
    have lt_m3 := Ob.lt m3
    replace m3 := Ob.below m3 hb
    have lt_m7 := Ob.lt m7
    replace m7 := Ob.below m7 hb
    have lt_m10 := Ob.lt m10
    replace m10 := Ob.below m10 hb
    have lt_m12 := Ob.lt m12
    replace m12 := Ob.below m12 hb
    replace v67a := Fk.mono _ _ _ _ v67a hb
    replace v67b := Fk.mono _ _ _ _ v67b hb
    replace mM := MapK.below mM hb
    replace q67a := q67a.below hb
    replace q67b := q67b.below hb
    replace bl := (bl.trans (Below.mono hb bl.size))
    replace sz := A.size.trans sz
    replace df := A.defs.trans df
    clear A hb
    have ltq_m3 := Ob.lt m3
    have ltq_m7 := Ob.lt m7
    have ltq_m10 := Ob.lt m10
    have ltq_m12 := Ob.lt m12
    have h0_10 : 0 < g10 := Nat.lt_of_lt_of_le hK.pos hw10
    refine wl_call 13 (.func 13) _ _ #[.pointer (some ⟨g10, 0, none⟩), .slice sp mm cc] rfl 73 rfl (by rw [sz]; decide) rfl rfl (arg2 x71 x72) Tryd.enter13 (SigR g10 seed kd 2 k S P w21) (sign_call hx h1 h2 (by omega) hk4 _ m10 (hK.below bl) h0_10 hml (Sl.below hsm bl (fun hm => (hsm.src hm).2.1)) (fun hm => Nat.ne_of_lt (Nat.lt_of_lt_of_le (hsm.src hm).2.1 hw10)) eS eP) ?_
    intro f22 w22 df2 sz2 old2 hR
    obtain ⟨sA73, sC73, sb73, so73, pA73, pC73, pb73, po73, e73, hsb73, q73a, hpb73, q73b, mK, O⟩ := hR
    replace x1 := (old2 1 rfl).trans x1
    replace x2 := (old2 2 rfl).trans x2
    replace x3 := (old2 3 rfl).trans x3
    replace x6 := (old2 6 rfl).trans x6
    replace x26 := (old2 26 rfl).trans x26
    replace x7 := (old2 7 rfl).trans x7
    replace x39 := (old2 39 rfl).trans x39
    replace x9 := (old2 9 rfl).trans x9
    replace x41 := (old2 41 rfl).trans x41
    replace x42 := (old2 42 rfl).trans x42
    replace x10 := (old2 10 rfl).trans x10
    replace x63 := (old2 63 rfl).trans x63
    replace x12 := (old2 12 rfl).trans x12
    replace x13 := (old2 13 rfl).trans x13
    replace x71 := (old2 71 rfl).trans x71
    replace x72 := (old2 72 rfl).trans x72
    replace m3 := Ob.only m3 O nm3_10
    replace m7 := Ob.only m7 O nm7_10
    replace m10 := mK
    clear mK
    replace m12 := Ob.only m12 O nm10_12.symm
    replace mM := MapK.only mM O nM10
    replace q67a := Hl.onlyN q67a O nq67a_10
    replace q67b := Hl.onlyN q67b O nq67b_10
    replace v67a := hl_hs (C := sC67) q67a
    replace v67b := hl_hs (C := pC67) q67b
    replace bl := bl.trans (Only.below O _ hw10 bl.size)
    replace sz := sz2.trans sz
    replace df := df2.trans df
    have x73 := e73
    have v73a : Fk.f (.hs (S)) (.slice sA73 (S).length sC73) w22 := hl_hs q73a
    have v73b : Fk.f (.hs (P)) (.slice pA73 (P).length pC73) w22 := hl_hs q73b
    clear df2 sz2 old2 O e73
    have S_v67a := v67a
    have S_v67b := v67b
    have S_v73a := v73a
    have S_v73b := v73b
    have S_mM := mM
    have S_q67a := q67a
    have S_q67b := q67b
    have hbS := Below.refl w22.heap.size w22
    have hbS0 := hbS
    have S_q73a := q73a
    have S_q73b := q73b
    clear x71
    clear x72
    refine wl_one (.eq (.tuple #[.agg ([.int .i64 ((kd : Nat) : Int), .int .i64 ((k : Nat) : Int), .slice sA73 (S).length sC73, .slice pA73 (P).length pC73] : List Value).toArray, .int .i64 0])) rfl 70 rfl (by rw [sz]; decide) (st_move (.tmp 73) rfl x73) ?_
    intro f23 w23 df2 sz2 old2 new2 hb
    replace hbS0 := hbS
    replace hbS := hbS.trans (Below.mono hb hbS.size)
    replace bl0 := bl
    replace x1 := (old2 1 rfl).trans x1
    replace x2 := (old2 2 rfl).trans x2
    replace x3 := (old2 3 rfl).trans x3
    replace x6 := (old2 6 rfl).trans x6
    replace x26 := (old2 26 rfl).trans x26
    replace x7 := (old2 7 rfl).trans x7
    replace x39 := (old2 39 rfl).trans x39
    replace x9 := (old2 9 rfl).trans x9
    replace x41 := (old2 41 rfl).trans x41
    replace x42 := (old2 42 rfl).trans x42
    replace x10 := (old2 10 rfl).trans x10
    replace x63 := (old2 63 rfl).trans x63
    replace x12 := (old2 12 rfl).trans x12
    replace x13 := (old2 13 rfl).trans x13
    replace x73 := (old2 73 rfl).trans x73
    have x70 : f23.eval (.tmp 70) = .tuple #[.agg ([.int .i64 ((kd : Nat) : Int), .int .i64 ((k : Nat) : Int), .slice sA73 (S).length sC73, .slice pA73 (P).length pC73] : List Value).toArray, .int .i64 0] := new2
    have lt_m3 := Ob.lt m3
    replace m3 := Ob.below m3 hb
    have lt_m7 := Ob.lt m7
    replace m7 := Ob.below m7 hb
    have lt_m10 := Ob.lt m10
    replace m10 := Ob.below m10 hb
    have lt_m12 := Ob.lt m12
    replace m12 := Ob.below m12 hb
    replace v67a := Fk.mono _ _ _ _ v67a hb
    replace v67b := Fk.mono _ _ _ _ v67b hb
    replace v73a := Fk.mono _ _ _ _ v73a hb
    replace v73b := Fk.mono _ _ _ _ v73b hb
    replace mM := MapK.below mM hb
    replace q67a := q67a.below hb
    replace q67b := q67b.below hb
    replace q73a := q73a.below hb
    replace q73b := q73b.below hb
    replace bl := (bl.trans (Below.mono hb bl.size))
    replace sz := sz2.trans sz
    replace df := df2.trans df
    clear df2 sz2 old2 new2 hb
    clear x73
    refine wl_one (.eq (.agg ([.int .i64 ((kd : Nat) : Int), .int .i64 ((k : Nat) : Int), .slice sA73 (S).length sC73, .slice pA73 (P).length pC73] : List Value).toArray)) rfl 74 rfl (by rw [sz]; decide) (st_ext0 (.tmp 70) rfl x70 rfl) ?_
    intro f24 w24 df2 sz2 old2 new2 hb
    replace hbS0 := hbS
    replace hbS := hbS.trans (Below.mono hb hbS.size)
    replace bl0 := bl
    replace x1 := (old2 1 rfl).trans x1
    replace x2 := (old2 2 rfl).trans x2
    replace x3 := (old2 3 rfl).trans x3
    replace x6 := (old2 6 rfl).trans x6
    replace x26 := (old2 26 rfl).trans x26
    replace x7 := (old2 7 rfl).trans x7
    replace x39 := (old2 39 rfl).trans x39
    replace x9 := (old2 9 rfl).trans x9
    replace x41 := (old2 41 rfl).trans x41
    replace x42 := (old2 42 rfl).trans x42
    replace x10 := (old2 10 rfl).trans x10
    replace x63 := (old2 63 rfl).trans x63
    replace x12 := (old2 12 rfl).trans x12
    replace x13 := (old2 13 rfl).trans x13
    replace x70 := (old2 70 rfl).trans x70
    have x74 : f24.eval (.tmp 74) = .agg ([.int .i64 ((kd : Nat) : Int), .int .i64 ((k : Nat) : Int), .slice sA73 (S).length sC73, .slice pA73 (P).length pC73] : List Value).toArray := new2
    have lt_m3 := Ob.lt m3
    replace m3 := Ob.below m3 hb
    have lt_m7 := Ob.lt m7
    replace m7 := Ob.below m7 hb
    have lt_m10 := Ob.lt m10
    replace m10 := Ob.below m10 hb
    have lt_m12 := Ob.lt m12
    replace m12 := Ob.below m12 hb
    replace v67a := Fk.mono _ _ _ _ v67a hb
    replace v67b := Fk.mono _ _ _ _ v67b hb
    replace v73a := Fk.mono _ _ _ _ v73a hb
    replace v73b := Fk.mono _ _ _ _ v73b hb
    replace mM := MapK.below mM hb
    replace q67a := q67a.below hb
    replace q67b := q67b.below hb
    replace q73a := q73a.below hb
    replace q73b := q73b.below hb
    replace bl := (bl.trans (Below.mono hb bl.size))
    replace sz := sz2.trans sz
    replace df := df2.trans df
    clear df2 sz2 old2 new2 hb
    refine wl_one (.eq (.int .i64 0)) rfl 75 rfl (by rw [sz]; decide) (st_ext1 (.tmp 70) rfl x70 rfl) ?_
    intro f25 w25 df2 sz2 old2 new2 hb
    replace hbS0 := hbS
    replace hbS := hbS.trans (Below.mono hb hbS.size)
    replace bl0 := bl
    replace x1 := (old2 1 rfl).trans x1
    replace x2 := (old2 2 rfl).trans x2
    replace x3 := (old2 3 rfl).trans x3
    replace x6 := (old2 6 rfl).trans x6
    replace x26 := (old2 26 rfl).trans x26
    replace x7 := (old2 7 rfl).trans x7
    replace x39 := (old2 39 rfl).trans x39
    replace x9 := (old2 9 rfl).trans x9
    replace x41 := (old2 41 rfl).trans x41
    replace x42 := (old2 42 rfl).trans x42
    replace x10 := (old2 10 rfl).trans x10
    replace x63 := (old2 63 rfl).trans x63
    replace x12 := (old2 12 rfl).trans x12
    replace x13 := (old2 13 rfl).trans x13
    replace x70 := (old2 70 rfl).trans x70
    replace x74 := (old2 74 rfl).trans x74
    have x75 : f25.eval (.tmp 75) = .int .i64 0 := new2
    have lt_m3 := Ob.lt m3
    replace m3 := Ob.below m3 hb
    have lt_m7 := Ob.lt m7
    replace m7 := Ob.below m7 hb
    have lt_m10 := Ob.lt m10
    replace m10 := Ob.below m10 hb
    have lt_m12 := Ob.lt m12
    replace m12 := Ob.below m12 hb
    replace v67a := Fk.mono _ _ _ _ v67a hb
    replace v67b := Fk.mono _ _ _ _ v67b hb
    replace v73a := Fk.mono _ _ _ _ v73a hb
    replace v73b := Fk.mono _ _ _ _ v73b hb
    replace mM := MapK.below mM hb
    replace q67a := q67a.below hb
    replace q67b := q67b.below hb
    replace q73a := q73a.below hb
    replace q73b := q73b.below hb
    replace bl := (bl.trans (Below.mono hb bl.size))
    replace sz := sz2.trans sz
    replace df := df2.trans df
    clear df2 sz2 old2 new2 hb
    clear x70
    refine wl_one (.nw w25.heap.size 38 [.int .i64 0, .int .i64 0, .slice none 0 0, .slice none 0 0]) rfl 14 rfl (by rw [sz]; decide) (st_alloc 38 rfl _ _ (by kernel_rfl) (Nat.le_refl _)) ?_
    intro f26 w26 df2 sz2 old2 new2 hb
    replace hbS0 := hbS
    replace hbS := hbS.trans (Below.mono hb hbS.size)
    replace bl0 := bl
    replace x1 := (old2 1 rfl).trans x1
    replace x2 := (old2 2 rfl).trans x2
    replace x3 := (old2 3 rfl).trans x3
    replace x6 := (old2 6 rfl).trans x6
    replace x26 := (old2 26 rfl).trans x26
    replace x7 := (old2 7 rfl).trans x7
    replace x39 := (old2 39 rfl).trans x39
    replace x9 := (old2 9 rfl).trans x9
    replace x41 := (old2 41 rfl).trans x41
    replace x42 := (old2 42 rfl).trans x42
    replace x10 := (old2 10 rfl).trans x10
    replace x63 := (old2 63 rfl).trans x63
    replace x12 := (old2 12 rfl).trans x12
    replace x13 := (old2 13 rfl).trans x13
    replace x74 := (old2 74 rfl).trans x74
    replace x75 := (old2 75 rfl).trans x75
    have x14 : Fk.f (.nw w25.heap.size 38 [.int .i64 0, .int .i64 0, .slice none 0 0, .slice none 0 0]) (f26.eval (.tmp 14)) w26 := new2
    have lt_m3 := Ob.lt m3
    replace m3 := Ob.below m3 hb
    have lt_m7 := Ob.lt m7
    replace m7 := Ob.below m7 hb
    have lt_m10 := Ob.lt m10
    replace m10 := Ob.below m10 hb
    have lt_m12 := Ob.lt m12
    replace m12 := Ob.below m12 hb
    replace v67a := Fk.mono _ _ _ _ v67a hb
    replace v67b := Fk.mono _ _ _ _ v67b hb
    replace v73a := Fk.mono _ _ _ _ v73a hb
    replace v73b := Fk.mono _ _ _ _ v73b hb
    replace mM := MapK.below mM hb
    replace q67a := q67a.below hb
    replace q67b := q67b.below hb
    replace q73a := q73a.below hb
    replace q73b := q73b.below hb
    replace bl := (bl.trans (Below.mono hb bl.size))
    replace sz := sz2.trans sz
    replace df := df2.trans df
    clear df2 sz2 old2 new2 hb
    obtain ⟨g14, hg14, e14, m14⟩ := x14
    have x14 := e14
    clear e14
    have nm3_14 : g3 ≠ g14 := Nat.ne_of_lt (Nat.lt_of_lt_of_le lt_m3 hg14)
    have nm7_14 : g7 ≠ g14 := Nat.ne_of_lt (Nat.lt_of_lt_of_le lt_m7 hg14)
    have nm10_14 : g10 ≠ g14 := Nat.ne_of_lt (Nat.lt_of_lt_of_le lt_m10 hg14)
    have nm12_14 : g12 ≠ g14 := Nat.ne_of_lt (Nat.lt_of_lt_of_le lt_m12 hg14)
    have hw14 : w.heap.size ≤ g14 := Nat.le_trans bl0.size hg14
    have hs14 := Nat.le_trans hbS0.size hg14
    refine wl_str rfl 38 (.tmp 14) (.tmp 74) rfl rfl (g14) ([.int .i64 ((kd : Nat) : Int), .int .i64 ((k : Nat) : Int), .slice sA73 (S).length sC73, .slice pA73 (P).length pC73] : List Value).toArray x14 x74 38 _ m14 (by kernel_rfl) (by kernel_rfl) (by kernel_rfl) ?_
    replace m3 : Ob (w26.setRow g14 ([.int .i64 ((kd : Nat) : Int), .int .i64 ((k : Nat) : Int), .slice sA73 (S).length sC73, .slice pA73 (P).length pC73] : List Value).toArray) (g3) 23 ((seed).map V) := Ob.setRow_other m3 _ nm3_14
    replace m7 : Ob (w26.setRow g14 ([.int .i64 ((kd : Nat) : Int), .int .i64 ((k : Nat) : Int), .slice sA73 (S).length sC73, .slice pA73 (P).length pC73] : List Value).toArray) (g7) 69 ((seed).map V ++ ([.int .i64 ((kd : Nat) : Int), .int .i64 ((2 : Nat) : Int), .int .i64 ((k + 1 : Nat) : Int)] : List Value)) := Ob.setRow_other m7 _ nm7_14
    replace m10 : Ob (w26.setRow g14 ([.int .i64 ((kd : Nat) : Int), .int .i64 ((k : Nat) : Int), .slice sA73 (S).length sC73, .slice pA73 (P).length pC73] : List Value).toArray) (g10) 69 ((seed).map V ++ ([.int .i64 ((kd : Nat) : Int), .int .i64 ((2 : Nat) : Int), .int .i64 ((k + 1 : Nat) : Int)] : List Value)) := Ob.setRow_other m10 _ nm10_14
    replace m12 : Ob (w26.setRow g14 ([.int .i64 ((kd : Nat) : Int), .int .i64 ((k : Nat) : Int), .slice sA73 (S).length sC73, .slice pA73 (P).length pC73] : List Value).toArray) (g12) 38 ([.int .i64 ((kd : Nat) : Int), .int .i64 ((k : Nat) : Int), .slice sA67 (S).length sC67, .slice pA67 (P).length pC67]) := Ob.setRow_other m12 _ nm12_14
    replace m14 : Ob (w26.setRow g14 ([.int .i64 ((kd : Nat) : Int), .int .i64 ((k : Nat) : Int), .slice sA73 (S).length sC73, .slice pA73 (P).length pC73] : List Value).toArray) (g14) 38 ([.int .i64 ((kd : Nat) : Int), .int .i64 ((k : Nat) : Int), .slice sA73 (S).length sC73, .slice pA73 (P).length pC73]) := Ob.setRow m14 ([.int .i64 ((kd : Nat) : Int), .int .i64 ((k : Nat) : Int), .slice sA73 (S).length sC73, .slice pA73 (P).length pC73])
    replace hbS : Below _ _ (w26.setRow g14 ([.int .i64 ((kd : Nat) : Int), .int .i64 ((k : Nat) : Int), .slice sA73 (S).length sC73, .slice pA73 (P).length pC73] : List Value).toArray) := hbS.trans (below_setRow _ _ _ _ hs14)
    replace v67a := Fk.mono _ _ _ _ S_v67a hbS
    replace v67b := Fk.mono _ _ _ _ S_v67b hbS
    replace v73a := Fk.mono _ _ _ _ S_v73a hbS
    replace v73b := Fk.mono _ _ _ _ S_v73b hbS
    replace mM := MapK.below S_mM hbS
    replace q67a := S_q67a.below hbS
    replace q67b := S_q67b.below hbS
    replace q73a := S_q73a.below hbS
    replace q73b := S_q73b.below hbS
    replace bl : Below w.heap.size w (w26.setRow g14 ([.int .i64 ((kd : Nat) : Int), .int .i64 ((k : Nat) : Int), .slice sA73 (S).length sC73, .slice pA73 (P).length pC73] : List Value).toArray) := bl.trans (below_setRow _ _ _ _ hw14)
    generalize w26.setRow g14 ([.int .i64 ((kd : Nat) : Int), .int .i64 ((k : Nat) : Int), .slice sA73 (S).length sC73, .slice pA73 (P).length pC73] : List Value).toArray = w27b at bl m3 m7 m10 m12 m14 v67a v67b v73a v73b mM q67a q67b q73a q73b hbS ⊢
    clear x74
    refine wl_one (.eq (.int .i64 0)) rfl 15 rfl (by rw [sz]; decide) (st_assign (.tmp 75) rfl x75) ?_
    intro f28 w28 df2 sz2 old2 new2 hb
    replace hbS0 := hbS
    replace hbS := hbS.trans (Below.mono hb hbS.size)
    replace bl0 := bl
    replace x1 := (old2 1 rfl).trans x1
    replace x2 := (old2 2 rfl).trans x2
    replace x3 := (old2 3 rfl).trans x3
    replace x6 := (old2 6 rfl).trans x6
    replace x26 := (old2 26 rfl).trans x26
    replace x7 := (old2 7 rfl).trans x7
    replace x39 := (old2 39 rfl).trans x39
    replace x9 := (old2 9 rfl).trans x9
    replace x41 := (old2 41 rfl).trans x41
    replace x42 := (old2 42 rfl).trans x42
    replace x10 := (old2 10 rfl).trans x10
    replace x63 := (old2 63 rfl).trans x63
    replace x12 := (old2 12 rfl).trans x12
    replace x13 := (old2 13 rfl).trans x13
    replace x75 := (old2 75 rfl).trans x75
    replace x14 := (old2 14 rfl).trans x14
    have x15 : f28.eval (.tmp 15) = .int .i64 0 := new2
    have lt_m3 := Ob.lt m3
    replace m3 := Ob.below m3 hb
    have lt_m7 := Ob.lt m7
    replace m7 := Ob.below m7 hb
    have lt_m10 := Ob.lt m10
    replace m10 := Ob.below m10 hb
    have lt_m12 := Ob.lt m12
    replace m12 := Ob.below m12 hb
    have lt_m14 := Ob.lt m14
    replace m14 := Ob.below m14 hb
    replace v67a := Fk.mono _ _ _ _ v67a hb
    replace v67b := Fk.mono _ _ _ _ v67b hb
    replace v73a := Fk.mono _ _ _ _ v73a hb
    replace v73b := Fk.mono _ _ _ _ v73b hb
    replace mM := MapK.below mM hb
    replace q67a := q67a.below hb
    replace q67b := q67b.below hb
    replace q73a := q73a.below hb
    replace q73b := q73b.below hb
    replace bl := (bl.trans (Below.mono hb bl.size))
    replace sz := sz2.trans sz
    replace df := df2.trans df
    clear df2 sz2 old2 new2 hb
    refine wpList_nil ?_
    clear hbS hbS0 S_v67a S_v67b S_v73a S_v73b S_mM S_q67a S_q67b S_q73a S_q73b
    clear x75
    show Code.wp _ _ _ _ _
    refine wp_seq ?_
    refine wp_seq ?_
    -- R14
    refine wp_all_seq [.eq (.int .i64 0), .eq (.bool false), .eq (.bool false), .eq (.int .i64 0), .eq (.bool false), .eq (.bool false), .eq (.bool false), .eq (.agg ([.int .i64 ((kd : Nat) : Int), .int .i64 ((k : Nat) : Int), .slice sA67 (S).length sC67, .slice pA67 (P).length pC67] : List Value).toArray), .eq (.agg ([.int .i64 ((kd : Nat) : Int), .int .i64 ((k : Nat) : Int), .slice sA73 (S).length sC73, .slice pA73 (P).length pC73] : List Value).toArray), .eq (.bool true), .eq (.bool false), .eq (.bool false), .eq (.bool false), .eq (.map (some mb)), .eq (.pointer (some ⟨g12, 1, none⟩)), .eq (.int .i64 ((k : Nat) : Int)), .eq (.bool false), .eq (.bool false)] (by kernel_rfl) (by kernel_rfl) (by rw [sz]; kernel_rfl) (by kernel_rfl) ⟨fun hw ac u K => ?_, fun hw ac u K => ?_, fun hw ac u K => ?_, fun hw ac u K => ?_, fun hw ac u K => ?_, fun hw ac u K => ?_, fun hw ac u K => ?_, fun hw ac u K => ?_, fun hw ac u K => ?_, fun hw ac u K => ?_, fun hw ac u K => ?_, fun hw ac u K => ?_, fun hw ac u K => ?_, fun hw ac u K => ?_, fun hw ac u K => ?_, fun hw ac u K => ?_, fun hw ac u K => ?_, fun hw ac u K => ?_, trivial⟩ ?_
    · exact st_move (.tmp 13) rfl ((K.old 13 rfl).trans x13)
    · exact st_neqi 29 (.tmp 76) (.const (.int .i64 0)) rfl .i64 (0) (0) (K.dep 0 76 rfl) rfl _ (by rfl)
    · exact st_move (.tmp 77) rfl (K.dep 1 77 rfl)
    · exact st_move (.tmp 15) rfl ((K.old 15 rfl).trans x15)
    · exact st_neqi 29 (.tmp 79) (.const (.int .i64 0)) rfl .i64 (0) (0) (K.dep 3 79 rfl) rfl _ (by rfl)
    · exact st_pick_f' (.tmp 78) (.const (.bool true)) (.tmp 80) rfl (K.dep 2 78 rfl) (K.dep 4 80 rfl)
    · exact st_move (.tmp 81) rfl (K.dep 5 81 rfl)
    · exact st_loadz 38 (.tmp 12) rfl (g12) 0 [.int .i64 ((kd : Nat) : Int), .int .i64 ((k : Nat) : Int), .slice sA67 (S).length sC67, .slice pA67 (P).length pC67] (by kernel_rfl) (by kernel_rfl) ((K.old 12 rfl).trans x12) (Ob.range (Ob.below m12 K.grow) 0 _ (fun j v hj => by simpa using hj))
    · exact st_loadz 38 (.tmp 14) rfl (g14) 0 [.int .i64 ((kd : Nat) : Int), .int .i64 ((k : Nat) : Int), .slice sA73 (S).length sC73, .slice pA73 (P).length pC73] (by kernel_rfl) (by kernel_rfl) ((K.old 14 rfl).trans x14) (Ob.range (Ob.below m14 K.grow) 0 _ (fun j v hj => by simpa using hj))
    · exact st_call 31 (.func 31) _ _ #[.agg ([.int .i64 ((kd : Nat) : Int), .int .i64 ((k : Nat) : Int), .slice sA67 (S).length sC67, .slice pA67 (P).length pC67] : List Value).toArray, .agg ([.int .i64 ((kd : Nat) : Int), .int .i64 ((k : Nat) : Int), .slice sA73 (S).length sC73, .slice pA73 (P).length pC73] : List Value).toArray] rfl rfl (arg2 (K.dep 7 83 rfl) (K.dep 8 84 rfl)) Tryd.enter31 (fk_of (sigEqual_any _ _ _ _ hSl hPl _ (Fk.mono _ _ _ _ v67a K.grow) (Fk.mono _ _ _ _ v67b K.grow) (Fk.mono _ _ _ _ v73a K.grow) (Fk.mono _ _ _ _ v73b K.grow) true (by simp)))
    · exact st_not (.tmp 85) rfl true (K.dep 9 85 rfl)
    · exact st_pick_f' (.tmp 82) (.const (.bool true)) (.tmp 86) rfl (K.dep 6 82 rfl) (K.dep 10 86 rfl)
    · exact st_move (.tmp 87) rfl (K.dep 11 87 rfl)
    · exact st_move (.tmp 9) rfl ((K.old 9 rfl).trans x9)
    · exact st_field 38 1 (.tmp 12) rfl ((K.old 12 rfl).trans x12) (by kernel_rfl)
    · exact st_loadc 3 (.tmp 90) rfl (by kernel_rfl) (K.dep 14 90 rfl) (Ob.cell (Ob.below m12 K.grow) 1 rfl)
    · exact st_look (.tmp 89) (.tmp 91) rfl (MapK.below mM K.grow) hlt (K.dep 13 89 rfl) (K.dep 15 91 rfl)
    · exact st_pick_f' (.tmp 88) (.const (.bool true)) (.tmp 92) rfl (K.dep 12 88 rfl) (K.dep 16 92 rfl)
    intro f29 w29 A hb
    replace bl0 := bl
    replace x1 := (A.old 1 rfl).trans x1
    replace x2 := (A.old 2 rfl).trans x2
    replace x3 := (A.old 3 rfl).trans x3
    replace x6 := (A.old 6 rfl).trans x6
    replace x26 := (A.old 26 rfl).trans x26
    replace x7 := (A.old 7 rfl).trans x7
    replace x39 := (A.old 39 rfl).trans x39
    replace x9 := (A.old 9 rfl).trans x9
    replace x41 := (A.old 41 rfl).trans x41
    replace x42 := (A.old 42 rfl).trans x42
    replace x10 := (A.old 10 rfl).trans x10
    replace x63 := (A.old 63 rfl).trans x63
    replace x12 := (A.old 12 rfl).trans x12
    replace x13 := (A.old 13 rfl).trans x13
    replace x14 := (A.old 14 rfl).trans x14
    replace x15 := (A.old 15 rfl).trans x15
    have x93 : f29.eval (.tmp 93) = .bool false := A.has 17 93 rfl
    have lt_m3 := Ob.lt m3
    replace m3 := Ob.below m3 hb
    have lt_m7 := Ob.lt m7
    replace m7 := Ob.below m7 hb
    have lt_m10 := Ob.lt m10
    replace m10 := Ob.below m10 hb
    have lt_m12 := Ob.lt m12
    replace m12 := Ob.below m12 hb
    have lt_m14 := Ob.lt m14
    replace m14 := Ob.below m14 hb
    replace v67a := Fk.mono _ _ _ _ v67a hb
    replace v67b := Fk.mono _ _ _ _ v67b hb
    replace v73a := Fk.mono _ _ _ _ v73a hb
    replace v73b := Fk.mono _ _ _ _ v73b hb
    replace mM := MapK.below mM hb
    replace q67a := q67a.below hb
    replace q67b := q67b.below hb
    replace q73a := q73a.below hb
    replace q73b := q73b.below hb
    replace bl := (bl.trans (Below.mono hb bl.size))
    replace sz := A.size.trans sz
    replace df := A.defs.trans df
    clear A hb
    clear x13
    clear x15
    show Code.wp _ _ _ _ _
    refine wp_cond_false x93 ?_
    refine wp_skip ?_
    show Code.wp _ _ _ _ _
    clear m14 m10
    have nM12 : g12 ≠ mb := fun e => by
      have h1 := m12
      rw [e] at h1
      have h2 := mM
      unfold Ob at h1
      unfold MapK at h2
      rw [h1] at h2
      cases h2
    replace nM12 := nM12.symm
    -- R16
    refine wp_region_seq [.eq (.map (some mb)), .eq (.pointer (some ⟨g12, 1, none⟩)), .eq (.int .i64 ((k : Nat) : Int))] (by kernel_rfl) (by kernel_rfl) (by rw [sz]; kernel_rfl) (by kernel_rfl) ⟨fun hw ac u K => ?_, fun hw ac u K => ?_, fun hw ac u K => ?_, trivial⟩ ?_
    · exact st_move (.tmp 9) rfl ((K.old 9 rfl).trans x9)
    · exact st_field 38 1 (.tmp 12) rfl ((K.old 12 rfl).trans x12) (by kernel_rfl)
    · exact st_loadc 3 (.tmp 95) rfl (by kernel_rfl) (K.dep 1 95 rfl) (Ob.cell (Ob.below m12 K.grow) 1 rfl)
    intro f30 w30 A hb
    have S_v67a := v67a
    have S_v67b := v67b
    have S_v73a := v73a
    have S_v73b := v73b
    have S_mM := mM
    have S_q67a := q67a
    have S_q67b := q67b
    have S_q73a := q73a
    have S_q73b := q73b
    have hbS0 := Below.refl w29.heap.size w29
    have hbS := hb
    replace bl0 := bl
    replace x1 := (A.old 1 rfl).trans x1
    replace x2 := (A.old 2 rfl).trans x2
    replace x3 := (A.old 3 rfl).trans x3
    replace x6 := (A.old 6 rfl).trans x6
    replace x26 := (A.old 26 rfl).trans x26
    replace x7 := (A.old 7 rfl).trans x7
    replace x39 := (A.old 39 rfl).trans x39
    replace x9 := (A.old 9 rfl).trans x9
    replace x41 := (A.old 41 rfl).trans x41
    replace x42 := (A.old 42 rfl).trans x42
    replace x10 := (A.old 10 rfl).trans x10
    replace x63 := (A.old 63 rfl).trans x63
    replace x12 := (A.old 12 rfl).trans x12
    replace x14 := (A.old 14 rfl).trans x14
    replace x93 := (A.old 93 rfl).trans x93
    have x94 : f30.eval (.tmp 94) = .map (some mb) := A.has 0 94 rfl
    have x96 : f30.eval (.tmp 96) = .int .i64 ((k : Nat) : Int) := A.has 2 96 rfl
    have lt_m3 := Ob.lt m3
    replace m3 := Ob.below m3 hb
    have lt_m7 := Ob.lt m7
    replace m7 := Ob.below m7 hb
    have lt_m12 := Ob.lt m12
    replace m12 := Ob.below m12 hb
    replace v67a := Fk.mono _ _ _ _ v67a hb
    replace v67b := Fk.mono _ _ _ _ v67b hb
    replace v73a := Fk.mono _ _ _ _ v73a hb
    replace v73b := Fk.mono _ _ _ _ v73b hb
    replace mM := MapK.below mM hb
    replace q67a := q67a.below hb
    replace q67b := q67b.below hb
    replace q73a := q73a.below hb
    replace q73b := q73b.below hb
    replace bl := (bl.trans (Below.mono hb bl.size))
    replace sz := A.size.trans sz
    replace df := A.defs.trans df
    clear A hb
    refine wl_upd rfl (.tmp 94) (.tmp 96) (.const (.bool true)) rfl rfl mM hlt x94 x96 rfl ?_
    intro w31b mM2 O
    replace m3 := Ob.only m3 O nM3.symm
    replace m7 := Ob.only m7 O nM7.symm
    replace m12 := Ob.only m12 O nM12.symm
    replace bl := bl.trans (Only.below O _ hwM bl.size)
    replace mM := mM2
    clear mM2 O
    refine wpList_nil ?_
    clear hbS hbS0 S_mM
    clear x94
    clear x96
    show Code.wp _ _ _ _ _
    -- R17
    refine wp_region_seq [.eq (.int .i64 ((k + 1 : Nat) : Int))] (by kernel_rfl) (by kernel_rfl) (by rw [sz]; kernel_rfl) (by kernel_rfl) ⟨fun hw ac u K => ?_, trivial⟩ ?_
    · exact st_add (.tmp 41) (.const (.int .i64 1)) rfl (k) (1) (k + 1) ((K.old 41 rfl).trans x41) rfl (by omega) (by omega)
    intro f32 w32 A hb
    replace bl0 := bl
    replace x1 := (A.old 1 rfl).trans x1
    replace x2 := (A.old 2 rfl).trans x2
    replace x3 := (A.old 3 rfl).trans x3
    replace x6 := (A.old 6 rfl).trans x6
    replace x26 := (A.old 26 rfl).trans x26
    replace x7 := (A.old 7 rfl).trans x7
    replace x39 := (A.old 39 rfl).trans x39
    replace x9 := (A.old 9 rfl).trans x9
    replace x41 := (A.old 41 rfl).trans x41
    replace x42 := (A.old 42 rfl).trans x42
    replace x10 := (A.old 10 rfl).trans x10
    replace x63 := (A.old 63 rfl).trans x63
    replace x12 := (A.old 12 rfl).trans x12
    replace x14 := (A.old 14 rfl).trans x14
    replace x93 := (A.old 93 rfl).trans x93
    have x97 : f32.eval (.tmp 97) = .int .i64 ((k + 1 : Nat) : Int) := A.has 0 97 rfl
    have lt_m3 := Ob.lt m3
    replace m3 := Ob.below m3 hb
    have lt_m7 := Ob.lt m7
    replace m7 := Ob.below m7 hb
    have lt_m12 := Ob.lt m12
    replace m12 := Ob.below m12 hb
    replace mM := MapK.below mM hb
    replace bl := (bl.trans (Below.mono hb bl.size))
    replace sz := A.size.trans sz
    replace df := A.defs.trans df
    clear A hb
    refine wl_one (.eq (.int .i64 ((k + 1 : Nat) : Int))) rfl 41 rfl (by rw [sz]; decide) (st_move (.tmp 97) rfl x97) ?_
    intro f33 w33 df2 sz2 old2 new2 hb
    replace bl0 := bl
    replace x1 := (old2 1 rfl).trans x1
    replace x2 := (old2 2 rfl).trans x2
    replace x3 := (old2 3 rfl).trans x3
    replace x6 := (old2 6 rfl).trans x6
    replace x26 := (old2 26 rfl).trans x26
    replace x7 := (old2 7 rfl).trans x7
    replace x39 := (old2 39 rfl).trans x39
    replace x9 := (old2 9 rfl).trans x9
    clear x41
    replace x42 := (old2 42 rfl).trans x42
    replace x10 := (old2 10 rfl).trans x10
    replace x63 := (old2 63 rfl).trans x63
    replace x12 := (old2 12 rfl).trans x12
    replace x14 := (old2 14 rfl).trans x14
    replace x93 := (old2 93 rfl).trans x93
    replace x97 := (old2 97 rfl).trans x97
    have x41 : f33.eval (.tmp 41) = .int .i64 ((k + 1 : Nat) : Int) := new2
    have lt_m3 := Ob.lt m3
    replace m3 := Ob.below m3 hb
    have lt_m7 := Ob.lt m7
    replace m7 := Ob.below m7 hb
    have lt_m12 := Ob.lt m12
    replace m12 := Ob.below m12 hb
    replace mM := MapK.below mM hb
    replace bl := (bl.trans (Below.mono hb bl.size))
    replace sz := sz2.trans sz
    replace df := df2.trans df
    clear df2 sz2 old2 new2 hb
    refine wpList_nil ?_
    clear x97
    show (∃ _, _) ∧ _
    refine ⟨⟨k + 1, by omega, sz, df, x1, x2, x3, x6, x26, x7, x39, x9, x41, m3, m7, mM, bl⟩, ?_⟩
    rw [show f33.eval (.tmp 41) = _ from x41, show _ = _ from hcnt]
    simp [intOf]
    omega
  have hcs : kind < 1 ∨ (1 ≤ kind ∧ 2 < kind) ∨ (1 ≤ kind ∧ kind ≤ 2 ∧ 200 < msg.length) := by omega
  rcases hcs with hcs | hcs | hcs
  · skip
    -- R1
    refine wp_all_seq [.eq (.int .i64 (kind)), .eq (.bool true), .eq (.bool true), .any, .any, .eq (.bool true), .eq (.bool true), .any, .any, .any, .eq (.bool true)] (by kernel_rfl) (by kernel_rfl) (by rw [sz]; kernel_rfl) (by kernel_rfl) ⟨fun hw ac u K => ?_, fun hw ac u K => ?_, fun hw ac u K => ?_, fun hw ac u K => ?_, fun hw ac u K => ?_, fun hw ac u K => ?_, fun hw ac u K => ?_, fun hw ac u K => ?_, fun hw ac u K => ?_, fun hw ac u K => ?_, fun hw ac u K => ?_, trivial⟩ ?_
    · exact st_move (.tmp 1) rfl ((K.old 1 rfl).trans x1)
    · exact st_lss 3 (.tmp 16) (.const (.int .i64 1)) rfl .i64 ((kind)) (1) (K.dep 0 16 rfl) rfl _ (by rw [eq_comm, decide_eq_true_iff]; omega)
    · exact st_move (.tmp 17) rfl (K.dep 1 17 rfl)
    · exact (Bool.false_ne_true hw).elim
    · exact (Bool.false_ne_true hw).elim
    · exact st_pick_t (.tmp 18) (.const (.bool true)) (.tmp 20) rfl (K.dep 2 18 rfl) rfl
    · exact st_move (.tmp 21) rfl (K.dep 5 21 rfl)
    · exact (Bool.false_ne_true hw).elim
    · exact (Bool.false_ne_true hw).elim
    · exact (Bool.false_ne_true hw).elim
    · exact st_pick_t (.tmp 22) (.const (.bool true)) (.tmp 25) rfl (K.dep 6 22 rfl) rfl
    intro f4 w4 A hb
    replace bl0 := bl
    replace x1 := (A.old 1 rfl).trans x1
    replace x2 := (A.old 2 rfl).trans x2
    replace x3 := (A.old 3 rfl).trans x3
    replace x6 := (A.old 6 rfl).trans x6
    have x26 : f4.eval (.tmp 26) = .bool true := A.has 10 26 rfl
    have lt_m3 := Ob.lt m3
    replace m3 := Ob.below m3 hb
    replace bl := (bl.trans (Below.mono hb bl.size))
    replace sz := A.size.trans sz
    replace df := A.defs.trans df
    clear A hb
    show Code.wp _ _ _ _ _
    refine wp_cond_true x26 ?_
    refine wp_seq ?_
    -- R2
    refine wp_all_seq [.eq (.bool true), .eq (.bool true)] (by kernel_rfl) (by kernel_rfl) (by rw [sz]; kernel_rfl) (by kernel_rfl) ⟨fun hw ac u K => ?_, fun hw ac u K => ?_, trivial⟩ ?_
    · exact st_call 8 (.func 8) _ _ #[] rfl rfl rfl Tryd.enter8 (fk_of (awake_any _ (hK.below (bl.trans (Below.mono K.grow bl.size)))))
    · exact st_assign (.tmp 27) rfl (K.dep 0 27 rfl)
    intro f5 w5 A hb
    replace bl0 := bl
    replace x1 := (A.old 1 rfl).trans x1
    replace x2 := (A.old 2 rfl).trans x2
    replace x3 := (A.old 3 rfl).trans x3
    clear x6
    replace x26 := (A.old 26 rfl).trans x26
    have x6 : f5.eval (.tmp 6) = .bool true := A.has 1 6 rfl
    have lt_m3 := Ob.lt m3
    replace m3 := Ob.below m3 hb
    replace bl := (bl.trans (Below.mono hb bl.size))
    replace sz := A.size.trans sz
    replace df := A.defs.trans df
    clear A hb
    show Code.wp _ _ _ _ _
    refine wp_ret ?_
    repeat (first | with_reducible refine then_ret ?_ | with_reducible refine block_ret ?_)
    exact bodyPost_ret (v := .bool true) (ret_slot rfl f5 _ x6 _ _) df ⟨rfl, bl⟩
  · skip
    -- R1
    refine wp_all_seq [.eq (.int .i64 (kind)), .eq (.bool false), .eq (.bool false), .eq (.int .i64 (kind)), .eq (.bool true), .eq (.bool true), .eq (.bool true), .any, .any, .any, .eq (.bool true)] (by kernel_rfl) (by kernel_rfl) (by rw [sz]; kernel_rfl) (by kernel_rfl) ⟨fun hw ac u K => ?_, fun hw ac u K => ?_, fun hw ac u K => ?_, fun hw ac u K => ?_, fun hw ac u K => ?_, fun hw ac u K => ?_, fun hw ac u K => ?_, fun hw ac u K => ?_, fun hw ac u K => ?_, fun hw ac u K => ?_, fun hw ac u K => ?_, trivial⟩ ?_
    · exact st_move (.tmp 1) rfl ((K.old 1 rfl).trans x1)
    · exact st_lss 3 (.tmp 16) (.const (.int .i64 1)) rfl .i64 ((kind)) (1) (K.dep 0 16 rfl) rfl _ (by rw [eq_comm, decide_eq_false_iff_not]; omega)
    · exact st_move (.tmp 17) rfl (K.dep 1 17 rfl)
    · exact st_move (.tmp 1) rfl ((K.old 1 rfl).trans x1)
    · exact st_gtr 3 (.tmp 19) (.const (.int .i64 2)) rfl .i64 ((kind)) (2) (K.dep 3 19 rfl) rfl _ (by rw [eq_comm, decide_eq_true_iff]; omega)
    · exact st_pick_f' (.tmp 18) (.const (.bool true)) (.tmp 20) rfl (K.dep 2 18 rfl) (K.dep 4 20 rfl)
    · exact st_move (.tmp 21) rfl (K.dep 5 21 rfl)
    · exact (Bool.false_ne_true hw).elim
    · exact (Bool.false_ne_true hw).elim
    · exact (Bool.false_ne_true hw).elim
    · exact st_pick_t (.tmp 22) (.const (.bool true)) (.tmp 25) rfl (K.dep 6 22 rfl) rfl
    intro f4 w4 A hb
    replace bl0 := bl
    replace x1 := (A.old 1 rfl).trans x1
    replace x2 := (A.old 2 rfl).trans x2
    replace x3 := (A.old 3 rfl).trans x3
    replace x6 := (A.old 6 rfl).trans x6
    have x26 : f4.eval (.tmp 26) = .bool true := A.has 10 26 rfl
    have lt_m3 := Ob.lt m3
    replace m3 := Ob.below m3 hb
    replace bl := (bl.trans (Below.mono hb bl.size))
    replace sz := A.size.trans sz
    replace df := A.defs.trans df
    clear A hb
    show Code.wp _ _ _ _ _
    refine wp_cond_true x26 ?_
    refine wp_seq ?_
    -- R2
    refine wp_all_seq [.eq (.bool true), .eq (.bool true)] (by kernel_rfl) (by kernel_rfl) (by rw [sz]; kernel_rfl) (by kernel_rfl) ⟨fun hw ac u K => ?_, fun hw ac u K => ?_, trivial⟩ ?_
    · exact st_call 8 (.func 8) _ _ #[] rfl rfl rfl Tryd.enter8 (fk_of (awake_any _ (hK.below (bl.trans (Below.mono K.grow bl.size)))))
    · exact st_assign (.tmp 27) rfl (K.dep 0 27 rfl)
    intro f5 w5 A hb
    replace bl0 := bl
    replace x1 := (A.old 1 rfl).trans x1
    replace x2 := (A.old 2 rfl).trans x2
    replace x3 := (A.old 3 rfl).trans x3
    clear x6
    replace x26 := (A.old 26 rfl).trans x26
    have x6 : f5.eval (.tmp 6) = .bool true := A.has 1 6 rfl
    have lt_m3 := Ob.lt m3
    replace m3 := Ob.below m3 hb
    replace bl := (bl.trans (Below.mono hb bl.size))
    replace sz := A.size.trans sz
    replace df := A.defs.trans df
    clear A hb
    show Code.wp _ _ _ _ _
    refine wp_ret ?_
    repeat (first | with_reducible refine then_ret ?_ | with_reducible refine block_ret ?_)
    exact bodyPost_ret (v := .bool true) (ret_slot rfl f5 _ x6 _ _) df ⟨rfl, bl⟩
  -- R1
  refine wp_all_seq [.eq (.int .i64 (kind)), .eq (.bool false), .eq (.bool false), .eq (.int .i64 (kind)), .eq (.bool false), .eq (.bool false), .eq (.bool false), .eq (.slice sp mm cc), .eq (.int .i64 (((msg).length : Nat) : Int)), .eq (.bool true), .eq (.bool true)] (by kernel_rfl) (by kernel_rfl) (by rw [sz]; kernel_rfl) (by kernel_rfl) ⟨fun hw ac u K => ?_, fun hw ac u K => ?_, fun hw ac u K => ?_, fun hw ac u K => ?_, fun hw ac u K => ?_, fun hw ac u K => ?_, fun hw ac u K => ?_, fun hw ac u K => ?_, fun hw ac u K => ?_, fun hw ac u K => ?_, fun hw ac u K => ?_, trivial⟩ ?_
  · exact st_move (.tmp 1) rfl ((K.old 1 rfl).trans x1)
  · exact st_lss 3 (.tmp 16) (.const (.int .i64 1)) rfl .i64 ((kind)) (1) (K.dep 0 16 rfl) rfl _ (by rw [eq_comm, decide_eq_false_iff_not]; omega)
  · exact st_move (.tmp 17) rfl (K.dep 1 17 rfl)
  · exact st_move (.tmp 1) rfl ((K.old 1 rfl).trans x1)
  · exact st_gtr 3 (.tmp 19) (.const (.int .i64 2)) rfl .i64 ((kind)) (2) (K.dep 3 19 rfl) rfl _ (by rw [eq_comm, decide_eq_false_iff_not]; omega)
  · exact st_pick_f' (.tmp 18) (.const (.bool true)) (.tmp 20) rfl (K.dep 2 18 rfl) (K.dep 4 20 rfl)
  · exact st_move (.tmp 21) rfl (K.dep 5 21 rfl)
  · exact st_move (.tmp 2) rfl ((K.old 2 rfl).trans x2)
  · exact st_lenb (.tmp 23) rfl (fk_val (K.dep 7 23 rfl) (Fk.mono _ _ _ _ vm (bl.trans (Below.mono K.grow bl.size))))
  · exact st_gtr 3 (.tmp 24) (.const (.int .i64 200)) rfl .i64 ((((msg).length : Nat) : Int)) (200) (K.dep 8 24 rfl) rfl _ (by rw [eq_comm, decide_eq_true_iff]; omega)
  · exact st_pick_f' (.tmp 22) (.const (.bool true)) (.tmp 25) rfl (K.dep 6 22 rfl) (K.dep 9 25 rfl)
  intro f4 w4 A hb
  replace bl0 := bl
  replace x1 := (A.old 1 rfl).trans x1
  replace x2 := (A.old 2 rfl).trans x2
  replace x3 := (A.old 3 rfl).trans x3
  replace x6 := (A.old 6 rfl).trans x6
  have x26 : f4.eval (.tmp 26) = .bool true := A.has 10 26 rfl
  have lt_m3 := Ob.lt m3
  replace m3 := Ob.below m3 hb
  replace bl := (bl.trans (Below.mono hb bl.size))
  replace sz := A.size.trans sz
  replace df := A.defs.trans df
  clear A hb
  show Code.wp _ _ _ _ _
  refine wp_cond_true x26 ?_
  refine wp_seq ?_
  -- R2
  refine wp_all_seq [.eq (.bool true), .eq (.bool true)] (by kernel_rfl) (by kernel_rfl) (by rw [sz]; kernel_rfl) (by kernel_rfl) ⟨fun hw ac u K => ?_, fun hw ac u K => ?_, trivial⟩ ?_
  · exact st_call 8 (.func 8) _ _ #[] rfl rfl rfl Tryd.enter8 (fk_of (awake_any _ (hK.below (bl.trans (Below.mono K.grow bl.size)))))
  · exact st_assign (.tmp 27) rfl (K.dep 0 27 rfl)
  intro f5 w5 A hb
  replace bl0 := bl
  replace x1 := (A.old 1 rfl).trans x1
  replace x2 := (A.old 2 rfl).trans x2
  replace x3 := (A.old 3 rfl).trans x3
  clear x6
  replace x26 := (A.old 26 rfl).trans x26
  have x6 : f5.eval (.tmp 6) = .bool true := A.has 1 6 rfl
  have lt_m3 := Ob.lt m3
  replace m3 := Ob.below m3 hb
  replace bl := (bl.trans (Below.mono hb bl.size))
  replace sz := A.size.trans sz
  replace df := A.defs.trans df
  clear A hb
  show Code.wp _ _ _ _ _
  refine wp_ret ?_
  repeat (first | with_reducible refine then_ret ?_ | with_reducible refine block_ret ?_)
  exact bodyPost_ret (v := .bool true) (ret_slot rfl f5 _ x6 _ _) df ⟨rfl, bl⟩
end Go.Proofs.YtnanipeapjpkfaaDoor
namespace Go.Proofs.YtnanipeapjpkfaaDoor
set_option maxRecDepth 100000
open Go.ChangeShapes Go.WideShapes Go.ChangeAt Go.RowKit

theorem own : ownKnob Tryd.prog.godebug = none := by kernel_rfl
theorem laidOut : laidOutB Tryd.prog = true := by kernel_rfl
theorem gK : Tryd.prog.globalNamed "syngraph/sha.roundNumbers" = some 0 := by kernel_rfl
theorem tK : (Tryd.prog.globals[0]?).map (·.type) = some 116 := by kernel_rfl
theorem cells108 : Tryd.prog.cellsOf 108 = 1 := by kernel_rfl
theorem cells116 : Tryd.prog.cellsOf 116 = 64 := by kernel_rfl
theorem cells5 : Tryd.prog.cellsOf 5 = 1 := by kernel_rfl
theorem cells23 : Tryd.prog.cellsOf 23 = 32 := by kernel_rfl
theorem under108 : Tryd.prog.underlying 108 = some (.int .u32) := by kernel_rfl
/-- What the rows list. -/
def laidK : List (String × DataW Unit) := [("syngraph/sha.roundNumbers", Rows.laid_syngraph_sha_roundNumbers)]
theorem laidK_tab : laidK = [("syngraph/sha.roundNumbers", Lib.tabData .u32 (KN.map vl))] := by kernel_rfl
theorem hasK_of {W : World} (h : laidMetH Tryd.prog laidK W) : HasK W 0 ∧ 0 < W.heap.size := by
  rw [MakeChecks.laidMetH_plain _ _ _ (by kernel_rfl), laidK_tab] at h
  have hT := Lib.tabIs_of_head gK tK Tryd.under116 under108 cells108 cells116 h
  have hc : ∀ i, i < 64 → W.cell? ⟨0, i, none⟩ = some (.int .u32 (vl (KN.getD i 0))) := fun i hi => by
    rw [hT.cell gK i (by simpa [KN] using hi)]
    have hi' : i < KN.length := by simpa [KN] using hi
    simp [hi']
  exact ⟨hc, block_lt_of_cell (hc 0 (by omega))⟩
/-- An array of bytes, by value, opened. -/
theorem open_arr8 {H : Type} {enc : TypeId × Value → H} {P : Program} {w : World} {r : Reach} {b0 base : Nat} {spare : Nat → Bool} {held : Bool} {t e : TypeId} {n : Nat} {v : Value} {d : DataW H} {p : List MemPlace}
    (ht : P.underlying t = some (.array n e)) (he : P.underlying e = some (.int .u8)) (hce : P.cellsOf e = 1) (hct : P.cellsOf t = n)
    (hv : Value.okWide P w r b0 t v) (h : DataW.Trod enc P w base spare held t v d p) : ∃ xs : List (BitVec 8), xs.length = n ∧ v = .agg (xs.map V).toArray := by
  unfold Value.okWide at hv
  rw [ht] at hv
  obtain ⟨cs, rfl, hsz, _⟩ := hv
  obtain ⟨fuel, hf⟩ := h
  obtain ⟨ys, m, _, _, hl, hn, hel⟩ := DataW.trod_array ht hf
  have hcell : ∀ i, i < n → ∃ z : Int, cs.toList[i]? = some (.int .u8 z) ∧ 0 ≤ z ∧ z < 256 := fun i hi => by
    have h1 := hel i hi
    rw [hce, List.getElem?_eq_getElem (by omega)] at h1
    obtain ⟨z, hc, _, hw⟩ := DataW.trod_int he h1
    refine ⟨z, ?_, ?_⟩
    · have := congrArg (·[0]?) hc
      simpa [List.getElem?_take, List.getElem?_drop, Value.cells] using this
    · have := bounds_u8 hw
      omega
  refine ⟨cs.toList.map fun v => match v with | .int _ z => BitVec.ofInt 8 z | _ => 0, ?_, ?_⟩
  · rw [List.length_map, Array.length_toList]; omega
  · congr 1
    apply Array.toList_inj.1
    apply List.ext_getElem?
    intro i
    by_cases hi : i < n
    · obtain ⟨z, hz, h0, h1⟩ := hcell i hi
      rw [hz]
      simp only [List.getElem?_map, hz, Option.map_some, List.map_map, Function.comp]
      simp only [V, bv]
      rw [BitVec.toNat_ofInt]
      congr 2
      omega
    · rw [List.getElem?_eq_none (by simp; omega), List.getElem?_eq_none (by simp; omega)]
theorem door_met (os : Os) (args : Array Value) : laidMetH Tryd.prog laidK ((World.doorLaid Tryd.prog 400 os).forCall (fun _ _ => 0) ⟨#[], args, []⟩).memory :=
  laidMetH_of_parts3 (fuel := 8) (laidMet_of_run' 8 (by kernel_rfl) (by kernel_rfl)) (by kernel_rfl) (by kernel_rfl)
end Go.Proofs.YtnanipeapjpkfaaDoor
namespace Go.Proofs.YtnanipeapjpkfaaDoor
set_option maxRecDepth 100000
open Go.ChangeShapes Go.WideShapes Go.ChangeAt Go.RowKit
theorem bv_ofInt (z : Int) (h0 : 0 ≤ z) (h1 : z < 256) : bv (BitVec.ofInt 8 z) = z := by
  unfold bv
  rw [BitVec.toNat_ofInt]
  omega
theorem sl_of {H : Type} {enc : TypeId × Value → H} {W : World} {a : Option Addr} {len cap : Nat} {d : DataW H} {p : List MemPlace}
    (h : DataW.Trod enc Tryd.prog W 0 (fun _ => true) true 36 (.slice a len cap) d p) : ∃ bs b o, Sl W a len cap bs b o ∧ len ≤ maxLen := by
  obtain ⟨fuel, hf⟩ := h
  rcases open_ints Tryd.under36 Tryd.under5 (by kernel_rfl) hf with ⟨hcs, _⟩ | ⟨x, l, c, zs, hcs, _, hl, hm, hz, _, hcell, hwz⟩
  · simp [Value.cells] at hcs
    obtain ⟨rfl, rfl, rfl⟩ := hcs
    exact ⟨[], 0, 0, ⟨rfl, Nat.le_refl _, fun _ => ⟨rfl, rfl⟩, fun h => absurd h (by omega)⟩, by unfold maxLen; omega⟩
  · simp [Value.cells] at hcs
    obtain ⟨rfl, rfl, rfl⟩ := hcs
    have hlen : zs.length = cap := by simpa using hz
    refine ⟨(zs.take len).map (BitVec.ofInt 8), x.block, x.off, ⟨?_, hl, fun h => by (cases h), fun hp => ?_⟩, by unfold maxLen at *; omega⟩
    · rw [List.length_map, List.length_take]; omega
    · have hspot : x.spot = none := by
        have := hcell 0 (by omega)
        simp only [Addr.add, if_true] at this
        unfold World.cell? at this
        split at this
        · split at this
          · cases this
          · rename_i h; simpa using h
        · cases this
      have hx : x = ⟨x.block, x.off, none⟩ := by rw [← hspot]
      have hadd : ∀ i, x.add i = ⟨x.block, x.off + i, none⟩ := fun i => by
        unfold Addr.add
        split
        · rename_i h; subst h; rw [Nat.add_zero]; exact hx
        · rfl
      refine ⟨by rw [← hx], ?_, ?_⟩
      · have := block_lt_of_cell (hcell 0 (by omega))
        simpa [Addr.add] using this
      · intro i hi
        have hil : i < zs.length := by rw [List.length_map, List.length_take] at hi; omega
        have hin : i < len := by rw [List.length_map, List.length_take] at hi; omega
        rw [← hadd, hcell i hil]
        have hb := bounds_u8 (hwz (zs[i]) (List.getElem_mem hil))
        have e1 : zs.getD i 0 = zs[i] := by simp [hil]
        have e2 : ((zs.take len).map (BitVec.ofInt 8)).getD i 0 = BitVec.ofInt 8 zs[i] := by simp [hil, hin]
        rw [e1, e2, bv_ofInt _ (by omega) (by omega)]
end Go.Proofs.YtnanipeapjpkfaaDoor
