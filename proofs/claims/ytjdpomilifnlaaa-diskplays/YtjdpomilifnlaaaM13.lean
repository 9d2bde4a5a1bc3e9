/- What the program's disk tells (open); the law's same. The step of every kind; New (open). Calls of the program's disk; awake. -/
import Derived.Test.YtjdpomilifnlaaaM12
import Derived.Test.YtjdpomilifnlaaaM6
namespace Go.Proofs.Ytjdpomilifnlaaa
set_option maxRecDepth 100000
open Go.RowKit
theorem same_any {w : World} {gd x h c : Nat} {M D : Nat → Prop} {s : Dst} (hd : HD w gd M D s) (hx : HX w x h c s) (h60 : s.has.length ≤ 100000) :
    Calls Try.prog 13 #[.pointer (some ⟨gd, 0, none⟩), .pointer (some ⟨x, 0, none⟩)] w fun e w' => e = .returned (.bool true) ∧ Below w.heap.size w w' := by
  obtain ⟨Ch, Cc, m0, rh, rc, hl, n1, n2, n3, hma, hmm⟩ := hx
  go_enter Try.func13, Try.ntmps13
  refine code_both (fun f w1 => f.tmps.size = 82 ∧ f.defers = [] ∧ f.eval (.tmp 0) = .pointer (some ⟨gd, 0, none⟩) ∧ f.eval (.tmp 1) = .pointer (some ⟨x, 0, none⟩) ∧ Below w.heap.size w (w1)) ⟨rfl, rfl, rfl, rfl, Below.refl _ _⟩ ?_
  rintro f0 w0 ⟨sz, df, x0, x1, bl⟩
  have sd := And.intro sz df
  clear sz df
  have bl0 := bl
  refine wp_seq ?_
  refine wr_a [.eq (.bool false)] (by rw [sd.1]; kernel_rfl) ⟨fun hw ac u K => ?_, trivial⟩ ?_
  · exact st_assign (.const (.bool false)) rfl rfl
  intro f1 w1 A hb
  replace x0 := A.t x0 rfl
  replace x1 := A.t x1 rfl
  replace bl := bgo bl hb
  replace sd := A.sd sd
  clear A hb
  show Code.wp _ _ _ _ _
  refine wp_seq ?_
  refine wr_a [.eq (.pointer (some ⟨gd, 0, none⟩)), .is (clp s.cch s.has.length), .is (clp s.cch s.has.length)] (by rw [sd.1]; kernel_rfl) ⟨fun hw ac u K => ?_, fun hw ac u K => ?_, fun hw ac u K => ?_, trivial⟩ ?_
  · exact st_move (.tmp 0) rfl (K.t x0 rfl)
  · exact st_call 20 (.func 20) _ _ _ rfl rfl (one_arg (K.dep 0 8 rfl)) Try.enter20 (fk_dcached (HD.below hd (bgo bl K.grow)))
  · exact st_assign (.tmp 9) rfl (K.dep 1 9 rfl)
  intro f2 w2 A hb
  replace x0 := A.t x0 rfl
  replace x1 := A.t x1 rfl
  have x5 : Fk.f (.is (clp s.cch s.has.length)) (f2.eval (.tmp 5)) w2 := A.has 2 5 rfl
  replace bl := bgo bl hb
  replace sd := A.sd sd
  clear A hb
  obtain ⟨vl, e5⟩ : ∃ v, f2.eval (.tmp 5) = v := ⟨_, rfl⟩
  have hvl := x5
  rw [e5] at hvl
  replace x5 := e5
  clear e5
  show Code.wp _ _ _ _ _
  refine wp_seq ?_
  refine wr_a [.eq (.int .i64 0)] (by rw [sd.1]; kernel_rfl) ⟨fun hw ac u K => ?_, trivial⟩ ?_
  · exact st_assign (.const (.int .i64 0)) rfl rfl
  intro f3 w3 A hb
  replace x0 := A.t x0 rfl
  replace x1 := A.t x1 rfl
  replace x5 := A.t x5 rfl
  have x6 := A.e 0 6 rfl rfl
  replace hvl := Fk.mono _ _ _ _ hvl hb
  replace bl := bgo bl hb
  replace sd := A.sd sd
  clear A hb
  show Code.wp _ _ _ _ _
  refine wp_seq ?_
  refine wp_seq ?_
  refine wr_a [.eq (.pointer (some ⟨x, 0, none⟩)), .eq (.pointer (some ⟨x, 0, none⟩)), .eq (.pointer (some ⟨x, 0, none⟩)), .eq (.slice (some ⟨h, 0, none⟩) s.has.length Ch), .eq (.int .i64 (s.has.length : Int)), .eq (.int .i64 0)] (by rw [sd.1]; kernel_rfl) ⟨fun hw ac u K => ?_, fun hw ac u K => ?_, fun hw ac u K => ?_, fun hw ac u K => ?_, fun hw ac u K => ?_, fun hw ac u K => ?_, trivial⟩ ?_
  · exact st_move (.tmp 1) rfl (K.t x1 rfl)
  · exact st_nil (.tmp 10) rfl (K.dep 0 10 rfl)
  · exact st_field 66 0 (.tmp 11) rfl (K.dep 1 11 rfl) (by kernel_rfl)
  · exact st_loadc 45 (.tmp 12) rfl (by kernel_rfl) (K.dep 2 12 rfl) (Ob.cell (Ob.below m0 (bgo bl K.grow)) 0 rfl)
  · exact st_lens (.tmp 13) rfl (K.dep 3 13 rfl)
  · exact st_move (.const (.int .i64 0)) rfl rfl
  intro f4 w4 A hb
  replace x0 := A.t x0 rfl
  replace x1 := A.t x1 rfl
  replace x5 := A.t x5 rfl
  replace x6 := A.t x6 rfl
  have x14 := A.e 4 14 rfl rfl
  have x15 := A.e 5 15 rfl rfl
  replace hvl := Fk.mono _ _ _ _ hvl hb
  replace bl := bgo bl hb
  replace sd := A.sd sd
  clear A hb
  show Code.wp _ _ _ _ _
  refine wp_block ?_
  refine wp_loop (fun f v1 => ∃ (k n : Nat), k ≤ s.has.length ∧ n = (clp s.cch k).length ∧ f.tmps.size = 82 ∧ f.defers = [] ∧ f.eval (.tmp 0) = .pointer (some ⟨gd, 0, none⟩) ∧ f.eval (.tmp 1) = .pointer (some ⟨x, 0, none⟩) ∧ f.eval (.tmp 5) = vl ∧ f.eval (.tmp 14) = .int .i64 (s.has.length : Int) ∧ f.eval (.tmp 6) = .int .i64 (n : Int) ∧ f.eval (.tmp 15) = .int .i64 (k : Int) ∧ Fk.f (.is (clp s.cch s.has.length)) (vl) v1 ∧ Below w.heap.size w (v1)) (fun f _ => s.has.length - (intOf (f.eval (.tmp 15))).toNat) ⟨0, 0, Nat.zero_le _, rfl, sd.1, sd.2, x0, x1, x5, x14, x6, x15, hvl, bl⟩ ?_
  intro f5 w5 hI
  clear sd bl bl0 x0 x1 x5 x6 x14 x15 hvl
  obtain ⟨k, n, hk9, hn, sz, df, x0, x1, x5, x14, x6, x15, hvl, bl⟩ := hI
  have sd := And.intro sz df
  clear sz df
  have bl0 := bl
  have hcnt := x15
  refine wp_seq ?_
  by_cases hlt : k < s.has.length
  rotate_left
  · skip
    refine wr_a [.eq (.bool false)] (by rw [sd.1]; kernel_rfl) ⟨fun hw ac u K => ?_, trivial⟩ ?_
    · exact st_lss 3 (.tmp 15) (.tmp 14) rfl .i64 ((k : Int)) ((s.has.length : Int)) (K.t x15 rfl) (K.t x14 rfl) _ (by rw [eq_comm, decide_eq_false_iff_not]; omega)
    intro f6 w6 A hb
    replace x0 := A.t x0 rfl
    replace x1 := A.t x1 rfl
    replace x5 := A.t x5 rfl
    replace x6 := A.t x6 rfl
    replace x14 := A.t x14 rfl
    replace x15 := A.t x15 rfl
    have x16 := A.e 0 16 rfl rfl
    replace hvl := Fk.mono _ _ _ _ hvl hb
    replace bl := bgo bl hb
    replace sd := A.sd sd
    clear A hb
    show Code.wp _ _ _ _ _
    refine wp_seq ?_
    refine wp_cond_false x16 ?_
    refine wp_exit ?_
    show Code.wp _ _ _ _ _
    refine wp_seq ?_
    obtain rfl : k = s.has.length := by omega
    refine wr_d [.eq (.int .i64 (n : Int)), .eq (vl), .eq (.int .i64 (((clp s.cch s.has.length).length : Nat) : Int)), .eq (.bool true), .eq (.bool true), .eq (.pointer (some ⟨gd, 0, none⟩)), .eq (.int .i64 (s.done : Int)), .eq (.pointer (some ⟨x, 0, none⟩)), .eq (.pointer (some ⟨x, 0, none⟩)), .eq (.pointer (some ⟨x, 4, none⟩)), .eq (.int .i64 (s.done : Int)), .eq (.bool true), .eq (.bool true), .eq (.bool true), .eq (.pointer (some ⟨gd, 0, none⟩)), .eq (.bool s.down), .eq (.pointer (some ⟨x, 0, none⟩)), .eq (.pointer (some ⟨x, 0, none⟩)), .eq (.pointer (some ⟨x, 6, none⟩)), .eq (.bool s.down), .eq (.bool true), .eq (.bool true), .eq (.bool true), .eq (.pointer (some ⟨gd, 0, none⟩)), .eq (.int .i64 (s.has.length : Int)), .eq (.pointer (some ⟨x, 0, none⟩)), .eq (.pointer (some ⟨x, 0, none⟩)), .eq (.pointer (some ⟨x, 0, none⟩)), .eq (.slice (some ⟨h, 0, none⟩) s.has.length Ch), .eq (.int .i64 (s.has.length : Int)), .eq (.bool true), .eq (.bool true), .eq (.bool true), .eq (.pointer (some ⟨gd, 0, none⟩)), .eq (.int .i64 (s.size : Int)), .eq (.pointer (some ⟨x, 0, none⟩)), .eq (.pointer (some ⟨x, 0, none⟩)), .eq (.pointer (some ⟨x, 2, none⟩)), .eq (.int .i64 (s.size : Int)), .eq (.bool true), .eq (.bool true), .eq (.bool true)] Try.mixed (by rw [sd.1]; kernel_rfl) ⟨fun hw ac u K => ?_, fun hw ac u K => ?_, fun hw ac u K => ?_, fun hw ac u K => ?_, fun hw ac u K => ?_, fun hw ac u K => ?_, fun hw ac u K => ?_, fun hw ac u K => ?_, fun hw ac u K => ?_, fun hw ac u K => ?_, fun hw ac u K => ?_, fun hw ac u K => ?_, fun hw ac u K => ?_, fun hw ac u K => ?_, fun hw ac u K => ?_, fun hw ac u K => ?_, fun hw ac u K => ?_, fun hw ac u K => ?_, fun hw ac u K => ?_, fun hw ac u K => ?_, fun hw ac u K => ?_, fun hw ac u K => ?_, fun hw ac u K => ?_, fun hw ac u K => ?_, fun hw ac u K => ?_, fun hw ac u K => ?_, fun hw ac u K => ?_, fun hw ac u K => ?_, fun hw ac u K => ?_, fun hw ac u K => ?_, fun hw ac u K => ?_, fun hw ac u K => ?_, fun hw ac u K => ?_, fun hw ac u K => ?_, fun hw ac u K => ?_, fun hw ac u K => ?_, fun hw ac u K => ?_, fun hw ac u K => ?_, fun hw ac u K => ?_, fun hw ac u K => ?_, fun hw ac u K => ?_, fun hw ac u K => ?_, trivial⟩ ?_
    · exact st_move (.tmp 6) rfl (K.t x6 rfl)
    · exact st_move (.tmp 5) rfl (K.t x5 rfl)
    · exact st_lenis (.tmp 42) rfl (fk_val (K.dep 1 42 rfl) (Fk.mono _ _ _ _ hvl K.grow))
    · exact st_eqi 3 (.tmp 41) (.tmp 43) rfl .i64 ((n : Int)) ((((clp s.cch s.has.length).length : Nat) : Int)) (K.dep 0 41 rfl) (K.dep 2 43 rfl) _ (by symm; rw [decide_eq_true_iff]; omega)
    · exact st_move (.tmp 44) rfl (K.dep 3 44 rfl)
    · exact st_move (.tmp 0) rfl (K.t x0 rfl)
    · exact st_call 24 (.func 24) _ _ _ rfl rfl (one_arg (K.dep 5 46 rfl)) Try.enter24 (fk_ddone (HD.below hd (bgo bl K.grow)))
    · exact st_move (.tmp 1) rfl (K.t x1 rfl)
    · exact st_nil (.tmp 48) rfl (K.dep 7 48 rfl)
    · exact st_field 66 4 (.tmp 49) rfl (K.dep 8 49 rfl) (by kernel_rfl)
    · exact st_loadc 3 (.tmp 50) rfl (by kernel_rfl) (K.dep 9 50 rfl) (Ob.cell (Ob.below m0 (bgo bl K.grow)) 4 rfl)
    · exact st_eqi 3 (.tmp 47) (.tmp 51) rfl .i64 ((s.done : Int)) ((s.done : Int)) (K.dep 6 47 rfl) (K.dep 10 51 rfl) _ (by simp)
    · exact st_pick_t (.tmp 45) (.tmp 52) (.const (.bool false)) rfl (K.dep 4 45 rfl) (K.dep 11 52 rfl)
    · exact st_move (.tmp 53) rfl (K.dep 12 53 rfl)
    · exact st_move (.tmp 0) rfl (K.t x0 rfl)
    · exact st_call 23 (.func 23) _ _ _ rfl rfl (one_arg (K.dep 14 55 rfl)) Try.enter23 (fk_ddown (HD.below hd (bgo bl K.grow)))
    · exact st_move (.tmp 1) rfl (K.t x1 rfl)
    · exact st_nil (.tmp 57) rfl (K.dep 16 57 rfl)
    · exact st_field 66 6 (.tmp 58) rfl (K.dep 17 58 rfl) (by kernel_rfl)
    · exact st_loadc 4 (.tmp 59) rfl (by kernel_rfl) (K.dep 18 59 rfl) (Ob.cell (Ob.below m0 (bgo bl K.grow)) 6 rfl)
    · exact st_eqbb (.tmp 56) (.tmp 60) rfl s.down s.down (K.dep 15 56 rfl) (K.dep 19 60 rfl) true (by simp)
    · exact st_pick_t (.tmp 54) (.tmp 61) (.const (.bool false)) rfl (K.dep 13 54 rfl) (K.dep 20 61 rfl)
    · exact st_move (.tmp 62) rfl (K.dep 21 62 rfl)
    · exact st_move (.tmp 0) rfl (K.t x0 rfl)
    · exact st_call 33 (.func 33) _ _ _ rfl rfl (one_arg (K.dep 23 64 rfl)) Try.enter33 (fk_dsectors (HD.below hd (bgo bl K.grow)))
    · exact st_move (.tmp 1) rfl (K.t x1 rfl)
    · exact st_nil (.tmp 66) rfl (K.dep 25 66 rfl)
    · exact st_field 66 0 (.tmp 67) rfl (K.dep 26 67 rfl) (by kernel_rfl)
    · exact st_loadc 45 (.tmp 68) rfl (by kernel_rfl) (K.dep 27 68 rfl) (Ob.cell (Ob.below m0 (bgo bl K.grow)) 0 rfl)
    · exact st_lens (.tmp 69) rfl (K.dep 28 69 rfl)
    · exact st_eqi 3 (.tmp 65) (.tmp 70) rfl .i64 ((s.has.length : Int)) ((s.has.length : Int)) (K.dep 24 65 rfl) (K.dep 29 70 rfl) _ (by simp)
    · exact st_pick_t (.tmp 63) (.tmp 71) (.const (.bool false)) rfl (K.dep 22 63 rfl) (K.dep 30 71 rfl)
    · exact st_move (.tmp 72) rfl (K.dep 31 72 rfl)
    · exact st_move (.tmp 0) rfl (K.t x0 rfl)
    · exact st_call 34 (.func 34) _ _ _ rfl rfl (one_arg (K.dep 33 74 rfl)) Try.enter34 (fk_dsize (HD.below hd (bgo bl K.grow)))
    · exact st_move (.tmp 1) rfl (K.t x1 rfl)
    · exact st_nil (.tmp 76) rfl (K.dep 35 76 rfl)
    · exact st_field 66 2 (.tmp 77) rfl (K.dep 36 77 rfl) (by kernel_rfl)
    · exact st_loadc 3 (.tmp 78) rfl (by kernel_rfl) (K.dep 37 78 rfl) (Ob.cell (Ob.below m0 (bgo bl K.grow)) 2 rfl)
    · exact st_eqi 3 (.tmp 75) (.tmp 79) rfl .i64 ((s.size : Int)) ((s.size : Int)) (K.dep 34 75 rfl) (K.dep 38 79 rfl) _ (by simp)
    · exact st_pick_t (.tmp 73) (.tmp 80) (.const (.bool false)) rfl (K.dep 32 73 rfl) (K.dep 39 80 rfl)
    · exact st_assign (.tmp 81) rfl (K.dep 40 81 rfl)
    intro f7 w7 A hb
    replace x0 := A.t x0 rfl
    replace x1 := A.t x1 rfl
    replace x5 := A.t x5 rfl
    replace x6 := A.t x6 rfl
    replace x14 := A.t x14 rfl
    replace x15 := A.t x15 rfl
    replace x16 := A.t x16 rfl
    have x4 := A.e 41 4 rfl rfl
    replace hvl := Fk.mono _ _ _ _ hvl hb
    replace bl := bgo bl hb
    replace sd := A.sd sd
    clear A hb
    clear x16
    show Code.wp _ _ _ _ _
    refine wp_ret ?_
    repeat (first | with_reducible refine then_ret ?_ | with_reducible refine block_ret ?_)
    exact bodyPost_ret (v := .bool true) (ret_slot rfl f7 _ x4 _ _) sd.2 ⟨rfl, bl⟩
  refine wr_a [.eq (.bool true)] (by rw [sd.1]; kernel_rfl) ⟨fun hw ac u K => ?_, trivial⟩ ?_
  · exact st_lss 3 (.tmp 15) (.tmp 14) rfl .i64 ((k : Int)) ((s.has.length : Int)) (K.t x15 rfl) (K.t x14 rfl) _ (by rw [eq_comm, decide_eq_true_iff]; omega)
  intro f6 w6 A hb
  replace x0 := A.t x0 rfl
  replace x1 := A.t x1 rfl
  replace x5 := A.t x5 rfl
  replace x6 := A.t x6 rfl
  replace x14 := A.t x14 rfl
  replace x15 := A.t x15 rfl
  have x16 := A.e 0 16 rfl rfl
  replace hvl := Fk.mono _ _ _ _ hvl hb
  replace bl := bgo bl hb
  replace sd := A.sd sd
  clear A hb
  show Code.wp _ _ _ _ _
  refine wp_seq ?_
  refine wp_cond_true x16 ?_
  refine wp_skip ?_
  show Code.wp _ _ _ _ _
  refine wp_seq ?_
  refine wp_block ?_
  refine wp_seq ?_
  refine wr_a [.eq (.int .i64 (k : Int)), .eq (.int .i64 (k : Int))] (by rw [sd.1]; kernel_rfl) ⟨fun hw ac u K => ?_, fun hw ac u K => ?_, trivial⟩ ?_
  · exact st_move (.tmp 15) rfl (K.t x15 rfl)
  · exact st_assign (.tmp 17) rfl (K.dep 0 17 rfl)
  intro f7 w7 A hb
  replace x0 := A.t x0 rfl
  replace x1 := A.t x1 rfl
  replace x5 := A.t x5 rfl
  replace x6 := A.t x6 rfl
  replace x14 := A.t x14 rfl
  replace x15 := A.t x15 rfl
  replace x16 := A.t x16 rfl
  have x7 := A.e 1 7 rfl rfl
  replace hvl := Fk.mono _ _ _ _ hvl hb
  replace bl := bgo bl hb
  replace sd := A.sd sd
  clear A hb
  clear x16
  show Code.wp _ _ _ _ _
  refine wp_seq ?_
  obtain ⟨yc, hyc⟩ : ∃ y, s.cch[k]? = some y := ⟨_, List.getElem?_eq_getElem (by rw [hl]; exact hlt)⟩
  by_cases hq : yc = []
  rotate_left
  · skip
    have hlen := clp_len hyc hq hlt
    have hat := clp_at hyc hq hlt
    have hle := clp_le s.cch k
    rw [← hn] at hlen hat hle
    refine wr_a [.eq (.pointer (some ⟨x, 0, none⟩)), .eq (.pointer (some ⟨x, 0, none⟩)), .eq (.pointer (some ⟨x, 1, none⟩)), .eq (.slice (some ⟨c, 0, none⟩) s.has.length Cc), .eq (.int .i64 (k : Int)), .eq (.pointer (some ⟨c, k, none⟩)), .eq (.string (str (yc))), .eq (.bool true)] (by rw [sd.1]; kernel_rfl) ⟨fun hw ac u K => ?_, fun hw ac u K => ?_, fun hw ac u K => ?_, fun hw ac u K => ?_, fun hw ac u K => ?_, fun hw ac u K => ?_, fun hw ac u K => ?_, fun hw ac u K => ?_, trivial⟩ ?_
    · exact st_move (.tmp 1) rfl (K.t x1 rfl)
    · exact st_nil (.tmp 18) rfl (K.dep 0 18 rfl)
    · exact st_field 66 1 (.tmp 19) rfl (K.dep 1 19 rfl) (by kernel_rfl)
    · exact st_loadc 45 (.tmp 20) rfl (by kernel_rfl) (K.dep 2 20 rfl) (Ob.cell (Ob.below m0 (bgo bl K.grow)) 1 rfl)
    · exact st_move (.tmp 7) rfl (K.t x7 rfl)
    · exact st_idxs (.tmp 21) (.tmp 22) rfl (K.dep 3 21 rfl) (k) (K.dep 4 22 rfl) hlt
    · exact st_loadc 9 (.tmp 23) rfl (by kernel_rfl) (K.dep 5 23 rfl) ((Rs.below rc (bgo bl K.grow)).cell hyc)
    · exact st_nes (.tmp 24) (.const (.string { data := #[] })) rfl (str (yc)) _ (K.dep 6 24 rfl) rfl _ (by symm; rw [decide_eq_true_iff]; exact fun h => hq ((str_nil _).1 h))
    intro f8 w8 A hb
    replace x0 := A.t x0 rfl
    replace x1 := A.t x1 rfl
    replace x5 := A.t x5 rfl
    replace x6 := A.t x6 rfl
    replace x14 := A.t x14 rfl
    replace x15 := A.t x15 rfl
    replace x7 := A.t x7 rfl
    have x25 := A.e 7 25 rfl rfl
    replace hvl := Fk.mono _ _ _ _ hvl hb
    replace bl := bgo bl hb
    replace sd := A.sd sd
    clear A hb
    show Code.wp _ _ _ _ _
    refine wp_cond_true x25 ?_
    refine wp_seq ?_
    refine wp_seq ?_
    refine wr_a [.eq (.int .i64 (n : Int)), .eq (vl), .eq (.int .i64 (((clp s.cch s.has.length).length : Nat) : Int)), .eq (.bool false), .eq (.bool false), .eq (vl), .eq (.int .i64 (n : Int)), .prg [.int .i64 ((k : Int))], .eq (.int .i64 ((k : Int))), .eq (.int .i64 (k : Int)), .eq (.bool false), .eq (.bool false)] (by rw [sd.1]; kernel_rfl) ⟨fun hw ac u K => ?_, fun hw ac u K => ?_, fun hw ac u K => ?_, fun hw ac u K => ?_, fun hw ac u K => ?_, fun hw ac u K => ?_, fun hw ac u K => ?_, fun hw ac u K => ?_, fun hw ac u K => ?_, fun hw ac u K => ?_, fun hw ac u K => ?_, fun hw ac u K => ?_, trivial⟩ ?_
    · exact st_move (.tmp 6) rfl (K.t x6 rfl)
    · exact st_move (.tmp 5) rfl (K.t x5 rfl)
    · exact st_lenis (.tmp 27) rfl (fk_val (K.dep 1 27 rfl) (Fk.mono _ _ _ _ hvl K.grow))
    · exact st_geq 3 (.tmp 26) (.tmp 28) rfl .i64 ((n : Int)) ((((clp s.cch s.has.length).length : Nat) : Int)) (K.dep 0 26 rfl) (K.dep 2 28 rfl) _ (by symm; rw [decide_eq_false_iff_not]; omega)
    · exact st_move (.tmp 29) rfl (K.dep 3 29 rfl)
    · exact st_move (.tmp 5) rfl (K.t x5 rfl)
    · exact st_move (.tmp 6) rfl (K.t x6 rfl)
    · exact st_idxis (.tmp 31) (.tmp 32) rfl (fk_val (K.dep 5 31 rfl) (Fk.mono _ _ _ _ hvl K.grow)) (n) (K.dep 6 32 rfl) ((k : Int)) hat
    · exact st_loadr1 3 (.tmp 33) rfl (by kernel_rfl) (K.dep 7 33 rfl)
    · exact st_move (.tmp 7) rfl (K.t x7 rfl)
    · exact st_neqi 3 (.tmp 34) (.tmp 35) rfl .i64 (((k : Int))) ((k : Int)) (K.dep 8 34 rfl) (K.dep 9 35 rfl) _ (by simp)
    · exact st_pick_f' (.tmp 30) (.const (.bool true)) (.tmp 36) rfl (K.dep 4 30 rfl) (K.dep 10 36 rfl)
    intro f9 w9 A hb
    replace x0 := A.t x0 rfl
    replace x1 := A.t x1 rfl
    replace x5 := A.t x5 rfl
    replace x6 := A.t x6 rfl
    replace x14 := A.t x14 rfl
    replace x15 := A.t x15 rfl
    replace x7 := A.t x7 rfl
    replace x25 := A.t x25 rfl
    have x37 := A.e 11 37 rfl rfl
    replace hvl := Fk.mono _ _ _ _ hvl hb
    replace bl := bgo bl hb
    replace sd := A.sd sd
    clear A hb
    clear x7
    clear x25
    show Code.wp _ _ _ _ _
    refine wp_cond_false x37 ?_
    refine wp_skip ?_
    show Code.wp _ _ _ _ _
    refine wr_s [.eq (.int .i64 (n : Int)), .eq (.int .i64 ((n + 1 : Nat) : Int))] (by rw [sd.1]; kernel_rfl) ⟨fun hw ac u K => ?_, fun hw ac u K => ?_, trivial⟩ ?_
    · exact st_move (.tmp 6) rfl (K.t x6 rfl)
    · exact st_add (.tmp 38) (.const (.int .i64 1)) rfl (n) (1) (n + 1) (K.dep 0 38 rfl) rfl (by omega) (by omega)
    intro f10 w10 A hb
    replace x0 := A.t x0 rfl
    replace x1 := A.t x1 rfl
    replace x5 := A.t x5 rfl
    replace x6 := A.t x6 rfl
    replace x14 := A.t x14 rfl
    replace x15 := A.t x15 rfl
    replace x37 := A.t x37 rfl
    have x39 := A.e 1 39 rfl rfl
    replace hvl := Fk.mono _ _ _ _ hvl hb
    replace bl := bgo bl hb
    replace sd := A.sd sd
    clear A hb
    clear x37
    refine wl_one (.eq (.int .i64 ((n + 1 : Nat) : Int))) rfl 6 rfl (by rw [sd.1]; decide) (st_assign (.tmp 39) rfl x39) ?_
    intro f11 w11 df2 sz2 old2 new2 hb
    replace x0 := tr old2 x0 rfl
    replace x1 := tr old2 x1 rfl
    replace x5 := tr old2 x5 rfl
    clear x6
    replace x14 := tr old2 x14 rfl
    replace x15 := tr old2 x15 rfl
    replace x39 := tr old2 x39 rfl
    have x6 := Fk.e new2
    replace hvl := Fk.mono _ _ _ _ hvl hb
    replace bl := bgo bl hb
    replace sd := sd2 sz2 df2 sd
    clear df2 sz2 old2 new2 hb
    refine wpList_nil ?_
    clear x39
    show Code.wp _ _ _ _ _
    refine wr_s [.eq (.int .i64 ((k + 1 : Nat) : Int))] (by rw [sd.1]; kernel_rfl) ⟨fun hw ac u K => ?_, trivial⟩ ?_
    · exact st_add (.tmp 15) (.const (.int .i64 1)) rfl (k) (1) (k + 1) (K.t x15 rfl) rfl (by omega) (by omega)
    intro f12 w12 A hb
    replace x0 := A.t x0 rfl
    replace x1 := A.t x1 rfl
    replace x5 := A.t x5 rfl
    replace x14 := A.t x14 rfl
    replace x15 := A.t x15 rfl
    replace x6 := A.t x6 rfl
    have x40 := A.e 0 40 rfl rfl
    replace hvl := Fk.mono _ _ _ _ hvl hb
    replace bl := bgo bl hb
    replace sd := A.sd sd
    clear A hb
    refine wl_one (.eq (.int .i64 ((k + 1 : Nat) : Int))) rfl 15 rfl (by rw [sd.1]; decide) (st_move (.tmp 40) rfl x40) ?_
    intro f13 w13 df2 sz2 old2 new2 hb
    replace x0 := tr old2 x0 rfl
    replace x1 := tr old2 x1 rfl
    replace x5 := tr old2 x5 rfl
    replace x14 := tr old2 x14 rfl
    clear x15
    replace x6 := tr old2 x6 rfl
    replace x40 := tr old2 x40 rfl
    have x15 := Fk.e new2
    replace hvl := Fk.mono _ _ _ _ hvl hb
    replace bl := bgo bl hb
    replace sd := sd2 sz2 df2 sd
    clear df2 sz2 old2 new2 hb
    refine wpList_nil ?_
    clear x40
    show (∃ _, _) ∧ _
    refine ⟨⟨k + 1, n + 1, by omega, by rw [clp_some hyc hq, List.length_append, ← hn]; rfl, sd.1, sd.2, x0, x1, x5, x14, x6, x15, hvl, bl⟩, ?_⟩
    rw [show f13.eval (.tmp 15) = _ from x15, show _ = _ from hcnt]
    first | (simp [intOf]; done) | (simp [intOf]; omega)
  refine wr_a [.eq (.pointer (some ⟨x, 0, none⟩)), .eq (.pointer (some ⟨x, 0, none⟩)), .eq (.pointer (some ⟨x, 1, none⟩)), .eq (.slice (some ⟨c, 0, none⟩) s.has.length Cc), .eq (.int .i64 (k : Int)), .eq (.pointer (some ⟨c, k, none⟩)), .eq (.string (str (yc))), .eq (.bool false)] (by rw [sd.1]; kernel_rfl) ⟨fun hw ac u K => ?_, fun hw ac u K => ?_, fun hw ac u K => ?_, fun hw ac u K => ?_, fun hw ac u K => ?_, fun hw ac u K => ?_, fun hw ac u K => ?_, fun hw ac u K => ?_, trivial⟩ ?_
  · exact st_move (.tmp 1) rfl (K.t x1 rfl)
  · exact st_nil (.tmp 18) rfl (K.dep 0 18 rfl)
  · exact st_field 66 1 (.tmp 19) rfl (K.dep 1 19 rfl) (by kernel_rfl)
  · exact st_loadc 45 (.tmp 20) rfl (by kernel_rfl) (K.dep 2 20 rfl) (Ob.cell (Ob.below m0 (bgo bl K.grow)) 1 rfl)
  · exact st_move (.tmp 7) rfl (K.t x7 rfl)
  · exact st_idxs (.tmp 21) (.tmp 22) rfl (K.dep 3 21 rfl) (k) (K.dep 4 22 rfl) hlt
  · exact st_loadc 9 (.tmp 23) rfl (by kernel_rfl) (K.dep 5 23 rfl) ((Rs.below rc (bgo bl K.grow)).cell hyc)
  · exact st_nes (.tmp 24) (.const (.string { data := #[] })) rfl (str (yc)) _ (K.dep 6 24 rfl) rfl _ (by rw [hq]; rfl)
  intro f8 w8 A hb
  replace x0 := A.t x0 rfl
  replace x1 := A.t x1 rfl
  replace x5 := A.t x5 rfl
  replace x6 := A.t x6 rfl
  replace x14 := A.t x14 rfl
  replace x15 := A.t x15 rfl
  replace x7 := A.t x7 rfl
  have x25 := A.e 7 25 rfl rfl
  replace hvl := Fk.mono _ _ _ _ hvl hb
  replace bl := bgo bl hb
  replace sd := A.sd sd
  clear A hb
  show Code.wp _ _ _ _ _
  refine wp_cond_false x25 ?_
  refine wp_skip ?_
  show Code.wp _ _ _ _ _
  refine wr_s [.eq (.int .i64 ((k + 1 : Nat) : Int))] (by rw [sd.1]; kernel_rfl) ⟨fun hw ac u K => ?_, trivial⟩ ?_
  · exact st_add (.tmp 15) (.const (.int .i64 1)) rfl (k) (1) (k + 1) (K.t x15 rfl) rfl (by omega) (by omega)
  intro f9 w9 A hb
  replace x0 := A.t x0 rfl
  replace x1 := A.t x1 rfl
  replace x5 := A.t x5 rfl
  replace x6 := A.t x6 rfl
  replace x14 := A.t x14 rfl
  replace x15 := A.t x15 rfl
  replace x7 := A.t x7 rfl
  replace x25 := A.t x25 rfl
  have x40 := A.e 0 40 rfl rfl
  replace hvl := Fk.mono _ _ _ _ hvl hb
  replace bl := bgo bl hb
  replace sd := A.sd sd
  clear A hb
  clear x7
  clear x25
  refine wl_one (.eq (.int .i64 ((k + 1 : Nat) : Int))) rfl 15 rfl (by rw [sd.1]; decide) (st_move (.tmp 40) rfl x40) ?_
  intro f10 w10 df2 sz2 old2 new2 hb
  replace x0 := tr old2 x0 rfl
  replace x1 := tr old2 x1 rfl
  replace x5 := tr old2 x5 rfl
  replace x6 := tr old2 x6 rfl
  replace x14 := tr old2 x14 rfl
  clear x15
  replace x40 := tr old2 x40 rfl
  have x15 := Fk.e new2
  replace hvl := Fk.mono _ _ _ _ hvl hb
  replace bl := bgo bl hb
  replace sd := sd2 sz2 df2 sd
  clear df2 sz2 old2 new2 hb
  refine wpList_nil ?_
  clear x40
  show (∃ _, _) ∧ _
  refine ⟨⟨k + 1, n, by omega, by rw [clp_none hyc hq]; exact hn, sd.1, sd.2, x0, x1, x5, x14, x6, x15, hvl, bl⟩, ?_⟩
  rw [show f10.eval (.tmp 15) = _ from x15, show _ = _ from hcnt]
  first | (simp [intOf]; done) | (simp [intOf]; omega)
end Go.Proofs.Ytjdpomilifnlaaa
namespace Go.Proofs.Ytjdpomilifnlaaa
set_option maxRecDepth 100000
open Go.RowKit
/-- A disk of n sectors of z bytes that did k commands at most. -/
structure Gd (s : Dst) (n z k : Nat) : Prop where
  has : s.has.length = n
  cch : s.cch.length = n
  size : s.size = z
  done : s.done ≤ k
  hl : ∀ y ∈ s.has, y.length ≤ z
  cl : ∀ y ∈ s.cch, y.length ≤ z
theorem gd_new (n z : Nat) : Gd (newd n z) n z 0 := ⟨List.length_replicate, List.length_replicate, rfl, Nat.le_refl _, fun y hy => by rw [List.eq_of_mem_replicate hy]; simp [zs], fun y hy => by rw [List.eq_of_mem_replicate hy]; simp⟩
theorem Gd.le {s : Dst} {n z k k' : Nat} (g : Gd s n z k) (h : k ≤ k') : Gd s n z k' := ⟨g.has, g.cch, g.size, Nat.le_trans g.done h, g.hl, g.cl⟩
theorem gd_cmd {s : Dst} {n z k : Nat} (g : Gd s n z k) : Gd (cmd s).2 n z (k + 1) := by
  unfold cmd
  split
  · exact ⟨g.has, g.cch, g.size, Nat.le_succ_of_le g.done, g.hl, g.cl⟩
  · exact ⟨g.has, g.cch, g.size, Nat.succ_le_succ g.done, g.hl, g.cl⟩
theorem set_le {l : List (List (BitVec 8))} {z : Nat} (h : ∀ y ∈ l, y.length ≤ z) (i : Nat) {b : List (BitVec 8)} (hb : b.length ≤ z) : ∀ y ∈ l.set i b, y.length ≤ z := fun y hy => by
  rcases List.mem_or_eq_of_mem_set hy with hy | rfl
  · exact h y hy
  · exact hb
theorem gd_stl {s : Dst} {n z k : Nat} (g : Gd s n z k) : Gd (stl s) n z k := by
  refine ⟨?_, ?_, g.size, g.done, fun y hy => ?_, fun y hy => ?_⟩
  · show (List.zipWith pickc s.has s.cch).length = n
    rw [List.length_zipWith, g.has, g.cch, Nat.min_self]
  · show (s.cch.map fun _ => ([] : List (BitVec 8))).length = n
    rw [List.length_map, g.cch]
  · replace hy : y ∈ List.zipWith pickc s.has s.cch := hy
    obtain ⟨i, hi, rfl⟩ := List.mem_iff_getElem.1 hy
    rw [List.getElem_zipWith]
    unfold pickc
    split
    · exact g.hl _ (List.getElem_mem _)
    · exact g.cl _ (List.getElem_mem _)
  · obtain ⟨_, _, rfl⟩ := List.mem_map.1 hy
    exact Nat.zero_le _
theorem gd_flu {s : Dst} {n z k : Nat} (g : Gd s n z k) : Gd (flu s).2 n z (k + 1) := by
  unfold flu
  split
  · exact g.le (Nat.le_succ _)
  · split
    · exact gd_stl (gd_cmd g)
    · exact gd_cmd g
theorem gd_wrt {s : Dst} {n z k : Nat} (g : Gd s n z k) (i : Int) (b : List (BitVec 8)) : Gd (wrt s i b).2 n z (k + 1) := by
  unfold wrt
  split
  · exact g.le (Nat.le_succ _)
  · split
    · exact g.le (Nat.le_succ _)
    · split
      · exact g.le (Nat.le_succ _)
      · rename_i h
        refine gd_cmd ⟨g.has, ?_, g.size, g.done, g.hl, set_le g.cl _ ?_⟩
        · show (s.cch.set i.toNat b).length = n
          rw [List.length_set, g.cch]
        · have := g.size
          omega
theorem gd_tmr {s : Dst} {n z k : Nat} (g : Gd s n z k) (i : Int) (b : List (BitVec 8)) : Gd (tmr s i b).2 n z (k + 1) := by
  unfold tmr
  split
  · exact g.le (Nat.le_succ _)
  · split
    · exact g.le (Nat.le_succ _)
    · rename_i h
      refine ⟨?_, ?_, g.size, Nat.le_succ_of_le g.done, set_le g.hl _ ?_, set_le g.cl _ (Nat.zero_le _)⟩
      · show (s.has.set i.toNat b).length = n
        rw [List.length_set, g.has]
      · show (s.cch.set i.toNat []).length = n
        rw [List.length_set, g.cch]
      · have := g.size
        omega
theorem lose_ok {z n : Nat} (l : List Int) : ∀ (c : List (List (BitVec 8))), c.length = n → (∀ y ∈ c, y.length ≤ z) → (lose c l).length = n ∧ ∀ y ∈ lose c l, y.length ≤ z := by
  unfold lose
  induction l with
  | nil => exact fun c h1 h2 => ⟨h1, h2⟩
  | cons k l ih =>
    intro c h1 h2
    rw [List.foldl_cons]
    split
    · exact ih _ (by rw [List.length_set]; exact h1) (set_le h2 _ (Nat.zero_le _))
    · exact ih _ h1 h2
theorem gd_crs {s : Dst} {n z k : Nat} (g : Gd s n z k) (l : List Int) : Gd (crs s l) n z k := by
  obtain ⟨h1, h2⟩ := lose_ok l s.cch g.cch g.cl
  have q := gd_stl (s := { s with cch := lose s.cch l }) ⟨g.has, h1, g.size, g.done, g.hl, h2⟩
  exact ⟨q.has, q.cch, q.size, q.done, q.hl, q.cl⟩
theorem gd_step {s : Dst} {n z k : Nat} (g : Gd s n z k) (o : Opn) : Gd (stepD s o) n z (k + 1) := by
  unfold stepD
  split
  · exact gd_wrt g _ _
  · split
    · exact gd_flu g
    · split
      · exact ⟨g.has, g.cch, g.size, Nat.le_succ_of_le g.done, g.hl, g.cl⟩
      · split
        · exact (gd_crs g _).le (Nat.le_succ _)
        · split
          · exact gd_tmr g _ _
          · exact g.le (Nat.le_succ _)
theorem getD_le {l : List (List (BitVec 8))} {z : Nat} (h : ∀ y ∈ l, y.length ≤ z) (i : Nat) : (l.getD i []).length ≤ z := by
  rw [List.getD_eq_getElem?_getD]
  cases e : l[i]? with
  | none => exact Nat.zero_le _
  | some y => exact h y (List.mem_of_getElem? e)
theorem gd_rd {s : Dst} {n z k : Nat} (g : Gd s n z k) (i : Int) : (rd s i).2.length ≤ z := by
  unfold rd
  split
  · exact Nat.zero_le _
  · split
    · exact Nat.zero_le _
    · show (nowd s i.toNat).length ≤ z
      unfold nowd
      split
      · exact getD_le g.hl _
      · exact getD_le g.cl _
theorem step_any {w : World} {gd x h c : Nat} {M D : Nat → Prop} {s t : Dst} (hd : HD w gd M D s) (hx : HX w x h c t) (hxD : ¬ D x ∧ ¬ D h ∧ ¬ D c) {n z k : Nat} (gs : Gd s n z k) (gt : Gd t n z k) (hn : n ≤ 100000) (hz : z ≤ 100000) (hk : k ≤ 100000) {o : Opn} (hbF : ∀ {W : World}, Fr (fun j => M j ∨ j = x ∨ j = h ∨ j = c) w W → (Fk.sl o.bs).f o.vb W) (hlF : ∀ {W : World}, Fr (fun j => M j ∨ j = x ∨ j = h ∨ j = c) w W → (Fk.is o.ls).f o.vl W) (h200 : o.bs.length ≤ 200) (h40 : o.ls.length ≤ 40) (hon : o.n ≤ 9223372036854775807) (hlw : ∀ z ∈ o.ls, (Lit.int .i64 z).wf = true) :
    Calls Try.prog 12 #[.pointer (some ⟨gd, 0, none⟩), .pointer (some ⟨x, 0, none⟩), o.val] w fun e w' => ∃ (DD : Nat → Prop) (r : Bool), e = .returned (.bool r) ∧ (s = t → r = true) ∧ HD w' gd M DD (stepD s o) ∧ HX w' x h c (stepD t o) ∧ (¬ DD x ∧ ¬ DD h ∧ ¬ DD c) ∧ (∀ j, DD j → D j ∨ w.heap.size ≤ j) ∧ Fr (fun j => M j ∨ j = x ∨ j = h ∨ j = c) w w' := by
  have a1 : s.done ≤ 1000000 := Nat.le_trans gs.done (by omega)
  have a2 : t.done ≤ 1000000 := Nat.le_trans gt.done (by omega)
  have a3 : s.has.length ≤ 100000 := by rw [gs.has]; exact hn
  have a4 : t.has.length ≤ 100000 := by rw [gt.has]; exact hn
  by_cases h1 : o.k = 1
  · exact stq1 hd hx hxD a1 a2 a3 a4 hbF hlF (by omega) h1
  by_cases h2 : o.k = 2
  · exact stq2 hd hx hxD a1 a2 a3 a4 hbF hlF h1 h2
  by_cases h3 : o.k = 3
  · exact stq3 hd hx hxD a1 a2 a3 a4 hbF hlF (Nat.le_trans (gd_rd gs _) hz) h1 h2 h3
  by_cases h4 : o.k = 4
  · exact stq4 hd hx hxD a1 a2 a3 a4 hbF hlF hon h1 h2 h3 h4
  by_cases h5 : o.k = 5
  · exact stq5 hd hx hxD a1 a2 a3 a4 hbF hlF (by omega) hlw h1 h2 h3 h4 h5
  by_cases h6 : o.k = 6
  · exact stq6 hd hx hxD a1 a2 a3 a4 hbF hlF h1 h2 h3 h4 h5 h6
  exact stq0 hd hx hxD a1 a2 a3 a4 hbF hlF h1 h2 h3 h4 h5 h6
theorem full_sl (c : BitVec 8) (w : World) : Calls Try.prog 29 #[V c] w fun e w' => ∃ v, e = .returned v ∧ (Fk.sl (List.replicate 16 c)).f v w' ∧ Below w.heap.size w w' := by
  refine (fk_full c w).mono ?_
  rintro e w' ⟨g, rfl, hg, hm, hb⟩
  refine ⟨_, rfl, ⟨_, _, 16, g, 0, rfl, by rw [List.length_replicate], Nat.le_refl _, (fun e => by cases e), fun _ => ⟨rfl, Ob.lt hm, Ob.bytes (T := 5) (cs := []) (by rw [List.append_nil]; exact hm)⟩⟩, hb⟩
end Go.Proofs.Ytjdpomilifnlaaa
namespace Go.Proofs.Ytjdpomilifnlaaa
set_option maxRecDepth 100000
open Go.RowKit
def aw1 : Dst := (wrt (newd 8 16) 3 (List.replicate 16 1#8)).2
def aw2 : Dst := (wrt aw1 5 (List.replicate 16 2#8)).2
def aw3 : Dst := crs aw2 [3]
theorem aw1_ok : (wrt (newd 8 16) 3 (List.replicate 16 1#8)).1 = 0 := by rfl
theorem aw2_ok : (wrt aw1 5 (List.replicate 16 2#8)).1 = 0 := by rfl
theorem aw3_3 : rd aw3 3 = (0, List.replicate 16 0#8) := by rfl
theorem aw3_5 : rd aw3 5 = (0, List.replicate 16 2#8) := by rfl
theorem awake_any (w : World) :
    Calls Try.prog 9 #[] w fun e w' => ∃ v, e = .returned v ∧ (Fk.eq (.bool true)).f v w' ∧ Below w.heap.size w w' := by
  go_enter Try.func9, Try.ntmps9
  refine code_both (fun f w1 => f.tmps.size = 54 ∧ f.defers = [] ∧ Below w.heap.size w (w1)) ⟨rfl, rfl, Below.refl _ _⟩ ?_
  rintro f0 w0 ⟨sz, df, bl⟩
  have sd := And.intro sz df
  clear sz df
  have bl0 := bl
  refine wp_seq ?_
  refine wr_a [.eq (.bool false)] (by rw [sd.1]; kernel_rfl) ⟨fun hw ac u K => ?_, trivial⟩ ?_
  · exact st_assign (.const (.bool false)) rfl rfl
  intro f1 w1 A hb
  replace bl := bgo bl hb
  replace sd := A.sd sd
  clear A hb
  show Code.wp _ _ _ _ _
  refine wp_seq ?_
  refine wr_s [] (by rw [sd.1]; kernel_rfl) trivial ?_
  intro f2 w2 A hb
  replace bl := bgo bl hb
  replace sd := A.sd sd
  clear A hb
  refine wl_call 8 (.func 8) _ _ #[.int .i64 ((8 : Nat) : Int), .int .i64 ((16 : Nat) : Int)] rfl 6 rfl (by rw [sd.1]; decide) rfl rfl rfl Try.enter8 (fun u W' => ∃ (gd : Nat) (M D : Nat → Prop), u = .pointer (some ⟨gd, 0, none⟩) ∧ HD W' gd M D (newd (8) (16)) ∧ (∀ j, D j → w2.heap.size ≤ j) ∧ Below w2.heap.size w2 W') ((fk_dnew (N := 8) (Z := 16) (by decide) (by decide) (by decide) (by decide) w2).mono (by rintro e w' ⟨gd, M, D, rfl, q⟩; exact ⟨_, rfl, gd, M, D, rfl, q⟩)) ?_
  rintro f3 w3 df2 sz2 old2 ⟨gd, M, DD, x6, hd, hD0, hb⟩
  have hDD : ∀ j, DD j → w.heap.size ≤ j := fun j q => Nat.le_trans bl.size (hD0 j q)
  clear hD0
  replace bl0 := bl
  replace bl := bgo bl hb
  replace sd := sd2 sz2 df2 sd
  clear df2 sz2 old2 hb
  refine wl_one (.eq (.pointer (some ⟨gd, 0, none⟩))) rfl 1 rfl (by rw [sd.1]; decide) (st_assign (.tmp 6) rfl x6) ?_
  intro f4 w4 df2 sz2 old2 new2 hb
  replace x6 := tr old2 x6 rfl
  have x1 := Fk.e new2
  replace hd := HD.below hd hb
  replace bl := bgo bl hb
  replace sd := sd2 sz2 df2 sd
  clear df2 sz2 old2 new2 hb
  refine wpList_nil ?_
  clear x6
  show Code.wp _ _ _ _ _
  refine wp_seq ?_
  refine wp_seq ?_
  refine wr_s [.eq (.pointer (some ⟨gd, 0, none⟩)), .eq (.bool false), .eq (.bool false), .eq (.pointer (some ⟨gd, 0, none⟩)), .sl (List.replicate 16 1#8)] (by rw [sd.1]; kernel_rfl) ⟨fun hw ac u K => ?_, fun hw ac u K => ?_, fun hw ac u K => ?_, fun hw ac u K => ?_, fun hw ac u K => ?_, trivial⟩ ?_
  · exact st_move (.tmp 1) rfl (K.t x1 rfl)
  · exact st_bin .eql 23 23 (.tmp 7) _ rfl (K.dep 0 7 rfl) rfl (by kernel_rfl)
  · exact st_move (.tmp 8) rfl (K.dep 1 8 rfl)
  · exact st_move (.tmp 1) rfl (K.t x1 rfl)
  · exact st_call 29 (.func 29) _ _ _ rfl rfl (one_arg rfl) Try.enter29 (full_sl 1#8 _)
  intro f5 w5 A hb
  replace x1 := A.t x1 rfl
  have x9 := A.e 2 9 rfl rfl
  have x10 := A.e 3 10 rfl rfl
  have x11 : Fk.f (.sl (List.replicate 16 1#8)) (f5.eval (.tmp 11)) w5 := A.has 4 11 rfl
  replace hd := HD.below hd hb
  replace bl := bgo bl hb
  replace sd := A.sd sd
  clear A hb
  refine wl_callw 18 (.func 18) _ _ #[.pointer (some ⟨gd, 0, none⟩), .int .i64 3, f5.eval (.tmp 11)] (want_of rfl rfl x9) 12 rfl (by rw [sd.1]; decide) rfl rfl (three_arg x10 rfl rfl) Try.enter18 (fun u W' => ∃ D2 : Nat → Prop, u = .int .i64 0 ∧ HD W' gd M D2 (aw1) ∧ (∀ j, D2 j → DD j ∨ w5.heap.size ≤ j) ∧ Fr M w5 W') (((show Calls Try.prog 18 #[.pointer (some ⟨gd, 0, none⟩), .int .i64 3, f5.eval (.tmp 11)] w5 (fun e w' => ∃ D', e = .returned (.int .i64 0) ∧ HD w' gd M D' aw1 ∧ _) from by have := fk_dwrite hd (by decide) (by decide) 3 x11; rw [aw1_ok] at this; exact this)).mono (by rintro e w' ⟨D2, rfl, q⟩; exact ⟨_, rfl, D2, rfl, q⟩)) ?_
  rintro f6 w6 df2 sz2 old2 ⟨D2, x12, hd2, hD2, O⟩
  have OM := O
  replace O := O.mono hd.sub
  replace x1 := tr old2 x1 rfl
  replace x9 := tr old2 x9 rfl
  replace x10 := tr old2 x10 rfl
  clear x11
  have bl9 := bl.trans (O.below bl.size hDD)
  replace hDD : ∀ j, D2 j → w.heap.size ≤ j := fun j q => (hD2 j q).elim (hDD j) (fun q => Nat.le_trans bl.size q)
  replace bl := bl9
  replace bl0 := bl
  replace hd := hd2
  replace sd := sd2 sz2 df2 sd
  clear df2 sz2 old2 hd2 bl9
  clear O OM hD2
  clear DD
  obtain ⟨DD, rfl⟩ : ∃ E, E = D2 := ⟨_, rfl⟩
  clear x10
  refine wl_onew (.eq (.bool false)) (want_of rfl rfl x9) 13 rfl (by rw [sd.1]; decide) (st_neqi 37 (.tmp 12) (.const (.int .i64 0)) rfl .i64 (0) (0) x12 rfl _ (by rfl)) ?_
  intro f7 w7 df2 sz2 old2 new2 hb
  replace bl0 := bl
  replace x1 := tr old2 x1 rfl
  replace x9 := tr old2 x9 rfl
  replace x12 := tr old2 x12 rfl
  have x13 := Fk.e new2
  replace hd := HD.below hd hb
  replace bl := bgo bl hb
  replace sd := sd2 sz2 df2 sd
  clear df2 sz2 old2 new2 hb
  clear x12
  refine wl_one (.eq (.bool false)) rfl 14 rfl (by rw [sd.1]; decide) (st_pick_f' (.tmp 9) (.const (.bool true)) (.tmp 13) rfl x9 x13) ?_
  intro f8 w8 df2 sz2 old2 new2 hb
  replace x1 := tr old2 x1 rfl
  replace x9 := tr old2 x9 rfl
  replace x13 := tr old2 x13 rfl
  have x14 := Fk.e new2
  replace hd := HD.below hd hb
  replace bl := bgo bl hb
  replace sd := sd2 sz2 df2 sd
  clear df2 sz2 old2 new2 hb
  clear x9
  clear x13
  refine wl_one (.eq (.bool false)) rfl 15 rfl (by rw [sd.1]; decide) (st_move (.tmp 14) rfl x14) ?_
  intro f9 w9 df2 sz2 old2 new2 hb
  replace x1 := tr old2 x1 rfl
  replace x14 := tr old2 x14 rfl
  have x15 := Fk.e new2
  replace hd := HD.below hd hb
  replace bl := bgo bl hb
  replace sd := sd2 sz2 df2 sd
  clear df2 sz2 old2 new2 hb
  clear x14
  refine wl_onew (.eq (.pointer (some ⟨gd, 0, none⟩))) (want_of rfl rfl x15) 16 rfl (by rw [sd.1]; decide) (st_move (.tmp 1) rfl x1) ?_
  intro f10 w10 df2 sz2 old2 new2 hb
  replace bl0 := bl
  replace x1 := tr old2 x1 rfl
  replace x15 := tr old2 x15 rfl
  have x16 := Fk.e new2
  replace hd := HD.below hd hb
  replace bl := bgo bl hb
  replace sd := sd2 sz2 df2 sd
  clear df2 sz2 old2 new2 hb
  refine wl_onew (.sl (List.replicate 16 2#8)) (want_of rfl rfl x15) 17 rfl (by rw [sd.1]; decide) (st_call 29 (.func 29) _ _ #[.int .u8 2] rfl rfl (one_arg rfl) Try.enter29 (full_sl 2#8 _)) ?_
  intro f11 w11 df2 sz2 old2 new2 hb
  replace bl0 := bl
  replace x1 := tr old2 x1 rfl
  replace x15 := tr old2 x15 rfl
  replace x16 := tr old2 x16 rfl
  have x17 : Fk.f (.sl (List.replicate 16 2#8)) (f11.eval (.tmp 17)) w11 := new2
  replace hd := HD.below hd hb
  replace bl := bgo bl hb
  replace sd := sd2 sz2 df2 sd
  clear df2 sz2 old2 new2 hb
  refine wl_callw 18 (.func 18) _ _ #[.pointer (some ⟨gd, 0, none⟩), .int .i64 5, f11.eval (.tmp 17)] (want_of rfl rfl x15) 18 rfl (by rw [sd.1]; decide) rfl rfl (three_arg x16 rfl rfl) Try.enter18 (fun u W' => ∃ D2 : Nat → Prop, u = .int .i64 0 ∧ HD W' gd M D2 (aw2) ∧ (∀ j, D2 j → DD j ∨ w11.heap.size ≤ j) ∧ Fr M w11 W') (((show Calls Try.prog 18 #[.pointer (some ⟨gd, 0, none⟩), .int .i64 5, f11.eval (.tmp 17)] w11 (fun e w' => ∃ D', e = .returned (.int .i64 0) ∧ HD w' gd M D' aw2 ∧ _) from by have := fk_dwrite hd (by decide) (by decide) 5 x17; rw [aw2_ok] at this; exact this)).mono (by rintro e w' ⟨D2, rfl, q⟩; exact ⟨_, rfl, D2, rfl, q⟩)) ?_
  rintro f12 w12 df2 sz2 old2 ⟨D2, x18, hd2, hD2, O⟩
  have OM := O
  replace O := O.mono hd.sub
  replace x1 := tr old2 x1 rfl
  replace x15 := tr old2 x15 rfl
  replace x16 := tr old2 x16 rfl
  clear x17
  have bl9 := bl.trans (O.below bl.size hDD)
  replace hDD : ∀ j, D2 j → w.heap.size ≤ j := fun j q => (hD2 j q).elim (hDD j) (fun q => Nat.le_trans bl.size q)
  replace bl := bl9
  replace bl0 := bl
  replace hd := hd2
  replace sd := sd2 sz2 df2 sd
  clear df2 sz2 old2 hd2 bl9
  clear O OM hD2
  clear DD
  obtain ⟨DD, rfl⟩ : ∃ E, E = D2 := ⟨_, rfl⟩
  clear x16
  refine wl_onew (.eq (.bool false)) (want_of rfl rfl x15) 19 rfl (by rw [sd.1]; decide) (st_neqi 37 (.tmp 18) (.const (.int .i64 0)) rfl .i64 (0) (0) x18 rfl _ (by rfl)) ?_
  intro f13 w13 df2 sz2 old2 new2 hb
  replace bl0 := bl
  replace x1 := tr old2 x1 rfl
  replace x15 := tr old2 x15 rfl
  replace x18 := tr old2 x18 rfl
  have x19 := Fk.e new2
  replace hd := HD.below hd hb
  replace bl := bgo bl hb
  replace sd := sd2 sz2 df2 sd
  clear df2 sz2 old2 new2 hb
  clear x18
  refine wl_one (.eq (.bool false)) rfl 20 rfl (by rw [sd.1]; decide) (st_pick_f' (.tmp 15) (.const (.bool true)) (.tmp 19) rfl x15 x19) ?_
  intro f14 w14 df2 sz2 old2 new2 hb
  replace x1 := tr old2 x1 rfl
  replace x15 := tr old2 x15 rfl
  replace x19 := tr old2 x19 rfl
  have x20 := Fk.e new2
  replace hd := HD.below hd hb
  replace bl := bgo bl hb
  replace sd := sd2 sz2 df2 sd
  clear df2 sz2 old2 new2 hb
  refine wpList_nil ?_
  clear x15
  clear x19
  show Code.wp _ _ _ _ _
  refine wp_cond_false x20 ?_
  refine wp_skip ?_
  show Code.wp _ _ _ _ _
  refine wp_seq ?_
  refine wr_s [.eq (.pointer (some ⟨gd, 0, none⟩)), .oi 0 [3]] (by rw [sd.1]; kernel_rfl) ⟨fun hw ac u K => ?_, fun hw ac u K => ?_, trivial⟩ ?_
  · exact st_move (.tmp 1) rfl (K.t x1 rfl)
  · exact st_bi1 (.const (.int .i64 3)) rfl 3 rfl 0 (Nat.zero_le _)
  intro f15 w15 A hb
  replace x1 := A.t x1 rfl
  replace x20 := A.t x20 rfl
  have x21 := A.e 0 21 rfl rfl
  have x22 : Fk.f (.oi 0 [3]) (f15.eval (.tmp 22)) w15 := A.has 1 22 rfl
  replace hd := HD.below hd hb
  replace bl := bgo bl hb
  replace sd := A.sd sd
  clear A hb
  clear x20
  refine wl_call 14 (.func 14) _ _ #[.pointer (some ⟨gd, 0, none⟩), f15.eval (.tmp 22)] rfl 23 rfl (by rw [sd.1]; decide) rfl rfl (two_arg x21 rfl) Try.enter14 (fun u W' => ∃ D2 : Nat → Prop, u = .tuple #[] ∧ HD W' gd M D2 (aw3) ∧ (∀ j, D2 j → DD j ∨ w15.heap.size ≤ j) ∧ Fr M w15 W') ((fk_dcrash hd (by decide) (oi_is x22) (by decide) (by decide)).mono (by rintro e w' ⟨D2, rfl, q⟩; exact ⟨_, rfl, D2, rfl, q⟩)) ?_
  rintro f16 w16 df2 sz2 old2 ⟨D2, x23, hd2, hD2, O⟩
  have OM := O
  replace O := O.mono hd.sub
  replace x1 := tr old2 x1 rfl
  replace x21 := tr old2 x21 rfl
  clear x22
  have bl9 := bl.trans (O.below bl.size hDD)
  replace hDD : ∀ j, D2 j → w.heap.size ≤ j := fun j q => (hD2 j q).elim (hDD j) (fun q => Nat.le_trans bl.size q)
  replace bl := bl9
  replace bl0 := bl
  replace hd := hd2
  replace sd := sd2 sz2 df2 sd
  clear df2 sz2 old2 hd2 bl9
  clear O OM hD2
  clear DD
  obtain ⟨DD, rfl⟩ : ∃ E, E = D2 := ⟨_, rfl⟩
  refine wpList_nil ?_
  clear x21
  clear x23
  show Code.wp _ _ _ _ _
  refine wp_seq ?_
  refine wr_s [.eq (.pointer (some ⟨gd, 0, none⟩))] (by rw [sd.1]; kernel_rfl) ⟨fun hw ac u K => ?_, trivial⟩ ?_
  · exact st_move (.tmp 1) rfl (K.t x1 rfl)
  intro f17 w17 A hb
  replace x1 := A.t x1 rfl
  have x25 := A.e 0 25 rfl rfl
  replace hd := HD.below hd hb
  replace bl := bgo bl hb
  replace sd := A.sd sd
  clear A hb
  refine wl_call 16 (.func 16) _ _ #[.pointer (some ⟨gd, 0, none⟩), .int .i64 3] rfl 26 rfl (by rw [sd.1]; decide) rfl rfl (two_arg x25 rfl) Try.enter16 (fun u W' => ∃ (D2 : Nat → Prop) (A : Option Addr) (C : Nat), u = .tuple #[.slice A (List.replicate 16 0#8).length C, .int .i64 0] ∧ (Fk.sl (List.replicate 16 0#8)).f (.slice A (List.replicate 16 0#8).length C) W' ∧ (0 < (List.replicate 16 0#8).length → ∃ g, A = some ⟨g, 0, none⟩ ∧ w17.heap.size ≤ g ∧ ¬ D2 g ∧ Wb W' g (List.replicate 16 0#8).length) ∧ HD W' gd M D2 aw3 ∧ (∀ j, D2 j → DD j ∨ w17.heap.size ≤ j) ∧ Fr M w17 W') ((show Calls Try.prog 16 #[.pointer (some ⟨gd, 0, none⟩), .int .i64 3] w17 (fun e W' => ∃ (D2 : Nat → Prop) (A : Option Addr) (C : Nat), e = .returned (.tuple #[.slice A (List.replicate 16 0#8).length C, .int .i64 0]) ∧ _) from by have := fk_dread hd 3; rw [show (rd aw3 3).1 = 0 from by rw [aw3_3], show (rd aw3 3).2 = List.replicate 16 0#8 from by rw [aw3_3]] at this; exact this).mono (by rintro e w' ⟨D2, A, C, rfl, q⟩; exact ⟨_, rfl, D2, A, C, rfl, q⟩)) ?_
  rintro f18 w18 df2 sz2 old2 ⟨D2, A1, C1, x26, hsl, hG0, hd2, hD2, O⟩
  have OM := O
  replace O := O.mono hd.sub
  replace x1 := tr old2 x1 rfl
  replace x25 := tr old2 x25 rfl
  have hO1 : Ob8 w.heap.size D2 (fun _ => False) (List.replicate 16 0#8) A1 C1 w18 := ⟨hsl, fun q => by
    obtain ⟨g, h1, h2, h3, h4⟩ := hG0 q
    exact ⟨g, h1, Nat.le_trans bl.size h2, not_false, h3, h4⟩⟩
  clear hsl hG0
  have bl9 := bl.trans (O.below bl.size hDD)
  replace hDD : ∀ j, D2 j → w.heap.size ≤ j := fun j q => (hD2 j q).elim (hDD j) (fun q => Nat.le_trans bl.size q)
  replace bl := bl9
  replace bl0 := bl
  replace hd := hd2
  replace sd := sd2 sz2 df2 sd
  clear df2 sz2 old2 hd2 bl9
  clear O OM hD2
  clear DD
  obtain ⟨DD, rfl⟩ : ∃ E, E = D2 := ⟨_, rfl⟩
  clear x25
  refine wl_one (.eq (.tuple #[.slice A1 (List.replicate 16 0#8).length C1, .int .i64 0])) rfl 24 rfl (by rw [sd.1]; decide) (st_move (.tmp 26) rfl x26) ?_
  intro f19 w19 df2 sz2 old2 new2 hb
  replace x1 := tr old2 x1 rfl
  replace x26 := tr old2 x26 rfl
  have x24 := Fk.e new2
  replace hd := HD.below hd hb
  replace hO1 := Ob8.below hO1 hb
  replace bl := bgo bl hb
  replace sd := sd2 sz2 df2 sd
  clear df2 sz2 old2 new2 hb
  clear x26
  refine wl_one (.eq (.slice A1 (List.replicate 16 0#8).length C1)) rfl 27 rfl (by rw [sd.1]; decide) (st_ext0 (.tmp 24) rfl x24 rfl) ?_
  intro f20 w20 df2 sz2 old2 new2 hb
  replace x1 := tr old2 x1 rfl
  replace x24 := tr old2 x24 rfl
  have x27 := Fk.e new2
  replace hd := HD.below hd hb
  replace hO1 := Ob8.below hO1 hb
  replace bl := bgo bl hb
  replace sd := sd2 sz2 df2 sd
  clear df2 sz2 old2 new2 hb
  refine wl_one (.eq (.int .i64 0)) rfl 28 rfl (by rw [sd.1]; decide) (st_ext1 (.tmp 24) rfl x24 rfl) ?_
  intro f21 w21 df2 sz2 old2 new2 hb
  replace x1 := tr old2 x1 rfl
  replace x24 := tr old2 x24 rfl
  replace x27 := tr old2 x27 rfl
  have x28 := Fk.e new2
  replace hd := HD.below hd hb
  replace hO1 := Ob8.below hO1 hb
  replace bl := bgo bl hb
  replace sd := sd2 sz2 df2 sd
  clear df2 sz2 old2 new2 hb
  clear x24
  refine wl_one (.eq (.slice A1 (List.replicate 16 0#8).length C1)) rfl 2 rfl (by rw [sd.1]; decide) (st_assign (.tmp 27) rfl x27) ?_
  intro f22 w22 df2 sz2 old2 new2 hb
  replace x1 := tr old2 x1 rfl
  replace x27 := tr old2 x27 rfl
  replace x28 := tr old2 x28 rfl
  have x2 := Fk.e new2
  replace hd := HD.below hd hb
  replace hO1 := Ob8.below hO1 hb
  replace bl := bgo bl hb
  replace sd := sd2 sz2 df2 sd
  clear df2 sz2 old2 new2 hb
  clear x27
  refine wl_one (.eq (.int .i64 0)) rfl 3 rfl (by rw [sd.1]; decide) (st_assign (.tmp 28) rfl x28) ?_
  intro f23 w23 df2 sz2 old2 new2 hb
  replace x1 := tr old2 x1 rfl
  replace x28 := tr old2 x28 rfl
  replace x2 := tr old2 x2 rfl
  have x3 := Fk.e new2
  replace hd := HD.below hd hb
  replace hO1 := Ob8.below hO1 hb
  replace bl := bgo bl hb
  replace sd := sd2 sz2 df2 sd
  clear df2 sz2 old2 new2 hb
  refine wpList_nil ?_
  clear x28
  show Code.wp _ _ _ _ _
  refine wp_seq ?_
  refine wr_s [.eq (.pointer (some ⟨gd, 0, none⟩))] (by rw [sd.1]; kernel_rfl) ⟨fun hw ac u K => ?_, trivial⟩ ?_
  · exact st_move (.tmp 1) rfl (K.t x1 rfl)
  intro f24 w24 A hb
  replace x1 := A.t x1 rfl
  replace x2 := A.t x2 rfl
  replace x3 := A.t x3 rfl
  have x30 := A.e 0 30 rfl rfl
  replace hd := HD.below hd hb
  replace hO1 := Ob8.below hO1 hb
  replace bl := bgo bl hb
  replace sd := A.sd sd
  clear A hb
  clear x1
  refine wl_call 16 (.func 16) _ _ #[.pointer (some ⟨gd, 0, none⟩), .int .i64 5] rfl 31 rfl (by rw [sd.1]; decide) rfl rfl (two_arg x30 rfl) Try.enter16 (fun u W' => ∃ (D2 : Nat → Prop) (A : Option Addr) (C : Nat), u = .tuple #[.slice A (List.replicate 16 2#8).length C, .int .i64 0] ∧ (Fk.sl (List.replicate 16 2#8)).f (.slice A (List.replicate 16 2#8).length C) W' ∧ (0 < (List.replicate 16 2#8).length → ∃ g, A = some ⟨g, 0, none⟩ ∧ w24.heap.size ≤ g ∧ ¬ D2 g ∧ Wb W' g (List.replicate 16 2#8).length) ∧ HD W' gd M D2 aw3 ∧ (∀ j, D2 j → DD j ∨ w24.heap.size ≤ j) ∧ Fr M w24 W') ((show Calls Try.prog 16 #[.pointer (some ⟨gd, 0, none⟩), .int .i64 5] w24 (fun e W' => ∃ (D2 : Nat → Prop) (A : Option Addr) (C : Nat), e = .returned (.tuple #[.slice A (List.replicate 16 2#8).length C, .int .i64 0]) ∧ _) from by have := fk_dread hd 5; rw [show (rd aw3 5).1 = 0 from by rw [aw3_5], show (rd aw3 5).2 = List.replicate 16 2#8 from by rw [aw3_5]] at this; exact this).mono (by rintro e w' ⟨D2, A, C, rfl, q⟩; exact ⟨_, rfl, D2, A, C, rfl, q⟩)) ?_
  rintro f25 w25 df2 sz2 old2 ⟨D2, A2, C2, x31, hsl, hG0, hd2, hD2, O⟩
  have OM := O
  replace O := O.mono hd.sub
  replace x2 := tr old2 x2 rfl
  replace x3 := tr old2 x3 rfl
  replace x30 := tr old2 x30 rfl
  have hO2 : Ob8 w.heap.size D2 (fun _ => False) (List.replicate 16 2#8) A2 C2 w25 := ⟨hsl, fun q => by
    obtain ⟨g, h1, h2, h3, h4⟩ := hG0 q
    exact ⟨g, h1, Nat.le_trans bl.size h2, not_false, h3, h4⟩⟩
  clear hsl hG0
  have bl9 := bl.trans (O.below bl.size hDD)
  replace hDD : ∀ j, D2 j → w.heap.size ≤ j := fun j q => (hD2 j q).elim (hDD j) (fun q => Nat.le_trans bl.size q)
  replace bl := bl9
  replace bl0 := bl
  replace hd := hd2
  replace sd := sd2 sz2 df2 sd
  clear df2 sz2 old2 hd2 bl9
  replace hO1 := hO1.keep O (fun j q => .inl q) hD2
  clear O OM hD2
  clear DD
  obtain ⟨DD, rfl⟩ : ∃ E, E = D2 := ⟨_, rfl⟩
  clear x30
  refine wl_one (.eq (.tuple #[.slice A2 (List.replicate 16 2#8).length C2, .int .i64 0])) rfl 29 rfl (by rw [sd.1]; decide) (st_move (.tmp 31) rfl x31) ?_
  intro f26 w26 df2 sz2 old2 new2 hb
  replace x2 := tr old2 x2 rfl
  replace x3 := tr old2 x3 rfl
  replace x31 := tr old2 x31 rfl
  have x29 := Fk.e new2
  replace hd := HD.below hd hb
  replace hO1 := Ob8.below hO1 hb
  replace hO2 := Ob8.below hO2 hb
  replace bl := bgo bl hb
  replace sd := sd2 sz2 df2 sd
  clear df2 sz2 old2 new2 hb
  clear x31
  refine wl_one (.eq (.slice A2 (List.replicate 16 2#8).length C2)) rfl 32 rfl (by rw [sd.1]; decide) (st_ext0 (.tmp 29) rfl x29 rfl) ?_
  intro f27 w27 df2 sz2 old2 new2 hb
  replace x2 := tr old2 x2 rfl
  replace x3 := tr old2 x3 rfl
  replace x29 := tr old2 x29 rfl
  have x32 := Fk.e new2
  replace hd := HD.below hd hb
  replace hO1 := Ob8.below hO1 hb
  replace hO2 := Ob8.below hO2 hb
  replace bl := bgo bl hb
  replace sd := sd2 sz2 df2 sd
  clear df2 sz2 old2 new2 hb
  refine wl_one (.eq (.int .i64 0)) rfl 33 rfl (by rw [sd.1]; decide) (st_ext1 (.tmp 29) rfl x29 rfl) ?_
  intro f28 w28 df2 sz2 old2 new2 hb
  replace x2 := tr old2 x2 rfl
  replace x3 := tr old2 x3 rfl
  replace x29 := tr old2 x29 rfl
  replace x32 := tr old2 x32 rfl
  have x33 := Fk.e new2
  replace hd := HD.below hd hb
  replace hO1 := Ob8.below hO1 hb
  replace hO2 := Ob8.below hO2 hb
  replace bl := bgo bl hb
  replace sd := sd2 sz2 df2 sd
  clear df2 sz2 old2 new2 hb
  clear x29
  refine wl_one (.eq (.slice A2 (List.replicate 16 2#8).length C2)) rfl 4 rfl (by rw [sd.1]; decide) (st_assign (.tmp 32) rfl x32) ?_
  intro f29 w29 df2 sz2 old2 new2 hb
  replace x2 := tr old2 x2 rfl
  replace x3 := tr old2 x3 rfl
  replace x32 := tr old2 x32 rfl
  replace x33 := tr old2 x33 rfl
  have x4 := Fk.e new2
  replace hd := HD.below hd hb
  replace hO1 := Ob8.below hO1 hb
  replace hO2 := Ob8.below hO2 hb
  replace bl := bgo bl hb
  replace sd := sd2 sz2 df2 sd
  clear df2 sz2 old2 new2 hb
  clear x32
  refine wl_one (.eq (.int .i64 0)) rfl 5 rfl (by rw [sd.1]; decide) (st_assign (.tmp 33) rfl x33) ?_
  intro f30 w30 df2 sz2 old2 new2 hb
  replace x2 := tr old2 x2 rfl
  replace x3 := tr old2 x3 rfl
  replace x33 := tr old2 x33 rfl
  replace x4 := tr old2 x4 rfl
  have x5 := Fk.e new2
  replace hd := HD.below hd hb
  replace hO1 := Ob8.below hO1 hb
  replace hO2 := Ob8.below hO2 hb
  replace bl := bgo bl hb
  replace sd := sd2 sz2 df2 sd
  clear df2 sz2 old2 new2 hb
  refine wpList_nil ?_
  clear x33
  have hv1 := hO1.1
  have hv2 := hO2.1
  show Code.wp _ _ _ _ _
  refine wp_seq ?_
  refine wr_d [.eq (.int .i64 0), .eq (.bool true), .eq (.bool true), .eq (.int .i64 0), .eq (.bool true), .eq (.bool true), .eq (.bool true), .eq (.slice A1 (List.replicate 16 0#8).length C1), .eq (.string (str (List.replicate 16 0#8))), .sl (List.replicate 16 0#8), .eq (.string (str (List.replicate 16 0#8))), .eq (.bool true), .eq (.bool true), .eq (.bool true), .eq (.slice A2 (List.replicate 16 2#8).length C2), .eq (.string (str (List.replicate 16 2#8))), .sl (List.replicate 16 2#8), .eq (.string (str (List.replicate 16 2#8))), .eq (.bool true), .eq (.bool true), .eq (.bool true)] Try.mixed (by rw [sd.1]; kernel_rfl) ⟨fun hw ac u K => ?_, fun hw ac u K => ?_, fun hw ac u K => ?_, fun hw ac u K => ?_, fun hw ac u K => ?_, fun hw ac u K => ?_, fun hw ac u K => ?_, fun hw ac u K => ?_, fun hw ac u K => ?_, fun hw ac u K => ?_, fun hw ac u K => ?_, fun hw ac u K => ?_, fun hw ac u K => ?_, fun hw ac u K => ?_, fun hw ac u K => ?_, fun hw ac u K => ?_, fun hw ac u K => ?_, fun hw ac u K => ?_, fun hw ac u K => ?_, fun hw ac u K => ?_, fun hw ac u K => ?_, trivial⟩ ?_
  · exact st_move (.tmp 3) rfl (K.t x3 rfl)
  · exact st_eqi 37 (.tmp 34) (.const (.int .i64 0)) rfl .i64 (0) (0) (K.dep 0 34 rfl) rfl _ (by rfl)
  · exact st_move (.tmp 35) rfl (K.dep 1 35 rfl)
  · exact st_move (.tmp 5) rfl (K.t x5 rfl)
  · exact st_eqi 37 (.tmp 37) (.const (.int .i64 0)) rfl .i64 (0) (0) (K.dep 3 37 rfl) rfl _ (by rfl)
  · exact st_pick_t (.tmp 36) (.tmp 38) (.const (.bool false)) rfl (K.dep 2 36 rfl) (K.dep 4 38 rfl)
  · exact st_move (.tmp 39) rfl (K.dep 5 39 rfl)
  · exact st_move (.tmp 2) rfl (K.t x2 rfl)
  · exact st_stra (.tmp 41) rfl (fk_val (K.dep 7 41 rfl) (Fk.mono _ _ _ _ hv1 K.grow))
  · exact st_call 29 (.func 29) _ _ _ rfl rfl (one_arg rfl) Try.enter29 (full_sl 0#8 _)
  · exact st_stra (.tmp 43) rfl (K.dep 9 43 rfl)
  · exact st_eqs (.tmp 42) (.tmp 44) rfl (str (List.replicate 16 0#8)) (str (List.replicate 16 0#8)) (K.dep 8 42 rfl) (K.dep 10 44 rfl) _ (by simp)
  · exact st_pick_t (.tmp 40) (.tmp 45) (.const (.bool false)) rfl (K.dep 6 40 rfl) (K.dep 11 45 rfl)
  · exact st_move (.tmp 46) rfl (K.dep 12 46 rfl)
  · exact st_move (.tmp 4) rfl (K.t x4 rfl)
  · exact st_stra (.tmp 48) rfl (fk_val (K.dep 14 48 rfl) (Fk.mono _ _ _ _ hv2 K.grow))
  · exact st_call 29 (.func 29) _ _ _ rfl rfl (one_arg rfl) Try.enter29 (full_sl 2#8 _)
  · exact st_stra (.tmp 50) rfl (K.dep 16 50 rfl)
  · exact st_eqs (.tmp 49) (.tmp 51) rfl (str (List.replicate 16 2#8)) (str (List.replicate 16 2#8)) (K.dep 15 49 rfl) (K.dep 17 51 rfl) _ (by simp)
  · exact st_pick_t (.tmp 47) (.tmp 52) (.const (.bool false)) rfl (K.dep 13 47 rfl) (K.dep 18 52 rfl)
  · exact st_assign (.tmp 53) rfl (K.dep 19 53 rfl)
  intro f31 w31 A hb
  replace x2 := A.t x2 rfl
  replace x3 := A.t x3 rfl
  replace x4 := A.t x4 rfl
  replace x5 := A.t x5 rfl
  have x0 := A.e 20 0 rfl rfl
  replace hv1 := Fk.mono _ _ _ _ hv1 hb
  replace hv2 := Fk.mono _ _ _ _ hv2 hb
  replace hd := HD.below hd hb
  replace hO1 := Ob8.below hO1 hb
  replace hO2 := Ob8.below hO2 hb
  replace bl := bgo bl hb
  replace sd := A.sd sd
  clear A hb
  clear x2
  clear x3
  clear x4
  clear x5
  show Code.wp _ _ _ _ _
  refine wp_ret ?_
  repeat (first | with_reducible refine then_ret ?_ | with_reducible refine block_ret ?_)
  exact bodyPost_ret (v := .bool true) (ret_slot rfl f31 _ x0 _ _) sd.2 ⟨_, rfl, rfl, bl⟩
end Go.Proofs.Ytjdpomilifnlaaa
