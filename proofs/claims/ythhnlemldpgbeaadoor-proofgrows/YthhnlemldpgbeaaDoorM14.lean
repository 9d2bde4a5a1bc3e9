/- ProofGrows. -/
import Derived.Test.YthhnlemldpgbeaaDoorM13
namespace Go.Proofs.YthhnlemldpgbeaaDoor
set_option maxRecDepth 100000
open Go.RowKit
set_option maxHeartbeats 1000000 in
theorem grows_law {l : List (List (BitVec 8))} (z q : Int) (w : World) (hK : Tab w) {v : Value} (hv : (Fk.hc l).f v w) :
    Calls Tryd.prog 7 #[v, .int .i64 z, .int .i64 q] w fun e w' => e = .returned (.bool true) ∧ Below w.heap.size w w' := by
  have hvs := hc_hs hv
  go_enter Tryd.func7, Tryd.ntmps7
  refine code_both (fun f w1 => f.tmps.size = 107 ∧ f.defers = [] ∧ f.eval (.tmp 0) = v ∧ f.eval (.tmp 1) = .int .i64 (z) ∧ f.eval (.tmp 2) = .int .i64 (q) ∧ Below w.heap.size w (w1)) ⟨rfl, rfl, rfl, rfl, rfl, Below.refl _ _⟩ ?_
  rintro f0 w0 ⟨sz, df, x0, x1, x2, bl⟩
  have bl0 := bl
  refine wp_seq ?_
  refine wp_all_seq [.eq (.bool false)] (by kernel_rfl) (by kernel_rfl) (by rw [sz]; kernel_rfl) (by kernel_rfl) ⟨fun hw ac u K => ?_, trivial⟩ ?_
  · exact st_assign (.const (.bool false)) rfl rfl
  intro f1 w1 A hb
  replace bl0 := bl
  replace x0 := (A.old 0 rfl).trans x0
  replace x1 := (A.old 1 rfl).trans x1
  replace x2 := (A.old 2 rfl).trans x2
  have x6 : f1.eval (.tmp 6) = .bool false := A.has 0 6 rfl
  replace bl := (bl.trans (Below.mono hb bl.size))
  replace sz := A.size.trans sz
  replace df := A.defs.trans df
  clear A hb
  show Code.wp _ _ _ _ _
  refine wp_seq ?_
  refine wp_seq ?_
  by_cases hg : l.length ≤ 60 ∧ 0 ≤ z ∧ z ≤ q ∧ q ≤ (l.length : Int)
  rotate_left
  · skip
    by_cases h60 : 60 < l.length
    rotate_left
    · skip
      by_cases hz0 : z < 0
      rotate_left
      · skip
        by_cases hzq : q < z
        rotate_left
        · skip
          refine wp_all_seq [.eq (v), .eq (.int .i64 (((l).length : Nat) : Int)), .eq (.bool false), .eq (.bool false), .eq (.int .i64 (z)), .eq (.bool false), .eq (.bool false), .eq (.bool false), .eq (.int .i64 (z)), .eq (.int .i64 (q)), .eq (.bool false), .eq (.bool false), .eq (.bool false), .eq (.int .i64 (q)), .eq (v), .eq (.int .i64 (((l).length : Nat) : Int)), .eq (.bool true), .eq (.bool true)] (by kernel_rfl) (by kernel_rfl) (by rw [sz]; kernel_rfl) (by kernel_rfl) ⟨fun hw ac u K => ?_, fun hw ac u K => ?_, fun hw ac u K => ?_, fun hw ac u K => ?_, fun hw ac u K => ?_, fun hw ac u K => ?_, fun hw ac u K => ?_, fun hw ac u K => ?_, fun hw ac u K => ?_, fun hw ac u K => ?_, fun hw ac u K => ?_, fun hw ac u K => ?_, fun hw ac u K => ?_, fun hw ac u K => ?_, fun hw ac u K => ?_, fun hw ac u K => ?_, fun hw ac u K => ?_, fun hw ac u K => ?_, trivial⟩ ?_
          · exact st_move (.tmp 0) rfl ((K.old 0 rfl).trans x0)
          · exact st_lenc (.tmp 16) rfl ((l).length) rfl (fk_val (K.dep 0 16 rfl) (Fk.mono _ _ _ _ hv (bl.trans (Below.mono K.grow bl.size))))
          · exact st_gtr 3 (.tmp 17) (.const (.int .i64 60)) rfl .i64 ((((l).length : Nat) : Int)) (60) (K.dep 1 17 rfl) rfl _ (by rw [eq_comm, decide_eq_false_iff_not]; omega)
          · exact st_move (.tmp 18) rfl (K.dep 2 18 rfl)
          · exact st_move (.tmp 1) rfl ((K.old 1 rfl).trans x1)
          · exact st_lss 3 (.tmp 20) (.const (.int .i64 0)) rfl .i64 ((z)) (0) (K.dep 4 20 rfl) rfl _ (by rw [eq_comm, decide_eq_false_iff_not]; omega)
          · exact st_pick_f' (.tmp 19) (.const (.bool true)) (.tmp 21) rfl (K.dep 3 19 rfl) (K.dep 5 21 rfl)
          · exact st_move (.tmp 22) rfl (K.dep 6 22 rfl)
          · exact st_move (.tmp 1) rfl ((K.old 1 rfl).trans x1)
          · exact st_move (.tmp 2) rfl ((K.old 2 rfl).trans x2)
          · exact st_gtr 3 (.tmp 24) (.tmp 25) rfl .i64 ((z)) ((q)) (K.dep 8 24 rfl) (K.dep 9 25 rfl) _ (by rw [eq_comm, decide_eq_false_iff_not]; omega)
          · exact st_pick_f' (.tmp 23) (.const (.bool true)) (.tmp 26) rfl (K.dep 7 23 rfl) (K.dep 10 26 rfl)
          · exact st_move (.tmp 27) rfl (K.dep 11 27 rfl)
          · exact st_move (.tmp 2) rfl ((K.old 2 rfl).trans x2)
          · exact st_move (.tmp 0) rfl ((K.old 0 rfl).trans x0)
          · exact st_lenc (.tmp 30) rfl ((l).length) rfl (fk_val (K.dep 14 30 rfl) (Fk.mono _ _ _ _ hv (bl.trans (Below.mono K.grow bl.size))))
          · exact st_gtr 3 (.tmp 29) (.tmp 31) rfl .i64 ((q)) ((((l).length : Nat) : Int)) (K.dep 13 29 rfl) (K.dep 15 31 rfl) _ (by rw [eq_comm, decide_eq_true_iff]; omega)
          · exact st_pick_f' (.tmp 28) (.const (.bool true)) (.tmp 32) rfl (K.dep 12 28 rfl) (K.dep 16 32 rfl)
          intro f2 w2 A hb
          replace bl0 := bl
          replace x0 := (A.old 0 rfl).trans x0
          replace x1 := (A.old 1 rfl).trans x1
          replace x2 := (A.old 2 rfl).trans x2
          replace x6 := (A.old 6 rfl).trans x6
          have x33 : f2.eval (.tmp 33) = .bool true := A.has 17 33 rfl
          replace bl := (bl.trans (Below.mono hb bl.size))
          replace sz := A.size.trans sz
          replace df := A.defs.trans df
          clear A hb
          show Code.wp _ _ _ _ _
          refine wp_cond_true x33 ?_
          refine wp_seq ?_
          refine wp_all_seq [.eq (.bool true), .eq (.bool true)] (by kernel_rfl) (by kernel_rfl) (by rw [sz]; kernel_rfl) (by kernel_rfl) ⟨fun hw ac u K => ?_, fun hw ac u K => ?_, trivial⟩ ?_
          · exact st_call 8 (.func 8) _ _ #[] rfl rfl rfl Tryd.enter8 (fk_of (awake_any _ (hK.below (bl.trans (Below.mono K.grow bl.size)))))
          · exact st_assign (.tmp 34) rfl (K.dep 0 34 rfl)
          intro f3 w3 A hb
          replace bl0 := bl
          replace x0 := (A.old 0 rfl).trans x0
          replace x1 := (A.old 1 rfl).trans x1
          replace x2 := (A.old 2 rfl).trans x2
          clear x6
          replace x33 := (A.old 33 rfl).trans x33
          have x6 : f3.eval (.tmp 6) = .bool true := A.has 1 6 rfl
          replace bl := (bl.trans (Below.mono hb bl.size))
          replace sz := A.size.trans sz
          replace df := A.defs.trans df
          clear A hb
          show Code.wp _ _ _ _ _
          refine wp_ret ?_
          repeat (first | with_reducible refine then_ret ?_ | with_reducible refine block_ret ?_)
          exact bodyPost_ret (v := .bool true) (ret_slot rfl f3 _ x6 _ _) df ⟨rfl, bl⟩
        refine wp_all_seq [.eq (v), .eq (.int .i64 (((l).length : Nat) : Int)), .eq (.bool false), .eq (.bool false), .eq (.int .i64 (z)), .eq (.bool false), .eq (.bool false), .eq (.bool false), .eq (.int .i64 (z)), .eq (.int .i64 (q)), .eq (.bool true), .eq (.bool true), .eq (.bool true), .any, .any, .any, .any, .eq (.bool true)] (by kernel_rfl) (by kernel_rfl) (by rw [sz]; kernel_rfl) (by kernel_rfl) ⟨fun hw ac u K => ?_, fun hw ac u K => ?_, fun hw ac u K => ?_, fun hw ac u K => ?_, fun hw ac u K => ?_, fun hw ac u K => ?_, fun hw ac u K => ?_, fun hw ac u K => ?_, fun hw ac u K => ?_, fun hw ac u K => ?_, fun hw ac u K => ?_, fun hw ac u K => ?_, fun hw ac u K => ?_, fun hw ac u K => ?_, fun hw ac u K => ?_, fun hw ac u K => ?_, fun hw ac u K => ?_, fun hw ac u K => ?_, trivial⟩ ?_
        · exact st_move (.tmp 0) rfl ((K.old 0 rfl).trans x0)
        · exact st_lenc (.tmp 16) rfl ((l).length) rfl (fk_val (K.dep 0 16 rfl) (Fk.mono _ _ _ _ hv (bl.trans (Below.mono K.grow bl.size))))
        · exact st_gtr 3 (.tmp 17) (.const (.int .i64 60)) rfl .i64 ((((l).length : Nat) : Int)) (60) (K.dep 1 17 rfl) rfl _ (by rw [eq_comm, decide_eq_false_iff_not]; omega)
        · exact st_move (.tmp 18) rfl (K.dep 2 18 rfl)
        · exact st_move (.tmp 1) rfl ((K.old 1 rfl).trans x1)
        · exact st_lss 3 (.tmp 20) (.const (.int .i64 0)) rfl .i64 ((z)) (0) (K.dep 4 20 rfl) rfl _ (by rw [eq_comm, decide_eq_false_iff_not]; omega)
        · exact st_pick_f' (.tmp 19) (.const (.bool true)) (.tmp 21) rfl (K.dep 3 19 rfl) (K.dep 5 21 rfl)
        · exact st_move (.tmp 22) rfl (K.dep 6 22 rfl)
        · exact st_move (.tmp 1) rfl ((K.old 1 rfl).trans x1)
        · exact st_move (.tmp 2) rfl ((K.old 2 rfl).trans x2)
        · exact st_gtr 3 (.tmp 24) (.tmp 25) rfl .i64 ((z)) ((q)) (K.dep 8 24 rfl) (K.dep 9 25 rfl) _ (by rw [eq_comm, decide_eq_true_iff]; omega)
        · exact st_pick_f' (.tmp 23) (.const (.bool true)) (.tmp 26) rfl (K.dep 7 23 rfl) (K.dep 10 26 rfl)
        · exact st_move (.tmp 27) rfl (K.dep 11 27 rfl)
        · exact (Bool.false_ne_true hw).elim
        · exact (Bool.false_ne_true hw).elim
        · exact (Bool.false_ne_true hw).elim
        · exact (Bool.false_ne_true hw).elim
        · exact st_pick_t (.tmp 28) (.const (.bool true)) (.tmp 32) rfl (K.dep 12 28 rfl) rfl
        intro f2 w2 A hb
        replace bl0 := bl
        replace x0 := (A.old 0 rfl).trans x0
        replace x1 := (A.old 1 rfl).trans x1
        replace x2 := (A.old 2 rfl).trans x2
        replace x6 := (A.old 6 rfl).trans x6
        have x33 : f2.eval (.tmp 33) = .bool true := A.has 17 33 rfl
        replace bl := (bl.trans (Below.mono hb bl.size))
        replace sz := A.size.trans sz
        replace df := A.defs.trans df
        clear A hb
        show Code.wp _ _ _ _ _
        refine wp_cond_true x33 ?_
        refine wp_seq ?_
        refine wp_all_seq [.eq (.bool true), .eq (.bool true)] (by kernel_rfl) (by kernel_rfl) (by rw [sz]; kernel_rfl) (by kernel_rfl) ⟨fun hw ac u K => ?_, fun hw ac u K => ?_, trivial⟩ ?_
        · exact st_call 8 (.func 8) _ _ #[] rfl rfl rfl Tryd.enter8 (fk_of (awake_any _ (hK.below (bl.trans (Below.mono K.grow bl.size)))))
        · exact st_assign (.tmp 34) rfl (K.dep 0 34 rfl)
        intro f3 w3 A hb
        replace bl0 := bl
        replace x0 := (A.old 0 rfl).trans x0
        replace x1 := (A.old 1 rfl).trans x1
        replace x2 := (A.old 2 rfl).trans x2
        clear x6
        replace x33 := (A.old 33 rfl).trans x33
        have x6 : f3.eval (.tmp 6) = .bool true := A.has 1 6 rfl
        replace bl := (bl.trans (Below.mono hb bl.size))
        replace sz := A.size.trans sz
        replace df := A.defs.trans df
        clear A hb
        show Code.wp _ _ _ _ _
        refine wp_ret ?_
        repeat (first | with_reducible refine then_ret ?_ | with_reducible refine block_ret ?_)
        exact bodyPost_ret (v := .bool true) (ret_slot rfl f3 _ x6 _ _) df ⟨rfl, bl⟩
      refine wp_all_seq [.eq (v), .eq (.int .i64 (((l).length : Nat) : Int)), .eq (.bool false), .eq (.bool false), .eq (.int .i64 (z)), .eq (.bool true), .eq (.bool true), .eq (.bool true), .any, .any, .any, .eq (.bool true), .eq (.bool true), .any, .any, .any, .any, .eq (.bool true)] (by kernel_rfl) (by kernel_rfl) (by rw [sz]; kernel_rfl) (by kernel_rfl) ⟨fun hw ac u K => ?_, fun hw ac u K => ?_, fun hw ac u K => ?_, fun hw ac u K => ?_, fun hw ac u K => ?_, fun hw ac u K => ?_, fun hw ac u K => ?_, fun hw ac u K => ?_, fun hw ac u K => ?_, fun hw ac u K => ?_, fun hw ac u K => ?_, fun hw ac u K => ?_, fun hw ac u K => ?_, fun hw ac u K => ?_, fun hw ac u K => ?_, fun hw ac u K => ?_, fun hw ac u K => ?_, fun hw ac u K => ?_, trivial⟩ ?_
      · exact st_move (.tmp 0) rfl ((K.old 0 rfl).trans x0)
      · exact st_lenc (.tmp 16) rfl ((l).length) rfl (fk_val (K.dep 0 16 rfl) (Fk.mono _ _ _ _ hv (bl.trans (Below.mono K.grow bl.size))))
      · exact st_gtr 3 (.tmp 17) (.const (.int .i64 60)) rfl .i64 ((((l).length : Nat) : Int)) (60) (K.dep 1 17 rfl) rfl _ (by rw [eq_comm, decide_eq_false_iff_not]; omega)
      · exact st_move (.tmp 18) rfl (K.dep 2 18 rfl)
      · exact st_move (.tmp 1) rfl ((K.old 1 rfl).trans x1)
      · exact st_lss 3 (.tmp 20) (.const (.int .i64 0)) rfl .i64 ((z)) (0) (K.dep 4 20 rfl) rfl _ (by rw [eq_comm, decide_eq_true_iff]; omega)
      · exact st_pick_f' (.tmp 19) (.const (.bool true)) (.tmp 21) rfl (K.dep 3 19 rfl) (K.dep 5 21 rfl)
      · exact st_move (.tmp 22) rfl (K.dep 6 22 rfl)
      · exact (Bool.false_ne_true hw).elim
      · exact (Bool.false_ne_true hw).elim
      · exact (Bool.false_ne_true hw).elim
      · exact st_pick_t (.tmp 23) (.const (.bool true)) (.tmp 26) rfl (K.dep 7 23 rfl) rfl
      · exact st_move (.tmp 27) rfl (K.dep 11 27 rfl)
      · exact (Bool.false_ne_true hw).elim
      · exact (Bool.false_ne_true hw).elim
      · exact (Bool.false_ne_true hw).elim
      · exact (Bool.false_ne_true hw).elim
      · exact st_pick_t (.tmp 28) (.const (.bool true)) (.tmp 32) rfl (K.dep 12 28 rfl) rfl
      intro f2 w2 A hb
      replace bl0 := bl
      replace x0 := (A.old 0 rfl).trans x0
      replace x1 := (A.old 1 rfl).trans x1
      replace x2 := (A.old 2 rfl).trans x2
      replace x6 := (A.old 6 rfl).trans x6
      have x33 : f2.eval (.tmp 33) = .bool true := A.has 17 33 rfl
      replace bl := (bl.trans (Below.mono hb bl.size))
      replace sz := A.size.trans sz
      replace df := A.defs.trans df
      clear A hb
      show Code.wp _ _ _ _ _
      refine wp_cond_true x33 ?_
      refine wp_seq ?_
      refine wp_all_seq [.eq (.bool true), .eq (.bool true)] (by kernel_rfl) (by kernel_rfl) (by rw [sz]; kernel_rfl) (by kernel_rfl) ⟨fun hw ac u K => ?_, fun hw ac u K => ?_, trivial⟩ ?_
      · exact st_call 8 (.func 8) _ _ #[] rfl rfl rfl Tryd.enter8 (fk_of (awake_any _ (hK.below (bl.trans (Below.mono K.grow bl.size)))))
      · exact st_assign (.tmp 34) rfl (K.dep 0 34 rfl)
      intro f3 w3 A hb
      replace bl0 := bl
      replace x0 := (A.old 0 rfl).trans x0
      replace x1 := (A.old 1 rfl).trans x1
      replace x2 := (A.old 2 rfl).trans x2
      clear x6
      replace x33 := (A.old 33 rfl).trans x33
      have x6 : f3.eval (.tmp 6) = .bool true := A.has 1 6 rfl
      replace bl := (bl.trans (Below.mono hb bl.size))
      replace sz := A.size.trans sz
      replace df := A.defs.trans df
      clear A hb
      show Code.wp _ _ _ _ _
      refine wp_ret ?_
      repeat (first | with_reducible refine then_ret ?_ | with_reducible refine block_ret ?_)
      exact bodyPost_ret (v := .bool true) (ret_slot rfl f3 _ x6 _ _) df ⟨rfl, bl⟩
    refine wp_all_seq [.eq (v), .eq (.int .i64 (((l).length : Nat) : Int)), .eq (.bool true), .eq (.bool true), .any, .any, .eq (.bool true), .eq (.bool true), .any, .any, .any, .eq (.bool true), .eq (.bool true), .any, .any, .any, .any, .eq (.bool true)] (by kernel_rfl) (by kernel_rfl) (by rw [sz]; kernel_rfl) (by kernel_rfl) ⟨fun hw ac u K => ?_, fun hw ac u K => ?_, fun hw ac u K => ?_, fun hw ac u K => ?_, fun hw ac u K => ?_, fun hw ac u K => ?_, fun hw ac u K => ?_, fun hw ac u K => ?_, fun hw ac u K => ?_, fun hw ac u K => ?_, fun hw ac u K => ?_, fun hw ac u K => ?_, fun hw ac u K => ?_, fun hw ac u K => ?_, fun hw ac u K => ?_, fun hw ac u K => ?_, fun hw ac u K => ?_, fun hw ac u K => ?_, trivial⟩ ?_
    · exact st_move (.tmp 0) rfl ((K.old 0 rfl).trans x0)
    · exact st_lenc (.tmp 16) rfl ((l).length) rfl (fk_val (K.dep 0 16 rfl) (Fk.mono _ _ _ _ hv (bl.trans (Below.mono K.grow bl.size))))
    · exact st_gtr 3 (.tmp 17) (.const (.int .i64 60)) rfl .i64 ((((l).length : Nat) : Int)) (60) (K.dep 1 17 rfl) rfl _ (by rw [eq_comm, decide_eq_true_iff]; omega)
    · exact st_move (.tmp 18) rfl (K.dep 2 18 rfl)
    · exact (Bool.false_ne_true hw).elim
    · exact (Bool.false_ne_true hw).elim
    · exact st_pick_t (.tmp 19) (.const (.bool true)) (.tmp 21) rfl (K.dep 3 19 rfl) rfl
    · exact st_move (.tmp 22) rfl (K.dep 6 22 rfl)
    · exact (Bool.false_ne_true hw).elim
    · exact (Bool.false_ne_true hw).elim
    · exact (Bool.false_ne_true hw).elim
    · exact st_pick_t (.tmp 23) (.const (.bool true)) (.tmp 26) rfl (K.dep 7 23 rfl) rfl
    · exact st_move (.tmp 27) rfl (K.dep 11 27 rfl)
    · exact (Bool.false_ne_true hw).elim
    · exact (Bool.false_ne_true hw).elim
    · exact (Bool.false_ne_true hw).elim
    · exact (Bool.false_ne_true hw).elim
    · exact st_pick_t (.tmp 28) (.const (.bool true)) (.tmp 32) rfl (K.dep 12 28 rfl) rfl
    intro f2 w2 A hb
    replace bl0 := bl
    replace x0 := (A.old 0 rfl).trans x0
    replace x1 := (A.old 1 rfl).trans x1
    replace x2 := (A.old 2 rfl).trans x2
    replace x6 := (A.old 6 rfl).trans x6
    have x33 : f2.eval (.tmp 33) = .bool true := A.has 17 33 rfl
    replace bl := (bl.trans (Below.mono hb bl.size))
    replace sz := A.size.trans sz
    replace df := A.defs.trans df
    clear A hb
    show Code.wp _ _ _ _ _
    refine wp_cond_true x33 ?_
    refine wp_seq ?_
    refine wp_all_seq [.eq (.bool true), .eq (.bool true)] (by kernel_rfl) (by kernel_rfl) (by rw [sz]; kernel_rfl) (by kernel_rfl) ⟨fun hw ac u K => ?_, fun hw ac u K => ?_, trivial⟩ ?_
    · exact st_call 8 (.func 8) _ _ #[] rfl rfl rfl Tryd.enter8 (fk_of (awake_any _ (hK.below (bl.trans (Below.mono K.grow bl.size)))))
    · exact st_assign (.tmp 34) rfl (K.dep 0 34 rfl)
    intro f3 w3 A hb
    replace bl0 := bl
    replace x0 := (A.old 0 rfl).trans x0
    replace x1 := (A.old 1 rfl).trans x1
    replace x2 := (A.old 2 rfl).trans x2
    clear x6
    replace x33 := (A.old 33 rfl).trans x33
    have x6 : f3.eval (.tmp 6) = .bool true := A.has 1 6 rfl
    replace bl := (bl.trans (Below.mono hb bl.size))
    replace sz := A.size.trans sz
    replace df := A.defs.trans df
    clear A hb
    show Code.wp _ _ _ _ _
    refine wp_ret ?_
    repeat (first | with_reducible refine then_ret ?_ | with_reducible refine block_ret ?_)
    exact bodyPost_ret (v := .bool true) (ret_slot rfl f3 _ x6 _ _) df ⟨rfl, bl⟩
  obtain ⟨h60, hz0, hzq, hql⟩ := hg
  obtain ⟨a, rfl⟩ := Int.eq_ofNat_of_zero_le hz0
  obtain ⟨b, rfl⟩ := Int.eq_ofNat_of_zero_le (show 0 ≤ q by omega)
  have hab : a ≤ b := by omega
  have hbl : b ≤ l.length := by omega
  obtain ⟨x, ex⟩ : ∃ y, Box (mroot (l.take a) = y) := ⟨_, ⟨rfl⟩⟩
  obtain ⟨y, ey⟩ : ∃ y, Box (mroot (l.take b) = y) := ⟨_, ⟨rfl⟩⟩
  obtain ⟨ur, eur⟩ : ∃ y, Box (mroot l = y) := ⟨_, ⟨rfl⟩⟩
  have hx : x.length = 32 := by rw [← ex.out]; exact mroot_len (fun x hx => hc_len hv x (List.mem_of_mem_take hx))
  have hy : y.length = 32 := by rw [← ey.out]; exact mroot_len (fun x hx => hc_len hv x (List.mem_of_mem_take hx))
  have hur : ur.length = 32 := by rw [← eur.out]; exact mroot_len (hc_len hv)
  have hlb : (l.take b).length = b := by rw [List.length_take]; omega
  refine wp_all_seq [.eq (v), .eq (.int .i64 (((l).length : Nat) : Int)), .eq (.bool false), .eq (.bool false), .eq (.int .i64 ((a : Nat) : Int)), .eq (.bool false), .eq (.bool false), .eq (.bool false), .eq (.int .i64 ((a : Nat) : Int)), .eq (.int .i64 ((b : Nat) : Int)), .eq (.bool false), .eq (.bool false), .eq (.bool false), .eq (.int .i64 ((b : Nat) : Int)), .eq (v), .eq (.int .i64 (((l).length : Nat) : Int)), .eq (.bool false), .eq (.bool false)] (by kernel_rfl) (by kernel_rfl) (by rw [sz]; kernel_rfl) (by kernel_rfl) ⟨fun hw ac u K => ?_, fun hw ac u K => ?_, fun hw ac u K => ?_, fun hw ac u K => ?_, fun hw ac u K => ?_, fun hw ac u K => ?_, fun hw ac u K => ?_, fun hw ac u K => ?_, fun hw ac u K => ?_, fun hw ac u K => ?_, fun hw ac u K => ?_, fun hw ac u K => ?_, fun hw ac u K => ?_, fun hw ac u K => ?_, fun hw ac u K => ?_, fun hw ac u K => ?_, fun hw ac u K => ?_, fun hw ac u K => ?_, trivial⟩ ?_
  · exact st_move (.tmp 0) rfl ((K.old 0 rfl).trans x0)
  · exact st_lenc (.tmp 16) rfl ((l).length) rfl (fk_val (K.dep 0 16 rfl) (Fk.mono _ _ _ _ hv (bl.trans (Below.mono K.grow bl.size))))
  · exact st_gtr 3 (.tmp 17) (.const (.int .i64 60)) rfl .i64 ((((l).length : Nat) : Int)) (60) (K.dep 1 17 rfl) rfl _ (by rw [eq_comm, decide_eq_false_iff_not]; omega)
  · exact st_move (.tmp 18) rfl (K.dep 2 18 rfl)
  · exact st_move (.tmp 1) rfl ((K.old 1 rfl).trans x1)
  · exact st_lss 3 (.tmp 20) (.const (.int .i64 0)) rfl .i64 (((a : Nat) : Int)) (0) (K.dep 4 20 rfl) rfl _ (by rw [eq_comm, decide_eq_false_iff_not]; omega)
  · exact st_pick_f' (.tmp 19) (.const (.bool true)) (.tmp 21) rfl (K.dep 3 19 rfl) (K.dep 5 21 rfl)
  · exact st_move (.tmp 22) rfl (K.dep 6 22 rfl)
  · exact st_move (.tmp 1) rfl ((K.old 1 rfl).trans x1)
  · exact st_move (.tmp 2) rfl ((K.old 2 rfl).trans x2)
  · exact st_gtr 3 (.tmp 24) (.tmp 25) rfl .i64 (((a : Nat) : Int)) (((b : Nat) : Int)) (K.dep 8 24 rfl) (K.dep 9 25 rfl) _ (by rw [eq_comm, decide_eq_false_iff_not]; omega)
  · exact st_pick_f' (.tmp 23) (.const (.bool true)) (.tmp 26) rfl (K.dep 7 23 rfl) (K.dep 10 26 rfl)
  · exact st_move (.tmp 27) rfl (K.dep 11 27 rfl)
  · exact st_move (.tmp 2) rfl ((K.old 2 rfl).trans x2)
  · exact st_move (.tmp 0) rfl ((K.old 0 rfl).trans x0)
  · exact st_lenc (.tmp 30) rfl ((l).length) rfl (fk_val (K.dep 14 30 rfl) (Fk.mono _ _ _ _ hv (bl.trans (Below.mono K.grow bl.size))))
  · exact st_gtr 3 (.tmp 29) (.tmp 31) rfl .i64 (((b : Nat) : Int)) ((((l).length : Nat) : Int)) (K.dep 13 29 rfl) (K.dep 15 31 rfl) _ (by rw [eq_comm, decide_eq_false_iff_not]; omega)
  · exact st_pick_f' (.tmp 28) (.const (.bool true)) (.tmp 32) rfl (K.dep 12 28 rfl) (K.dep 16 32 rfl)
  intro f2 w2 A hb
  replace bl0 := bl
  replace x0 := (A.old 0 rfl).trans x0
  replace x1 := (A.old 1 rfl).trans x1
  replace x2 := (A.old 2 rfl).trans x2
  replace x6 := (A.old 6 rfl).trans x6
  have x33 : f2.eval (.tmp 33) = .bool false := A.has 17 33 rfl
  replace bl := (bl.trans (Below.mono hb bl.size))
  replace sz := A.size.trans sz
  replace df := A.defs.trans df
  clear A hb
  show Code.wp _ _ _ _ _
  refine wp_cond_false x33 ?_
  refine wp_skip ?_
  show Code.wp _ _ _ _ _
  refine wp_seq ?_
  by_cases ha0 : a = 0
  rotate_left
  · skip
    have hor0 : ∀ (t : List (BitVec 8)) (n : Nat), (n = 0 → t = x) → (0 < n ∨ t = x) := fun t n h => by
      by_cases h0 : 0 < n
      · exact .inl h0
      · exact .inr (h (by omega))
    have hul : l.length = 0 → ur = shaOf [] := fun h => by rw [← eur.out, List.eq_nil_of_length_eq_zero h, mroot_nil]
    obtain ⟨S2, eS2⟩ : ∃ S, Box (msub l b true = S) := ⟨_, ⟨rfl⟩⟩
    have hb2 := bres_sub (l := l) (m := b) (by omega) hbl
    rw [ey.out, eS2.out, eur.out] at hb2
    have hS2 := msub_len _ l b true rfl
    rw [eS2.out] at hS2
    obtain ⟨S1, eS1⟩ : ∃ S, Box (msub (l.take b) a true = S) := ⟨_, ⟨rfl⟩⟩
    have hb1 := bres_sub (l := l.take b) (m := a) (by omega) (by omega)
    rw [List.take_take, Nat.min_eq_left hab, ex.out, eS1.out, ey.out, hlb] at hb1
    have hS1 := msub_len _ (l.take b) a true rfl
    rw [eS1.out] at hS1
    obtain ⟨S3, eS3⟩ : ∃ S, Box (msub l a true = S) := ⟨_, ⟨rfl⟩⟩
    have hb3 := bres_sub (l := l) (m := a) (by omega) (by omega)
    rw [ex.out, eS3.out, eur.out] at hb3
    have hS3 := msub_len _ l a true rfl
    rw [eS3.out] at hS3
    refine wp_all_seq [.eq (v), .eq (.int .i64 ((b : Nat) : Int)), .hc ((l).take (b)), .eq (.int .i64 ((a : Nat) : Int)), .t2 (.hc (S1)) (.int .i64 0), .t2 (.hc (S1)) (.int .i64 0), .hc (S1), .eq (.int .i64 0), .hc (S1), .eq (.int .i64 0)] (by kernel_rfl) (by kernel_rfl) (by rw [sz]; kernel_rfl) (by kernel_rfl) ⟨fun hw ac u K => ?_, fun hw ac u K => ?_, fun hw ac u K => ?_, fun hw ac u K => ?_, fun hw ac u K => ?_, fun hw ac u K => ?_, fun hw ac u K => ?_, fun hw ac u K => ?_, fun hw ac u K => ?_, fun hw ac u K => ?_, trivial⟩ ?_
    · exact st_move (.tmp 0) rfl ((K.old 0 rfl).trans x0)
    · exact st_move (.tmp 2) rfl ((K.old 2 rfl).trans x2)
    · exact st_cuth (.tmp 36) (.tmp 37) rfl (fk_val (K.dep 0 36 rfl) (Fk.mono _ _ _ _ hv (bl.trans (Below.mono K.grow bl.size)))) (b) (K.dep 1 37 rfl) (by omega)
    · exact st_move (.tmp 1) rfl ((K.old 1 rfl).trans x1)
    · exact st_call 20 (.func 20) _ _ #[ac.eval (.tmp 38), .int .i64 ((a : Nat) : Int)] rfl rfl (arg2 rfl (K.dep 3 39 rfl)) Tryd.enter20 (fk_proofc (by omega) (by omega) (by omega) (K.dep 2 38 rfl) (hK.below (bl.trans (Below.mono K.grow bl.size))) eS1)
    · exact st_move (.tmp 40) rfl (K.dep 4 40 rfl)
    · exact st_t2a (.tmp 35) rfl (K.dep 5 35 rfl)
    · exact st_t2b (.tmp 35) rfl (K.dep 5 35 rfl)
    · exact st_assign (.tmp 41) rfl (K.dep 6 41 rfl)
    · exact st_assign (.tmp 42) rfl (K.dep 7 42 rfl)
    intro f3 w3 A hb
    replace bl0 := bl
    replace x0 := (A.old 0 rfl).trans x0
    replace x1 := (A.old 1 rfl).trans x1
    replace x2 := (A.old 2 rfl).trans x2
    replace x6 := (A.old 6 rfl).trans x6
    replace x33 := (A.old 33 rfl).trans x33
    have x7 : Fk.f (.hc (S1)) (f3.eval (.tmp 7)) w3 := A.has 8 7 rfl
    have x8 : f3.eval (.tmp 8) = .int .i64 0 := A.has 9 8 rfl
    replace bl := (bl.trans (Below.mono hb bl.size))
    replace sz := A.size.trans sz
    replace df := A.defs.trans df
    clear A hb
    show Code.wp _ _ _ _ _
    refine wp_seq ?_
    refine wp_all_seq [.eq (v), .eq (.int .i64 ((b : Nat) : Int)), .t2 (.hc (S2)) (.int .i64 0), .t2 (.hc (S2)) (.int .i64 0), .hc (S2), .eq (.int .i64 0), .hc (S2), .eq (.int .i64 0)] (by kernel_rfl) (by kernel_rfl) (by rw [sz]; kernel_rfl) (by kernel_rfl) ⟨fun hw ac u K => ?_, fun hw ac u K => ?_, fun hw ac u K => ?_, fun hw ac u K => ?_, fun hw ac u K => ?_, fun hw ac u K => ?_, fun hw ac u K => ?_, fun hw ac u K => ?_, trivial⟩ ?_
    · exact st_move (.tmp 0) rfl ((K.old 0 rfl).trans x0)
    · exact st_move (.tmp 2) rfl ((K.old 2 rfl).trans x2)
    · exact st_call 20 (.func 20) _ _ #[v, .int .i64 ((b : Nat) : Int)] rfl rfl (arg2 (K.dep 0 44 rfl) (K.dep 1 45 rfl)) Tryd.enter20 (fk_proofc (by omega) hbl (by omega) (Fk.mono _ _ _ _ hv (bl.trans (Below.mono K.grow bl.size))) (hK.below (bl.trans (Below.mono K.grow bl.size))) eS2)
    · exact st_move (.tmp 46) rfl (K.dep 2 46 rfl)
    · exact st_t2a (.tmp 43) rfl (K.dep 3 43 rfl)
    · exact st_t2b (.tmp 43) rfl (K.dep 3 43 rfl)
    · exact st_assign (.tmp 47) rfl (K.dep 4 47 rfl)
    · exact st_assign (.tmp 48) rfl (K.dep 5 48 rfl)
    intro f4 w4 A hb
    replace bl0 := bl
    replace x0 := (A.old 0 rfl).trans x0
    replace x1 := (A.old 1 rfl).trans x1
    replace x2 := (A.old 2 rfl).trans x2
    replace x6 := (A.old 6 rfl).trans x6
    replace x33 := (A.old 33 rfl).trans x33
    replace x7 := f_at (A.old 7 rfl) (Fk.mono _ _ _ _ x7 hb)
    replace x8 := (A.old 8 rfl).trans x8
    have x9 : Fk.f (.hc (S2)) (f4.eval (.tmp 9)) w4 := A.has 6 9 rfl
    have x10 : f4.eval (.tmp 10) = .int .i64 0 := A.has 7 10 rfl
    replace bl := (bl.trans (Below.mono hb bl.size))
    replace sz := A.size.trans sz
    replace df := A.defs.trans df
    clear A hb
    show Code.wp _ _ _ _ _
    refine wp_seq ?_
    refine wp_all_seq [.eq (v), .eq (.int .i64 ((a : Nat) : Int)), .t2 (.hc (S3)) (.int .i64 0), .t2 (.hc (S3)) (.int .i64 0), .hc (S3), .eq (.int .i64 0), .hc (S3), .eq (.int .i64 0)] (by kernel_rfl) (by kernel_rfl) (by rw [sz]; kernel_rfl) (by kernel_rfl) ⟨fun hw ac u K => ?_, fun hw ac u K => ?_, fun hw ac u K => ?_, fun hw ac u K => ?_, fun hw ac u K => ?_, fun hw ac u K => ?_, fun hw ac u K => ?_, fun hw ac u K => ?_, trivial⟩ ?_
    · exact st_move (.tmp 0) rfl ((K.old 0 rfl).trans x0)
    · exact st_move (.tmp 1) rfl ((K.old 1 rfl).trans x1)
    · exact st_call 20 (.func 20) _ _ #[v, .int .i64 ((a : Nat) : Int)] rfl rfl (arg2 (K.dep 0 50 rfl) (K.dep 1 51 rfl)) Tryd.enter20 (fk_proofc (by omega) (by omega) (by omega) (Fk.mono _ _ _ _ hv (bl.trans (Below.mono K.grow bl.size))) (hK.below (bl.trans (Below.mono K.grow bl.size))) eS3)
    · exact st_move (.tmp 52) rfl (K.dep 2 52 rfl)
    · exact st_t2a (.tmp 49) rfl (K.dep 3 49 rfl)
    · exact st_t2b (.tmp 49) rfl (K.dep 3 49 rfl)
    · exact st_assign (.tmp 53) rfl (K.dep 4 53 rfl)
    · exact st_assign (.tmp 54) rfl (K.dep 5 54 rfl)
    intro f5 w5 A hb
    replace bl0 := bl
    replace x0 := (A.old 0 rfl).trans x0
    replace x1 := (A.old 1 rfl).trans x1
    replace x2 := (A.old 2 rfl).trans x2
    replace x6 := (A.old 6 rfl).trans x6
    replace x33 := (A.old 33 rfl).trans x33
    replace x7 := f_at (A.old 7 rfl) (Fk.mono _ _ _ _ x7 hb)
    replace x8 := (A.old 8 rfl).trans x8
    replace x9 := f_at (A.old 9 rfl) (Fk.mono _ _ _ _ x9 hb)
    replace x10 := (A.old 10 rfl).trans x10
    have x11 : Fk.f (.hc (S3)) (f5.eval (.tmp 11)) w5 := A.has 6 11 rfl
    have x12 : f5.eval (.tmp 12) = .int .i64 0 := A.has 7 12 rfl
    replace bl := (bl.trans (Below.mono hb bl.size))
    replace sz := A.size.trans sz
    replace df := A.defs.trans df
    clear A hb
    show Code.wp _ _ _ _ _
    refine wp_seq ?_
    refine wp_region_new [.eq (v), .eq (.int .i64 ((a : Nat) : Int)), .hc ((l).take (a)), .eq (.agg ((x).map V).toArray), .eq (v), .eq (.int .i64 ((b : Nat) : Int)), .hc ((l).take (b)), .eq (.agg ((y).map V).toArray), .eq (v), .eq (.agg ((ur).map V).toArray), .pn w5.heap.size hz, .pn w5.heap.size hz, .pn w5.heap.size hz] [13, 14, 15] [(10, 13), (11, 14), (12, 15)] (by kernel_rfl) (by intro x hx; simp only [List.mem_cons, List.not_mem_nil, or_false] at hx; rcases hx with rfl | rfl | rfl <;> rfl) (by kernel_rfl) (by kernel_rfl) (by kernel_rfl) (by kernel_rfl) (by rw [sz]; kernel_rfl) (by kernel_rfl) ⟨fun hw ac u K => ?_, fun hw ac u K => ?_, fun hw ac u K => ?_, fun hw ac u K => ?_, fun hw ac u K => ?_, fun hw ac u K => ?_, fun hw ac u K => ?_, fun hw ac u K => ?_, fun hw ac u K => ?_, fun hw ac u K => ?_, fun hw ac u K => ?_, fun hw ac u K => ?_, fun hw ac u K => ?_, trivial⟩ ?_
    · exact st_move (.tmp 0) rfl ((K.old 0 rfl).trans x0)
    · exact st_move (.tmp 1) rfl ((K.old 1 rfl).trans x1)
    · exact st_cuth (.tmp 55) (.tmp 56) rfl (fk_val (K.dep 0 55 rfl) (Fk.mono _ _ _ _ hv (bl.trans (Below.mono K.grow bl.size)))) (a) (K.dep 1 56 rfl) (by omega)
    · exact st_call 22 (.func 22) _ _ #[ac.eval (.tmp 57)] rfl rfl (one_arg rfl) Tryd.enter22 (fk_of (lroot_any (by (try rw [List.length_take]); omega) _ (K.dep 2 57 rfl) (hK.below (bl.trans (Below.mono K.grow bl.size))) ex))
    · exact st_move (.tmp 0) rfl ((K.old 0 rfl).trans x0)
    · exact st_move (.tmp 2) rfl ((K.old 2 rfl).trans x2)
    · exact st_cuth (.tmp 59) (.tmp 60) rfl (fk_val (K.dep 4 59 rfl) (Fk.mono _ _ _ _ hv (bl.trans (Below.mono K.grow bl.size)))) (b) (K.dep 5 60 rfl) (by omega)
    · exact st_call 22 (.func 22) _ _ #[ac.eval (.tmp 61)] rfl rfl (one_arg rfl) Tryd.enter22 (fk_of (lroot_any (by (try rw [List.length_take]); omega) _ (K.dep 6 61 rfl) (hK.below (bl.trans (Below.mono K.grow bl.size))) ey))
    · exact st_move (.tmp 0) rfl ((K.old 0 rfl).trans x0)
    · exact st_call 22 (.func 22) _ _ #[v] rfl rfl (one_arg (K.dep 8 63 rfl)) Tryd.enter22 (fk_of (lroot_any (by (try rw [List.length_take]); omega) _ (Fk.mono _ _ _ _ hv (bl.trans (Below.mono K.grow bl.size))) (hK.below (bl.trans (Below.mono K.grow bl.size))) eur))
    · exact st_alloc23 rfl _ K.grow.size
    · exact st_alloc23 rfl _ K.grow.size
    · exact st_alloc23 rfl _ K.grow.size
    intro f6 w6 A hap hb
    have S_x7 : Fk.f (.hc (S1)) (f6.eval (.tmp 7)) w5 := f_at (A.old 7 rfl) x7
    have S_x9 : Fk.f (.hc (S2)) (f6.eval (.tmp 9)) w5 := f_at (A.old 9 rfl) x9
    have S_x11 : Fk.f (.hc (S3)) (f6.eval (.tmp 11)) w5 := f_at (A.old 11 rfl) x11
    have hbS0 := Below.refl w5.heap.size w5
    have hbS := hb
    replace bl0 := bl
    replace x0 := (A.old 0 rfl).trans x0
    replace x1 := (A.old 1 rfl).trans x1
    replace x2 := (A.old 2 rfl).trans x2
    replace x6 := (A.old 6 rfl).trans x6
    replace x33 := (A.old 33 rfl).trans x33
    replace x7 := f_at (A.old 7 rfl) (Fk.mono _ _ _ _ x7 hb)
    replace x8 := (A.old 8 rfl).trans x8
    replace x9 := f_at (A.old 9 rfl) (Fk.mono _ _ _ _ x9 hb)
    replace x10 := (A.old 10 rfl).trans x10
    replace x11 := f_at (A.old 11 rfl) (Fk.mono _ _ _ _ x11 hb)
    replace x12 := (A.old 12 rfl).trans x12
    have x13 : Fk.f (.pn w5.heap.size hz) (f6.eval (.tmp 13)) w6 := A.has 10 13 rfl
    have x14 : Fk.f (.pn w5.heap.size hz) (f6.eval (.tmp 14)) w6 := A.has 11 14 rfl
    have x15 : Fk.f (.pn w5.heap.size hz) (f6.eval (.tmp 15)) w6 := A.has 12 15 rfl
    have x58 : f6.eval (.tmp 58) = .agg ((x).map V).toArray := A.has 3 58 rfl
    have x62 : f6.eval (.tmp 62) = .agg ((y).map V).toArray := A.has 7 62 rfl
    have x64 : f6.eval (.tmp 64) = .agg ((ur).map V).toArray := A.has 9 64 rfl
    replace bl := (bl.trans (Below.mono hb bl.size))
    replace sz := A.size.trans sz
    replace df := A.defs.trans df
    clear A hb
    obtain ⟨g13, hg13, e13, m13⟩ := x13
    have x13 := e13
    clear e13
    have hw13 : w.heap.size ≤ g13 := Nat.le_trans bl0.size hg13
    have hs13 := Nat.le_trans hbS0.size hg13
    obtain ⟨g14, hg14, e14, m14⟩ := x14
    have x14 := e14
    clear e14
    have nm13_14 : g13 ≠ g14 := fun e => hap (10, 13) (by simp) (11, 14) (by simp) (by decide) (by rw [x13, x14, e])
    have hw14 : w.heap.size ≤ g14 := Nat.le_trans bl0.size hg14
    have hs14 := Nat.le_trans hbS0.size hg14
    obtain ⟨g15, hg15, e15, m15⟩ := x15
    have x15 := e15
    clear e15
    have nm13_15 : g13 ≠ g15 := fun e => hap (10, 13) (by simp) (12, 15) (by simp) (by decide) (by rw [x13, x15, e])
    have nm14_15 : g14 ≠ g15 := fun e => hap (11, 14) (by simp) (12, 15) (by simp) (by decide) (by rw [x14, x15, e])
    have hw15 : w.heap.size ≤ g15 := Nat.le_trans bl0.size hg15
    have hs15 := Nat.le_trans hbS0.size hg15
    refine wl_store rfl (.tmp 13) (.tmp 58) rfl rfl (g13) (x) (hz) x13 x58 m13 hz_len hx ?_
    replace m13 : Ob (w6.setRow g13 ((x).map V : List Value).toArray) (g13) 23 ((x).map V) := Ob.setRow m13 ((x).map V)
    replace m14 : Ob (w6.setRow g13 ((x).map V : List Value).toArray) (g14) 23 ((hz).map V) := Ob.setRow_other m14 _ nm13_14.symm
    replace m15 : Ob (w6.setRow g13 ((x).map V : List Value).toArray) (g15) 23 ((hz).map V) := Ob.setRow_other m15 _ nm13_15.symm
    replace hbS : Below _ _ (w6.setRow g13 ((x).map V : List Value).toArray) := hbS.trans (below_setRow _ _ _ _ hs13)
    replace bl : Below w.heap.size w (w6.setRow g13 ((x).map V : List Value).toArray) := bl.trans (below_setRow _ _ _ _ hw13)
    generalize w6.setRow g13 ((x).map V : List Value).toArray = w7b at bl m13 m14 m15 hbS ⊢
    replace x7 : Fk.f (.hc (S1)) (f6.eval (.tmp 7)) w7b := Fk.mono _ _ _ _ S_x7 hbS
    replace x9 : Fk.f (.hc (S2)) (f6.eval (.tmp 9)) w7b := Fk.mono _ _ _ _ S_x9 hbS
    replace x11 : Fk.f (.hc (S3)) (f6.eval (.tmp 11)) w7b := Fk.mono _ _ _ _ S_x11 hbS
    clear x58
    refine wl_store rfl (.tmp 14) (.tmp 62) rfl rfl (g14) (y) (hz) x14 x62 m14 hz_len hy ?_
    replace m13 : Ob (w7b.setRow g14 ((y).map V : List Value).toArray) (g13) 23 ((x).map V) := Ob.setRow_other m13 _ nm13_14
    replace m14 : Ob (w7b.setRow g14 ((y).map V : List Value).toArray) (g14) 23 ((y).map V) := Ob.setRow m14 ((y).map V)
    replace m15 : Ob (w7b.setRow g14 ((y).map V : List Value).toArray) (g15) 23 ((hz).map V) := Ob.setRow_other m15 _ nm14_15.symm
    replace hbS : Below _ _ (w7b.setRow g14 ((y).map V : List Value).toArray) := hbS.trans (below_setRow _ _ _ _ hs14)
    replace bl : Below w.heap.size w (w7b.setRow g14 ((y).map V : List Value).toArray) := bl.trans (below_setRow _ _ _ _ hw14)
    generalize w7b.setRow g14 ((y).map V : List Value).toArray = w8b at bl m13 m14 m15 hbS ⊢
    replace x7 : Fk.f (.hc (S1)) (f6.eval (.tmp 7)) w8b := Fk.mono _ _ _ _ S_x7 hbS
    replace x9 : Fk.f (.hc (S2)) (f6.eval (.tmp 9)) w8b := Fk.mono _ _ _ _ S_x9 hbS
    replace x11 : Fk.f (.hc (S3)) (f6.eval (.tmp 11)) w8b := Fk.mono _ _ _ _ S_x11 hbS
    clear x62
    refine wl_store rfl (.tmp 15) (.tmp 64) rfl rfl (g15) (ur) (hz) x15 x64 m15 hz_len hur ?_
    replace m13 : Ob (w8b.setRow g15 ((ur).map V : List Value).toArray) (g13) 23 ((x).map V) := Ob.setRow_other m13 _ nm13_15
    replace m14 : Ob (w8b.setRow g15 ((ur).map V : List Value).toArray) (g14) 23 ((y).map V) := Ob.setRow_other m14 _ nm14_15
    replace m15 : Ob (w8b.setRow g15 ((ur).map V : List Value).toArray) (g15) 23 ((ur).map V) := Ob.setRow m15 ((ur).map V)
    replace hbS : Below _ _ (w8b.setRow g15 ((ur).map V : List Value).toArray) := hbS.trans (below_setRow _ _ _ _ hs15)
    replace bl : Below w.heap.size w (w8b.setRow g15 ((ur).map V : List Value).toArray) := bl.trans (below_setRow _ _ _ _ hw15)
    generalize w8b.setRow g15 ((ur).map V : List Value).toArray = w9b at bl m13 m14 m15 hbS ⊢
    replace x7 : Fk.f (.hc (S1)) (f6.eval (.tmp 7)) w9b := Fk.mono _ _ _ _ S_x7 hbS
    replace x9 : Fk.f (.hc (S2)) (f6.eval (.tmp 9)) w9b := Fk.mono _ _ _ _ S_x9 hbS
    replace x11 : Fk.f (.hc (S3)) (f6.eval (.tmp 11)) w9b := Fk.mono _ _ _ _ S_x11 hbS
    refine wpList_nil ?_
    clear hbS hbS0 S_x7 S_x9 S_x11
    clear x64
    show Code.wp _ _ _ _ _
    refine wp_seq ?_
    refine wp_all_seq [.eq (.int .i64 0), .eq (.bool true), .eq (.bool true), .eq (.int .i64 0), .eq (.bool true), .eq (.bool true), .eq (.bool true), .eq (.int .i64 0), .eq (.bool true), .eq (.bool true), .eq (.bool true), .eq (.int .i64 ((a : Nat) : Int)), .eq (.int .i64 ((b : Nat) : Int)), .eq (.agg ((x).map V).toArray), .eq (.agg ((y).map V).toArray), .hc (S1), .eq (.int .i64 0), .eq (.bool true), .eq (.bool true), .eq (.bool true), .eq (.int .i64 ((b : Nat) : Int)), .eq (v), .eq (.int .i64 (((l).length : Nat) : Int)), .eq (.agg ((y).map V).toArray), .eq (.agg ((ur).map V).toArray), .hc (S2), .eq (.int .i64 0), .eq (.bool true), .eq (.bool true), .eq (.bool true), .eq (.int .i64 ((a : Nat) : Int)), .eq (v), .eq (.int .i64 (((l).length : Nat) : Int)), .eq (.agg ((x).map V).toArray), .eq (.agg ((ur).map V).toArray), .hc (S3), .eq (.int .i64 0), .eq (.bool true), .eq (.bool true), .eq (.bool true), .eq (.bool true), .eq (.bool true), .eq (.bool true)] (by kernel_rfl) (by kernel_rfl) (by rw [sz]; kernel_rfl) (by kernel_rfl) ⟨fun hw ac u K => ?_, fun hw ac u K => ?_, fun hw ac u K => ?_, fun hw ac u K => ?_, fun hw ac u K => ?_, fun hw ac u K => ?_, fun hw ac u K => ?_, fun hw ac u K => ?_, fun hw ac u K => ?_, fun hw ac u K => ?_, fun hw ac u K => ?_, fun hw ac u K => ?_, fun hw ac u K => ?_, fun hw ac u K => ?_, fun hw ac u K => ?_, fun hw ac u K => ?_, fun hw ac u K => ?_, fun hw ac u K => ?_, fun hw ac u K => ?_, fun hw ac u K => ?_, fun hw ac u K => ?_, fun hw ac u K => ?_, fun hw ac u K => ?_, fun hw ac u K => ?_, fun hw ac u K => ?_, fun hw ac u K => ?_, fun hw ac u K => ?_, fun hw ac u K => ?_, fun hw ac u K => ?_, fun hw ac u K => ?_, fun hw ac u K => ?_, fun hw ac u K => ?_, fun hw ac u K => ?_, fun hw ac u K => ?_, fun hw ac u K => ?_, fun hw ac u K => ?_, fun hw ac u K => ?_, fun hw ac u K => ?_, fun hw ac u K => ?_, fun hw ac u K => ?_, fun hw ac u K => ?_, fun hw ac u K => ?_, fun hw ac u K => ?_, trivial⟩ ?_
    · exact st_move (.tmp 8) rfl ((K.old 8 rfl).trans x8)
    · exact st_eqi 28 (.tmp 65) (.const (.int .i64 0)) rfl .i64 (0) (0) (K.dep 0 65 rfl) rfl _ (by rfl)
    · exact st_move (.tmp 66) rfl (K.dep 1 66 rfl)
    · exact st_move (.tmp 10) rfl ((K.old 10 rfl).trans x10)
    · exact st_eqi 28 (.tmp 68) (.const (.int .i64 0)) rfl .i64 (0) (0) (K.dep 3 68 rfl) rfl _ (by rfl)
    · exact st_pick_t (.tmp 67) (.tmp 69) (.const (.bool false)) rfl (K.dep 2 67 rfl) (K.dep 4 69 rfl)
    · exact st_move (.tmp 70) rfl (K.dep 5 70 rfl)
    · exact st_move (.tmp 12) rfl ((K.old 12 rfl).trans x12)
    · exact st_eqi 28 (.tmp 72) (.const (.int .i64 0)) rfl .i64 (0) (0) (K.dep 7 72 rfl) rfl _ (by rfl)
    · exact st_pick_t (.tmp 71) (.tmp 73) (.const (.bool false)) rfl (K.dep 6 71 rfl) (K.dep 8 73 rfl)
    · exact st_move (.tmp 74) rfl (K.dep 9 74 rfl)
    · exact st_move (.tmp 1) rfl ((K.old 1 rfl).trans x1)
    · exact st_move (.tmp 2) rfl ((K.old 2 rfl).trans x2)
    · exact st_load23 (.tmp 13) rfl (g13) (x) ((K.old 13 rfl).trans x13) hx (Ob.below m13 K.grow)
    · exact st_load23 (.tmp 14) rfl (g14) (y) ((K.old 14 rfl).trans x14) hy (Ob.below m14 K.grow)
    · exact st_move (.tmp 7) rfl (f_at (K.old 7 rfl) (Fk.mono _ _ _ _ x7 K.grow))
    · exact st_call 15 (.func 15) _ _ #[.int .i64 ((a : Nat) : Int), .int .i64 ((b : Nat) : Int), .agg ((x).map V).toArray, .agg ((y).map V).toArray, ac.eval (.tmp 80)] rfl rfl (arg5 (K.dep 11 76 rfl) (K.dep 12 77 rfl) (K.dep 13 78 rfl) (K.dep 14 79 rfl) rfl) Tryd.enter15 (fk_on_any hx hy (by omega) hab (by omega) (K.dep 15 80 rfl) (by omega) (hK.below (bl.trans (Below.mono K.grow bl.size))) 0 (by rw [if_pos hb1]))
    · exact st_eqi 28 (.tmp 81) (.const (.int .i64 0)) rfl .i64 (0) (0) (K.dep 16 81 rfl) rfl _ (by rfl)
    · exact st_pick_t (.tmp 75) (.tmp 82) (.const (.bool false)) rfl (K.dep 10 75 rfl) (K.dep 17 82 rfl)
    · exact st_move (.tmp 83) rfl (K.dep 18 83 rfl)
    · exact st_move (.tmp 2) rfl ((K.old 2 rfl).trans x2)
    · exact st_move (.tmp 0) rfl ((K.old 0 rfl).trans x0)
    · exact st_lenc (.tmp 86) rfl ((l).length) rfl (fk_val (K.dep 21 86 rfl) (Fk.mono _ _ _ _ hv (bl.trans (Below.mono K.grow bl.size))))
    · exact st_load23 (.tmp 14) rfl (g14) (y) ((K.old 14 rfl).trans x14) hy (Ob.below m14 K.grow)
    · exact st_load23 (.tmp 15) rfl (g15) (ur) ((K.old 15 rfl).trans x15) hur (Ob.below m15 K.grow)
    · exact st_move (.tmp 9) rfl (f_at (K.old 9 rfl) (Fk.mono _ _ _ _ x9 K.grow))
    · exact st_call 15 (.func 15) _ _ #[.int .i64 ((b : Nat) : Int), .int .i64 (((l).length : Nat) : Int), .agg ((y).map V).toArray, .agg ((ur).map V).toArray, ac.eval (.tmp 90)] rfl rfl (arg5 (K.dep 20 85 rfl) (K.dep 22 87 rfl) (K.dep 23 88 rfl) (K.dep 24 89 rfl) rfl) Tryd.enter15 (fk_on_any hy hur (by omega) hbl (by omega) (K.dep 25 90 rfl) (by omega) (hK.below (bl.trans (Below.mono K.grow bl.size))) 0 (by rw [if_pos hb2]))
    · exact st_eqi 28 (.tmp 91) (.const (.int .i64 0)) rfl .i64 (0) (0) (K.dep 26 91 rfl) rfl _ (by rfl)
    · exact st_pick_t (.tmp 84) (.tmp 92) (.const (.bool false)) rfl (K.dep 19 84 rfl) (K.dep 27 92 rfl)
    · exact st_move (.tmp 93) rfl (K.dep 28 93 rfl)
    · exact st_move (.tmp 1) rfl ((K.old 1 rfl).trans x1)
    · exact st_move (.tmp 0) rfl ((K.old 0 rfl).trans x0)
    · exact st_lenc (.tmp 96) rfl ((l).length) rfl (fk_val (K.dep 31 96 rfl) (Fk.mono _ _ _ _ hv (bl.trans (Below.mono K.grow bl.size))))
    · exact st_load23 (.tmp 13) rfl (g13) (x) ((K.old 13 rfl).trans x13) hx (Ob.below m13 K.grow)
    · exact st_load23 (.tmp 15) rfl (g15) (ur) ((K.old 15 rfl).trans x15) hur (Ob.below m15 K.grow)
    · exact st_move (.tmp 11) rfl (f_at (K.old 11 rfl) (Fk.mono _ _ _ _ x11 K.grow))
    · exact st_call 15 (.func 15) _ _ #[.int .i64 ((a : Nat) : Int), .int .i64 (((l).length : Nat) : Int), .agg ((x).map V).toArray, .agg ((ur).map V).toArray, ac.eval (.tmp 100)] rfl rfl (arg5 (K.dep 30 95 rfl) (K.dep 32 97 rfl) (K.dep 33 98 rfl) (K.dep 34 99 rfl) rfl) Tryd.enter15 (fk_on_any hx hur (by omega) (by omega) (by omega) (K.dep 35 100 rfl) (by omega) (hK.below (bl.trans (Below.mono K.grow bl.size))) 0 (by rw [if_pos hb3]))
    · exact st_eqi 28 (.tmp 101) (.const (.int .i64 0)) rfl .i64 (0) (0) (K.dep 36 101 rfl) rfl _ (by rfl)
    · exact st_pick_t (.tmp 94) (.tmp 102) (.const (.bool false)) rfl (K.dep 29 94 rfl) (K.dep 37 102 rfl)
    · exact st_move (.tmp 103) rfl (K.dep 38 103 rfl)
    · exact st_call 8 (.func 8) _ _ #[] rfl rfl rfl Tryd.enter8 (fk_of (awake_any _ (hK.below (bl.trans (Below.mono K.grow bl.size)))))
    · exact st_pick_t (.tmp 104) (.tmp 105) (.const (.bool false)) rfl (K.dep 39 104 rfl) (K.dep 40 105 rfl)
    · exact st_assign (.tmp 106) rfl (K.dep 41 106 rfl)
    intro f10 w10 A hb
    replace bl0 := bl
    replace x0 := (A.old 0 rfl).trans x0
    replace x1 := (A.old 1 rfl).trans x1
    replace x2 := (A.old 2 rfl).trans x2
    clear x6
    replace x33 := (A.old 33 rfl).trans x33
    replace x7 := f_at (A.old 7 rfl) (Fk.mono _ _ _ _ x7 hb)
    replace x8 := (A.old 8 rfl).trans x8
    replace x9 := f_at (A.old 9 rfl) (Fk.mono _ _ _ _ x9 hb)
    replace x10 := (A.old 10 rfl).trans x10
    replace x11 := f_at (A.old 11 rfl) (Fk.mono _ _ _ _ x11 hb)
    replace x12 := (A.old 12 rfl).trans x12
    replace x13 := (A.old 13 rfl).trans x13
    replace x14 := (A.old 14 rfl).trans x14
    replace x15 := (A.old 15 rfl).trans x15
    have x6 : f10.eval (.tmp 6) = .bool true := A.has 42 6 rfl
    have lt_m13 := Ob.lt m13
    replace m13 := Ob.below m13 hb
    have lt_m14 := Ob.lt m14
    replace m14 := Ob.below m14 hb
    have lt_m15 := Ob.lt m15
    replace m15 := Ob.below m15 hb
    replace bl := (bl.trans (Below.mono hb bl.size))
    replace sz := A.size.trans sz
    replace df := A.defs.trans df
    clear A hb
    clear x7
    clear x8
    clear x9
    clear x10
    clear x11
    clear x12
    show Code.wp _ _ _ _ _
    refine wp_ret ?_
    repeat (first | with_reducible refine then_ret ?_ | with_reducible refine block_ret ?_)
    exact bodyPost_ret (v := .bool true) (ret_slot rfl f10 _ x6 _ _) df ⟨rfl, bl⟩
  subst ha0
  have hx0 : x = shaOf [] := by rw [← ex.out, List.take_zero, mroot_nil]
  by_cases hb0 : b = 0
  rotate_left
  · skip
    have hor0 : ∀ (t : List (BitVec 8)) (n : Nat), (n = 0 → t = x) → (0 < n ∨ t = x) := fun t n h => by
      by_cases h0 : 0 < n
      · exact .inl h0
      · exact .inr (h (by omega))
    have hul : l.length = 0 → ur = shaOf [] := fun h => by rw [← eur.out, List.eq_nil_of_length_eq_zero h, mroot_nil]
    obtain ⟨S2, eS2⟩ : ∃ S, Box (msub l b true = S) := ⟨_, ⟨rfl⟩⟩
    have hb2 := bres_sub (l := l) (m := b) (by omega) hbl
    rw [ey.out, eS2.out, eur.out] at hb2
    have hS2 := msub_len _ l b true rfl
    rw [eS2.out] at hS2
    refine wp_all_seq [.eq (v), .eq (.int .i64 ((b : Nat) : Int)), .hc ((l).take (b)), .eq (.int .i64 0), .t2 (.hc ([])) (.int .i64 0), .t2 (.hc ([])) (.int .i64 0), .hc ([]), .eq (.int .i64 0), .hc ([]), .eq (.int .i64 0)] (by kernel_rfl) (by kernel_rfl) (by rw [sz]; kernel_rfl) (by kernel_rfl) ⟨fun hw ac u K => ?_, fun hw ac u K => ?_, fun hw ac u K => ?_, fun hw ac u K => ?_, fun hw ac u K => ?_, fun hw ac u K => ?_, fun hw ac u K => ?_, fun hw ac u K => ?_, fun hw ac u K => ?_, fun hw ac u K => ?_, trivial⟩ ?_
    · exact st_move (.tmp 0) rfl ((K.old 0 rfl).trans x0)
    · exact st_move (.tmp 2) rfl ((K.old 2 rfl).trans x2)
    · exact st_cuth (.tmp 36) (.tmp 37) rfl (fk_val (K.dep 0 36 rfl) (Fk.mono _ _ _ _ hv (bl.trans (Below.mono K.grow bl.size)))) (b) (K.dep 1 37 rfl) (by omega)
    · exact st_move (.tmp 1) rfl ((K.old 1 rfl).trans x1)
    · exact st_call 20 (.func 20) _ _ #[ac.eval (.tmp 38), .int .i64 0] rfl rfl (arg2 rfl (K.dep 3 39 rfl)) Tryd.enter20 (fk_proofz (K.dep 2 38 rfl))
    · exact st_move (.tmp 40) rfl (K.dep 4 40 rfl)
    · exact st_t2a (.tmp 35) rfl (K.dep 5 35 rfl)
    · exact st_t2b (.tmp 35) rfl (K.dep 5 35 rfl)
    · exact st_assign (.tmp 41) rfl (K.dep 6 41 rfl)
    · exact st_assign (.tmp 42) rfl (K.dep 7 42 rfl)
    intro f3 w3 A hb
    replace bl0 := bl
    replace x0 := (A.old 0 rfl).trans x0
    replace x1 := (A.old 1 rfl).trans x1
    replace x2 := (A.old 2 rfl).trans x2
    replace x6 := (A.old 6 rfl).trans x6
    replace x33 := (A.old 33 rfl).trans x33
    have x7 : Fk.f (.hc ([])) (f3.eval (.tmp 7)) w3 := A.has 8 7 rfl
    have x8 : f3.eval (.tmp 8) = .int .i64 0 := A.has 9 8 rfl
    replace bl := (bl.trans (Below.mono hb bl.size))
    replace sz := A.size.trans sz
    replace df := A.defs.trans df
    clear A hb
    show Code.wp _ _ _ _ _
    refine wp_seq ?_
    refine wp_all_seq [.eq (v), .eq (.int .i64 ((b : Nat) : Int)), .t2 (.hc (S2)) (.int .i64 0), .t2 (.hc (S2)) (.int .i64 0), .hc (S2), .eq (.int .i64 0), .hc (S2), .eq (.int .i64 0)] (by kernel_rfl) (by kernel_rfl) (by rw [sz]; kernel_rfl) (by kernel_rfl) ⟨fun hw ac u K => ?_, fun hw ac u K => ?_, fun hw ac u K => ?_, fun hw ac u K => ?_, fun hw ac u K => ?_, fun hw ac u K => ?_, fun hw ac u K => ?_, fun hw ac u K => ?_, trivial⟩ ?_
    · exact st_move (.tmp 0) rfl ((K.old 0 rfl).trans x0)
    · exact st_move (.tmp 2) rfl ((K.old 2 rfl).trans x2)
    · exact st_call 20 (.func 20) _ _ #[v, .int .i64 ((b : Nat) : Int)] rfl rfl (arg2 (K.dep 0 44 rfl) (K.dep 1 45 rfl)) Tryd.enter20 (fk_proofc (by omega) hbl (by omega) (Fk.mono _ _ _ _ hv (bl.trans (Below.mono K.grow bl.size))) (hK.below (bl.trans (Below.mono K.grow bl.size))) eS2)
    · exact st_move (.tmp 46) rfl (K.dep 2 46 rfl)
    · exact st_t2a (.tmp 43) rfl (K.dep 3 43 rfl)
    · exact st_t2b (.tmp 43) rfl (K.dep 3 43 rfl)
    · exact st_assign (.tmp 47) rfl (K.dep 4 47 rfl)
    · exact st_assign (.tmp 48) rfl (K.dep 5 48 rfl)
    intro f4 w4 A hb
    replace bl0 := bl
    replace x0 := (A.old 0 rfl).trans x0
    replace x1 := (A.old 1 rfl).trans x1
    replace x2 := (A.old 2 rfl).trans x2
    replace x6 := (A.old 6 rfl).trans x6
    replace x33 := (A.old 33 rfl).trans x33
    replace x7 := f_at (A.old 7 rfl) (Fk.mono _ _ _ _ x7 hb)
    replace x8 := (A.old 8 rfl).trans x8
    have x9 : Fk.f (.hc (S2)) (f4.eval (.tmp 9)) w4 := A.has 6 9 rfl
    have x10 : f4.eval (.tmp 10) = .int .i64 0 := A.has 7 10 rfl
    replace bl := (bl.trans (Below.mono hb bl.size))
    replace sz := A.size.trans sz
    replace df := A.defs.trans df
    clear A hb
    show Code.wp _ _ _ _ _
    refine wp_seq ?_
    refine wp_all_seq [.eq (v), .eq (.int .i64 0), .t2 (.hc ([])) (.int .i64 0), .t2 (.hc ([])) (.int .i64 0), .hc ([]), .eq (.int .i64 0), .hc ([]), .eq (.int .i64 0)] (by kernel_rfl) (by kernel_rfl) (by rw [sz]; kernel_rfl) (by kernel_rfl) ⟨fun hw ac u K => ?_, fun hw ac u K => ?_, fun hw ac u K => ?_, fun hw ac u K => ?_, fun hw ac u K => ?_, fun hw ac u K => ?_, fun hw ac u K => ?_, fun hw ac u K => ?_, trivial⟩ ?_
    · exact st_move (.tmp 0) rfl ((K.old 0 rfl).trans x0)
    · exact st_move (.tmp 1) rfl ((K.old 1 rfl).trans x1)
    · exact st_call 20 (.func 20) _ _ #[v, .int .i64 0] rfl rfl (arg2 (K.dep 0 50 rfl) (K.dep 1 51 rfl)) Tryd.enter20 (fk_proofz (Fk.mono _ _ _ _ hv (bl.trans (Below.mono K.grow bl.size))))
    · exact st_move (.tmp 52) rfl (K.dep 2 52 rfl)
    · exact st_t2a (.tmp 49) rfl (K.dep 3 49 rfl)
    · exact st_t2b (.tmp 49) rfl (K.dep 3 49 rfl)
    · exact st_assign (.tmp 53) rfl (K.dep 4 53 rfl)
    · exact st_assign (.tmp 54) rfl (K.dep 5 54 rfl)
    intro f5 w5 A hb
    replace bl0 := bl
    replace x0 := (A.old 0 rfl).trans x0
    replace x1 := (A.old 1 rfl).trans x1
    replace x2 := (A.old 2 rfl).trans x2
    replace x6 := (A.old 6 rfl).trans x6
    replace x33 := (A.old 33 rfl).trans x33
    replace x7 := f_at (A.old 7 rfl) (Fk.mono _ _ _ _ x7 hb)
    replace x8 := (A.old 8 rfl).trans x8
    replace x9 := f_at (A.old 9 rfl) (Fk.mono _ _ _ _ x9 hb)
    replace x10 := (A.old 10 rfl).trans x10
    have x11 : Fk.f (.hc ([])) (f5.eval (.tmp 11)) w5 := A.has 6 11 rfl
    have x12 : f5.eval (.tmp 12) = .int .i64 0 := A.has 7 12 rfl
    replace bl := (bl.trans (Below.mono hb bl.size))
    replace sz := A.size.trans sz
    replace df := A.defs.trans df
    clear A hb
    show Code.wp _ _ _ _ _
    refine wp_seq ?_
    refine wp_region_new [.eq (v), .eq (.int .i64 0), .hc ((l).take 0), .eq (.agg ((x).map V).toArray), .eq (v), .eq (.int .i64 ((b : Nat) : Int)), .hc ((l).take (b)), .eq (.agg ((y).map V).toArray), .eq (v), .eq (.agg ((ur).map V).toArray), .pn w5.heap.size hz, .pn w5.heap.size hz, .pn w5.heap.size hz] [13, 14, 15] [(10, 13), (11, 14), (12, 15)] (by kernel_rfl) (by intro x hx; simp only [List.mem_cons, List.not_mem_nil, or_false] at hx; rcases hx with rfl | rfl | rfl <;> rfl) (by kernel_rfl) (by kernel_rfl) (by kernel_rfl) (by kernel_rfl) (by rw [sz]; kernel_rfl) (by kernel_rfl) ⟨fun hw ac u K => ?_, fun hw ac u K => ?_, fun hw ac u K => ?_, fun hw ac u K => ?_, fun hw ac u K => ?_, fun hw ac u K => ?_, fun hw ac u K => ?_, fun hw ac u K => ?_, fun hw ac u K => ?_, fun hw ac u K => ?_, fun hw ac u K => ?_, fun hw ac u K => ?_, fun hw ac u K => ?_, trivial⟩ ?_
    · exact st_move (.tmp 0) rfl ((K.old 0 rfl).trans x0)
    · exact st_move (.tmp 1) rfl ((K.old 1 rfl).trans x1)
    · exact st_cuth (.tmp 55) (.tmp 56) rfl (fk_val (K.dep 0 55 rfl) (Fk.mono _ _ _ _ hv (bl.trans (Below.mono K.grow bl.size)))) 0 (K.dep 1 56 rfl) (Nat.zero_le _)
    · exact st_call 22 (.func 22) _ _ #[ac.eval (.tmp 57)] rfl rfl (one_arg rfl) Tryd.enter22 (fk_of (lroot_any (by (try rw [List.length_take]); omega) _ (K.dep 2 57 rfl) (hK.below (bl.trans (Below.mono K.grow bl.size))) ex))
    · exact st_move (.tmp 0) rfl ((K.old 0 rfl).trans x0)
    · exact st_move (.tmp 2) rfl ((K.old 2 rfl).trans x2)
    · exact st_cuth (.tmp 59) (.tmp 60) rfl (fk_val (K.dep 4 59 rfl) (Fk.mono _ _ _ _ hv (bl.trans (Below.mono K.grow bl.size)))) (b) (K.dep 5 60 rfl) (by omega)
    · exact st_call 22 (.func 22) _ _ #[ac.eval (.tmp 61)] rfl rfl (one_arg rfl) Tryd.enter22 (fk_of (lroot_any (by (try rw [List.length_take]); omega) _ (K.dep 6 61 rfl) (hK.below (bl.trans (Below.mono K.grow bl.size))) ey))
    · exact st_move (.tmp 0) rfl ((K.old 0 rfl).trans x0)
    · exact st_call 22 (.func 22) _ _ #[v] rfl rfl (one_arg (K.dep 8 63 rfl)) Tryd.enter22 (fk_of (lroot_any (by (try rw [List.length_take]); omega) _ (Fk.mono _ _ _ _ hv (bl.trans (Below.mono K.grow bl.size))) (hK.below (bl.trans (Below.mono K.grow bl.size))) eur))
    · exact st_alloc23 rfl _ K.grow.size
    · exact st_alloc23 rfl _ K.grow.size
    · exact st_alloc23 rfl _ K.grow.size
    intro f6 w6 A hap hb
    have S_x7 : Fk.f (.hc ([])) (f6.eval (.tmp 7)) w5 := f_at (A.old 7 rfl) x7
    have S_x9 : Fk.f (.hc (S2)) (f6.eval (.tmp 9)) w5 := f_at (A.old 9 rfl) x9
    have S_x11 : Fk.f (.hc ([])) (f6.eval (.tmp 11)) w5 := f_at (A.old 11 rfl) x11
    have hbS0 := Below.refl w5.heap.size w5
    have hbS := hb
    replace bl0 := bl
    replace x0 := (A.old 0 rfl).trans x0
    replace x1 := (A.old 1 rfl).trans x1
    replace x2 := (A.old 2 rfl).trans x2
    replace x6 := (A.old 6 rfl).trans x6
    replace x33 := (A.old 33 rfl).trans x33
    replace x7 := f_at (A.old 7 rfl) (Fk.mono _ _ _ _ x7 hb)
    replace x8 := (A.old 8 rfl).trans x8
    replace x9 := f_at (A.old 9 rfl) (Fk.mono _ _ _ _ x9 hb)
    replace x10 := (A.old 10 rfl).trans x10
    replace x11 := f_at (A.old 11 rfl) (Fk.mono _ _ _ _ x11 hb)
    replace x12 := (A.old 12 rfl).trans x12
    have x13 : Fk.f (.pn w5.heap.size hz) (f6.eval (.tmp 13)) w6 := A.has 10 13 rfl
    have x14 : Fk.f (.pn w5.heap.size hz) (f6.eval (.tmp 14)) w6 := A.has 11 14 rfl
    have x15 : Fk.f (.pn w5.heap.size hz) (f6.eval (.tmp 15)) w6 := A.has 12 15 rfl
    have x58 : f6.eval (.tmp 58) = .agg ((x).map V).toArray := A.has 3 58 rfl
    have x62 : f6.eval (.tmp 62) = .agg ((y).map V).toArray := A.has 7 62 rfl
    have x64 : f6.eval (.tmp 64) = .agg ((ur).map V).toArray := A.has 9 64 rfl
    replace bl := (bl.trans (Below.mono hb bl.size))
    replace sz := A.size.trans sz
    replace df := A.defs.trans df
    clear A hb
    obtain ⟨g13, hg13, e13, m13⟩ := x13
    have x13 := e13
    clear e13
    have hw13 : w.heap.size ≤ g13 := Nat.le_trans bl0.size hg13
    have hs13 := Nat.le_trans hbS0.size hg13
    obtain ⟨g14, hg14, e14, m14⟩ := x14
    have x14 := e14
    clear e14
    have nm13_14 : g13 ≠ g14 := fun e => hap (10, 13) (by simp) (11, 14) (by simp) (by decide) (by rw [x13, x14, e])
    have hw14 : w.heap.size ≤ g14 := Nat.le_trans bl0.size hg14
    have hs14 := Nat.le_trans hbS0.size hg14
    obtain ⟨g15, hg15, e15, m15⟩ := x15
    have x15 := e15
    clear e15
    have nm13_15 : g13 ≠ g15 := fun e => hap (10, 13) (by simp) (12, 15) (by simp) (by decide) (by rw [x13, x15, e])
    have nm14_15 : g14 ≠ g15 := fun e => hap (11, 14) (by simp) (12, 15) (by simp) (by decide) (by rw [x14, x15, e])
    have hw15 : w.heap.size ≤ g15 := Nat.le_trans bl0.size hg15
    have hs15 := Nat.le_trans hbS0.size hg15
    refine wl_store rfl (.tmp 13) (.tmp 58) rfl rfl (g13) (x) (hz) x13 x58 m13 hz_len hx ?_
    replace m13 : Ob (w6.setRow g13 ((x).map V : List Value).toArray) (g13) 23 ((x).map V) := Ob.setRow m13 ((x).map V)
    replace m14 : Ob (w6.setRow g13 ((x).map V : List Value).toArray) (g14) 23 ((hz).map V) := Ob.setRow_other m14 _ nm13_14.symm
    replace m15 : Ob (w6.setRow g13 ((x).map V : List Value).toArray) (g15) 23 ((hz).map V) := Ob.setRow_other m15 _ nm13_15.symm
    replace hbS : Below _ _ (w6.setRow g13 ((x).map V : List Value).toArray) := hbS.trans (below_setRow _ _ _ _ hs13)
    replace bl : Below w.heap.size w (w6.setRow g13 ((x).map V : List Value).toArray) := bl.trans (below_setRow _ _ _ _ hw13)
    generalize w6.setRow g13 ((x).map V : List Value).toArray = w7b at bl m13 m14 m15 hbS ⊢
    replace x7 : Fk.f (.hc ([])) (f6.eval (.tmp 7)) w7b := Fk.mono _ _ _ _ S_x7 hbS
    replace x9 : Fk.f (.hc (S2)) (f6.eval (.tmp 9)) w7b := Fk.mono _ _ _ _ S_x9 hbS
    replace x11 : Fk.f (.hc ([])) (f6.eval (.tmp 11)) w7b := Fk.mono _ _ _ _ S_x11 hbS
    clear x58
    refine wl_store rfl (.tmp 14) (.tmp 62) rfl rfl (g14) (y) (hz) x14 x62 m14 hz_len hy ?_
    replace m13 : Ob (w7b.setRow g14 ((y).map V : List Value).toArray) (g13) 23 ((x).map V) := Ob.setRow_other m13 _ nm13_14
    replace m14 : Ob (w7b.setRow g14 ((y).map V : List Value).toArray) (g14) 23 ((y).map V) := Ob.setRow m14 ((y).map V)
    replace m15 : Ob (w7b.setRow g14 ((y).map V : List Value).toArray) (g15) 23 ((hz).map V) := Ob.setRow_other m15 _ nm14_15.symm
    replace hbS : Below _ _ (w7b.setRow g14 ((y).map V : List Value).toArray) := hbS.trans (below_setRow _ _ _ _ hs14)
    replace bl : Below w.heap.size w (w7b.setRow g14 ((y).map V : List Value).toArray) := bl.trans (below_setRow _ _ _ _ hw14)
    generalize w7b.setRow g14 ((y).map V : List Value).toArray = w8b at bl m13 m14 m15 hbS ⊢
    replace x7 : Fk.f (.hc ([])) (f6.eval (.tmp 7)) w8b := Fk.mono _ _ _ _ S_x7 hbS
    replace x9 : Fk.f (.hc (S2)) (f6.eval (.tmp 9)) w8b := Fk.mono _ _ _ _ S_x9 hbS
    replace x11 : Fk.f (.hc ([])) (f6.eval (.tmp 11)) w8b := Fk.mono _ _ _ _ S_x11 hbS
    clear x62
    refine wl_store rfl (.tmp 15) (.tmp 64) rfl rfl (g15) (ur) (hz) x15 x64 m15 hz_len hur ?_
    replace m13 : Ob (w8b.setRow g15 ((ur).map V : List Value).toArray) (g13) 23 ((x).map V) := Ob.setRow_other m13 _ nm13_15
    replace m14 : Ob (w8b.setRow g15 ((ur).map V : List Value).toArray) (g14) 23 ((y).map V) := Ob.setRow_other m14 _ nm14_15
    replace m15 : Ob (w8b.setRow g15 ((ur).map V : List Value).toArray) (g15) 23 ((ur).map V) := Ob.setRow m15 ((ur).map V)
    replace hbS : Below _ _ (w8b.setRow g15 ((ur).map V : List Value).toArray) := hbS.trans (below_setRow _ _ _ _ hs15)
    replace bl : Below w.heap.size w (w8b.setRow g15 ((ur).map V : List Value).toArray) := bl.trans (below_setRow _ _ _ _ hw15)
    generalize w8b.setRow g15 ((ur).map V : List Value).toArray = w9b at bl m13 m14 m15 hbS ⊢
    replace x7 : Fk.f (.hc ([])) (f6.eval (.tmp 7)) w9b := Fk.mono _ _ _ _ S_x7 hbS
    replace x9 : Fk.f (.hc (S2)) (f6.eval (.tmp 9)) w9b := Fk.mono _ _ _ _ S_x9 hbS
    replace x11 : Fk.f (.hc ([])) (f6.eval (.tmp 11)) w9b := Fk.mono _ _ _ _ S_x11 hbS
    refine wpList_nil ?_
    clear hbS hbS0 S_x7 S_x9 S_x11
    clear x64
    show Code.wp _ _ _ _ _
    refine wp_seq ?_
    refine wp_all_seq [.eq (.int .i64 0), .eq (.bool true), .eq (.bool true), .eq (.int .i64 0), .eq (.bool true), .eq (.bool true), .eq (.bool true), .eq (.int .i64 0), .eq (.bool true), .eq (.bool true), .eq (.bool true), .eq (.int .i64 0), .eq (.int .i64 ((b : Nat) : Int)), .eq (.agg ((x).map V).toArray), .eq (.agg ((y).map V).toArray), .hc ([]), .eq (.int .i64 0), .eq (.bool true), .eq (.bool true), .eq (.bool true), .eq (.int .i64 ((b : Nat) : Int)), .eq (v), .eq (.int .i64 (((l).length : Nat) : Int)), .eq (.agg ((y).map V).toArray), .eq (.agg ((ur).map V).toArray), .hc (S2), .eq (.int .i64 0), .eq (.bool true), .eq (.bool true), .eq (.bool true), .eq (.int .i64 0), .eq (v), .eq (.int .i64 (((l).length : Nat) : Int)), .eq (.agg ((x).map V).toArray), .eq (.agg ((ur).map V).toArray), .hc ([]), .eq (.int .i64 0), .eq (.bool true), .eq (.bool true), .eq (.bool true), .eq (.bool true), .eq (.bool true), .eq (.bool true)] (by kernel_rfl) (by kernel_rfl) (by rw [sz]; kernel_rfl) (by kernel_rfl) ⟨fun hw ac u K => ?_, fun hw ac u K => ?_, fun hw ac u K => ?_, fun hw ac u K => ?_, fun hw ac u K => ?_, fun hw ac u K => ?_, fun hw ac u K => ?_, fun hw ac u K => ?_, fun hw ac u K => ?_, fun hw ac u K => ?_, fun hw ac u K => ?_, fun hw ac u K => ?_, fun hw ac u K => ?_, fun hw ac u K => ?_, fun hw ac u K => ?_, fun hw ac u K => ?_, fun hw ac u K => ?_, fun hw ac u K => ?_, fun hw ac u K => ?_, fun hw ac u K => ?_, fun hw ac u K => ?_, fun hw ac u K => ?_, fun hw ac u K => ?_, fun hw ac u K => ?_, fun hw ac u K => ?_, fun hw ac u K => ?_, fun hw ac u K => ?_, fun hw ac u K => ?_, fun hw ac u K => ?_, fun hw ac u K => ?_, fun hw ac u K => ?_, fun hw ac u K => ?_, fun hw ac u K => ?_, fun hw ac u K => ?_, fun hw ac u K => ?_, fun hw ac u K => ?_, fun hw ac u K => ?_, fun hw ac u K => ?_, fun hw ac u K => ?_, fun hw ac u K => ?_, fun hw ac u K => ?_, fun hw ac u K => ?_, fun hw ac u K => ?_, trivial⟩ ?_
    · exact st_move (.tmp 8) rfl ((K.old 8 rfl).trans x8)
    · exact st_eqi 28 (.tmp 65) (.const (.int .i64 0)) rfl .i64 (0) (0) (K.dep 0 65 rfl) rfl _ (by rfl)
    · exact st_move (.tmp 66) rfl (K.dep 1 66 rfl)
    · exact st_move (.tmp 10) rfl ((K.old 10 rfl).trans x10)
    · exact st_eqi 28 (.tmp 68) (.const (.int .i64 0)) rfl .i64 (0) (0) (K.dep 3 68 rfl) rfl _ (by rfl)
    · exact st_pick_t (.tmp 67) (.tmp 69) (.const (.bool false)) rfl (K.dep 2 67 rfl) (K.dep 4 69 rfl)
    · exact st_move (.tmp 70) rfl (K.dep 5 70 rfl)
    · exact st_move (.tmp 12) rfl ((K.old 12 rfl).trans x12)
    · exact st_eqi 28 (.tmp 72) (.const (.int .i64 0)) rfl .i64 (0) (0) (K.dep 7 72 rfl) rfl _ (by rfl)
    · exact st_pick_t (.tmp 71) (.tmp 73) (.const (.bool false)) rfl (K.dep 6 71 rfl) (K.dep 8 73 rfl)
    · exact st_move (.tmp 74) rfl (K.dep 9 74 rfl)
    · exact st_move (.tmp 1) rfl ((K.old 1 rfl).trans x1)
    · exact st_move (.tmp 2) rfl ((K.old 2 rfl).trans x2)
    · exact st_load23 (.tmp 13) rfl (g13) (x) ((K.old 13 rfl).trans x13) hx (Ob.below m13 K.grow)
    · exact st_load23 (.tmp 14) rfl (g14) (y) ((K.old 14 rfl).trans x14) hy (Ob.below m14 K.grow)
    · exact st_move (.tmp 7) rfl (f_at (K.old 7 rfl) (Fk.mono _ _ _ _ x7 K.grow))
    · exact st_call 15 (.func 15) _ _ #[.int .i64 0, .int .i64 ((b : Nat) : Int), .agg ((x).map V).toArray, .agg ((y).map V).toArray, ac.eval (.tmp 80)] rfl rfl (arg5 (K.dep 11 76 rfl) (K.dep 12 77 rfl) (K.dep 13 78 rfl) (K.dep 14 79 rfl) rfl) Tryd.enter15 (fk_on_zero (n := b) hx hy (by omega) (K.dep 15 80 rfl) (by simp) (hK.below (bl.trans (Below.mono K.grow bl.size))) 0 (by rw [if_pos ⟨hx0, rfl, hor0 y b (fun h => by omega)⟩]))
    · exact st_eqi 28 (.tmp 81) (.const (.int .i64 0)) rfl .i64 (0) (0) (K.dep 16 81 rfl) rfl _ (by rfl)
    · exact st_pick_t (.tmp 75) (.tmp 82) (.const (.bool false)) rfl (K.dep 10 75 rfl) (K.dep 17 82 rfl)
    · exact st_move (.tmp 83) rfl (K.dep 18 83 rfl)
    · exact st_move (.tmp 2) rfl ((K.old 2 rfl).trans x2)
    · exact st_move (.tmp 0) rfl ((K.old 0 rfl).trans x0)
    · exact st_lenc (.tmp 86) rfl ((l).length) rfl (fk_val (K.dep 21 86 rfl) (Fk.mono _ _ _ _ hv (bl.trans (Below.mono K.grow bl.size))))
    · exact st_load23 (.tmp 14) rfl (g14) (y) ((K.old 14 rfl).trans x14) hy (Ob.below m14 K.grow)
    · exact st_load23 (.tmp 15) rfl (g15) (ur) ((K.old 15 rfl).trans x15) hur (Ob.below m15 K.grow)
    · exact st_move (.tmp 9) rfl (f_at (K.old 9 rfl) (Fk.mono _ _ _ _ x9 K.grow))
    · exact st_call 15 (.func 15) _ _ #[.int .i64 ((b : Nat) : Int), .int .i64 (((l).length : Nat) : Int), .agg ((y).map V).toArray, .agg ((ur).map V).toArray, ac.eval (.tmp 90)] rfl rfl (arg5 (K.dep 20 85 rfl) (K.dep 22 87 rfl) (K.dep 23 88 rfl) (K.dep 24 89 rfl) rfl) Tryd.enter15 (fk_on_any hy hur (by omega) hbl (by omega) (K.dep 25 90 rfl) (by omega) (hK.below (bl.trans (Below.mono K.grow bl.size))) 0 (by rw [if_pos hb2]))
    · exact st_eqi 28 (.tmp 91) (.const (.int .i64 0)) rfl .i64 (0) (0) (K.dep 26 91 rfl) rfl _ (by rfl)
    · exact st_pick_t (.tmp 84) (.tmp 92) (.const (.bool false)) rfl (K.dep 19 84 rfl) (K.dep 27 92 rfl)
    · exact st_move (.tmp 93) rfl (K.dep 28 93 rfl)
    · exact st_move (.tmp 1) rfl ((K.old 1 rfl).trans x1)
    · exact st_move (.tmp 0) rfl ((K.old 0 rfl).trans x0)
    · exact st_lenc (.tmp 96) rfl ((l).length) rfl (fk_val (K.dep 31 96 rfl) (Fk.mono _ _ _ _ hv (bl.trans (Below.mono K.grow bl.size))))
    · exact st_load23 (.tmp 13) rfl (g13) (x) ((K.old 13 rfl).trans x13) hx (Ob.below m13 K.grow)
    · exact st_load23 (.tmp 15) rfl (g15) (ur) ((K.old 15 rfl).trans x15) hur (Ob.below m15 K.grow)
    · exact st_move (.tmp 11) rfl (f_at (K.old 11 rfl) (Fk.mono _ _ _ _ x11 K.grow))
    · exact st_call 15 (.func 15) _ _ #[.int .i64 0, .int .i64 (((l).length : Nat) : Int), .agg ((x).map V).toArray, .agg ((ur).map V).toArray, ac.eval (.tmp 100)] rfl rfl (arg5 (K.dep 30 95 rfl) (K.dep 32 97 rfl) (K.dep 33 98 rfl) (K.dep 34 99 rfl) rfl) Tryd.enter15 (fk_on_zero (n := l.length) hx hur (by omega) (K.dep 35 100 rfl) (by simp) (hK.below (bl.trans (Below.mono K.grow bl.size))) 0 (by rw [if_pos ⟨hx0, rfl, hor0 ur l.length (fun h => by rw [hul h, hx0])⟩]))
    · exact st_eqi 28 (.tmp 101) (.const (.int .i64 0)) rfl .i64 (0) (0) (K.dep 36 101 rfl) rfl _ (by rfl)
    · exact st_pick_t (.tmp 94) (.tmp 102) (.const (.bool false)) rfl (K.dep 29 94 rfl) (K.dep 37 102 rfl)
    · exact st_move (.tmp 103) rfl (K.dep 38 103 rfl)
    · exact st_call 8 (.func 8) _ _ #[] rfl rfl rfl Tryd.enter8 (fk_of (awake_any _ (hK.below (bl.trans (Below.mono K.grow bl.size)))))
    · exact st_pick_t (.tmp 104) (.tmp 105) (.const (.bool false)) rfl (K.dep 39 104 rfl) (K.dep 40 105 rfl)
    · exact st_assign (.tmp 106) rfl (K.dep 41 106 rfl)
    intro f10 w10 A hb
    replace bl0 := bl
    replace x0 := (A.old 0 rfl).trans x0
    replace x1 := (A.old 1 rfl).trans x1
    replace x2 := (A.old 2 rfl).trans x2
    clear x6
    replace x33 := (A.old 33 rfl).trans x33
    replace x7 := f_at (A.old 7 rfl) (Fk.mono _ _ _ _ x7 hb)
    replace x8 := (A.old 8 rfl).trans x8
    replace x9 := f_at (A.old 9 rfl) (Fk.mono _ _ _ _ x9 hb)
    replace x10 := (A.old 10 rfl).trans x10
    replace x11 := f_at (A.old 11 rfl) (Fk.mono _ _ _ _ x11 hb)
    replace x12 := (A.old 12 rfl).trans x12
    replace x13 := (A.old 13 rfl).trans x13
    replace x14 := (A.old 14 rfl).trans x14
    replace x15 := (A.old 15 rfl).trans x15
    have x6 : f10.eval (.tmp 6) = .bool true := A.has 42 6 rfl
    have lt_m13 := Ob.lt m13
    replace m13 := Ob.below m13 hb
    have lt_m14 := Ob.lt m14
    replace m14 := Ob.below m14 hb
    have lt_m15 := Ob.lt m15
    replace m15 := Ob.below m15 hb
    replace bl := (bl.trans (Below.mono hb bl.size))
    replace sz := A.size.trans sz
    replace df := A.defs.trans df
    clear A hb
    clear x7
    clear x8
    clear x9
    clear x10
    clear x11
    clear x12
    show Code.wp _ _ _ _ _
    refine wp_ret ?_
    repeat (first | with_reducible refine then_ret ?_ | with_reducible refine block_ret ?_)
    exact bodyPost_ret (v := .bool true) (ret_slot rfl f10 _ x6 _ _) df ⟨rfl, bl⟩
  subst hb0
  have hy0 : y = shaOf [] := by rw [← ey.out, List.take_zero, mroot_nil]
  have hxy : y = x := by rw [hx0, hy0]
  have hor0 : ∀ (t : List (BitVec 8)) (n : Nat), (n = 0 → t = x) → (0 < n ∨ t = x) := fun t n h => by
    by_cases h0 : 0 < n
    · exact .inl h0
    · exact .inr (h (by omega))
  have hul : l.length = 0 → ur = shaOf [] := fun h => by rw [← eur.out, List.eq_nil_of_length_eq_zero h, mroot_nil]
  refine wp_all_seq [.eq (v), .eq (.int .i64 0), .hc ((l).take 0), .eq (.int .i64 0), .t2 (.hc ([])) (.int .i64 0), .t2 (.hc ([])) (.int .i64 0), .hc ([]), .eq (.int .i64 0), .hc ([]), .eq (.int .i64 0)] (by kernel_rfl) (by kernel_rfl) (by rw [sz]; kernel_rfl) (by kernel_rfl) ⟨fun hw ac u K => ?_, fun hw ac u K => ?_, fun hw ac u K => ?_, fun hw ac u K => ?_, fun hw ac u K => ?_, fun hw ac u K => ?_, fun hw ac u K => ?_, fun hw ac u K => ?_, fun hw ac u K => ?_, fun hw ac u K => ?_, trivial⟩ ?_
  · exact st_move (.tmp 0) rfl ((K.old 0 rfl).trans x0)
  · exact st_move (.tmp 2) rfl ((K.old 2 rfl).trans x2)
  · exact st_cuth (.tmp 36) (.tmp 37) rfl (fk_val (K.dep 0 36 rfl) (Fk.mono _ _ _ _ hv (bl.trans (Below.mono K.grow bl.size)))) 0 (K.dep 1 37 rfl) (Nat.zero_le _)
  · exact st_move (.tmp 1) rfl ((K.old 1 rfl).trans x1)
  · exact st_call 20 (.func 20) _ _ #[ac.eval (.tmp 38), .int .i64 0] rfl rfl (arg2 rfl (K.dep 3 39 rfl)) Tryd.enter20 (fk_proofz (K.dep 2 38 rfl))
  · exact st_move (.tmp 40) rfl (K.dep 4 40 rfl)
  · exact st_t2a (.tmp 35) rfl (K.dep 5 35 rfl)
  · exact st_t2b (.tmp 35) rfl (K.dep 5 35 rfl)
  · exact st_assign (.tmp 41) rfl (K.dep 6 41 rfl)
  · exact st_assign (.tmp 42) rfl (K.dep 7 42 rfl)
  intro f3 w3 A hb
  replace bl0 := bl
  replace x0 := (A.old 0 rfl).trans x0
  replace x1 := (A.old 1 rfl).trans x1
  replace x2 := (A.old 2 rfl).trans x2
  replace x6 := (A.old 6 rfl).trans x6
  replace x33 := (A.old 33 rfl).trans x33
  have x7 : Fk.f (.hc ([])) (f3.eval (.tmp 7)) w3 := A.has 8 7 rfl
  have x8 : f3.eval (.tmp 8) = .int .i64 0 := A.has 9 8 rfl
  replace bl := (bl.trans (Below.mono hb bl.size))
  replace sz := A.size.trans sz
  replace df := A.defs.trans df
  clear A hb
  show Code.wp _ _ _ _ _
  refine wp_seq ?_
  refine wp_all_seq [.eq (v), .eq (.int .i64 0), .t2 (.hc ([])) (.int .i64 0), .t2 (.hc ([])) (.int .i64 0), .hc ([]), .eq (.int .i64 0), .hc ([]), .eq (.int .i64 0)] (by kernel_rfl) (by kernel_rfl) (by rw [sz]; kernel_rfl) (by kernel_rfl) ⟨fun hw ac u K => ?_, fun hw ac u K => ?_, fun hw ac u K => ?_, fun hw ac u K => ?_, fun hw ac u K => ?_, fun hw ac u K => ?_, fun hw ac u K => ?_, fun hw ac u K => ?_, trivial⟩ ?_
  · exact st_move (.tmp 0) rfl ((K.old 0 rfl).trans x0)
  · exact st_move (.tmp 2) rfl ((K.old 2 rfl).trans x2)
  · exact st_call 20 (.func 20) _ _ #[v, .int .i64 0] rfl rfl (arg2 (K.dep 0 44 rfl) (K.dep 1 45 rfl)) Tryd.enter20 (fk_proofz (Fk.mono _ _ _ _ hv (bl.trans (Below.mono K.grow bl.size))))
  · exact st_move (.tmp 46) rfl (K.dep 2 46 rfl)
  · exact st_t2a (.tmp 43) rfl (K.dep 3 43 rfl)
  · exact st_t2b (.tmp 43) rfl (K.dep 3 43 rfl)
  · exact st_assign (.tmp 47) rfl (K.dep 4 47 rfl)
  · exact st_assign (.tmp 48) rfl (K.dep 5 48 rfl)
  intro f4 w4 A hb
  replace bl0 := bl
  replace x0 := (A.old 0 rfl).trans x0
  replace x1 := (A.old 1 rfl).trans x1
  replace x2 := (A.old 2 rfl).trans x2
  replace x6 := (A.old 6 rfl).trans x6
  replace x33 := (A.old 33 rfl).trans x33
  replace x7 := f_at (A.old 7 rfl) (Fk.mono _ _ _ _ x7 hb)
  replace x8 := (A.old 8 rfl).trans x8
  have x9 : Fk.f (.hc ([])) (f4.eval (.tmp 9)) w4 := A.has 6 9 rfl
  have x10 : f4.eval (.tmp 10) = .int .i64 0 := A.has 7 10 rfl
  replace bl := (bl.trans (Below.mono hb bl.size))
  replace sz := A.size.trans sz
  replace df := A.defs.trans df
  clear A hb
  show Code.wp _ _ _ _ _
  refine wp_seq ?_
  refine wp_all_seq [.eq (v), .eq (.int .i64 0), .t2 (.hc ([])) (.int .i64 0), .t2 (.hc ([])) (.int .i64 0), .hc ([]), .eq (.int .i64 0), .hc ([]), .eq (.int .i64 0)] (by kernel_rfl) (by kernel_rfl) (by rw [sz]; kernel_rfl) (by kernel_rfl) ⟨fun hw ac u K => ?_, fun hw ac u K => ?_, fun hw ac u K => ?_, fun hw ac u K => ?_, fun hw ac u K => ?_, fun hw ac u K => ?_, fun hw ac u K => ?_, fun hw ac u K => ?_, trivial⟩ ?_
  · exact st_move (.tmp 0) rfl ((K.old 0 rfl).trans x0)
  · exact st_move (.tmp 1) rfl ((K.old 1 rfl).trans x1)
  · exact st_call 20 (.func 20) _ _ #[v, .int .i64 0] rfl rfl (arg2 (K.dep 0 50 rfl) (K.dep 1 51 rfl)) Tryd.enter20 (fk_proofz (Fk.mono _ _ _ _ hv (bl.trans (Below.mono K.grow bl.size))))
  · exact st_move (.tmp 52) rfl (K.dep 2 52 rfl)
  · exact st_t2a (.tmp 49) rfl (K.dep 3 49 rfl)
  · exact st_t2b (.tmp 49) rfl (K.dep 3 49 rfl)
  · exact st_assign (.tmp 53) rfl (K.dep 4 53 rfl)
  · exact st_assign (.tmp 54) rfl (K.dep 5 54 rfl)
  intro f5 w5 A hb
  replace bl0 := bl
  replace x0 := (A.old 0 rfl).trans x0
  replace x1 := (A.old 1 rfl).trans x1
  replace x2 := (A.old 2 rfl).trans x2
  replace x6 := (A.old 6 rfl).trans x6
  replace x33 := (A.old 33 rfl).trans x33
  replace x7 := f_at (A.old 7 rfl) (Fk.mono _ _ _ _ x7 hb)
  replace x8 := (A.old 8 rfl).trans x8
  replace x9 := f_at (A.old 9 rfl) (Fk.mono _ _ _ _ x9 hb)
  replace x10 := (A.old 10 rfl).trans x10
  have x11 : Fk.f (.hc ([])) (f5.eval (.tmp 11)) w5 := A.has 6 11 rfl
  have x12 : f5.eval (.tmp 12) = .int .i64 0 := A.has 7 12 rfl
  replace bl := (bl.trans (Below.mono hb bl.size))
  replace sz := A.size.trans sz
  replace df := A.defs.trans df
  clear A hb
  show Code.wp _ _ _ _ _
  refine wp_seq ?_
  refine wp_region_new [.eq (v), .eq (.int .i64 0), .hc ((l).take 0), .eq (.agg ((x).map V).toArray), .eq (v), .eq (.int .i64 0), .hc ((l).take 0), .eq (.agg ((y).map V).toArray), .eq (v), .eq (.agg ((ur).map V).toArray), .pn w5.heap.size hz, .pn w5.heap.size hz, .pn w5.heap.size hz] [13, 14, 15] [(10, 13), (11, 14), (12, 15)] (by kernel_rfl) (by intro x hx; simp only [List.mem_cons, List.not_mem_nil, or_false] at hx; rcases hx with rfl | rfl | rfl <;> rfl) (by kernel_rfl) (by kernel_rfl) (by kernel_rfl) (by kernel_rfl) (by rw [sz]; kernel_rfl) (by kernel_rfl) ⟨fun hw ac u K => ?_, fun hw ac u K => ?_, fun hw ac u K => ?_, fun hw ac u K => ?_, fun hw ac u K => ?_, fun hw ac u K => ?_, fun hw ac u K => ?_, fun hw ac u K => ?_, fun hw ac u K => ?_, fun hw ac u K => ?_, fun hw ac u K => ?_, fun hw ac u K => ?_, fun hw ac u K => ?_, trivial⟩ ?_
  · exact st_move (.tmp 0) rfl ((K.old 0 rfl).trans x0)
  · exact st_move (.tmp 1) rfl ((K.old 1 rfl).trans x1)
  · exact st_cuth (.tmp 55) (.tmp 56) rfl (fk_val (K.dep 0 55 rfl) (Fk.mono _ _ _ _ hv (bl.trans (Below.mono K.grow bl.size)))) 0 (K.dep 1 56 rfl) (Nat.zero_le _)
  · exact st_call 22 (.func 22) _ _ #[ac.eval (.tmp 57)] rfl rfl (one_arg rfl) Tryd.enter22 (fk_of (lroot_any (by (try rw [List.length_take]); omega) _ (K.dep 2 57 rfl) (hK.below (bl.trans (Below.mono K.grow bl.size))) ex))
  · exact st_move (.tmp 0) rfl ((K.old 0 rfl).trans x0)
  · exact st_move (.tmp 2) rfl ((K.old 2 rfl).trans x2)
  · exact st_cuth (.tmp 59) (.tmp 60) rfl (fk_val (K.dep 4 59 rfl) (Fk.mono _ _ _ _ hv (bl.trans (Below.mono K.grow bl.size)))) 0 (K.dep 5 60 rfl) (Nat.zero_le _)
  · exact st_call 22 (.func 22) _ _ #[ac.eval (.tmp 61)] rfl rfl (one_arg rfl) Tryd.enter22 (fk_of (lroot_any (by (try rw [List.length_take]); omega) _ (K.dep 6 61 rfl) (hK.below (bl.trans (Below.mono K.grow bl.size))) ey))
  · exact st_move (.tmp 0) rfl ((K.old 0 rfl).trans x0)
  · exact st_call 22 (.func 22) _ _ #[v] rfl rfl (one_arg (K.dep 8 63 rfl)) Tryd.enter22 (fk_of (lroot_any (by (try rw [List.length_take]); omega) _ (Fk.mono _ _ _ _ hv (bl.trans (Below.mono K.grow bl.size))) (hK.below (bl.trans (Below.mono K.grow bl.size))) eur))
  · exact st_alloc23 rfl _ K.grow.size
  · exact st_alloc23 rfl _ K.grow.size
  · exact st_alloc23 rfl _ K.grow.size
  intro f6 w6 A hap hb
  have S_x7 : Fk.f (.hc ([])) (f6.eval (.tmp 7)) w5 := f_at (A.old 7 rfl) x7
  have S_x9 : Fk.f (.hc ([])) (f6.eval (.tmp 9)) w5 := f_at (A.old 9 rfl) x9
  have S_x11 : Fk.f (.hc ([])) (f6.eval (.tmp 11)) w5 := f_at (A.old 11 rfl) x11
  have hbS0 := Below.refl w5.heap.size w5
  have hbS := hb
  replace bl0 := bl
  replace x0 := (A.old 0 rfl).trans x0
  replace x1 := (A.old 1 rfl).trans x1
  replace x2 := (A.old 2 rfl).trans x2
  replace x6 := (A.old 6 rfl).trans x6
  replace x33 := (A.old 33 rfl).trans x33
  replace x7 := f_at (A.old 7 rfl) (Fk.mono _ _ _ _ x7 hb)
  replace x8 := (A.old 8 rfl).trans x8
  replace x9 := f_at (A.old 9 rfl) (Fk.mono _ _ _ _ x9 hb)
  replace x10 := (A.old 10 rfl).trans x10
  replace x11 := f_at (A.old 11 rfl) (Fk.mono _ _ _ _ x11 hb)
  replace x12 := (A.old 12 rfl).trans x12
  have x13 : Fk.f (.pn w5.heap.size hz) (f6.eval (.tmp 13)) w6 := A.has 10 13 rfl
  have x14 : Fk.f (.pn w5.heap.size hz) (f6.eval (.tmp 14)) w6 := A.has 11 14 rfl
  have x15 : Fk.f (.pn w5.heap.size hz) (f6.eval (.tmp 15)) w6 := A.has 12 15 rfl
  have x58 : f6.eval (.tmp 58) = .agg ((x).map V).toArray := A.has 3 58 rfl
  have x62 : f6.eval (.tmp 62) = .agg ((y).map V).toArray := A.has 7 62 rfl
  have x64 : f6.eval (.tmp 64) = .agg ((ur).map V).toArray := A.has 9 64 rfl
  replace bl := (bl.trans (Below.mono hb bl.size))
  replace sz := A.size.trans sz
  replace df := A.defs.trans df
  clear A hb
  obtain ⟨g13, hg13, e13, m13⟩ := x13
  have x13 := e13
  clear e13
  have hw13 : w.heap.size ≤ g13 := Nat.le_trans bl0.size hg13
  have hs13 := Nat.le_trans hbS0.size hg13
  obtain ⟨g14, hg14, e14, m14⟩ := x14
  have x14 := e14
  clear e14
  have nm13_14 : g13 ≠ g14 := fun e => hap (10, 13) (by simp) (11, 14) (by simp) (by decide) (by rw [x13, x14, e])
  have hw14 : w.heap.size ≤ g14 := Nat.le_trans bl0.size hg14
  have hs14 := Nat.le_trans hbS0.size hg14
  obtain ⟨g15, hg15, e15, m15⟩ := x15
  have x15 := e15
  clear e15
  have nm13_15 : g13 ≠ g15 := fun e => hap (10, 13) (by simp) (12, 15) (by simp) (by decide) (by rw [x13, x15, e])
  have nm14_15 : g14 ≠ g15 := fun e => hap (11, 14) (by simp) (12, 15) (by simp) (by decide) (by rw [x14, x15, e])
  have hw15 : w.heap.size ≤ g15 := Nat.le_trans bl0.size hg15
  have hs15 := Nat.le_trans hbS0.size hg15
  refine wl_store rfl (.tmp 13) (.tmp 58) rfl rfl (g13) (x) (hz) x13 x58 m13 hz_len hx ?_
  replace m13 : Ob (w6.setRow g13 ((x).map V : List Value).toArray) (g13) 23 ((x).map V) := Ob.setRow m13 ((x).map V)
  replace m14 : Ob (w6.setRow g13 ((x).map V : List Value).toArray) (g14) 23 ((hz).map V) := Ob.setRow_other m14 _ nm13_14.symm
  replace m15 : Ob (w6.setRow g13 ((x).map V : List Value).toArray) (g15) 23 ((hz).map V) := Ob.setRow_other m15 _ nm13_15.symm
  replace hbS : Below _ _ (w6.setRow g13 ((x).map V : List Value).toArray) := hbS.trans (below_setRow _ _ _ _ hs13)
  replace bl : Below w.heap.size w (w6.setRow g13 ((x).map V : List Value).toArray) := bl.trans (below_setRow _ _ _ _ hw13)
  generalize w6.setRow g13 ((x).map V : List Value).toArray = w7b at bl m13 m14 m15 hbS ⊢
  replace x7 : Fk.f (.hc ([])) (f6.eval (.tmp 7)) w7b := Fk.mono _ _ _ _ S_x7 hbS
  replace x9 : Fk.f (.hc ([])) (f6.eval (.tmp 9)) w7b := Fk.mono _ _ _ _ S_x9 hbS
  replace x11 : Fk.f (.hc ([])) (f6.eval (.tmp 11)) w7b := Fk.mono _ _ _ _ S_x11 hbS
  clear x58
  refine wl_store rfl (.tmp 14) (.tmp 62) rfl rfl (g14) (y) (hz) x14 x62 m14 hz_len hy ?_
  replace m13 : Ob (w7b.setRow g14 ((y).map V : List Value).toArray) (g13) 23 ((x).map V) := Ob.setRow_other m13 _ nm13_14
  replace m14 : Ob (w7b.setRow g14 ((y).map V : List Value).toArray) (g14) 23 ((y).map V) := Ob.setRow m14 ((y).map V)
  replace m15 : Ob (w7b.setRow g14 ((y).map V : List Value).toArray) (g15) 23 ((hz).map V) := Ob.setRow_other m15 _ nm14_15.symm
  replace hbS : Below _ _ (w7b.setRow g14 ((y).map V : List Value).toArray) := hbS.trans (below_setRow _ _ _ _ hs14)
  replace bl : Below w.heap.size w (w7b.setRow g14 ((y).map V : List Value).toArray) := bl.trans (below_setRow _ _ _ _ hw14)
  generalize w7b.setRow g14 ((y).map V : List Value).toArray = w8b at bl m13 m14 m15 hbS ⊢
  replace x7 : Fk.f (.hc ([])) (f6.eval (.tmp 7)) w8b := Fk.mono _ _ _ _ S_x7 hbS
  replace x9 : Fk.f (.hc ([])) (f6.eval (.tmp 9)) w8b := Fk.mono _ _ _ _ S_x9 hbS
  replace x11 : Fk.f (.hc ([])) (f6.eval (.tmp 11)) w8b := Fk.mono _ _ _ _ S_x11 hbS
  clear x62
  refine wl_store rfl (.tmp 15) (.tmp 64) rfl rfl (g15) (ur) (hz) x15 x64 m15 hz_len hur ?_
  replace m13 : Ob (w8b.setRow g15 ((ur).map V : List Value).toArray) (g13) 23 ((x).map V) := Ob.setRow_other m13 _ nm13_15
  replace m14 : Ob (w8b.setRow g15 ((ur).map V : List Value).toArray) (g14) 23 ((y).map V) := Ob.setRow_other m14 _ nm14_15
  replace m15 : Ob (w8b.setRow g15 ((ur).map V : List Value).toArray) (g15) 23 ((ur).map V) := Ob.setRow m15 ((ur).map V)
  replace hbS : Below _ _ (w8b.setRow g15 ((ur).map V : List Value).toArray) := hbS.trans (below_setRow _ _ _ _ hs15)
  replace bl : Below w.heap.size w (w8b.setRow g15 ((ur).map V : List Value).toArray) := bl.trans (below_setRow _ _ _ _ hw15)
  generalize w8b.setRow g15 ((ur).map V : List Value).toArray = w9b at bl m13 m14 m15 hbS ⊢
  replace x7 : Fk.f (.hc ([])) (f6.eval (.tmp 7)) w9b := Fk.mono _ _ _ _ S_x7 hbS
  replace x9 : Fk.f (.hc ([])) (f6.eval (.tmp 9)) w9b := Fk.mono _ _ _ _ S_x9 hbS
  replace x11 : Fk.f (.hc ([])) (f6.eval (.tmp 11)) w9b := Fk.mono _ _ _ _ S_x11 hbS
  refine wpList_nil ?_
  clear hbS hbS0 S_x7 S_x9 S_x11
  clear x64
  show Code.wp _ _ _ _ _
  refine wp_seq ?_
  refine wp_all_seq [.eq (.int .i64 0), .eq (.bool true), .eq (.bool true), .eq (.int .i64 0), .eq (.bool true), .eq (.bool true), .eq (.bool true), .eq (.int .i64 0), .eq (.bool true), .eq (.bool true), .eq (.bool true), .eq (.int .i64 0), .eq (.int .i64 0), .eq (.agg ((x).map V).toArray), .eq (.agg ((y).map V).toArray), .hc ([]), .eq (.int .i64 0), .eq (.bool true), .eq (.bool true), .eq (.bool true), .eq (.int .i64 0), .eq (v), .eq (.int .i64 (((l).length : Nat) : Int)), .eq (.agg ((y).map V).toArray), .eq (.agg ((ur).map V).toArray), .hc ([]), .eq (.int .i64 0), .eq (.bool true), .eq (.bool true), .eq (.bool true), .eq (.int .i64 0), .eq (v), .eq (.int .i64 (((l).length : Nat) : Int)), .eq (.agg ((x).map V).toArray), .eq (.agg ((ur).map V).toArray), .hc ([]), .eq (.int .i64 0), .eq (.bool true), .eq (.bool true), .eq (.bool true), .eq (.bool true), .eq (.bool true), .eq (.bool true)] (by kernel_rfl) (by kernel_rfl) (by rw [sz]; kernel_rfl) (by kernel_rfl) ⟨fun hw ac u K => ?_, fun hw ac u K => ?_, fun hw ac u K => ?_, fun hw ac u K => ?_, fun hw ac u K => ?_, fun hw ac u K => ?_, fun hw ac u K => ?_, fun hw ac u K => ?_, fun hw ac u K => ?_, fun hw ac u K => ?_, fun hw ac u K => ?_, fun hw ac u K => ?_, fun hw ac u K => ?_, fun hw ac u K => ?_, fun hw ac u K => ?_, fun hw ac u K => ?_, fun hw ac u K => ?_, fun hw ac u K => ?_, fun hw ac u K => ?_, fun hw ac u K => ?_, fun hw ac u K => ?_, fun hw ac u K => ?_, fun hw ac u K => ?_, fun hw ac u K => ?_, fun hw ac u K => ?_, fun hw ac u K => ?_, fun hw ac u K => ?_, fun hw ac u K => ?_, fun hw ac u K => ?_, fun hw ac u K => ?_, fun hw ac u K => ?_, fun hw ac u K => ?_, fun hw ac u K => ?_, fun hw ac u K => ?_, fun hw ac u K => ?_, fun hw ac u K => ?_, fun hw ac u K => ?_, fun hw ac u K => ?_, fun hw ac u K => ?_, fun hw ac u K => ?_, fun hw ac u K => ?_, fun hw ac u K => ?_, fun hw ac u K => ?_, trivial⟩ ?_
  · exact st_move (.tmp 8) rfl ((K.old 8 rfl).trans x8)
  · exact st_eqi 28 (.tmp 65) (.const (.int .i64 0)) rfl .i64 (0) (0) (K.dep 0 65 rfl) rfl _ (by rfl)
  · exact st_move (.tmp 66) rfl (K.dep 1 66 rfl)
  · exact st_move (.tmp 10) rfl ((K.old 10 rfl).trans x10)
  · exact st_eqi 28 (.tmp 68) (.const (.int .i64 0)) rfl .i64 (0) (0) (K.dep 3 68 rfl) rfl _ (by rfl)
  · exact st_pick_t (.tmp 67) (.tmp 69) (.const (.bool false)) rfl (K.dep 2 67 rfl) (K.dep 4 69 rfl)
  · exact st_move (.tmp 70) rfl (K.dep 5 70 rfl)
  · exact st_move (.tmp 12) rfl ((K.old 12 rfl).trans x12)
  · exact st_eqi 28 (.tmp 72) (.const (.int .i64 0)) rfl .i64 (0) (0) (K.dep 7 72 rfl) rfl _ (by rfl)
  · exact st_pick_t (.tmp 71) (.tmp 73) (.const (.bool false)) rfl (K.dep 6 71 rfl) (K.dep 8 73 rfl)
  · exact st_move (.tmp 74) rfl (K.dep 9 74 rfl)
  · exact st_move (.tmp 1) rfl ((K.old 1 rfl).trans x1)
  · exact st_move (.tmp 2) rfl ((K.old 2 rfl).trans x2)
  · exact st_load23 (.tmp 13) rfl (g13) (x) ((K.old 13 rfl).trans x13) hx (Ob.below m13 K.grow)
  · exact st_load23 (.tmp 14) rfl (g14) (y) ((K.old 14 rfl).trans x14) hy (Ob.below m14 K.grow)
  · exact st_move (.tmp 7) rfl (f_at (K.old 7 rfl) (Fk.mono _ _ _ _ x7 K.grow))
  · exact st_call 15 (.func 15) _ _ #[.int .i64 0, .int .i64 0, .agg ((x).map V).toArray, .agg ((y).map V).toArray, ac.eval (.tmp 80)] rfl rfl (arg5 (K.dep 11 76 rfl) (K.dep 12 77 rfl) (K.dep 13 78 rfl) (K.dep 14 79 rfl) rfl) Tryd.enter15 (fk_on_zero (n := 0) hx hy (by omega) (K.dep 15 80 rfl) (by simp) (hK.below (bl.trans (Below.mono K.grow bl.size))) 0 (by rw [if_pos ⟨hx0, rfl, hor0 y 0 (fun h => hxy)⟩]))
  · exact st_eqi 28 (.tmp 81) (.const (.int .i64 0)) rfl .i64 (0) (0) (K.dep 16 81 rfl) rfl _ (by rfl)
  · exact st_pick_t (.tmp 75) (.tmp 82) (.const (.bool false)) rfl (K.dep 10 75 rfl) (K.dep 17 82 rfl)
  · exact st_move (.tmp 83) rfl (K.dep 18 83 rfl)
  · exact st_move (.tmp 2) rfl ((K.old 2 rfl).trans x2)
  · exact st_move (.tmp 0) rfl ((K.old 0 rfl).trans x0)
  · exact st_lenc (.tmp 86) rfl ((l).length) rfl (fk_val (K.dep 21 86 rfl) (Fk.mono _ _ _ _ hv (bl.trans (Below.mono K.grow bl.size))))
  · exact st_load23 (.tmp 14) rfl (g14) (y) ((K.old 14 rfl).trans x14) hy (Ob.below m14 K.grow)
  · exact st_load23 (.tmp 15) rfl (g15) (ur) ((K.old 15 rfl).trans x15) hur (Ob.below m15 K.grow)
  · exact st_move (.tmp 9) rfl (f_at (K.old 9 rfl) (Fk.mono _ _ _ _ x9 K.grow))
  · exact st_call 15 (.func 15) _ _ #[.int .i64 0, .int .i64 (((l).length : Nat) : Int), .agg ((y).map V).toArray, .agg ((ur).map V).toArray, ac.eval (.tmp 90)] rfl rfl (arg5 (K.dep 20 85 rfl) (K.dep 22 87 rfl) (K.dep 23 88 rfl) (K.dep 24 89 rfl) rfl) Tryd.enter15 (fk_on_zero (n := l.length) hy hur (by omega) (K.dep 25 90 rfl) (by simp) (hK.below (bl.trans (Below.mono K.grow bl.size))) 0 (by rw [if_pos ⟨hy0, rfl, (hor0 ur l.length (fun h => by rw [hul h, hx0])).imp id (fun h => by rw [h, hxy])⟩]))
  · exact st_eqi 28 (.tmp 91) (.const (.int .i64 0)) rfl .i64 (0) (0) (K.dep 26 91 rfl) rfl _ (by rfl)
  · exact st_pick_t (.tmp 84) (.tmp 92) (.const (.bool false)) rfl (K.dep 19 84 rfl) (K.dep 27 92 rfl)
  · exact st_move (.tmp 93) rfl (K.dep 28 93 rfl)
  · exact st_move (.tmp 1) rfl ((K.old 1 rfl).trans x1)
  · exact st_move (.tmp 0) rfl ((K.old 0 rfl).trans x0)
  · exact st_lenc (.tmp 96) rfl ((l).length) rfl (fk_val (K.dep 31 96 rfl) (Fk.mono _ _ _ _ hv (bl.trans (Below.mono K.grow bl.size))))
  · exact st_load23 (.tmp 13) rfl (g13) (x) ((K.old 13 rfl).trans x13) hx (Ob.below m13 K.grow)
  · exact st_load23 (.tmp 15) rfl (g15) (ur) ((K.old 15 rfl).trans x15) hur (Ob.below m15 K.grow)
  · exact st_move (.tmp 11) rfl (f_at (K.old 11 rfl) (Fk.mono _ _ _ _ x11 K.grow))
  · exact st_call 15 (.func 15) _ _ #[.int .i64 0, .int .i64 (((l).length : Nat) : Int), .agg ((x).map V).toArray, .agg ((ur).map V).toArray, ac.eval (.tmp 100)] rfl rfl (arg5 (K.dep 30 95 rfl) (K.dep 32 97 rfl) (K.dep 33 98 rfl) (K.dep 34 99 rfl) rfl) Tryd.enter15 (fk_on_zero (n := l.length) hx hur (by omega) (K.dep 35 100 rfl) (by simp) (hK.below (bl.trans (Below.mono K.grow bl.size))) 0 (by rw [if_pos ⟨hx0, rfl, hor0 ur l.length (fun h => by rw [hul h, hx0])⟩]))
  · exact st_eqi 28 (.tmp 101) (.const (.int .i64 0)) rfl .i64 (0) (0) (K.dep 36 101 rfl) rfl _ (by rfl)
  · exact st_pick_t (.tmp 94) (.tmp 102) (.const (.bool false)) rfl (K.dep 29 94 rfl) (K.dep 37 102 rfl)
  · exact st_move (.tmp 103) rfl (K.dep 38 103 rfl)
  · exact st_call 8 (.func 8) _ _ #[] rfl rfl rfl Tryd.enter8 (fk_of (awake_any _ (hK.below (bl.trans (Below.mono K.grow bl.size)))))
  · exact st_pick_t (.tmp 104) (.tmp 105) (.const (.bool false)) rfl (K.dep 39 104 rfl) (K.dep 40 105 rfl)
  · exact st_assign (.tmp 106) rfl (K.dep 41 106 rfl)
  intro f10 w10 A hb
  replace bl0 := bl
  replace x0 := (A.old 0 rfl).trans x0
  replace x1 := (A.old 1 rfl).trans x1
  replace x2 := (A.old 2 rfl).trans x2
  clear x6
  replace x33 := (A.old 33 rfl).trans x33
  replace x7 := f_at (A.old 7 rfl) (Fk.mono _ _ _ _ x7 hb)
  replace x8 := (A.old 8 rfl).trans x8
  replace x9 := f_at (A.old 9 rfl) (Fk.mono _ _ _ _ x9 hb)
  replace x10 := (A.old 10 rfl).trans x10
  replace x11 := f_at (A.old 11 rfl) (Fk.mono _ _ _ _ x11 hb)
  replace x12 := (A.old 12 rfl).trans x12
  replace x13 := (A.old 13 rfl).trans x13
  replace x14 := (A.old 14 rfl).trans x14
  replace x15 := (A.old 15 rfl).trans x15
  have x6 : f10.eval (.tmp 6) = .bool true := A.has 42 6 rfl
  have lt_m13 := Ob.lt m13
  replace m13 := Ob.below m13 hb
  have lt_m14 := Ob.lt m14
  replace m14 := Ob.below m14 hb
  have lt_m15 := Ob.lt m15
  replace m15 := Ob.below m15 hb
  replace bl := (bl.trans (Below.mono hb bl.size))
  replace sz := A.size.trans sz
  replace df := A.defs.trans df
  clear A hb
  clear x7
  clear x8
  clear x9
  clear x10
  clear x11
  clear x12
  show Code.wp _ _ _ _ _
  refine wp_ret ?_
  repeat (first | with_reducible refine then_ret ?_ | with_reducible refine block_ret ?_)
  exact bodyPost_ret (v := .bool true) (ret_slot rfl f10 _ x6 _ _) df ⟨rfl, bl⟩
end Go.Proofs.YthhnlemldpgbeaaDoor
