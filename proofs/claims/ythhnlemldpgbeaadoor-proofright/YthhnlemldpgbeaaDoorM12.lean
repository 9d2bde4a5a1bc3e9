/- ProofRight. -/
import Derived.Test.YthhnlemldpgbeaaDoorM10
import Derived.Test.YthhnlemldpgbeaaDoorM11
namespace Go.Proofs.YthhnlemldpgbeaaDoor
set_option maxRecDepth 100000
open Go.RowKit
theorem fk_pathc {l : List (List (BitVec 8))} {i : Nat} (hi : i < l.length) (h1000 : l.length ≤ 1000) {w : World} {v : Value} (hv : (Fk.hc l).f v w) (hK : Tab w) {S : List (List (BitVec 8))} (hS : Box (mpath l i = S)) :
    Calls Tryd.prog 19 #[v, .int .i64 ((i : Nat) : Int)] w fun e w' => ∃ u, e = .returned u ∧ (Fk.t2 (.hc S) (.int .i64 0)).f u w' ∧ Below w.heap.size w w' := by
  refine (path_ok hi h1000 w hv hK).mono ?_
  rintro e w' ⟨u, rfl, ⟨p, e1, h1⟩, hb⟩
  rw [hS.out] at h1
  exact ⟨u, rfl, ⟨p, e1, ow_hc h1⟩, hb⟩
theorem fk_proofc {l : List (List (BitVec 8))} {m : Nat} (hm1 : 1 ≤ m) (hm : m ≤ l.length) (h1000 : l.length ≤ 1000) {w : World} {v : Value} (hv : (Fk.hc l).f v w) (hK : Tab w) {S : List (List (BitVec 8))} (hS : Box (msub l m true = S)) :
    Calls Tryd.prog 20 #[v, .int .i64 ((m : Nat) : Int)] w fun e w' => ∃ u, e = .returned u ∧ (Fk.t2 (.hc S) (.int .i64 0)).f u w' ∧ Below w.heap.size w w' := by
  refine (proof_ok hm1 hm h1000 w hv hK).mono ?_
  rintro e w' ⟨u, rfl, ⟨p, e1, h1⟩, hb⟩
  rw [hS.out] at h1
  exact ⟨u, rfl, ⟨p, e1, ow_hc h1⟩, hb⟩
theorem fk_proofz {l : List (List (BitVec 8))} {w : World} {v : Value} (hv : (Fk.hc l).f v w) :
    Calls Tryd.prog 20 #[v, .int .i64 0] w fun e w' => ∃ u, e = .returned u ∧ (Fk.t2 (.hc []) (.int .i64 0)).f u w' ∧ Below w.heap.size w w' := by
  refine (proof_zero w hv).mono ?_
  rintro e w' ⟨rfl, hb⟩
  exact ⟨_, rfl, ⟨_, rfl, hc_nil _⟩, hb⟩
theorem bres_sub {l : List (List (BitVec 8))} {m : Nat} (hm1 : 1 ≤ m) (hm : m ≤ l.length) : bres (mroot (l.take m)) (msub l m true) (stp m l.length true).1 (stp m l.length true).2 = some (mroot (l.take m), mroot l) := by
  obtain ⟨y, Q, q1, q2, q3, q4⟩ := sub_steps l.length l m true rfl hm1 hm
  unfold bres
  by_cases hc : (stp m l.length true).1 = true
  · rw [if_pos hc, q1 hc]
    simp only
    rw [if_pos q3, q4]
  · have hf : (stp m l.length true).1 = false := by simpa using hc
    obtain ⟨e1, e2⟩ := q2 hf
    rw [if_neg hc, e2, if_pos q3, ← e1, q4, e1]
set_option maxHeartbeats 1000000 in
theorem right_law {l : List (List (BitVec 8))} (z q : Int) (w : World) (hK : Tab w) {v : Value} (hv : (Fk.hc l).f v w) :
    Calls Tryd.prog 5 #[v, .int .i64 z, .int .i64 q] w fun e w' => e = .returned (.bool true) ∧ Below w.heap.size w w' := by
  have hvs := hc_hs hv
  go_enter Tryd.func5, Tryd.ntmps5
  refine code_both (fun f w1 => f.tmps.size = 86 ∧ f.defers = [] ∧ f.eval (.tmp 0) = v ∧ f.eval (.tmp 1) = .int .i64 (z) ∧ f.eval (.tmp 2) = .int .i64 (q) ∧ Below w.heap.size w (w1)) ⟨rfl, rfl, rfl, rfl, rfl, Below.refl _ _⟩ ?_
  rintro f0 w0 ⟨sz, df, x0, x1, x2, bl⟩
  have bl0 := bl
  refine wp_seq ?_
  refine wp_all_seq [.eq (.bool false)] (by kernel_rfl) (by kernel_rfl) (by rw [sz]; kernel_rfl) (by kernel_rfl) ⟨fun hw ac u K => ?_, trivial⟩ ?_
  · exact st_assign (.const (.bool false)) rfl rfl
  intro f1 w1 A hb
  replace bl0 := bl
  replace x0 := (A.old 0 rfl).trans x0
  replace x1 := (A.old 1 rfl).trans x1
  replace x2 := (A.old 2 rfl).trans x2
  have x6 : f1.eval (.tmp 6) = .bool false := A.has 0 6 rfl
  replace bl := (bl.trans (Below.mono hb bl.size))
  replace sz := A.size.trans sz
  replace df := A.defs.trans df
  clear A hb
  show Code.wp _ _ _ _ _
  refine wp_seq ?_
  refine wp_seq ?_
  by_cases h70 : 70 < l.length
  rotate_left
  · skip
    obtain ⟨y, ey⟩ : ∃ y, Box (mroot l = y) := ⟨_, ⟨rfl⟩⟩
    have hy : y.length = 32 := by rw [← ey.out]; exact mroot_len (hc_len hv)
    refine wp_all_seq [.eq (v), .eq (.int .i64 (((l).length : Nat) : Int)), .eq (.bool false)] (by kernel_rfl) (by kernel_rfl) (by rw [sz]; kernel_rfl) (by kernel_rfl) ⟨fun hw ac u K => ?_, fun hw ac u K => ?_, fun hw ac u K => ?_, trivial⟩ ?_
    · exact st_move (.tmp 0) rfl ((K.old 0 rfl).trans x0)
    · exact st_lenc (.tmp 12) rfl ((l).length) rfl (fk_val (K.dep 0 12 rfl) (Fk.mono _ _ _ _ hv (bl.trans (Below.mono K.grow bl.size))))
    · exact st_gtr 3 (.tmp 13) (.const (.int .i64 70)) rfl .i64 ((((l).length : Nat) : Int)) (70) (K.dep 1 13 rfl) rfl _ (by rw [eq_comm, decide_eq_false_iff_not]; omega)
    intro f2 w2 A hb
    replace bl0 := bl
    replace x0 := (A.old 0 rfl).trans x0
    replace x1 := (A.old 1 rfl).trans x1
    replace x2 := (A.old 2 rfl).trans x2
    replace x6 := (A.old 6 rfl).trans x6
    have x14 : f2.eval (.tmp 14) = .bool false := A.has 2 14 rfl
    replace bl := (bl.trans (Below.mono hb bl.size))
    replace sz := A.size.trans sz
    replace df := A.defs.trans df
    clear A hb
    show Code.wp _ _ _ _ _
    refine wp_cond_false x14 ?_
    refine wp_skip ?_
    show Code.wp _ _ _ _ _
    refine wp_seq ?_
    refine wp_region_seq [.eq (v), .eq (.agg ((y).map V).toArray)] (by kernel_rfl) (by kernel_rfl) (by rw [sz]; kernel_rfl) (by kernel_rfl) ⟨fun hw ac u K => ?_, fun hw ac u K => ?_, trivial⟩ ?_
    · exact st_move (.tmp 0) rfl ((K.old 0 rfl).trans x0)
    · exact st_call 18 (.func 18) _ _ #[v] rfl rfl (one_arg (K.dep 0 16 rfl)) Tryd.enter18 (fk_of (root_any l _ _ (by omega) (Fk.mono _ _ _ _ hv (bl.trans (Below.mono K.grow bl.size))) (hK.below (bl.trans (Below.mono K.grow bl.size))) ey))
    intro f3 w3 A hb
    replace bl0 := bl
    replace x0 := (A.old 0 rfl).trans x0
    replace x1 := (A.old 1 rfl).trans x1
    replace x2 := (A.old 2 rfl).trans x2
    replace x6 := (A.old 6 rfl).trans x6
    replace x14 := (A.old 14 rfl).trans x14
    have x17 : f3.eval (.tmp 17) = .agg ((y).map V).toArray := A.has 1 17 rfl
    replace bl := (bl.trans (Below.mono hb bl.size))
    replace sz := A.size.trans sz
    replace df := A.defs.trans df
    clear A hb
    refine wl_one (.nw w3.heap.size 23 ((hz).map V)) rfl 7 rfl (by rw [sz]; decide) (st_alloc23 rfl _ (Nat.le_refl _)) ?_
    intro f4 w4 df2 sz2 old2 new2 hb
    replace bl0 := bl
    replace x0 := (old2 0 rfl).trans x0
    replace x1 := (old2 1 rfl).trans x1
    replace x2 := (old2 2 rfl).trans x2
    replace x6 := (old2 6 rfl).trans x6
    replace x14 := (old2 14 rfl).trans x14
    replace x17 := (old2 17 rfl).trans x17
    have x7 : Fk.f (.nw w3.heap.size 23 ((hz).map V)) (f4.eval (.tmp 7)) w4 := new2
    replace bl := (bl.trans (Below.mono hb bl.size))
    replace sz := sz2.trans sz
    replace df := df2.trans df
    clear df2 sz2 old2 new2 hb
    obtain ⟨g7, hg7, e7, m7⟩ := x7
    have x7 := e7
    clear e7
    have hw7 : w.heap.size ≤ g7 := Nat.le_trans bl0.size hg7
    refine wl_store rfl (.tmp 7) (.tmp 17) rfl rfl (g7) (y) (hz) x7 x17 m7 hz_len hy ?_
    replace m7 : Ob (w4.setRow g7 ((y).map V : List Value).toArray) (g7) 23 ((y).map V) := Ob.setRow m7 ((y).map V)
    replace bl : Below w.heap.size w (w4.setRow g7 ((y).map V : List Value).toArray) := bl.trans (below_setRow _ _ _ _ hw7)
    generalize w4.setRow g7 ((y).map V : List Value).toArray = w5b at bl m7 ⊢
    refine wpList_nil ?_
    clear x17
    show Code.wp _ _ _ _ _
    refine wp_seq ?_
    refine wp_seq ?_
    by_cases hz : 0 ≤ z ∧ z < (l.length : Int)
    rotate_left
    · skip
      by_cases hz0 : 0 ≤ z
      rotate_left
      · skip
        refine wp_all_seq [.eq (.int .i64 (z)), .eq (.bool false), .eq (.bool false), .any, .any, .any, .any, .eq (.bool false)] (by kernel_rfl) (by kernel_rfl) (by rw [sz]; kernel_rfl) (by kernel_rfl) ⟨fun hw ac u K => ?_, fun hw ac u K => ?_, fun hw ac u K => ?_, fun hw ac u K => ?_, fun hw ac u K => ?_, fun hw ac u K => ?_, fun hw ac u K => ?_, fun hw ac u K => ?_, trivial⟩ ?_
        · exact st_move (.tmp 1) rfl ((K.old 1 rfl).trans x1)
        · exact st_geq 3 (.tmp 18) (.const (.int .i64 0)) rfl .i64 ((z)) (0) (K.dep 0 18 rfl) rfl _ (by rw [eq_comm, decide_eq_false_iff_not]; omega)
        · exact st_move (.tmp 19) rfl (K.dep 1 19 rfl)
        · exact (Bool.false_ne_true hw).elim
        · exact (Bool.false_ne_true hw).elim
        · exact (Bool.false_ne_true hw).elim
        · exact (Bool.false_ne_true hw).elim
        · exact st_pick_f' (.tmp 20) (.tmp 24) (.const (.bool false)) rfl (K.dep 2 20 rfl) rfl
        intro f6 w6 A hb
        replace bl0 := bl
        replace x0 := (A.old 0 rfl).trans x0
        replace x1 := (A.old 1 rfl).trans x1
        replace x2 := (A.old 2 rfl).trans x2
        replace x6 := (A.old 6 rfl).trans x6
        replace x14 := (A.old 14 rfl).trans x14
        replace x7 := (A.old 7 rfl).trans x7
        have x25 : f6.eval (.tmp 25) = .bool false := A.has 7 25 rfl
        have lt_m7 := Ob.lt m7
        replace m7 := Ob.below m7 hb
        replace bl := (bl.trans (Below.mono hb bl.size))
        replace sz := A.size.trans sz
        replace df := A.defs.trans df
        clear A hb
        show Code.wp _ _ _ _ _
        refine wp_cond_false x25 ?_
        refine wp_skip ?_
        show Code.wp _ _ _ _ _
        refine wp_seq ?_
        refine wp_seq ?_
        by_cases hq : 0 ≤ q ∧ q ≤ (l.length : Int)
        rotate_left
        · skip
          by_cases hq0 : 0 ≤ q
          rotate_left
          · skip
            refine wp_all_seq [.eq (.int .i64 (q)), .eq (.bool false), .eq (.bool false), .any, .any, .any, .any, .eq (.bool false)] (by kernel_rfl) (by kernel_rfl) (by rw [sz]; kernel_rfl) (by kernel_rfl) ⟨fun hw ac u K => ?_, fun hw ac u K => ?_, fun hw ac u K => ?_, fun hw ac u K => ?_, fun hw ac u K => ?_, fun hw ac u K => ?_, fun hw ac u K => ?_, fun hw ac u K => ?_, trivial⟩ ?_
            · exact st_move (.tmp 2) rfl ((K.old 2 rfl).trans x2)
            · exact st_geq 3 (.tmp 56) (.const (.int .i64 0)) rfl .i64 ((q)) (0) (K.dep 0 56 rfl) rfl _ (by rw [eq_comm, decide_eq_false_iff_not]; omega)
            · exact st_move (.tmp 57) rfl (K.dep 1 57 rfl)
            · exact (Bool.false_ne_true hw).elim
            · exact (Bool.false_ne_true hw).elim
            · exact (Bool.false_ne_true hw).elim
            · exact (Bool.false_ne_true hw).elim
            · exact st_pick_f' (.tmp 58) (.tmp 62) (.const (.bool false)) rfl (K.dep 2 58 rfl) rfl
            intro f7 w7 A hb
            replace bl0 := bl
            replace x0 := (A.old 0 rfl).trans x0
            replace x1 := (A.old 1 rfl).trans x1
            replace x2 := (A.old 2 rfl).trans x2
            replace x6 := (A.old 6 rfl).trans x6
            replace x14 := (A.old 14 rfl).trans x14
            replace x7 := (A.old 7 rfl).trans x7
            replace x25 := (A.old 25 rfl).trans x25
            have x63 : f7.eval (.tmp 63) = .bool false := A.has 7 63 rfl
            have lt_m7 := Ob.lt m7
            replace m7 := Ob.below m7 hb
            replace bl := (bl.trans (Below.mono hb bl.size))
            replace sz := A.size.trans sz
            replace df := A.defs.trans df
            clear A hb
            show Code.wp _ _ _ _ _
            refine wp_cond_false x63 ?_
            refine wp_skip ?_
            show Code.wp _ _ _ _ _
            refine wp_seq ?_
            refine wp_all_seq [.eq (.bool true), .eq (.bool true)] (by kernel_rfl) (by kernel_rfl) (by rw [sz]; kernel_rfl) (by kernel_rfl) ⟨fun hw ac u K => ?_, fun hw ac u K => ?_, trivial⟩ ?_
            · exact st_call 8 (.func 8) _ _ #[] rfl rfl rfl Tryd.enter8 (fk_of (awake_any _ (hK.below (bl.trans (Below.mono K.grow bl.size)))))
            · exact st_assign (.tmp 85) rfl (K.dep 0 85 rfl)
            intro f8 w8 A hb
            replace bl0 := bl
            replace x0 := (A.old 0 rfl).trans x0
            replace x1 := (A.old 1 rfl).trans x1
            replace x2 := (A.old 2 rfl).trans x2
            clear x6
            replace x14 := (A.old 14 rfl).trans x14
            replace x7 := (A.old 7 rfl).trans x7
            replace x25 := (A.old 25 rfl).trans x25
            replace x63 := (A.old 63 rfl).trans x63
            have x6 : f8.eval (.tmp 6) = .bool true := A.has 1 6 rfl
            have lt_m7 := Ob.lt m7
            replace m7 := Ob.below m7 hb
            replace bl := (bl.trans (Below.mono hb bl.size))
            replace sz := A.size.trans sz
            replace df := A.defs.trans df
            clear A hb
            show Code.wp _ _ _ _ _
            refine wp_ret ?_
            repeat (first | with_reducible refine then_ret ?_ | with_reducible refine block_ret ?_)
            exact bodyPost_ret (v := .bool true) (ret_slot rfl f8 _ x6 _ _) df ⟨rfl, bl⟩
          refine wp_all_seq [.eq (.int .i64 (q)), .eq (.bool true), .eq (.bool true), .eq (.int .i64 (q)), .eq (v), .eq (.int .i64 (((l).length : Nat) : Int)), .eq (.bool false), .eq (.bool false)] (by kernel_rfl) (by kernel_rfl) (by rw [sz]; kernel_rfl) (by kernel_rfl) ⟨fun hw ac u K => ?_, fun hw ac u K => ?_, fun hw ac u K => ?_, fun hw ac u K => ?_, fun hw ac u K => ?_, fun hw ac u K => ?_, fun hw ac u K => ?_, fun hw ac u K => ?_, trivial⟩ ?_
          · exact st_move (.tmp 2) rfl ((K.old 2 rfl).trans x2)
          · exact st_geq 3 (.tmp 56) (.const (.int .i64 0)) rfl .i64 ((q)) (0) (K.dep 0 56 rfl) rfl _ (by rw [eq_comm, decide_eq_true_iff]; omega)
          · exact st_move (.tmp 57) rfl (K.dep 1 57 rfl)
          · exact st_move (.tmp 2) rfl ((K.old 2 rfl).trans x2)
          · exact st_move (.tmp 0) rfl ((K.old 0 rfl).trans x0)
          · exact st_lenc (.tmp 60) rfl ((l).length) rfl (fk_val (K.dep 4 60 rfl) (Fk.mono _ _ _ _ hv (bl.trans (Below.mono K.grow bl.size))))
          · exact st_leq 3 (.tmp 59) (.tmp 61) rfl .i64 ((q)) ((((l).length : Nat) : Int)) (K.dep 3 59 rfl) (K.dep 5 61 rfl) _ (by rw [eq_comm, decide_eq_false_iff_not]; omega)
          · exact st_pick_t (.tmp 58) (.tmp 62) (.const (.bool false)) rfl (K.dep 2 58 rfl) (K.dep 6 62 rfl)
          intro f7 w7 A hb
          replace bl0 := bl
          replace x0 := (A.old 0 rfl).trans x0
          replace x1 := (A.old 1 rfl).trans x1
          replace x2 := (A.old 2 rfl).trans x2
          replace x6 := (A.old 6 rfl).trans x6
          replace x14 := (A.old 14 rfl).trans x14
          replace x7 := (A.old 7 rfl).trans x7
          replace x25 := (A.old 25 rfl).trans x25
          have x63 : f7.eval (.tmp 63) = .bool false := A.has 7 63 rfl
          have lt_m7 := Ob.lt m7
          replace m7 := Ob.below m7 hb
          replace bl := (bl.trans (Below.mono hb bl.size))
          replace sz := A.size.trans sz
          replace df := A.defs.trans df
          clear A hb
          show Code.wp _ _ _ _ _
          refine wp_cond_false x63 ?_
          refine wp_skip ?_
          show Code.wp _ _ _ _ _
          refine wp_seq ?_
          refine wp_all_seq [.eq (.bool true), .eq (.bool true)] (by kernel_rfl) (by kernel_rfl) (by rw [sz]; kernel_rfl) (by kernel_rfl) ⟨fun hw ac u K => ?_, fun hw ac u K => ?_, trivial⟩ ?_
          · exact st_call 8 (.func 8) _ _ #[] rfl rfl rfl Tryd.enter8 (fk_of (awake_any _ (hK.below (bl.trans (Below.mono K.grow bl.size)))))
          · exact st_assign (.tmp 85) rfl (K.dep 0 85 rfl)
          intro f8 w8 A hb
          replace bl0 := bl
          replace x0 := (A.old 0 rfl).trans x0
          replace x1 := (A.old 1 rfl).trans x1
          replace x2 := (A.old 2 rfl).trans x2
          clear x6
          replace x14 := (A.old 14 rfl).trans x14
          replace x7 := (A.old 7 rfl).trans x7
          replace x25 := (A.old 25 rfl).trans x25
          replace x63 := (A.old 63 rfl).trans x63
          have x6 : f8.eval (.tmp 6) = .bool true := A.has 1 6 rfl
          have lt_m7 := Ob.lt m7
          replace m7 := Ob.below m7 hb
          replace bl := (bl.trans (Below.mono hb bl.size))
          replace sz := A.size.trans sz
          replace df := A.defs.trans df
          clear A hb
          show Code.wp _ _ _ _ _
          refine wp_ret ?_
          repeat (first | with_reducible refine then_ret ?_ | with_reducible refine block_ret ?_)
          exact bodyPost_ret (v := .bool true) (ret_slot rfl f8 _ x6 _ _) df ⟨rfl, bl⟩
        by_cases hq0 : q = 0
        rotate_left
        · skip
          obtain ⟨m, rfl⟩ := Int.eq_ofNat_of_zero_le hq.1
          have hm1 : 1 ≤ m := by omega
          have hm2 : m ≤ l.length := by omega
          obtain ⟨ym, eym⟩ : ∃ y, Box (mroot (l.take m) = y) := ⟨_, ⟨rfl⟩⟩
          have hym : ym.length = 32 := by rw [← eym.out]; exact mroot_len (fun x hx => hc_len hv x (List.mem_of_mem_take hx))
          obtain ⟨S2, eS2⟩ : ∃ S, Box (msub l m true = S) := ⟨_, ⟨rfl⟩⟩
          have hbr := bres_sub hm1 hm2
          rw [eym.out, eS2.out, ey.out] at hbr
          have hS2l := msub_len _ l m true rfl
          rw [eS2.out] at hS2l
          refine wp_all_seq [.eq (.int .i64 ((m : Nat) : Int)), .eq (.bool true), .eq (.bool true), .eq (.int .i64 ((m : Nat) : Int)), .eq (v), .eq (.int .i64 (((l).length : Nat) : Int)), .eq (.bool true), .eq (.bool true)] (by kernel_rfl) (by kernel_rfl) (by rw [sz]; kernel_rfl) (by kernel_rfl) ⟨fun hw ac u K => ?_, fun hw ac u K => ?_, fun hw ac u K => ?_, fun hw ac u K => ?_, fun hw ac u K => ?_, fun hw ac u K => ?_, fun hw ac u K => ?_, fun hw ac u K => ?_, trivial⟩ ?_
          · exact st_move (.tmp 2) rfl ((K.old 2 rfl).trans x2)
          · exact st_geq 3 (.tmp 56) (.const (.int .i64 0)) rfl .i64 (((m : Nat) : Int)) (0) (K.dep 0 56 rfl) rfl _ (by rw [eq_comm, decide_eq_true_iff]; omega)
          · exact st_move (.tmp 57) rfl (K.dep 1 57 rfl)
          · exact st_move (.tmp 2) rfl ((K.old 2 rfl).trans x2)
          · exact st_move (.tmp 0) rfl ((K.old 0 rfl).trans x0)
          · exact st_lenc (.tmp 60) rfl ((l).length) rfl (fk_val (K.dep 4 60 rfl) (Fk.mono _ _ _ _ hv (bl.trans (Below.mono K.grow bl.size))))
          · exact st_leq 3 (.tmp 59) (.tmp 61) rfl .i64 (((m : Nat) : Int)) ((((l).length : Nat) : Int)) (K.dep 3 59 rfl) (K.dep 5 61 rfl) _ (by rw [eq_comm, decide_eq_true_iff]; omega)
          · exact st_pick_t (.tmp 58) (.tmp 62) (.const (.bool false)) rfl (K.dep 2 58 rfl) (K.dep 6 62 rfl)
          intro f7 w7 A hb
          replace bl0 := bl
          replace x0 := (A.old 0 rfl).trans x0
          replace x1 := (A.old 1 rfl).trans x1
          replace x2 := (A.old 2 rfl).trans x2
          replace x6 := (A.old 6 rfl).trans x6
          replace x14 := (A.old 14 rfl).trans x14
          replace x7 := (A.old 7 rfl).trans x7
          replace x25 := (A.old 25 rfl).trans x25
          have x63 : f7.eval (.tmp 63) = .bool true := A.has 7 63 rfl
          have lt_m7 := Ob.lt m7
          replace m7 := Ob.below m7 hb
          replace bl := (bl.trans (Below.mono hb bl.size))
          replace sz := A.size.trans sz
          replace df := A.defs.trans df
          clear A hb
          show Code.wp _ _ _ _ _
          refine wp_cond_true x63 ?_
          refine wp_seq ?_
          refine wp_all_seq [.eq (v), .eq (.int .i64 ((m : Nat) : Int)), .t2 (.hc (S2)) (.int .i64 0), .t2 (.hc (S2)) (.int .i64 0), .hc (S2), .eq (.int .i64 0), .hc (S2), .eq (.int .i64 0)] (by kernel_rfl) (by kernel_rfl) (by rw [sz]; kernel_rfl) (by kernel_rfl) ⟨fun hw ac u K => ?_, fun hw ac u K => ?_, fun hw ac u K => ?_, fun hw ac u K => ?_, fun hw ac u K => ?_, fun hw ac u K => ?_, fun hw ac u K => ?_, fun hw ac u K => ?_, trivial⟩ ?_
          · exact st_move (.tmp 0) rfl ((K.old 0 rfl).trans x0)
          · exact st_move (.tmp 2) rfl ((K.old 2 rfl).trans x2)
          · exact st_call 20 (.func 20) _ _ #[v, .int .i64 ((m : Nat) : Int)] rfl rfl (arg2 (K.dep 0 65 rfl) (K.dep 1 66 rfl)) Tryd.enter20 (fk_proofc hm1 hm2 (by omega) (Fk.mono _ _ _ _ hv (bl.trans (Below.mono K.grow bl.size))) (hK.below (bl.trans (Below.mono K.grow bl.size))) eS2)
          · exact st_move (.tmp 67) rfl (K.dep 2 67 rfl)
          · exact st_t2a (.tmp 64) rfl (K.dep 3 64 rfl)
          · exact st_t2b (.tmp 64) rfl (K.dep 3 64 rfl)
          · exact st_assign (.tmp 68) rfl (K.dep 4 68 rfl)
          · exact st_assign (.tmp 69) rfl (K.dep 5 69 rfl)
          intro f8 w8 A hb
          replace bl0 := bl
          replace x0 := (A.old 0 rfl).trans x0
          replace x1 := (A.old 1 rfl).trans x1
          replace x2 := (A.old 2 rfl).trans x2
          replace x6 := (A.old 6 rfl).trans x6
          replace x14 := (A.old 14 rfl).trans x14
          replace x7 := (A.old 7 rfl).trans x7
          replace x25 := (A.old 25 rfl).trans x25
          replace x63 := (A.old 63 rfl).trans x63
          have x10 : Fk.f (.hc (S2)) (f8.eval (.tmp 10)) w8 := A.has 6 10 rfl
          have x11 : f8.eval (.tmp 11) = .int .i64 0 := A.has 7 11 rfl
          have lt_m7 := Ob.lt m7
          replace m7 := Ob.below m7 hb
          replace bl := (bl.trans (Below.mono hb bl.size))
          replace sz := A.size.trans sz
          replace df := A.defs.trans df
          clear A hb
          show Code.wp _ _ _ _ _
          refine wp_seq ?_
          refine wp_all [.eq (.int .i64 0), .eq (.bool false), .eq (.bool false), .eq (.int .i64 ((m : Nat) : Int)), .eq (v), .eq (.int .i64 (((l).length : Nat) : Int)), .eq (v), .eq (.int .i64 ((m : Nat) : Int)), .hc ((l).take (m)), .eq (.agg ((ym).map V).toArray), .eq (.agg ((y).map V).toArray), .hc (S2), .eq (.int .i64 0), .eq (.bool false), .eq (.bool false)] Tryd.mixed (by kernel_rfl) (by kernel_rfl) (by rw [sz]; kernel_rfl) (by kernel_rfl) ⟨fun hw ac u K => ?_, fun hw ac u K => ?_, fun hw ac u K => ?_, fun hw ac u K => ?_, fun hw ac u K => ?_, fun hw ac u K => ?_, fun hw ac u K => ?_, fun hw ac u K => ?_, fun hw ac u K => ?_, fun hw ac u K => ?_, fun hw ac u K => ?_, fun hw ac u K => ?_, fun hw ac u K => ?_, fun hw ac u K => ?_, fun hw ac u K => ?_, trivial⟩ ?_
          · exact st_move (.tmp 11) rfl ((K.old 11 rfl).trans x11)
          · exact st_neqi 28 (.tmp 70) (.const (.int .i64 0)) rfl .i64 (0) (0) (K.dep 0 70 rfl) rfl _ (by rfl)
          · exact st_move (.tmp 71) rfl (K.dep 1 71 rfl)
          · exact st_move (.tmp 2) rfl ((K.old 2 rfl).trans x2)
          · exact st_move (.tmp 0) rfl ((K.old 0 rfl).trans x0)
          · exact st_lenc (.tmp 74) rfl ((l).length) rfl (fk_val (K.dep 4 74 rfl) (Fk.mono _ _ _ _ hv (bl.trans (Below.mono K.grow bl.size))))
          · exact st_move (.tmp 0) rfl ((K.old 0 rfl).trans x0)
          · exact st_move (.tmp 2) rfl ((K.old 2 rfl).trans x2)
          · exact st_cuth (.tmp 76) (.tmp 77) rfl (fk_val (K.dep 6 76 rfl) (Fk.mono _ _ _ _ hv (bl.trans (Below.mono K.grow bl.size)))) (m) (K.dep 7 77 rfl) (by omega)
          · exact st_call 18 (.func 18) _ _ #[ac.eval (.tmp 78)] rfl rfl (one_arg rfl) Tryd.enter18 (fk_of (root_any (l.take m) _ _ (by rw [List.length_take]; omega) (K.dep 8 78 rfl) (hK.below (bl.trans (Below.mono K.grow bl.size))) eym))
          · exact st_load23 (.tmp 7) rfl (g7) (y) ((K.old 7 rfl).trans x7) hy (Ob.below m7 K.grow)
          · exact st_move (.tmp 10) rfl (f_at (K.old 10 rfl) (Fk.mono _ _ _ _ x10 K.grow))
          · exact st_call 15 (.func 15) _ _ #[.int .i64 ((m : Nat) : Int), .int .i64 (((l).length : Nat) : Int), .agg ((ym).map V).toArray, .agg ((y).map V).toArray, ac.eval (.tmp 81)] rfl rfl (arg5 (K.dep 3 73 rfl) (K.dep 5 75 rfl) (K.dep 9 79 rfl) (K.dep 10 80 rfl) rfl) Tryd.enter15 (fk_on_any hym hy hm1 hm2 (by omega) (K.dep 11 81 rfl) (by omega) (hK.below (bl.trans (Below.mono K.grow bl.size))) 0 (by rw [if_pos hbr]))
          · exact st_neqi 28 (.tmp 82) (.const (.int .i64 0)) rfl .i64 (0) (0) (K.dep 12 82 rfl) rfl _ (by rfl)
          · exact st_pick_f' (.tmp 72) (.const (.bool true)) (.tmp 83) rfl (K.dep 2 72 rfl) (K.dep 13 83 rfl)
          intro f9 w9 A hb
          replace bl0 := bl
          replace x0 := (A.old 0 rfl).trans x0
          replace x1 := (A.old 1 rfl).trans x1
          replace x2 := (A.old 2 rfl).trans x2
          replace x6 := (A.old 6 rfl).trans x6
          replace x14 := (A.old 14 rfl).trans x14
          replace x7 := (A.old 7 rfl).trans x7
          replace x25 := (A.old 25 rfl).trans x25
          replace x63 := (A.old 63 rfl).trans x63
          replace x10 := f_at (A.old 10 rfl) (Fk.mono _ _ _ _ x10 hb)
          replace x11 := (A.old 11 rfl).trans x11
          have x84 : f9.eval (.tmp 84) = .bool false := A.has 14 84 rfl
          have lt_m7 := Ob.lt m7
          replace m7 := Ob.below m7 hb
          replace bl := (bl.trans (Below.mono hb bl.size))
          replace sz := A.size.trans sz
          replace df := A.defs.trans df
          clear A hb
          clear x10
          clear x11
          show Code.wp _ _ _ _ _
          refine wp_cond_false x84 ?_
          refine wp_skip ?_
          show Code.wp _ _ _ _ _
          refine wp_seq ?_
          refine wp_all_seq [.eq (.bool true), .eq (.bool true)] (by kernel_rfl) (by kernel_rfl) (by rw [sz]; kernel_rfl) (by kernel_rfl) ⟨fun hw ac u K => ?_, fun hw ac u K => ?_, trivial⟩ ?_
          · exact st_call 8 (.func 8) _ _ #[] rfl rfl rfl Tryd.enter8 (fk_of (awake_any _ (hK.below (bl.trans (Below.mono K.grow bl.size)))))
          · exact st_assign (.tmp 85) rfl (K.dep 0 85 rfl)
          intro f10 w10 A hb
          replace bl0 := bl
          replace x0 := (A.old 0 rfl).trans x0
          replace x1 := (A.old 1 rfl).trans x1
          replace x2 := (A.old 2 rfl).trans x2
          clear x6
          replace x14 := (A.old 14 rfl).trans x14
          replace x7 := (A.old 7 rfl).trans x7
          replace x25 := (A.old 25 rfl).trans x25
          replace x63 := (A.old 63 rfl).trans x63
          replace x84 := (A.old 84 rfl).trans x84
          have x6 : f10.eval (.tmp 6) = .bool true := A.has 1 6 rfl
          have lt_m7 := Ob.lt m7
          replace m7 := Ob.below m7 hb
          replace bl := (bl.trans (Below.mono hb bl.size))
          replace sz := A.size.trans sz
          replace df := A.defs.trans df
          clear A hb
          show Code.wp _ _ _ _ _
          refine wp_ret ?_
          repeat (first | with_reducible refine then_ret ?_ | with_reducible refine block_ret ?_)
          exact bodyPost_ret (v := .bool true) (ret_slot rfl f10 _ x6 _ _) df ⟨rfl, bl⟩
        obtain ⟨ym, eym⟩ : ∃ y, Box (mroot (l.take 0) = y) := ⟨_, ⟨rfl⟩⟩
        have hym : ym.length = 32 := by rw [← eym.out]; exact mroot_len (fun x hx => by simp at hx)
        have hym0 : ym = shaOf [] := by rw [← eym.out, List.take_zero, mroot_nil]
        have hor : 0 < l.length ∨ y = ym := by
          by_cases h0 : 0 < l.length
          · exact .inl h0
          · right
            rw [← ey.out, hym0, List.eq_nil_of_length_eq_zero (show l.length = 0 by omega), mroot_nil]
        subst hq0
        refine wp_all_seq [.eq (.int .i64 0), .eq (.bool true), .eq (.bool true), .eq (.int .i64 0), .eq (v), .eq (.int .i64 (((l).length : Nat) : Int)), .eq (.bool true), .eq (.bool true)] (by kernel_rfl) (by kernel_rfl) (by rw [sz]; kernel_rfl) (by kernel_rfl) ⟨fun hw ac u K => ?_, fun hw ac u K => ?_, fun hw ac u K => ?_, fun hw ac u K => ?_, fun hw ac u K => ?_, fun hw ac u K => ?_, fun hw ac u K => ?_, fun hw ac u K => ?_, trivial⟩ ?_
        · exact st_move (.tmp 2) rfl ((K.old 2 rfl).trans x2)
        · exact st_geq 3 (.tmp 56) (.const (.int .i64 0)) rfl .i64 (0) (0) (K.dep 0 56 rfl) rfl _ (by rfl)
        · exact st_move (.tmp 57) rfl (K.dep 1 57 rfl)
        · exact st_move (.tmp 2) rfl ((K.old 2 rfl).trans x2)
        · exact st_move (.tmp 0) rfl ((K.old 0 rfl).trans x0)
        · exact st_lenc (.tmp 60) rfl ((l).length) rfl (fk_val (K.dep 4 60 rfl) (Fk.mono _ _ _ _ hv (bl.trans (Below.mono K.grow bl.size))))
        · exact st_leq 3 (.tmp 59) (.tmp 61) rfl .i64 (0) ((((l).length : Nat) : Int)) (K.dep 3 59 rfl) (K.dep 5 61 rfl) _ (by rw [eq_comm, decide_eq_true_iff]; omega)
        · exact st_pick_t (.tmp 58) (.tmp 62) (.const (.bool false)) rfl (K.dep 2 58 rfl) (K.dep 6 62 rfl)
        intro f7 w7 A hb
        replace bl0 := bl
        replace x0 := (A.old 0 rfl).trans x0
        replace x1 := (A.old 1 rfl).trans x1
        replace x2 := (A.old 2 rfl).trans x2
        replace x6 := (A.old 6 rfl).trans x6
        replace x14 := (A.old 14 rfl).trans x14
        replace x7 := (A.old 7 rfl).trans x7
        replace x25 := (A.old 25 rfl).trans x25
        have x63 : f7.eval (.tmp 63) = .bool true := A.has 7 63 rfl
        have lt_m7 := Ob.lt m7
        replace m7 := Ob.below m7 hb
        replace bl := (bl.trans (Below.mono hb bl.size))
        replace sz := A.size.trans sz
        replace df := A.defs.trans df
        clear A hb
        show Code.wp _ _ _ _ _
        refine wp_cond_true x63 ?_
        refine wp_seq ?_
        refine wp_all_seq [.eq (v), .eq (.int .i64 0), .t2 (.hc ([])) (.int .i64 0), .t2 (.hc ([])) (.int .i64 0), .hc ([]), .eq (.int .i64 0), .hc ([]), .eq (.int .i64 0)] (by kernel_rfl) (by kernel_rfl) (by rw [sz]; kernel_rfl) (by kernel_rfl) ⟨fun hw ac u K => ?_, fun hw ac u K => ?_, fun hw ac u K => ?_, fun hw ac u K => ?_, fun hw ac u K => ?_, fun hw ac u K => ?_, fun hw ac u K => ?_, fun hw ac u K => ?_, trivial⟩ ?_
        · exact st_move (.tmp 0) rfl ((K.old 0 rfl).trans x0)
        · exact st_move (.tmp 2) rfl ((K.old 2 rfl).trans x2)
        · exact st_call 20 (.func 20) _ _ #[v, .int .i64 0] rfl rfl (arg2 (K.dep 0 65 rfl) (K.dep 1 66 rfl)) Tryd.enter20 (fk_proofz (Fk.mono _ _ _ _ hv (bl.trans (Below.mono K.grow bl.size))))
        · exact st_move (.tmp 67) rfl (K.dep 2 67 rfl)
        · exact st_t2a (.tmp 64) rfl (K.dep 3 64 rfl)
        · exact st_t2b (.tmp 64) rfl (K.dep 3 64 rfl)
        · exact st_assign (.tmp 68) rfl (K.dep 4 68 rfl)
        · exact st_assign (.tmp 69) rfl (K.dep 5 69 rfl)
        intro f8 w8 A hb
        replace bl0 := bl
        replace x0 := (A.old 0 rfl).trans x0
        replace x1 := (A.old 1 rfl).trans x1
        replace x2 := (A.old 2 rfl).trans x2
        replace x6 := (A.old 6 rfl).trans x6
        replace x14 := (A.old 14 rfl).trans x14
        replace x7 := (A.old 7 rfl).trans x7
        replace x25 := (A.old 25 rfl).trans x25
        replace x63 := (A.old 63 rfl).trans x63
        have x10 : Fk.f (.hc ([])) (f8.eval (.tmp 10)) w8 := A.has 6 10 rfl
        have x11 : f8.eval (.tmp 11) = .int .i64 0 := A.has 7 11 rfl
        have lt_m7 := Ob.lt m7
        replace m7 := Ob.below m7 hb
        replace bl := (bl.trans (Below.mono hb bl.size))
        replace sz := A.size.trans sz
        replace df := A.defs.trans df
        clear A hb
        show Code.wp _ _ _ _ _
        refine wp_seq ?_
        refine wp_all [.eq (.int .i64 0), .eq (.bool false), .eq (.bool false), .eq (.int .i64 0), .eq (v), .eq (.int .i64 (((l).length : Nat) : Int)), .eq (v), .eq (.int .i64 0), .hc ((l).take 0), .eq (.agg ((ym).map V).toArray), .eq (.agg ((y).map V).toArray), .hc ([]), .eq (.int .i64 0), .eq (.bool false), .eq (.bool false)] Tryd.mixed (by kernel_rfl) (by kernel_rfl) (by rw [sz]; kernel_rfl) (by kernel_rfl) ⟨fun hw ac u K => ?_, fun hw ac u K => ?_, fun hw ac u K => ?_, fun hw ac u K => ?_, fun hw ac u K => ?_, fun hw ac u K => ?_, fun hw ac u K => ?_, fun hw ac u K => ?_, fun hw ac u K => ?_, fun hw ac u K => ?_, fun hw ac u K => ?_, fun hw ac u K => ?_, fun hw ac u K => ?_, fun hw ac u K => ?_, fun hw ac u K => ?_, trivial⟩ ?_
        · exact st_move (.tmp 11) rfl ((K.old 11 rfl).trans x11)
        · exact st_neqi 28 (.tmp 70) (.const (.int .i64 0)) rfl .i64 (0) (0) (K.dep 0 70 rfl) rfl _ (by rfl)
        · exact st_move (.tmp 71) rfl (K.dep 1 71 rfl)
        · exact st_move (.tmp 2) rfl ((K.old 2 rfl).trans x2)
        · exact st_move (.tmp 0) rfl ((K.old 0 rfl).trans x0)
        · exact st_lenc (.tmp 74) rfl ((l).length) rfl (fk_val (K.dep 4 74 rfl) (Fk.mono _ _ _ _ hv (bl.trans (Below.mono K.grow bl.size))))
        · exact st_move (.tmp 0) rfl ((K.old 0 rfl).trans x0)
        · exact st_move (.tmp 2) rfl ((K.old 2 rfl).trans x2)
        · exact st_cuth (.tmp 76) (.tmp 77) rfl (fk_val (K.dep 6 76 rfl) (Fk.mono _ _ _ _ hv (bl.trans (Below.mono K.grow bl.size)))) 0 (K.dep 7 77 rfl) (Nat.zero_le _)
        · exact st_call 18 (.func 18) _ _ #[ac.eval (.tmp 78)] rfl rfl (one_arg rfl) Tryd.enter18 (fk_of (root_any (l.take 0) _ _ (by simp) (K.dep 8 78 rfl) (hK.below (bl.trans (Below.mono K.grow bl.size))) eym))
        · exact st_load23 (.tmp 7) rfl (g7) (y) ((K.old 7 rfl).trans x7) hy (Ob.below m7 K.grow)
        · exact st_move (.tmp 10) rfl (f_at (K.old 10 rfl) (Fk.mono _ _ _ _ x10 K.grow))
        · exact st_call 15 (.func 15) _ _ #[.int .i64 0, .int .i64 (((l).length : Nat) : Int), .agg ((ym).map V).toArray, .agg ((y).map V).toArray, ac.eval (.tmp 81)] rfl rfl (arg5 (K.dep 3 73 rfl) (K.dep 5 75 rfl) (K.dep 9 79 rfl) (K.dep 10 80 rfl) rfl) Tryd.enter15 (fk_on_zero hym hy (by omega) (K.dep 11 81 rfl) (by simp) (hK.below (bl.trans (Below.mono K.grow bl.size))) 0 (by rw [if_pos ⟨hym0, rfl, hor⟩]))
        · exact st_neqi 28 (.tmp 82) (.const (.int .i64 0)) rfl .i64 (0) (0) (K.dep 12 82 rfl) rfl _ (by rfl)
        · exact st_pick_f' (.tmp 72) (.const (.bool true)) (.tmp 83) rfl (K.dep 2 72 rfl) (K.dep 13 83 rfl)
        intro f9 w9 A hb
        replace bl0 := bl
        replace x0 := (A.old 0 rfl).trans x0
        replace x1 := (A.old 1 rfl).trans x1
        replace x2 := (A.old 2 rfl).trans x2
        replace x6 := (A.old 6 rfl).trans x6
        replace x14 := (A.old 14 rfl).trans x14
        replace x7 := (A.old 7 rfl).trans x7
        replace x25 := (A.old 25 rfl).trans x25
        replace x63 := (A.old 63 rfl).trans x63
        replace x10 := f_at (A.old 10 rfl) (Fk.mono _ _ _ _ x10 hb)
        replace x11 := (A.old 11 rfl).trans x11
        have x84 : f9.eval (.tmp 84) = .bool false := A.has 14 84 rfl
        have lt_m7 := Ob.lt m7
        replace m7 := Ob.below m7 hb
        replace bl := (bl.trans (Below.mono hb bl.size))
        replace sz := A.size.trans sz
        replace df := A.defs.trans df
        clear A hb
        clear x10
        clear x11
        show Code.wp _ _ _ _ _
        refine wp_cond_false x84 ?_
        refine wp_skip ?_
        show Code.wp _ _ _ _ _
        refine wp_seq ?_
        refine wp_all_seq [.eq (.bool true), .eq (.bool true)] (by kernel_rfl) (by kernel_rfl) (by rw [sz]; kernel_rfl) (by kernel_rfl) ⟨fun hw ac u K => ?_, fun hw ac u K => ?_, trivial⟩ ?_
        · exact st_call 8 (.func 8) _ _ #[] rfl rfl rfl Tryd.enter8 (fk_of (awake_any _ (hK.below (bl.trans (Below.mono K.grow bl.size)))))
        · exact st_assign (.tmp 85) rfl (K.dep 0 85 rfl)
        intro f10 w10 A hb
        replace bl0 := bl
        replace x0 := (A.old 0 rfl).trans x0
        replace x1 := (A.old 1 rfl).trans x1
        replace x2 := (A.old 2 rfl).trans x2
        clear x6
        replace x14 := (A.old 14 rfl).trans x14
        replace x7 := (A.old 7 rfl).trans x7
        replace x25 := (A.old 25 rfl).trans x25
        replace x63 := (A.old 63 rfl).trans x63
        replace x84 := (A.old 84 rfl).trans x84
        have x6 : f10.eval (.tmp 6) = .bool true := A.has 1 6 rfl
        have lt_m7 := Ob.lt m7
        replace m7 := Ob.below m7 hb
        replace bl := (bl.trans (Below.mono hb bl.size))
        replace sz := A.size.trans sz
        replace df := A.defs.trans df
        clear A hb
        show Code.wp _ _ _ _ _
        refine wp_ret ?_
        repeat (first | with_reducible refine then_ret ?_ | with_reducible refine block_ret ?_)
        exact bodyPost_ret (v := .bool true) (ret_slot rfl f10 _ x6 _ _) df ⟨rfl, bl⟩
      refine wp_all_seq [.eq (.int .i64 (z)), .eq (.bool true), .eq (.bool true), .eq (.int .i64 (z)), .eq (v), .eq (.int .i64 (((l).length : Nat) : Int)), .eq (.bool false), .eq (.bool false)] (by kernel_rfl) (by kernel_rfl) (by rw [sz]; kernel_rfl) (by kernel_rfl) ⟨fun hw ac u K => ?_, fun hw ac u K => ?_, fun hw ac u K => ?_, fun hw ac u K => ?_, fun hw ac u K => ?_, fun hw ac u K => ?_, fun hw ac u K => ?_, fun hw ac u K => ?_, trivial⟩ ?_
      · exact st_move (.tmp 1) rfl ((K.old 1 rfl).trans x1)
      · exact st_geq 3 (.tmp 18) (.const (.int .i64 0)) rfl .i64 ((z)) (0) (K.dep 0 18 rfl) rfl _ (by rw [eq_comm, decide_eq_true_iff]; omega)
      · exact st_move (.tmp 19) rfl (K.dep 1 19 rfl)
      · exact st_move (.tmp 1) rfl ((K.old 1 rfl).trans x1)
      · exact st_move (.tmp 0) rfl ((K.old 0 rfl).trans x0)
      · exact st_lenc (.tmp 22) rfl ((l).length) rfl (fk_val (K.dep 4 22 rfl) (Fk.mono _ _ _ _ hv (bl.trans (Below.mono K.grow bl.size))))
      · exact st_lss 3 (.tmp 21) (.tmp 23) rfl .i64 ((z)) ((((l).length : Nat) : Int)) (K.dep 3 21 rfl) (K.dep 5 23 rfl) _ (by rw [eq_comm, decide_eq_false_iff_not]; omega)
      · exact st_pick_t (.tmp 20) (.tmp 24) (.const (.bool false)) rfl (K.dep 2 20 rfl) (K.dep 6 24 rfl)
      intro f6 w6 A hb
      replace bl0 := bl
      replace x0 := (A.old 0 rfl).trans x0
      replace x1 := (A.old 1 rfl).trans x1
      replace x2 := (A.old 2 rfl).trans x2
      replace x6 := (A.old 6 rfl).trans x6
      replace x14 := (A.old 14 rfl).trans x14
      replace x7 := (A.old 7 rfl).trans x7
      have x25 : f6.eval (.tmp 25) = .bool false := A.has 7 25 rfl
      have lt_m7 := Ob.lt m7
      replace m7 := Ob.below m7 hb
      replace bl := (bl.trans (Below.mono hb bl.size))
      replace sz := A.size.trans sz
      replace df := A.defs.trans df
      clear A hb
      show Code.wp _ _ _ _ _
      refine wp_cond_false x25 ?_
      refine wp_skip ?_
      show Code.wp _ _ _ _ _
      refine wp_seq ?_
      refine wp_seq ?_
      by_cases hq : 0 ≤ q ∧ q ≤ (l.length : Int)
      rotate_left
      · skip
        by_cases hq0 : 0 ≤ q
        rotate_left
        · skip
          refine wp_all_seq [.eq (.int .i64 (q)), .eq (.bool false), .eq (.bool false), .any, .any, .any, .any, .eq (.bool false)] (by kernel_rfl) (by kernel_rfl) (by rw [sz]; kernel_rfl) (by kernel_rfl) ⟨fun hw ac u K => ?_, fun hw ac u K => ?_, fun hw ac u K => ?_, fun hw ac u K => ?_, fun hw ac u K => ?_, fun hw ac u K => ?_, fun hw ac u K => ?_, fun hw ac u K => ?_, trivial⟩ ?_
          · exact st_move (.tmp 2) rfl ((K.old 2 rfl).trans x2)
          · exact st_geq 3 (.tmp 56) (.const (.int .i64 0)) rfl .i64 ((q)) (0) (K.dep 0 56 rfl) rfl _ (by rw [eq_comm, decide_eq_false_iff_not]; omega)
          · exact st_move (.tmp 57) rfl (K.dep 1 57 rfl)
          · exact (Bool.false_ne_true hw).elim
          · exact (Bool.false_ne_true hw).elim
          · exact (Bool.false_ne_true hw).elim
          · exact (Bool.false_ne_true hw).elim
          · exact st_pick_f' (.tmp 58) (.tmp 62) (.const (.bool false)) rfl (K.dep 2 58 rfl) rfl
          intro f7 w7 A hb
          replace bl0 := bl
          replace x0 := (A.old 0 rfl).trans x0
          replace x1 := (A.old 1 rfl).trans x1
          replace x2 := (A.old 2 rfl).trans x2
          replace x6 := (A.old 6 rfl).trans x6
          replace x14 := (A.old 14 rfl).trans x14
          replace x7 := (A.old 7 rfl).trans x7
          replace x25 := (A.old 25 rfl).trans x25
          have x63 : f7.eval (.tmp 63) = .bool false := A.has 7 63 rfl
          have lt_m7 := Ob.lt m7
          replace m7 := Ob.below m7 hb
          replace bl := (bl.trans (Below.mono hb bl.size))
          replace sz := A.size.trans sz
          replace df := A.defs.trans df
          clear A hb
          show Code.wp _ _ _ _ _
          refine wp_cond_false x63 ?_
          refine wp_skip ?_
          show Code.wp _ _ _ _ _
          refine wp_seq ?_
          refine wp_all_seq [.eq (.bool true), .eq (.bool true)] (by kernel_rfl) (by kernel_rfl) (by rw [sz]; kernel_rfl) (by kernel_rfl) ⟨fun hw ac u K => ?_, fun hw ac u K => ?_, trivial⟩ ?_
          · exact st_call 8 (.func 8) _ _ #[] rfl rfl rfl Tryd.enter8 (fk_of (awake_any _ (hK.below (bl.trans (Below.mono K.grow bl.size)))))
          · exact st_assign (.tmp 85) rfl (K.dep 0 85 rfl)
          intro f8 w8 A hb
          replace bl0 := bl
          replace x0 := (A.old 0 rfl).trans x0
          replace x1 := (A.old 1 rfl).trans x1
          replace x2 := (A.old 2 rfl).trans x2
          clear x6
          replace x14 := (A.old 14 rfl).trans x14
          replace x7 := (A.old 7 rfl).trans x7
          replace x25 := (A.old 25 rfl).trans x25
          replace x63 := (A.old 63 rfl).trans x63
          have x6 : f8.eval (.tmp 6) = .bool true := A.has 1 6 rfl
          have lt_m7 := Ob.lt m7
          replace m7 := Ob.below m7 hb
          replace bl := (bl.trans (Below.mono hb bl.size))
          replace sz := A.size.trans sz
          replace df := A.defs.trans df
          clear A hb
          show Code.wp _ _ _ _ _
          refine wp_ret ?_
          repeat (first | with_reducible refine then_ret ?_ | with_reducible refine block_ret ?_)
          exact bodyPost_ret (v := .bool true) (ret_slot rfl f8 _ x6 _ _) df ⟨rfl, bl⟩
        refine wp_all_seq [.eq (.int .i64 (q)), .eq (.bool true), .eq (.bool true), .eq (.int .i64 (q)), .eq (v), .eq (.int .i64 (((l).length : Nat) : Int)), .eq (.bool false), .eq (.bool false)] (by kernel_rfl) (by kernel_rfl) (by rw [sz]; kernel_rfl) (by kernel_rfl) ⟨fun hw ac u K => ?_, fun hw ac u K => ?_, fun hw ac u K => ?_, fun hw ac u K => ?_, fun hw ac u K => ?_, fun hw ac u K => ?_, fun hw ac u K => ?_, fun hw ac u K => ?_, trivial⟩ ?_
        · exact st_move (.tmp 2) rfl ((K.old 2 rfl).trans x2)
        · exact st_geq 3 (.tmp 56) (.const (.int .i64 0)) rfl .i64 ((q)) (0) (K.dep 0 56 rfl) rfl _ (by rw [eq_comm, decide_eq_true_iff]; omega)
        · exact st_move (.tmp 57) rfl (K.dep 1 57 rfl)
        · exact st_move (.tmp 2) rfl ((K.old 2 rfl).trans x2)
        · exact st_move (.tmp 0) rfl ((K.old 0 rfl).trans x0)
        · exact st_lenc (.tmp 60) rfl ((l).length) rfl (fk_val (K.dep 4 60 rfl) (Fk.mono _ _ _ _ hv (bl.trans (Below.mono K.grow bl.size))))
        · exact st_leq 3 (.tmp 59) (.tmp 61) rfl .i64 ((q)) ((((l).length : Nat) : Int)) (K.dep 3 59 rfl) (K.dep 5 61 rfl) _ (by rw [eq_comm, decide_eq_false_iff_not]; omega)
        · exact st_pick_t (.tmp 58) (.tmp 62) (.const (.bool false)) rfl (K.dep 2 58 rfl) (K.dep 6 62 rfl)
        intro f7 w7 A hb
        replace bl0 := bl
        replace x0 := (A.old 0 rfl).trans x0
        replace x1 := (A.old 1 rfl).trans x1
        replace x2 := (A.old 2 rfl).trans x2
        replace x6 := (A.old 6 rfl).trans x6
        replace x14 := (A.old 14 rfl).trans x14
        replace x7 := (A.old 7 rfl).trans x7
        replace x25 := (A.old 25 rfl).trans x25
        have x63 : f7.eval (.tmp 63) = .bool false := A.has 7 63 rfl
        have lt_m7 := Ob.lt m7
        replace m7 := Ob.below m7 hb
        replace bl := (bl.trans (Below.mono hb bl.size))
        replace sz := A.size.trans sz
        replace df := A.defs.trans df
        clear A hb
        show Code.wp _ _ _ _ _
        refine wp_cond_false x63 ?_
        refine wp_skip ?_
        show Code.wp _ _ _ _ _
        refine wp_seq ?_
        refine wp_all_seq [.eq (.bool true), .eq (.bool true)] (by kernel_rfl) (by kernel_rfl) (by rw [sz]; kernel_rfl) (by kernel_rfl) ⟨fun hw ac u K => ?_, fun hw ac u K => ?_, trivial⟩ ?_
        · exact st_call 8 (.func 8) _ _ #[] rfl rfl rfl Tryd.enter8 (fk_of (awake_any _ (hK.below (bl.trans (Below.mono K.grow bl.size)))))
        · exact st_assign (.tmp 85) rfl (K.dep 0 85 rfl)
        intro f8 w8 A hb
        replace bl0 := bl
        replace x0 := (A.old 0 rfl).trans x0
        replace x1 := (A.old 1 rfl).trans x1
        replace x2 := (A.old 2 rfl).trans x2
        clear x6
        replace x14 := (A.old 14 rfl).trans x14
        replace x7 := (A.old 7 rfl).trans x7
        replace x25 := (A.old 25 rfl).trans x25
        replace x63 := (A.old 63 rfl).trans x63
        have x6 : f8.eval (.tmp 6) = .bool true := A.has 1 6 rfl
        have lt_m7 := Ob.lt m7
        replace m7 := Ob.below m7 hb
        replace bl := (bl.trans (Below.mono hb bl.size))
        replace sz := A.size.trans sz
        replace df := A.defs.trans df
        clear A hb
        show Code.wp _ _ _ _ _
        refine wp_ret ?_
        repeat (first | with_reducible refine then_ret ?_ | with_reducible refine block_ret ?_)
        exact bodyPost_ret (v := .bool true) (ret_slot rfl f8 _ x6 _ _) df ⟨rfl, bl⟩
      by_cases hq0 : q = 0
      rotate_left
      · skip
        obtain ⟨m, rfl⟩ := Int.eq_ofNat_of_zero_le hq.1
        have hm1 : 1 ≤ m := by omega
        have hm2 : m ≤ l.length := by omega
        obtain ⟨ym, eym⟩ : ∃ y, Box (mroot (l.take m) = y) := ⟨_, ⟨rfl⟩⟩
        have hym : ym.length = 32 := by rw [← eym.out]; exact mroot_len (fun x hx => hc_len hv x (List.mem_of_mem_take hx))
        obtain ⟨S2, eS2⟩ : ∃ S, Box (msub l m true = S) := ⟨_, ⟨rfl⟩⟩
        have hbr := bres_sub hm1 hm2
        rw [eym.out, eS2.out, ey.out] at hbr
        have hS2l := msub_len _ l m true rfl
        rw [eS2.out] at hS2l
        refine wp_all_seq [.eq (.int .i64 ((m : Nat) : Int)), .eq (.bool true), .eq (.bool true), .eq (.int .i64 ((m : Nat) : Int)), .eq (v), .eq (.int .i64 (((l).length : Nat) : Int)), .eq (.bool true), .eq (.bool true)] (by kernel_rfl) (by kernel_rfl) (by rw [sz]; kernel_rfl) (by kernel_rfl) ⟨fun hw ac u K => ?_, fun hw ac u K => ?_, fun hw ac u K => ?_, fun hw ac u K => ?_, fun hw ac u K => ?_, fun hw ac u K => ?_, fun hw ac u K => ?_, fun hw ac u K => ?_, trivial⟩ ?_
        · exact st_move (.tmp 2) rfl ((K.old 2 rfl).trans x2)
        · exact st_geq 3 (.tmp 56) (.const (.int .i64 0)) rfl .i64 (((m : Nat) : Int)) (0) (K.dep 0 56 rfl) rfl _ (by rw [eq_comm, decide_eq_true_iff]; omega)
        · exact st_move (.tmp 57) rfl (K.dep 1 57 rfl)
        · exact st_move (.tmp 2) rfl ((K.old 2 rfl).trans x2)
        · exact st_move (.tmp 0) rfl ((K.old 0 rfl).trans x0)
        · exact st_lenc (.tmp 60) rfl ((l).length) rfl (fk_val (K.dep 4 60 rfl) (Fk.mono _ _ _ _ hv (bl.trans (Below.mono K.grow bl.size))))
        · exact st_leq 3 (.tmp 59) (.tmp 61) rfl .i64 (((m : Nat) : Int)) ((((l).length : Nat) : Int)) (K.dep 3 59 rfl) (K.dep 5 61 rfl) _ (by rw [eq_comm, decide_eq_true_iff]; omega)
        · exact st_pick_t (.tmp 58) (.tmp 62) (.const (.bool false)) rfl (K.dep 2 58 rfl) (K.dep 6 62 rfl)
        intro f7 w7 A hb
        replace bl0 := bl
        replace x0 := (A.old 0 rfl).trans x0
        replace x1 := (A.old 1 rfl).trans x1
        replace x2 := (A.old 2 rfl).trans x2
        replace x6 := (A.old 6 rfl).trans x6
        replace x14 := (A.old 14 rfl).trans x14
        replace x7 := (A.old 7 rfl).trans x7
        replace x25 := (A.old 25 rfl).trans x25
        have x63 : f7.eval (.tmp 63) = .bool true := A.has 7 63 rfl
        have lt_m7 := Ob.lt m7
        replace m7 := Ob.below m7 hb
        replace bl := (bl.trans (Below.mono hb bl.size))
        replace sz := A.size.trans sz
        replace df := A.defs.trans df
        clear A hb
        show Code.wp _ _ _ _ _
        refine wp_cond_true x63 ?_
        refine wp_seq ?_
        refine wp_all_seq [.eq (v), .eq (.int .i64 ((m : Nat) : Int)), .t2 (.hc (S2)) (.int .i64 0), .t2 (.hc (S2)) (.int .i64 0), .hc (S2), .eq (.int .i64 0), .hc (S2), .eq (.int .i64 0)] (by kernel_rfl) (by kernel_rfl) (by rw [sz]; kernel_rfl) (by kernel_rfl) ⟨fun hw ac u K => ?_, fun hw ac u K => ?_, fun hw ac u K => ?_, fun hw ac u K => ?_, fun hw ac u K => ?_, fun hw ac u K => ?_, fun hw ac u K => ?_, fun hw ac u K => ?_, trivial⟩ ?_
        · exact st_move (.tmp 0) rfl ((K.old 0 rfl).trans x0)
        · exact st_move (.tmp 2) rfl ((K.old 2 rfl).trans x2)
        · exact st_call 20 (.func 20) _ _ #[v, .int .i64 ((m : Nat) : Int)] rfl rfl (arg2 (K.dep 0 65 rfl) (K.dep 1 66 rfl)) Tryd.enter20 (fk_proofc hm1 hm2 (by omega) (Fk.mono _ _ _ _ hv (bl.trans (Below.mono K.grow bl.size))) (hK.below (bl.trans (Below.mono K.grow bl.size))) eS2)
        · exact st_move (.tmp 67) rfl (K.dep 2 67 rfl)
        · exact st_t2a (.tmp 64) rfl (K.dep 3 64 rfl)
        · exact st_t2b (.tmp 64) rfl (K.dep 3 64 rfl)
        · exact st_assign (.tmp 68) rfl (K.dep 4 68 rfl)
        · exact st_assign (.tmp 69) rfl (K.dep 5 69 rfl)
        intro f8 w8 A hb
        replace bl0 := bl
        replace x0 := (A.old 0 rfl).trans x0
        replace x1 := (A.old 1 rfl).trans x1
        replace x2 := (A.old 2 rfl).trans x2
        replace x6 := (A.old 6 rfl).trans x6
        replace x14 := (A.old 14 rfl).trans x14
        replace x7 := (A.old 7 rfl).trans x7
        replace x25 := (A.old 25 rfl).trans x25
        replace x63 := (A.old 63 rfl).trans x63
        have x10 : Fk.f (.hc (S2)) (f8.eval (.tmp 10)) w8 := A.has 6 10 rfl
        have x11 : f8.eval (.tmp 11) = .int .i64 0 := A.has 7 11 rfl
        have lt_m7 := Ob.lt m7
        replace m7 := Ob.below m7 hb
        replace bl := (bl.trans (Below.mono hb bl.size))
        replace sz := A.size.trans sz
        replace df := A.defs.trans df
        clear A hb
        show Code.wp _ _ _ _ _
        refine wp_seq ?_
        refine wp_all [.eq (.int .i64 0), .eq (.bool false), .eq (.bool false), .eq (.int .i64 ((m : Nat) : Int)), .eq (v), .eq (.int .i64 (((l).length : Nat) : Int)), .eq (v), .eq (.int .i64 ((m : Nat) : Int)), .hc ((l).take (m)), .eq (.agg ((ym).map V).toArray), .eq (.agg ((y).map V).toArray), .hc (S2), .eq (.int .i64 0), .eq (.bool false), .eq (.bool false)] Tryd.mixed (by kernel_rfl) (by kernel_rfl) (by rw [sz]; kernel_rfl) (by kernel_rfl) ⟨fun hw ac u K => ?_, fun hw ac u K => ?_, fun hw ac u K => ?_, fun hw ac u K => ?_, fun hw ac u K => ?_, fun hw ac u K => ?_, fun hw ac u K => ?_, fun hw ac u K => ?_, fun hw ac u K => ?_, fun hw ac u K => ?_, fun hw ac u K => ?_, fun hw ac u K => ?_, fun hw ac u K => ?_, fun hw ac u K => ?_, fun hw ac u K => ?_, trivial⟩ ?_
        · exact st_move (.tmp 11) rfl ((K.old 11 rfl).trans x11)
        · exact st_neqi 28 (.tmp 70) (.const (.int .i64 0)) rfl .i64 (0) (0) (K.dep 0 70 rfl) rfl _ (by rfl)
        · exact st_move (.tmp 71) rfl (K.dep 1 71 rfl)
        · exact st_move (.tmp 2) rfl ((K.old 2 rfl).trans x2)
        · exact st_move (.tmp 0) rfl ((K.old 0 rfl).trans x0)
        · exact st_lenc (.tmp 74) rfl ((l).length) rfl (fk_val (K.dep 4 74 rfl) (Fk.mono _ _ _ _ hv (bl.trans (Below.mono K.grow bl.size))))
        · exact st_move (.tmp 0) rfl ((K.old 0 rfl).trans x0)
        · exact st_move (.tmp 2) rfl ((K.old 2 rfl).trans x2)
        · exact st_cuth (.tmp 76) (.tmp 77) rfl (fk_val (K.dep 6 76 rfl) (Fk.mono _ _ _ _ hv (bl.trans (Below.mono K.grow bl.size)))) (m) (K.dep 7 77 rfl) (by omega)
        · exact st_call 18 (.func 18) _ _ #[ac.eval (.tmp 78)] rfl rfl (one_arg rfl) Tryd.enter18 (fk_of (root_any (l.take m) _ _ (by rw [List.length_take]; omega) (K.dep 8 78 rfl) (hK.below (bl.trans (Below.mono K.grow bl.size))) eym))
        · exact st_load23 (.tmp 7) rfl (g7) (y) ((K.old 7 rfl).trans x7) hy (Ob.below m7 K.grow)
        · exact st_move (.tmp 10) rfl (f_at (K.old 10 rfl) (Fk.mono _ _ _ _ x10 K.grow))
        · exact st_call 15 (.func 15) _ _ #[.int .i64 ((m : Nat) : Int), .int .i64 (((l).length : Nat) : Int), .agg ((ym).map V).toArray, .agg ((y).map V).toArray, ac.eval (.tmp 81)] rfl rfl (arg5 (K.dep 3 73 rfl) (K.dep 5 75 rfl) (K.dep 9 79 rfl) (K.dep 10 80 rfl) rfl) Tryd.enter15 (fk_on_any hym hy hm1 hm2 (by omega) (K.dep 11 81 rfl) (by omega) (hK.below (bl.trans (Below.mono K.grow bl.size))) 0 (by rw [if_pos hbr]))
        · exact st_neqi 28 (.tmp 82) (.const (.int .i64 0)) rfl .i64 (0) (0) (K.dep 12 82 rfl) rfl _ (by rfl)
        · exact st_pick_f' (.tmp 72) (.const (.bool true)) (.tmp 83) rfl (K.dep 2 72 rfl) (K.dep 13 83 rfl)
        intro f9 w9 A hb
        replace bl0 := bl
        replace x0 := (A.old 0 rfl).trans x0
        replace x1 := (A.old 1 rfl).trans x1
        replace x2 := (A.old 2 rfl).trans x2
        replace x6 := (A.old 6 rfl).trans x6
        replace x14 := (A.old 14 rfl).trans x14
        replace x7 := (A.old 7 rfl).trans x7
        replace x25 := (A.old 25 rfl).trans x25
        replace x63 := (A.old 63 rfl).trans x63
        replace x10 := f_at (A.old 10 rfl) (Fk.mono _ _ _ _ x10 hb)
        replace x11 := (A.old 11 rfl).trans x11
        have x84 : f9.eval (.tmp 84) = .bool false := A.has 14 84 rfl
        have lt_m7 := Ob.lt m7
        replace m7 := Ob.below m7 hb
        replace bl := (bl.trans (Below.mono hb bl.size))
        replace sz := A.size.trans sz
        replace df := A.defs.trans df
        clear A hb
        clear x10
        clear x11
        show Code.wp _ _ _ _ _
        refine wp_cond_false x84 ?_
        refine wp_skip ?_
        show Code.wp _ _ _ _ _
        refine wp_seq ?_
        refine wp_all_seq [.eq (.bool true), .eq (.bool true)] (by kernel_rfl) (by kernel_rfl) (by rw [sz]; kernel_rfl) (by kernel_rfl) ⟨fun hw ac u K => ?_, fun hw ac u K => ?_, trivial⟩ ?_
        · exact st_call 8 (.func 8) _ _ #[] rfl rfl rfl Tryd.enter8 (fk_of (awake_any _ (hK.below (bl.trans (Below.mono K.grow bl.size)))))
        · exact st_assign (.tmp 85) rfl (K.dep 0 85 rfl)
        intro f10 w10 A hb
        replace bl0 := bl
        replace x0 := (A.old 0 rfl).trans x0
        replace x1 := (A.old 1 rfl).trans x1
        replace x2 := (A.old 2 rfl).trans x2
        clear x6
        replace x14 := (A.old 14 rfl).trans x14
        replace x7 := (A.old 7 rfl).trans x7
        replace x25 := (A.old 25 rfl).trans x25
        replace x63 := (A.old 63 rfl).trans x63
        replace x84 := (A.old 84 rfl).trans x84
        have x6 : f10.eval (.tmp 6) = .bool true := A.has 1 6 rfl
        have lt_m7 := Ob.lt m7
        replace m7 := Ob.below m7 hb
        replace bl := (bl.trans (Below.mono hb bl.size))
        replace sz := A.size.trans sz
        replace df := A.defs.trans df
        clear A hb
        show Code.wp _ _ _ _ _
        refine wp_ret ?_
        repeat (first | with_reducible refine then_ret ?_ | with_reducible refine block_ret ?_)
        exact bodyPost_ret (v := .bool true) (ret_slot rfl f10 _ x6 _ _) df ⟨rfl, bl⟩
      obtain ⟨ym, eym⟩ : ∃ y, Box (mroot (l.take 0) = y) := ⟨_, ⟨rfl⟩⟩
      have hym : ym.length = 32 := by rw [← eym.out]; exact mroot_len (fun x hx => by simp at hx)
      have hym0 : ym = shaOf [] := by rw [← eym.out, List.take_zero, mroot_nil]
      have hor : 0 < l.length ∨ y = ym := by
        by_cases h0 : 0 < l.length
        · exact .inl h0
        · right
          rw [← ey.out, hym0, List.eq_nil_of_length_eq_zero (show l.length = 0 by omega), mroot_nil]
      subst hq0
      refine wp_all_seq [.eq (.int .i64 0), .eq (.bool true), .eq (.bool true), .eq (.int .i64 0), .eq (v), .eq (.int .i64 (((l).length : Nat) : Int)), .eq (.bool true), .eq (.bool true)] (by kernel_rfl) (by kernel_rfl) (by rw [sz]; kernel_rfl) (by kernel_rfl) ⟨fun hw ac u K => ?_, fun hw ac u K => ?_, fun hw ac u K => ?_, fun hw ac u K => ?_, fun hw ac u K => ?_, fun hw ac u K => ?_, fun hw ac u K => ?_, fun hw ac u K => ?_, trivial⟩ ?_
      · exact st_move (.tmp 2) rfl ((K.old 2 rfl).trans x2)
      · exact st_geq 3 (.tmp 56) (.const (.int .i64 0)) rfl .i64 (0) (0) (K.dep 0 56 rfl) rfl _ (by rfl)
      · exact st_move (.tmp 57) rfl (K.dep 1 57 rfl)
      · exact st_move (.tmp 2) rfl ((K.old 2 rfl).trans x2)
      · exact st_move (.tmp 0) rfl ((K.old 0 rfl).trans x0)
      · exact st_lenc (.tmp 60) rfl ((l).length) rfl (fk_val (K.dep 4 60 rfl) (Fk.mono _ _ _ _ hv (bl.trans (Below.mono K.grow bl.size))))
      · exact st_leq 3 (.tmp 59) (.tmp 61) rfl .i64 (0) ((((l).length : Nat) : Int)) (K.dep 3 59 rfl) (K.dep 5 61 rfl) _ (by rw [eq_comm, decide_eq_true_iff]; omega)
      · exact st_pick_t (.tmp 58) (.tmp 62) (.const (.bool false)) rfl (K.dep 2 58 rfl) (K.dep 6 62 rfl)
      intro f7 w7 A hb
      replace bl0 := bl
      replace x0 := (A.old 0 rfl).trans x0
      replace x1 := (A.old 1 rfl).trans x1
      replace x2 := (A.old 2 rfl).trans x2
      replace x6 := (A.old 6 rfl).trans x6
      replace x14 := (A.old 14 rfl).trans x14
      replace x7 := (A.old 7 rfl).trans x7
      replace x25 := (A.old 25 rfl).trans x25
      have x63 : f7.eval (.tmp 63) = .bool true := A.has 7 63 rfl
      have lt_m7 := Ob.lt m7
      replace m7 := Ob.below m7 hb
      replace bl := (bl.trans (Below.mono hb bl.size))
      replace sz := A.size.trans sz
      replace df := A.defs.trans df
      clear A hb
      show Code.wp _ _ _ _ _
      refine wp_cond_true x63 ?_
      refine wp_seq ?_
      refine wp_all_seq [.eq (v), .eq (.int .i64 0), .t2 (.hc ([])) (.int .i64 0), .t2 (.hc ([])) (.int .i64 0), .hc ([]), .eq (.int .i64 0), .hc ([]), .eq (.int .i64 0)] (by kernel_rfl) (by kernel_rfl) (by rw [sz]; kernel_rfl) (by kernel_rfl) ⟨fun hw ac u K => ?_, fun hw ac u K => ?_, fun hw ac u K => ?_, fun hw ac u K => ?_, fun hw ac u K => ?_, fun hw ac u K => ?_, fun hw ac u K => ?_, fun hw ac u K => ?_, trivial⟩ ?_
      · exact st_move (.tmp 0) rfl ((K.old 0 rfl).trans x0)
      · exact st_move (.tmp 2) rfl ((K.old 2 rfl).trans x2)
      · exact st_call 20 (.func 20) _ _ #[v, .int .i64 0] rfl rfl (arg2 (K.dep 0 65 rfl) (K.dep 1 66 rfl)) Tryd.enter20 (fk_proofz (Fk.mono _ _ _ _ hv (bl.trans (Below.mono K.grow bl.size))))
      · exact st_move (.tmp 67) rfl (K.dep 2 67 rfl)
      · exact st_t2a (.tmp 64) rfl (K.dep 3 64 rfl)
      · exact st_t2b (.tmp 64) rfl (K.dep 3 64 rfl)
      · exact st_assign (.tmp 68) rfl (K.dep 4 68 rfl)
      · exact st_assign (.tmp 69) rfl (K.dep 5 69 rfl)
      intro f8 w8 A hb
      replace bl0 := bl
      replace x0 := (A.old 0 rfl).trans x0
      replace x1 := (A.old 1 rfl).trans x1
      replace x2 := (A.old 2 rfl).trans x2
      replace x6 := (A.old 6 rfl).trans x6
      replace x14 := (A.old 14 rfl).trans x14
      replace x7 := (A.old 7 rfl).trans x7
      replace x25 := (A.old 25 rfl).trans x25
      replace x63 := (A.old 63 rfl).trans x63
      have x10 : Fk.f (.hc ([])) (f8.eval (.tmp 10)) w8 := A.has 6 10 rfl
      have x11 : f8.eval (.tmp 11) = .int .i64 0 := A.has 7 11 rfl
      have lt_m7 := Ob.lt m7
      replace m7 := Ob.below m7 hb
      replace bl := (bl.trans (Below.mono hb bl.size))
      replace sz := A.size.trans sz
      replace df := A.defs.trans df
      clear A hb
      show Code.wp _ _ _ _ _
      refine wp_seq ?_
      refine wp_all [.eq (.int .i64 0), .eq (.bool false), .eq (.bool false), .eq (.int .i64 0), .eq (v), .eq (.int .i64 (((l).length : Nat) : Int)), .eq (v), .eq (.int .i64 0), .hc ((l).take 0), .eq (.agg ((ym).map V).toArray), .eq (.agg ((y).map V).toArray), .hc ([]), .eq (.int .i64 0), .eq (.bool false), .eq (.bool false)] Tryd.mixed (by kernel_rfl) (by kernel_rfl) (by rw [sz]; kernel_rfl) (by kernel_rfl) ⟨fun hw ac u K => ?_, fun hw ac u K => ?_, fun hw ac u K => ?_, fun hw ac u K => ?_, fun hw ac u K => ?_, fun hw ac u K => ?_, fun hw ac u K => ?_, fun hw ac u K => ?_, fun hw ac u K => ?_, fun hw ac u K => ?_, fun hw ac u K => ?_, fun hw ac u K => ?_, fun hw ac u K => ?_, fun hw ac u K => ?_, fun hw ac u K => ?_, trivial⟩ ?_
      · exact st_move (.tmp 11) rfl ((K.old 11 rfl).trans x11)
      · exact st_neqi 28 (.tmp 70) (.const (.int .i64 0)) rfl .i64 (0) (0) (K.dep 0 70 rfl) rfl _ (by rfl)
      · exact st_move (.tmp 71) rfl (K.dep 1 71 rfl)
      · exact st_move (.tmp 2) rfl ((K.old 2 rfl).trans x2)
      · exact st_move (.tmp 0) rfl ((K.old 0 rfl).trans x0)
      · exact st_lenc (.tmp 74) rfl ((l).length) rfl (fk_val (K.dep 4 74 rfl) (Fk.mono _ _ _ _ hv (bl.trans (Below.mono K.grow bl.size))))
      · exact st_move (.tmp 0) rfl ((K.old 0 rfl).trans x0)
      · exact st_move (.tmp 2) rfl ((K.old 2 rfl).trans x2)
      · exact st_cuth (.tmp 76) (.tmp 77) rfl (fk_val (K.dep 6 76 rfl) (Fk.mono _ _ _ _ hv (bl.trans (Below.mono K.grow bl.size)))) 0 (K.dep 7 77 rfl) (Nat.zero_le _)
      · exact st_call 18 (.func 18) _ _ #[ac.eval (.tmp 78)] rfl rfl (one_arg rfl) Tryd.enter18 (fk_of (root_any (l.take 0) _ _ (by simp) (K.dep 8 78 rfl) (hK.below (bl.trans (Below.mono K.grow bl.size))) eym))
      · exact st_load23 (.tmp 7) rfl (g7) (y) ((K.old 7 rfl).trans x7) hy (Ob.below m7 K.grow)
      · exact st_move (.tmp 10) rfl (f_at (K.old 10 rfl) (Fk.mono _ _ _ _ x10 K.grow))
      · exact st_call 15 (.func 15) _ _ #[.int .i64 0, .int .i64 (((l).length : Nat) : Int), .agg ((ym).map V).toArray, .agg ((y).map V).toArray, ac.eval (.tmp 81)] rfl rfl (arg5 (K.dep 3 73 rfl) (K.dep 5 75 rfl) (K.dep 9 79 rfl) (K.dep 10 80 rfl) rfl) Tryd.enter15 (fk_on_zero hym hy (by omega) (K.dep 11 81 rfl) (by simp) (hK.below (bl.trans (Below.mono K.grow bl.size))) 0 (by rw [if_pos ⟨hym0, rfl, hor⟩]))
      · exact st_neqi 28 (.tmp 82) (.const (.int .i64 0)) rfl .i64 (0) (0) (K.dep 12 82 rfl) rfl _ (by rfl)
      · exact st_pick_f' (.tmp 72) (.const (.bool true)) (.tmp 83) rfl (K.dep 2 72 rfl) (K.dep 13 83 rfl)
      intro f9 w9 A hb
      replace bl0 := bl
      replace x0 := (A.old 0 rfl).trans x0
      replace x1 := (A.old 1 rfl).trans x1
      replace x2 := (A.old 2 rfl).trans x2
      replace x6 := (A.old 6 rfl).trans x6
      replace x14 := (A.old 14 rfl).trans x14
      replace x7 := (A.old 7 rfl).trans x7
      replace x25 := (A.old 25 rfl).trans x25
      replace x63 := (A.old 63 rfl).trans x63
      replace x10 := f_at (A.old 10 rfl) (Fk.mono _ _ _ _ x10 hb)
      replace x11 := (A.old 11 rfl).trans x11
      have x84 : f9.eval (.tmp 84) = .bool false := A.has 14 84 rfl
      have lt_m7 := Ob.lt m7
      replace m7 := Ob.below m7 hb
      replace bl := (bl.trans (Below.mono hb bl.size))
      replace sz := A.size.trans sz
      replace df := A.defs.trans df
      clear A hb
      clear x10
      clear x11
      show Code.wp _ _ _ _ _
      refine wp_cond_false x84 ?_
      refine wp_skip ?_
      show Code.wp _ _ _ _ _
      refine wp_seq ?_
      refine wp_all_seq [.eq (.bool true), .eq (.bool true)] (by kernel_rfl) (by kernel_rfl) (by rw [sz]; kernel_rfl) (by kernel_rfl) ⟨fun hw ac u K => ?_, fun hw ac u K => ?_, trivial⟩ ?_
      · exact st_call 8 (.func 8) _ _ #[] rfl rfl rfl Tryd.enter8 (fk_of (awake_any _ (hK.below (bl.trans (Below.mono K.grow bl.size)))))
      · exact st_assign (.tmp 85) rfl (K.dep 0 85 rfl)
      intro f10 w10 A hb
      replace bl0 := bl
      replace x0 := (A.old 0 rfl).trans x0
      replace x1 := (A.old 1 rfl).trans x1
      replace x2 := (A.old 2 rfl).trans x2
      clear x6
      replace x14 := (A.old 14 rfl).trans x14
      replace x7 := (A.old 7 rfl).trans x7
      replace x25 := (A.old 25 rfl).trans x25
      replace x63 := (A.old 63 rfl).trans x63
      replace x84 := (A.old 84 rfl).trans x84
      have x6 : f10.eval (.tmp 6) = .bool true := A.has 1 6 rfl
      have lt_m7 := Ob.lt m7
      replace m7 := Ob.below m7 hb
      replace bl := (bl.trans (Below.mono hb bl.size))
      replace sz := A.size.trans sz
      replace df := A.defs.trans df
      clear A hb
      show Code.wp _ _ _ _ _
      refine wp_ret ?_
      repeat (first | with_reducible refine then_ret ?_ | with_reducible refine block_ret ?_)
      exact bodyPost_ret (v := .bool true) (ret_slot rfl f10 _ x6 _ _) df ⟨rfl, bl⟩
    obtain ⟨i, rfl⟩ := Int.eq_ofNat_of_zero_le hz.1
    have hi : i < l.length := by omega
    obtain ⟨x, hxi⟩ : ∃ x, l[i]? = some x := ⟨_, List.getElem?_eq_getElem hi⟩
    have hx : x.length = 32 := hs_len hvs hxi
    obtain ⟨hpl, hpr⟩ := path_sides l.length l i rfl hi
    have hld := hpr x hxi
    obtain ⟨S, eS⟩ : ∃ S, Box (mpath l i = S) := ⟨_, ⟨rfl⟩⟩
    rw [eS.out] at hpl hld
    rw [ey.out] at hld
    have hsl := sds_len l.length i
    refine wp_all_seq [.eq (.int .i64 ((i : Nat) : Int)), .eq (.bool true), .eq (.bool true), .eq (.int .i64 ((i : Nat) : Int)), .eq (v), .eq (.int .i64 (((l).length : Nat) : Int)), .eq (.bool true), .eq (.bool true)] (by kernel_rfl) (by kernel_rfl) (by rw [sz]; kernel_rfl) (by kernel_rfl) ⟨fun hw ac u K => ?_, fun hw ac u K => ?_, fun hw ac u K => ?_, fun hw ac u K => ?_, fun hw ac u K => ?_, fun hw ac u K => ?_, fun hw ac u K => ?_, fun hw ac u K => ?_, trivial⟩ ?_
    · exact st_move (.tmp 1) rfl ((K.old 1 rfl).trans x1)
    · exact st_geq 3 (.tmp 18) (.const (.int .i64 0)) rfl .i64 (((i : Nat) : Int)) (0) (K.dep 0 18 rfl) rfl _ (by rw [eq_comm, decide_eq_true_iff]; omega)
    · exact st_move (.tmp 19) rfl (K.dep 1 19 rfl)
    · exact st_move (.tmp 1) rfl ((K.old 1 rfl).trans x1)
    · exact st_move (.tmp 0) rfl ((K.old 0 rfl).trans x0)
    · exact st_lenc (.tmp 22) rfl ((l).length) rfl (fk_val (K.dep 4 22 rfl) (Fk.mono _ _ _ _ hv (bl.trans (Below.mono K.grow bl.size))))
    · exact st_lss 3 (.tmp 21) (.tmp 23) rfl .i64 (((i : Nat) : Int)) ((((l).length : Nat) : Int)) (K.dep 3 21 rfl) (K.dep 5 23 rfl) _ (by rw [eq_comm, decide_eq_true_iff]; omega)
    · exact st_pick_t (.tmp 20) (.tmp 24) (.const (.bool false)) rfl (K.dep 2 20 rfl) (K.dep 6 24 rfl)
    intro f6 w6 A hb
    replace bl0 := bl
    replace x0 := (A.old 0 rfl).trans x0
    replace x1 := (A.old 1 rfl).trans x1
    replace x2 := (A.old 2 rfl).trans x2
    replace x6 := (A.old 6 rfl).trans x6
    replace x14 := (A.old 14 rfl).trans x14
    replace x7 := (A.old 7 rfl).trans x7
    have x25 : f6.eval (.tmp 25) = .bool true := A.has 7 25 rfl
    have lt_m7 := Ob.lt m7
    replace m7 := Ob.below m7 hb
    replace bl := (bl.trans (Below.mono hb bl.size))
    replace sz := A.size.trans sz
    replace df := A.defs.trans df
    clear A hb
    show Code.wp _ _ _ _ _
    refine wp_cond_true x25 ?_
    refine wp_seq ?_
    refine wp_all_seq [.eq (v), .eq (.int .i64 ((i : Nat) : Int)), .t2 (.hc (S)) (.int .i64 0), .t2 (.hc (S)) (.int .i64 0), .hc (S), .eq (.int .i64 0), .hc (S), .eq (.int .i64 0)] (by kernel_rfl) (by kernel_rfl) (by rw [sz]; kernel_rfl) (by kernel_rfl) ⟨fun hw ac u K => ?_, fun hw ac u K => ?_, fun hw ac u K => ?_, fun hw ac u K => ?_, fun hw ac u K => ?_, fun hw ac u K => ?_, fun hw ac u K => ?_, fun hw ac u K => ?_, trivial⟩ ?_
    · exact st_move (.tmp 0) rfl ((K.old 0 rfl).trans x0)
    · exact st_move (.tmp 1) rfl ((K.old 1 rfl).trans x1)
    · exact st_call 19 (.func 19) _ _ #[v, .int .i64 ((i : Nat) : Int)] rfl rfl (arg2 (K.dep 0 27 rfl) (K.dep 1 28 rfl)) Tryd.enter19 (fk_pathc hi (by omega) (Fk.mono _ _ _ _ hv (bl.trans (Below.mono K.grow bl.size))) (hK.below (bl.trans (Below.mono K.grow bl.size))) eS)
    · exact st_move (.tmp 29) rfl (K.dep 2 29 rfl)
    · exact st_t2a (.tmp 26) rfl (K.dep 3 26 rfl)
    · exact st_t2b (.tmp 26) rfl (K.dep 3 26 rfl)
    · exact st_assign (.tmp 30) rfl (K.dep 4 30 rfl)
    · exact st_assign (.tmp 31) rfl (K.dep 5 31 rfl)
    intro f7 w7 A hb
    replace bl0 := bl
    replace x0 := (A.old 0 rfl).trans x0
    replace x1 := (A.old 1 rfl).trans x1
    replace x2 := (A.old 2 rfl).trans x2
    replace x6 := (A.old 6 rfl).trans x6
    replace x14 := (A.old 14 rfl).trans x14
    replace x7 := (A.old 7 rfl).trans x7
    replace x25 := (A.old 25 rfl).trans x25
    have x8 : Fk.f (.hc (S)) (f7.eval (.tmp 8)) w7 := A.has 6 8 rfl
    have x9 : f7.eval (.tmp 9) = .int .i64 0 := A.has 7 9 rfl
    have lt_m7 := Ob.lt m7
    replace m7 := Ob.below m7 hb
    replace bl := (bl.trans (Below.mono hb bl.size))
    replace sz := A.size.trans sz
    replace df := A.defs.trans df
    clear A hb
    show Code.wp _ _ _ _ _
    refine wp_seq ?_
    refine wp_all [.eq (.int .i64 0), .eq (.bool false), .eq (.bool false), .eq (v), .eq (.int .i64 ((i : Nat) : Int)), .ph (x), .eq (.agg ((x).map V).toArray), .eq (.int .i64 ((i : Nat) : Int)), .eq (v), .eq (.int .i64 (((l).length : Nat) : Int)), .hc (S), .eq (.agg ((y).map V).toArray), .eq (.int .i64 0), .eq (.bool false), .eq (.bool false), .eq (.bool false), .hc (S), .eq (.int .i64 (((S).length : Nat) : Int)), .eq (.int .i64 ((i : Nat) : Int)), .eq (v), .eq (.int .i64 (((l).length : Nat) : Int)), .eq (.int .i64 (((sds i l.length).length : Nat) : Int)), .eq (.bool false), .eq (.bool false)] Tryd.mixed (by kernel_rfl) (by kernel_rfl) (by rw [sz]; kernel_rfl) (by kernel_rfl) ⟨fun hw ac u K => ?_, fun hw ac u K => ?_, fun hw ac u K => ?_, fun hw ac u K => ?_, fun hw ac u K => ?_, fun hw ac u K => ?_, fun hw ac u K => ?_, fun hw ac u K => ?_, fun hw ac u K => ?_, fun hw ac u K => ?_, fun hw ac u K => ?_, fun hw ac u K => ?_, fun hw ac u K => ?_, fun hw ac u K => ?_, fun hw ac u K => ?_, fun hw ac u K => ?_, fun hw ac u K => ?_, fun hw ac u K => ?_, fun hw ac u K => ?_, fun hw ac u K => ?_, fun hw ac u K => ?_, fun hw ac u K => ?_, fun hw ac u K => ?_, fun hw ac u K => ?_, trivial⟩ ?_
    · exact st_move (.tmp 9) rfl ((K.old 9 rfl).trans x9)
    · exact st_neqi 28 (.tmp 32) (.const (.int .i64 0)) rfl .i64 (0) (0) (K.dep 0 32 rfl) rfl _ (by rfl)
    · exact st_move (.tmp 33) rfl (K.dep 1 33 rfl)
    · exact st_move (.tmp 0) rfl ((K.old 0 rfl).trans x0)
    · exact st_move (.tmp 1) rfl ((K.old 1 rfl).trans x1)
    · exact st_idxh (.tmp 35) (.tmp 36) rfl (fk_val (K.dep 3 35 rfl) (Fk.mono _ _ _ _ hvs (bl.trans (Below.mono K.grow bl.size)))) (i) (x) (K.dep 4 36 rfl) hxi
    · exact st_loadh (.tmp 37) rfl (K.dep 5 37 rfl)
    · exact st_move (.tmp 1) rfl ((K.old 1 rfl).trans x1)
    · exact st_move (.tmp 0) rfl ((K.old 0 rfl).trans x0)
    · exact st_lenc (.tmp 40) rfl ((l).length) rfl (fk_val (K.dep 8 40 rfl) (Fk.mono _ _ _ _ hv (bl.trans (Below.mono K.grow bl.size))))
    · exact st_move (.tmp 8) rfl (f_at (K.old 8 rfl) (Fk.mono _ _ _ _ x8 K.grow))
    · exact st_load23 (.tmp 7) rfl (g7) (y) ((K.old 7 rfl).trans x7) hy (Ob.below m7 K.grow)
    · exact st_call 11 (.func 11) _ _ #[.agg ((x).map V).toArray, .int .i64 ((i : Nat) : Int), .int .i64 (((l).length : Nat) : Int), ac.eval (.tmp 42), .agg ((y).map V).toArray] rfl rfl (arg5 (K.dep 6 38 rfl) (K.dep 7 39 rfl) (K.dep 9 41 rfl) rfl (K.dep 11 43 rfl)) Tryd.enter11 (fk_in_any hx hy hi (by omega) (K.dep 10 42 rfl) (by omega) (hK.below (bl.trans (Below.mono K.grow bl.size))) 0 (by rw [if_pos ⟨hpl, hld⟩]))
    · exact st_neqi 28 (.tmp 44) (.const (.int .i64 0)) rfl .i64 (0) (0) (K.dep 12 44 rfl) rfl _ (by rfl)
    · exact st_pick_f' (.tmp 34) (.const (.bool true)) (.tmp 45) rfl (K.dep 2 34 rfl) (K.dep 13 45 rfl)
    · exact st_move (.tmp 46) rfl (K.dep 14 46 rfl)
    · exact st_move (.tmp 8) rfl (f_at (K.old 8 rfl) (Fk.mono _ _ _ _ x8 K.grow))
    · exact st_lenc (.tmp 48) rfl ((S).length) rfl (K.dep 16 48 rfl)
    · exact st_move (.tmp 1) rfl ((K.old 1 rfl).trans x1)
    · exact st_move (.tmp 0) rfl ((K.old 0 rfl).trans x0)
    · exact st_lenc (.tmp 51) rfl ((l).length) rfl (fk_val (K.dep 19 51 rfl) (Fk.mono _ _ _ _ hv (bl.trans (Below.mono K.grow bl.size))))
    · exact st_call 10 (.func 10) _ _ #[.int .i64 ((i : Nat) : Int), .int .i64 (((l).length : Nat) : Int)] rfl rfl (arg2 (K.dep 18 50 rfl) (K.dep 20 52 rfl)) Tryd.enter10 (fk_len_ok hi (by omega))
    · exact st_neqi 3 (.tmp 49) (.tmp 53) rfl .i64 ((((S).length : Nat) : Int)) ((((sds i l.length).length : Nat) : Int)) (K.dep 17 49 rfl) (K.dep 21 53 rfl) _ (by rw [eq_comm, decide_eq_false_iff_not, hpl]; simp)
    · exact st_pick_f' (.tmp 47) (.const (.bool true)) (.tmp 54) rfl (K.dep 15 47 rfl) (K.dep 22 54 rfl)
    intro f8 w8 A hb
    replace bl0 := bl
    replace x0 := (A.old 0 rfl).trans x0
    replace x1 := (A.old 1 rfl).trans x1
    replace x2 := (A.old 2 rfl).trans x2
    replace x6 := (A.old 6 rfl).trans x6
    replace x14 := (A.old 14 rfl).trans x14
    replace x7 := (A.old 7 rfl).trans x7
    replace x25 := (A.old 25 rfl).trans x25
    replace x8 := f_at (A.old 8 rfl) (Fk.mono _ _ _ _ x8 hb)
    replace x9 := (A.old 9 rfl).trans x9
    have x55 : f8.eval (.tmp 55) = .bool false := A.has 23 55 rfl
    have lt_m7 := Ob.lt m7
    replace m7 := Ob.below m7 hb
    replace bl := (bl.trans (Below.mono hb bl.size))
    replace sz := A.size.trans sz
    replace df := A.defs.trans df
    clear A hb
    clear x8
    clear x9
    show Code.wp _ _ _ _ _
    refine wp_cond_false x55 ?_
    refine wp_skip ?_
    show Code.wp _ _ _ _ _
    refine wp_seq ?_
    refine wp_seq ?_
    by_cases hq : 0 ≤ q ∧ q ≤ (l.length : Int)
    rotate_left
    · skip
      by_cases hq0 : 0 ≤ q
      rotate_left
      · skip
        refine wp_all_seq [.eq (.int .i64 (q)), .eq (.bool false), .eq (.bool false), .any, .any, .any, .any, .eq (.bool false)] (by kernel_rfl) (by kernel_rfl) (by rw [sz]; kernel_rfl) (by kernel_rfl) ⟨fun hw ac u K => ?_, fun hw ac u K => ?_, fun hw ac u K => ?_, fun hw ac u K => ?_, fun hw ac u K => ?_, fun hw ac u K => ?_, fun hw ac u K => ?_, fun hw ac u K => ?_, trivial⟩ ?_
        · exact st_move (.tmp 2) rfl ((K.old 2 rfl).trans x2)
        · exact st_geq 3 (.tmp 56) (.const (.int .i64 0)) rfl .i64 ((q)) (0) (K.dep 0 56 rfl) rfl _ (by rw [eq_comm, decide_eq_false_iff_not]; omega)
        · exact st_move (.tmp 57) rfl (K.dep 1 57 rfl)
        · exact (Bool.false_ne_true hw).elim
        · exact (Bool.false_ne_true hw).elim
        · exact (Bool.false_ne_true hw).elim
        · exact (Bool.false_ne_true hw).elim
        · exact st_pick_f' (.tmp 58) (.tmp 62) (.const (.bool false)) rfl (K.dep 2 58 rfl) rfl
        intro f9 w9 A hb
        replace bl0 := bl
        replace x0 := (A.old 0 rfl).trans x0
        replace x1 := (A.old 1 rfl).trans x1
        replace x2 := (A.old 2 rfl).trans x2
        replace x6 := (A.old 6 rfl).trans x6
        replace x14 := (A.old 14 rfl).trans x14
        replace x7 := (A.old 7 rfl).trans x7
        replace x25 := (A.old 25 rfl).trans x25
        replace x55 := (A.old 55 rfl).trans x55
        have x63 : f9.eval (.tmp 63) = .bool false := A.has 7 63 rfl
        have lt_m7 := Ob.lt m7
        replace m7 := Ob.below m7 hb
        replace bl := (bl.trans (Below.mono hb bl.size))
        replace sz := A.size.trans sz
        replace df := A.defs.trans df
        clear A hb
        show Code.wp _ _ _ _ _
        refine wp_cond_false x63 ?_
        refine wp_skip ?_
        show Code.wp _ _ _ _ _
        refine wp_seq ?_
        refine wp_all_seq [.eq (.bool true), .eq (.bool true)] (by kernel_rfl) (by kernel_rfl) (by rw [sz]; kernel_rfl) (by kernel_rfl) ⟨fun hw ac u K => ?_, fun hw ac u K => ?_, trivial⟩ ?_
        · exact st_call 8 (.func 8) _ _ #[] rfl rfl rfl Tryd.enter8 (fk_of (awake_any _ (hK.below (bl.trans (Below.mono K.grow bl.size)))))
        · exact st_assign (.tmp 85) rfl (K.dep 0 85 rfl)
        intro f10 w10 A hb
        replace bl0 := bl
        replace x0 := (A.old 0 rfl).trans x0
        replace x1 := (A.old 1 rfl).trans x1
        replace x2 := (A.old 2 rfl).trans x2
        clear x6
        replace x14 := (A.old 14 rfl).trans x14
        replace x7 := (A.old 7 rfl).trans x7
        replace x25 := (A.old 25 rfl).trans x25
        replace x55 := (A.old 55 rfl).trans x55
        replace x63 := (A.old 63 rfl).trans x63
        have x6 : f10.eval (.tmp 6) = .bool true := A.has 1 6 rfl
        have lt_m7 := Ob.lt m7
        replace m7 := Ob.below m7 hb
        replace bl := (bl.trans (Below.mono hb bl.size))
        replace sz := A.size.trans sz
        replace df := A.defs.trans df
        clear A hb
        show Code.wp _ _ _ _ _
        refine wp_ret ?_
        repeat (first | with_reducible refine then_ret ?_ | with_reducible refine block_ret ?_)
        exact bodyPost_ret (v := .bool true) (ret_slot rfl f10 _ x6 _ _) df ⟨rfl, bl⟩
      refine wp_all_seq [.eq (.int .i64 (q)), .eq (.bool true), .eq (.bool true), .eq (.int .i64 (q)), .eq (v), .eq (.int .i64 (((l).length : Nat) : Int)), .eq (.bool false), .eq (.bool false)] (by kernel_rfl) (by kernel_rfl) (by rw [sz]; kernel_rfl) (by kernel_rfl) ⟨fun hw ac u K => ?_, fun hw ac u K => ?_, fun hw ac u K => ?_, fun hw ac u K => ?_, fun hw ac u K => ?_, fun hw ac u K => ?_, fun hw ac u K => ?_, fun hw ac u K => ?_, trivial⟩ ?_
      · exact st_move (.tmp 2) rfl ((K.old 2 rfl).trans x2)
      · exact st_geq 3 (.tmp 56) (.const (.int .i64 0)) rfl .i64 ((q)) (0) (K.dep 0 56 rfl) rfl _ (by rw [eq_comm, decide_eq_true_iff]; omega)
      · exact st_move (.tmp 57) rfl (K.dep 1 57 rfl)
      · exact st_move (.tmp 2) rfl ((K.old 2 rfl).trans x2)
      · exact st_move (.tmp 0) rfl ((K.old 0 rfl).trans x0)
      · exact st_lenc (.tmp 60) rfl ((l).length) rfl (fk_val (K.dep 4 60 rfl) (Fk.mono _ _ _ _ hv (bl.trans (Below.mono K.grow bl.size))))
      · exact st_leq 3 (.tmp 59) (.tmp 61) rfl .i64 ((q)) ((((l).length : Nat) : Int)) (K.dep 3 59 rfl) (K.dep 5 61 rfl) _ (by rw [eq_comm, decide_eq_false_iff_not]; omega)
      · exact st_pick_t (.tmp 58) (.tmp 62) (.const (.bool false)) rfl (K.dep 2 58 rfl) (K.dep 6 62 rfl)
      intro f9 w9 A hb
      replace bl0 := bl
      replace x0 := (A.old 0 rfl).trans x0
      replace x1 := (A.old 1 rfl).trans x1
      replace x2 := (A.old 2 rfl).trans x2
      replace x6 := (A.old 6 rfl).trans x6
      replace x14 := (A.old 14 rfl).trans x14
      replace x7 := (A.old 7 rfl).trans x7
      replace x25 := (A.old 25 rfl).trans x25
      replace x55 := (A.old 55 rfl).trans x55
      have x63 : f9.eval (.tmp 63) = .bool false := A.has 7 63 rfl
      have lt_m7 := Ob.lt m7
      replace m7 := Ob.below m7 hb
      replace bl := (bl.trans (Below.mono hb bl.size))
      replace sz := A.size.trans sz
      replace df := A.defs.trans df
      clear A hb
      show Code.wp _ _ _ _ _
      refine wp_cond_false x63 ?_
      refine wp_skip ?_
      show Code.wp _ _ _ _ _
      refine wp_seq ?_
      refine wp_all_seq [.eq (.bool true), .eq (.bool true)] (by kernel_rfl) (by kernel_rfl) (by rw [sz]; kernel_rfl) (by kernel_rfl) ⟨fun hw ac u K => ?_, fun hw ac u K => ?_, trivial⟩ ?_
      · exact st_call 8 (.func 8) _ _ #[] rfl rfl rfl Tryd.enter8 (fk_of (awake_any _ (hK.below (bl.trans (Below.mono K.grow bl.size)))))
      · exact st_assign (.tmp 85) rfl (K.dep 0 85 rfl)
      intro f10 w10 A hb
      replace bl0 := bl
      replace x0 := (A.old 0 rfl).trans x0
      replace x1 := (A.old 1 rfl).trans x1
      replace x2 := (A.old 2 rfl).trans x2
      clear x6
      replace x14 := (A.old 14 rfl).trans x14
      replace x7 := (A.old 7 rfl).trans x7
      replace x25 := (A.old 25 rfl).trans x25
      replace x55 := (A.old 55 rfl).trans x55
      replace x63 := (A.old 63 rfl).trans x63
      have x6 : f10.eval (.tmp 6) = .bool true := A.has 1 6 rfl
      have lt_m7 := Ob.lt m7
      replace m7 := Ob.below m7 hb
      replace bl := (bl.trans (Below.mono hb bl.size))
      replace sz := A.size.trans sz
      replace df := A.defs.trans df
      clear A hb
      show Code.wp _ _ _ _ _
      refine wp_ret ?_
      repeat (first | with_reducible refine then_ret ?_ | with_reducible refine block_ret ?_)
      exact bodyPost_ret (v := .bool true) (ret_slot rfl f10 _ x6 _ _) df ⟨rfl, bl⟩
    by_cases hq0 : q = 0
    rotate_left
    · skip
      obtain ⟨m, rfl⟩ := Int.eq_ofNat_of_zero_le hq.1
      have hm1 : 1 ≤ m := by omega
      have hm2 : m ≤ l.length := by omega
      obtain ⟨ym, eym⟩ : ∃ y, Box (mroot (l.take m) = y) := ⟨_, ⟨rfl⟩⟩
      have hym : ym.length = 32 := by rw [← eym.out]; exact mroot_len (fun x hx => hc_len hv x (List.mem_of_mem_take hx))
      obtain ⟨S2, eS2⟩ : ∃ S, Box (msub l m true = S) := ⟨_, ⟨rfl⟩⟩
      have hbr := bres_sub hm1 hm2
      rw [eym.out, eS2.out, ey.out] at hbr
      have hS2l := msub_len _ l m true rfl
      rw [eS2.out] at hS2l
      refine wp_all_seq [.eq (.int .i64 ((m : Nat) : Int)), .eq (.bool true), .eq (.bool true), .eq (.int .i64 ((m : Nat) : Int)), .eq (v), .eq (.int .i64 (((l).length : Nat) : Int)), .eq (.bool true), .eq (.bool true)] (by kernel_rfl) (by kernel_rfl) (by rw [sz]; kernel_rfl) (by kernel_rfl) ⟨fun hw ac u K => ?_, fun hw ac u K => ?_, fun hw ac u K => ?_, fun hw ac u K => ?_, fun hw ac u K => ?_, fun hw ac u K => ?_, fun hw ac u K => ?_, fun hw ac u K => ?_, trivial⟩ ?_
      · exact st_move (.tmp 2) rfl ((K.old 2 rfl).trans x2)
      · exact st_geq 3 (.tmp 56) (.const (.int .i64 0)) rfl .i64 (((m : Nat) : Int)) (0) (K.dep 0 56 rfl) rfl _ (by rw [eq_comm, decide_eq_true_iff]; omega)
      · exact st_move (.tmp 57) rfl (K.dep 1 57 rfl)
      · exact st_move (.tmp 2) rfl ((K.old 2 rfl).trans x2)
      · exact st_move (.tmp 0) rfl ((K.old 0 rfl).trans x0)
      · exact st_lenc (.tmp 60) rfl ((l).length) rfl (fk_val (K.dep 4 60 rfl) (Fk.mono _ _ _ _ hv (bl.trans (Below.mono K.grow bl.size))))
      · exact st_leq 3 (.tmp 59) (.tmp 61) rfl .i64 (((m : Nat) : Int)) ((((l).length : Nat) : Int)) (K.dep 3 59 rfl) (K.dep 5 61 rfl) _ (by rw [eq_comm, decide_eq_true_iff]; omega)
      · exact st_pick_t (.tmp 58) (.tmp 62) (.const (.bool false)) rfl (K.dep 2 58 rfl) (K.dep 6 62 rfl)
      intro f9 w9 A hb
      replace bl0 := bl
      replace x0 := (A.old 0 rfl).trans x0
      replace x1 := (A.old 1 rfl).trans x1
      replace x2 := (A.old 2 rfl).trans x2
      replace x6 := (A.old 6 rfl).trans x6
      replace x14 := (A.old 14 rfl).trans x14
      replace x7 := (A.old 7 rfl).trans x7
      replace x25 := (A.old 25 rfl).trans x25
      replace x55 := (A.old 55 rfl).trans x55
      have x63 : f9.eval (.tmp 63) = .bool true := A.has 7 63 rfl
      have lt_m7 := Ob.lt m7
      replace m7 := Ob.below m7 hb
      replace bl := (bl.trans (Below.mono hb bl.size))
      replace sz := A.size.trans sz
      replace df := A.defs.trans df
      clear A hb
      show Code.wp _ _ _ _ _
      refine wp_cond_true x63 ?_
      refine wp_seq ?_
      refine wp_all_seq [.eq (v), .eq (.int .i64 ((m : Nat) : Int)), .t2 (.hc (S2)) (.int .i64 0), .t2 (.hc (S2)) (.int .i64 0), .hc (S2), .eq (.int .i64 0), .hc (S2), .eq (.int .i64 0)] (by kernel_rfl) (by kernel_rfl) (by rw [sz]; kernel_rfl) (by kernel_rfl) ⟨fun hw ac u K => ?_, fun hw ac u K => ?_, fun hw ac u K => ?_, fun hw ac u K => ?_, fun hw ac u K => ?_, fun hw ac u K => ?_, fun hw ac u K => ?_, fun hw ac u K => ?_, trivial⟩ ?_
      · exact st_move (.tmp 0) rfl ((K.old 0 rfl).trans x0)
      · exact st_move (.tmp 2) rfl ((K.old 2 rfl).trans x2)
      · exact st_call 20 (.func 20) _ _ #[v, .int .i64 ((m : Nat) : Int)] rfl rfl (arg2 (K.dep 0 65 rfl) (K.dep 1 66 rfl)) Tryd.enter20 (fk_proofc hm1 hm2 (by omega) (Fk.mono _ _ _ _ hv (bl.trans (Below.mono K.grow bl.size))) (hK.below (bl.trans (Below.mono K.grow bl.size))) eS2)
      · exact st_move (.tmp 67) rfl (K.dep 2 67 rfl)
      · exact st_t2a (.tmp 64) rfl (K.dep 3 64 rfl)
      · exact st_t2b (.tmp 64) rfl (K.dep 3 64 rfl)
      · exact st_assign (.tmp 68) rfl (K.dep 4 68 rfl)
      · exact st_assign (.tmp 69) rfl (K.dep 5 69 rfl)
      intro f10 w10 A hb
      replace bl0 := bl
      replace x0 := (A.old 0 rfl).trans x0
      replace x1 := (A.old 1 rfl).trans x1
      replace x2 := (A.old 2 rfl).trans x2
      replace x6 := (A.old 6 rfl).trans x6
      replace x14 := (A.old 14 rfl).trans x14
      replace x7 := (A.old 7 rfl).trans x7
      replace x25 := (A.old 25 rfl).trans x25
      replace x55 := (A.old 55 rfl).trans x55
      replace x63 := (A.old 63 rfl).trans x63
      have x10 : Fk.f (.hc (S2)) (f10.eval (.tmp 10)) w10 := A.has 6 10 rfl
      have x11 : f10.eval (.tmp 11) = .int .i64 0 := A.has 7 11 rfl
      have lt_m7 := Ob.lt m7
      replace m7 := Ob.below m7 hb
      replace bl := (bl.trans (Below.mono hb bl.size))
      replace sz := A.size.trans sz
      replace df := A.defs.trans df
      clear A hb
      show Code.wp _ _ _ _ _
      refine wp_seq ?_
      refine wp_all [.eq (.int .i64 0), .eq (.bool false), .eq (.bool false), .eq (.int .i64 ((m : Nat) : Int)), .eq (v), .eq (.int .i64 (((l).length : Nat) : Int)), .eq (v), .eq (.int .i64 ((m : Nat) : Int)), .hc ((l).take (m)), .eq (.agg ((ym).map V).toArray), .eq (.agg ((y).map V).toArray), .hc (S2), .eq (.int .i64 0), .eq (.bool false), .eq (.bool false)] Tryd.mixed (by kernel_rfl) (by kernel_rfl) (by rw [sz]; kernel_rfl) (by kernel_rfl) ⟨fun hw ac u K => ?_, fun hw ac u K => ?_, fun hw ac u K => ?_, fun hw ac u K => ?_, fun hw ac u K => ?_, fun hw ac u K => ?_, fun hw ac u K => ?_, fun hw ac u K => ?_, fun hw ac u K => ?_, fun hw ac u K => ?_, fun hw ac u K => ?_, fun hw ac u K => ?_, fun hw ac u K => ?_, fun hw ac u K => ?_, fun hw ac u K => ?_, trivial⟩ ?_
      · exact st_move (.tmp 11) rfl ((K.old 11 rfl).trans x11)
      · exact st_neqi 28 (.tmp 70) (.const (.int .i64 0)) rfl .i64 (0) (0) (K.dep 0 70 rfl) rfl _ (by rfl)
      · exact st_move (.tmp 71) rfl (K.dep 1 71 rfl)
      · exact st_move (.tmp 2) rfl ((K.old 2 rfl).trans x2)
      · exact st_move (.tmp 0) rfl ((K.old 0 rfl).trans x0)
      · exact st_lenc (.tmp 74) rfl ((l).length) rfl (fk_val (K.dep 4 74 rfl) (Fk.mono _ _ _ _ hv (bl.trans (Below.mono K.grow bl.size))))
      · exact st_move (.tmp 0) rfl ((K.old 0 rfl).trans x0)
      · exact st_move (.tmp 2) rfl ((K.old 2 rfl).trans x2)
      · exact st_cuth (.tmp 76) (.tmp 77) rfl (fk_val (K.dep 6 76 rfl) (Fk.mono _ _ _ _ hv (bl.trans (Below.mono K.grow bl.size)))) (m) (K.dep 7 77 rfl) (by omega)
      · exact st_call 18 (.func 18) _ _ #[ac.eval (.tmp 78)] rfl rfl (one_arg rfl) Tryd.enter18 (fk_of (root_any (l.take m) _ _ (by rw [List.length_take]; omega) (K.dep 8 78 rfl) (hK.below (bl.trans (Below.mono K.grow bl.size))) eym))
      · exact st_load23 (.tmp 7) rfl (g7) (y) ((K.old 7 rfl).trans x7) hy (Ob.below m7 K.grow)
      · exact st_move (.tmp 10) rfl (f_at (K.old 10 rfl) (Fk.mono _ _ _ _ x10 K.grow))
      · exact st_call 15 (.func 15) _ _ #[.int .i64 ((m : Nat) : Int), .int .i64 (((l).length : Nat) : Int), .agg ((ym).map V).toArray, .agg ((y).map V).toArray, ac.eval (.tmp 81)] rfl rfl (arg5 (K.dep 3 73 rfl) (K.dep 5 75 rfl) (K.dep 9 79 rfl) (K.dep 10 80 rfl) rfl) Tryd.enter15 (fk_on_any hym hy hm1 hm2 (by omega) (K.dep 11 81 rfl) (by omega) (hK.below (bl.trans (Below.mono K.grow bl.size))) 0 (by rw [if_pos hbr]))
      · exact st_neqi 28 (.tmp 82) (.const (.int .i64 0)) rfl .i64 (0) (0) (K.dep 12 82 rfl) rfl _ (by rfl)
      · exact st_pick_f' (.tmp 72) (.const (.bool true)) (.tmp 83) rfl (K.dep 2 72 rfl) (K.dep 13 83 rfl)
      intro f11 w11 A hb
      replace bl0 := bl
      replace x0 := (A.old 0 rfl).trans x0
      replace x1 := (A.old 1 rfl).trans x1
      replace x2 := (A.old 2 rfl).trans x2
      replace x6 := (A.old 6 rfl).trans x6
      replace x14 := (A.old 14 rfl).trans x14
      replace x7 := (A.old 7 rfl).trans x7
      replace x25 := (A.old 25 rfl).trans x25
      replace x55 := (A.old 55 rfl).trans x55
      replace x63 := (A.old 63 rfl).trans x63
      replace x10 := f_at (A.old 10 rfl) (Fk.mono _ _ _ _ x10 hb)
      replace x11 := (A.old 11 rfl).trans x11
      have x84 : f11.eval (.tmp 84) = .bool false := A.has 14 84 rfl
      have lt_m7 := Ob.lt m7
      replace m7 := Ob.below m7 hb
      replace bl := (bl.trans (Below.mono hb bl.size))
      replace sz := A.size.trans sz
      replace df := A.defs.trans df
      clear A hb
      clear x10
      clear x11
      show Code.wp _ _ _ _ _
      refine wp_cond_false x84 ?_
      refine wp_skip ?_
      show Code.wp _ _ _ _ _
      refine wp_seq ?_
      refine wp_all_seq [.eq (.bool true), .eq (.bool true)] (by kernel_rfl) (by kernel_rfl) (by rw [sz]; kernel_rfl) (by kernel_rfl) ⟨fun hw ac u K => ?_, fun hw ac u K => ?_, trivial⟩ ?_
      · exact st_call 8 (.func 8) _ _ #[] rfl rfl rfl Tryd.enter8 (fk_of (awake_any _ (hK.below (bl.trans (Below.mono K.grow bl.size)))))
      · exact st_assign (.tmp 85) rfl (K.dep 0 85 rfl)
      intro f12 w12 A hb
      replace bl0 := bl
      replace x0 := (A.old 0 rfl).trans x0
      replace x1 := (A.old 1 rfl).trans x1
      replace x2 := (A.old 2 rfl).trans x2
      clear x6
      replace x14 := (A.old 14 rfl).trans x14
      replace x7 := (A.old 7 rfl).trans x7
      replace x25 := (A.old 25 rfl).trans x25
      replace x55 := (A.old 55 rfl).trans x55
      replace x63 := (A.old 63 rfl).trans x63
      replace x84 := (A.old 84 rfl).trans x84
      have x6 : f12.eval (.tmp 6) = .bool true := A.has 1 6 rfl
      have lt_m7 := Ob.lt m7
      replace m7 := Ob.below m7 hb
      replace bl := (bl.trans (Below.mono hb bl.size))
      replace sz := A.size.trans sz
      replace df := A.defs.trans df
      clear A hb
      show Code.wp _ _ _ _ _
      refine wp_ret ?_
      repeat (first | with_reducible refine then_ret ?_ | with_reducible refine block_ret ?_)
      exact bodyPost_ret (v := .bool true) (ret_slot rfl f12 _ x6 _ _) df ⟨rfl, bl⟩
    obtain ⟨ym, eym⟩ : ∃ y, Box (mroot (l.take 0) = y) := ⟨_, ⟨rfl⟩⟩
    have hym : ym.length = 32 := by rw [← eym.out]; exact mroot_len (fun x hx => by simp at hx)
    have hym0 : ym = shaOf [] := by rw [← eym.out, List.take_zero, mroot_nil]
    have hor : 0 < l.length ∨ y = ym := by
      by_cases h0 : 0 < l.length
      · exact .inl h0
      · right
        rw [← ey.out, hym0, List.eq_nil_of_length_eq_zero (show l.length = 0 by omega), mroot_nil]
    subst hq0
    refine wp_all_seq [.eq (.int .i64 0), .eq (.bool true), .eq (.bool true), .eq (.int .i64 0), .eq (v), .eq (.int .i64 (((l).length : Nat) : Int)), .eq (.bool true), .eq (.bool true)] (by kernel_rfl) (by kernel_rfl) (by rw [sz]; kernel_rfl) (by kernel_rfl) ⟨fun hw ac u K => ?_, fun hw ac u K => ?_, fun hw ac u K => ?_, fun hw ac u K => ?_, fun hw ac u K => ?_, fun hw ac u K => ?_, fun hw ac u K => ?_, fun hw ac u K => ?_, trivial⟩ ?_
    · exact st_move (.tmp 2) rfl ((K.old 2 rfl).trans x2)
    · exact st_geq 3 (.tmp 56) (.const (.int .i64 0)) rfl .i64 (0) (0) (K.dep 0 56 rfl) rfl _ (by rfl)
    · exact st_move (.tmp 57) rfl (K.dep 1 57 rfl)
    · exact st_move (.tmp 2) rfl ((K.old 2 rfl).trans x2)
    · exact st_move (.tmp 0) rfl ((K.old 0 rfl).trans x0)
    · exact st_lenc (.tmp 60) rfl ((l).length) rfl (fk_val (K.dep 4 60 rfl) (Fk.mono _ _ _ _ hv (bl.trans (Below.mono K.grow bl.size))))
    · exact st_leq 3 (.tmp 59) (.tmp 61) rfl .i64 (0) ((((l).length : Nat) : Int)) (K.dep 3 59 rfl) (K.dep 5 61 rfl) _ (by rw [eq_comm, decide_eq_true_iff]; omega)
    · exact st_pick_t (.tmp 58) (.tmp 62) (.const (.bool false)) rfl (K.dep 2 58 rfl) (K.dep 6 62 rfl)
    intro f9 w9 A hb
    replace bl0 := bl
    replace x0 := (A.old 0 rfl).trans x0
    replace x1 := (A.old 1 rfl).trans x1
    replace x2 := (A.old 2 rfl).trans x2
    replace x6 := (A.old 6 rfl).trans x6
    replace x14 := (A.old 14 rfl).trans x14
    replace x7 := (A.old 7 rfl).trans x7
    replace x25 := (A.old 25 rfl).trans x25
    replace x55 := (A.old 55 rfl).trans x55
    have x63 : f9.eval (.tmp 63) = .bool true := A.has 7 63 rfl
    have lt_m7 := Ob.lt m7
    replace m7 := Ob.below m7 hb
    replace bl := (bl.trans (Below.mono hb bl.size))
    replace sz := A.size.trans sz
    replace df := A.defs.trans df
    clear A hb
    show Code.wp _ _ _ _ _
    refine wp_cond_true x63 ?_
    refine wp_seq ?_
    refine wp_all_seq [.eq (v), .eq (.int .i64 0), .t2 (.hc ([])) (.int .i64 0), .t2 (.hc ([])) (.int .i64 0), .hc ([]), .eq (.int .i64 0), .hc ([]), .eq (.int .i64 0)] (by kernel_rfl) (by kernel_rfl) (by rw [sz]; kernel_rfl) (by kernel_rfl) ⟨fun hw ac u K => ?_, fun hw ac u K => ?_, fun hw ac u K => ?_, fun hw ac u K => ?_, fun hw ac u K => ?_, fun hw ac u K => ?_, fun hw ac u K => ?_, fun hw ac u K => ?_, trivial⟩ ?_
    · exact st_move (.tmp 0) rfl ((K.old 0 rfl).trans x0)
    · exact st_move (.tmp 2) rfl ((K.old 2 rfl).trans x2)
    · exact st_call 20 (.func 20) _ _ #[v, .int .i64 0] rfl rfl (arg2 (K.dep 0 65 rfl) (K.dep 1 66 rfl)) Tryd.enter20 (fk_proofz (Fk.mono _ _ _ _ hv (bl.trans (Below.mono K.grow bl.size))))
    · exact st_move (.tmp 67) rfl (K.dep 2 67 rfl)
    · exact st_t2a (.tmp 64) rfl (K.dep 3 64 rfl)
    · exact st_t2b (.tmp 64) rfl (K.dep 3 64 rfl)
    · exact st_assign (.tmp 68) rfl (K.dep 4 68 rfl)
    · exact st_assign (.tmp 69) rfl (K.dep 5 69 rfl)
    intro f10 w10 A hb
    replace bl0 := bl
    replace x0 := (A.old 0 rfl).trans x0
    replace x1 := (A.old 1 rfl).trans x1
    replace x2 := (A.old 2 rfl).trans x2
    replace x6 := (A.old 6 rfl).trans x6
    replace x14 := (A.old 14 rfl).trans x14
    replace x7 := (A.old 7 rfl).trans x7
    replace x25 := (A.old 25 rfl).trans x25
    replace x55 := (A.old 55 rfl).trans x55
    replace x63 := (A.old 63 rfl).trans x63
    have x10 : Fk.f (.hc ([])) (f10.eval (.tmp 10)) w10 := A.has 6 10 rfl
    have x11 : f10.eval (.tmp 11) = .int .i64 0 := A.has 7 11 rfl
    have lt_m7 := Ob.lt m7
    replace m7 := Ob.below m7 hb
    replace bl := (bl.trans (Below.mono hb bl.size))
    replace sz := A.size.trans sz
    replace df := A.defs.trans df
    clear A hb
    show Code.wp _ _ _ _ _
    refine wp_seq ?_
    refine wp_all [.eq (.int .i64 0), .eq (.bool false), .eq (.bool false), .eq (.int .i64 0), .eq (v), .eq (.int .i64 (((l).length : Nat) : Int)), .eq (v), .eq (.int .i64 0), .hc ((l).take 0), .eq (.agg ((ym).map V).toArray), .eq (.agg ((y).map V).toArray), .hc ([]), .eq (.int .i64 0), .eq (.bool false), .eq (.bool false)] Tryd.mixed (by kernel_rfl) (by kernel_rfl) (by rw [sz]; kernel_rfl) (by kernel_rfl) ⟨fun hw ac u K => ?_, fun hw ac u K => ?_, fun hw ac u K => ?_, fun hw ac u K => ?_, fun hw ac u K => ?_, fun hw ac u K => ?_, fun hw ac u K => ?_, fun hw ac u K => ?_, fun hw ac u K => ?_, fun hw ac u K => ?_, fun hw ac u K => ?_, fun hw ac u K => ?_, fun hw ac u K => ?_, fun hw ac u K => ?_, fun hw ac u K => ?_, trivial⟩ ?_
    · exact st_move (.tmp 11) rfl ((K.old 11 rfl).trans x11)
    · exact st_neqi 28 (.tmp 70) (.const (.int .i64 0)) rfl .i64 (0) (0) (K.dep 0 70 rfl) rfl _ (by rfl)
    · exact st_move (.tmp 71) rfl (K.dep 1 71 rfl)
    · exact st_move (.tmp 2) rfl ((K.old 2 rfl).trans x2)
    · exact st_move (.tmp 0) rfl ((K.old 0 rfl).trans x0)
    · exact st_lenc (.tmp 74) rfl ((l).length) rfl (fk_val (K.dep 4 74 rfl) (Fk.mono _ _ _ _ hv (bl.trans (Below.mono K.grow bl.size))))
    · exact st_move (.tmp 0) rfl ((K.old 0 rfl).trans x0)
    · exact st_move (.tmp 2) rfl ((K.old 2 rfl).trans x2)
    · exact st_cuth (.tmp 76) (.tmp 77) rfl (fk_val (K.dep 6 76 rfl) (Fk.mono _ _ _ _ hv (bl.trans (Below.mono K.grow bl.size)))) 0 (K.dep 7 77 rfl) (Nat.zero_le _)
    · exact st_call 18 (.func 18) _ _ #[ac.eval (.tmp 78)] rfl rfl (one_arg rfl) Tryd.enter18 (fk_of (root_any (l.take 0) _ _ (by simp) (K.dep 8 78 rfl) (hK.below (bl.trans (Below.mono K.grow bl.size))) eym))
    · exact st_load23 (.tmp 7) rfl (g7) (y) ((K.old 7 rfl).trans x7) hy (Ob.below m7 K.grow)
    · exact st_move (.tmp 10) rfl (f_at (K.old 10 rfl) (Fk.mono _ _ _ _ x10 K.grow))
    · exact st_call 15 (.func 15) _ _ #[.int .i64 0, .int .i64 (((l).length : Nat) : Int), .agg ((ym).map V).toArray, .agg ((y).map V).toArray, ac.eval (.tmp 81)] rfl rfl (arg5 (K.dep 3 73 rfl) (K.dep 5 75 rfl) (K.dep 9 79 rfl) (K.dep 10 80 rfl) rfl) Tryd.enter15 (fk_on_zero hym hy (by omega) (K.dep 11 81 rfl) (by simp) (hK.below (bl.trans (Below.mono K.grow bl.size))) 0 (by rw [if_pos ⟨hym0, rfl, hor⟩]))
    · exact st_neqi 28 (.tmp 82) (.const (.int .i64 0)) rfl .i64 (0) (0) (K.dep 12 82 rfl) rfl _ (by rfl)
    · exact st_pick_f' (.tmp 72) (.const (.bool true)) (.tmp 83) rfl (K.dep 2 72 rfl) (K.dep 13 83 rfl)
    intro f11 w11 A hb
    replace bl0 := bl
    replace x0 := (A.old 0 rfl).trans x0
    replace x1 := (A.old 1 rfl).trans x1
    replace x2 := (A.old 2 rfl).trans x2
    replace x6 := (A.old 6 rfl).trans x6
    replace x14 := (A.old 14 rfl).trans x14
    replace x7 := (A.old 7 rfl).trans x7
    replace x25 := (A.old 25 rfl).trans x25
    replace x55 := (A.old 55 rfl).trans x55
    replace x63 := (A.old 63 rfl).trans x63
    replace x10 := f_at (A.old 10 rfl) (Fk.mono _ _ _ _ x10 hb)
    replace x11 := (A.old 11 rfl).trans x11
    have x84 : f11.eval (.tmp 84) = .bool false := A.has 14 84 rfl
    have lt_m7 := Ob.lt m7
    replace m7 := Ob.below m7 hb
    replace bl := (bl.trans (Below.mono hb bl.size))
    replace sz := A.size.trans sz
    replace df := A.defs.trans df
    clear A hb
    clear x10
    clear x11
    show Code.wp _ _ _ _ _
    refine wp_cond_false x84 ?_
    refine wp_skip ?_
    show Code.wp _ _ _ _ _
    refine wp_seq ?_
    refine wp_all_seq [.eq (.bool true), .eq (.bool true)] (by kernel_rfl) (by kernel_rfl) (by rw [sz]; kernel_rfl) (by kernel_rfl) ⟨fun hw ac u K => ?_, fun hw ac u K => ?_, trivial⟩ ?_
    · exact st_call 8 (.func 8) _ _ #[] rfl rfl rfl Tryd.enter8 (fk_of (awake_any _ (hK.below (bl.trans (Below.mono K.grow bl.size)))))
    · exact st_assign (.tmp 85) rfl (K.dep 0 85 rfl)
    intro f12 w12 A hb
    replace bl0 := bl
    replace x0 := (A.old 0 rfl).trans x0
    replace x1 := (A.old 1 rfl).trans x1
    replace x2 := (A.old 2 rfl).trans x2
    clear x6
    replace x14 := (A.old 14 rfl).trans x14
    replace x7 := (A.old 7 rfl).trans x7
    replace x25 := (A.old 25 rfl).trans x25
    replace x55 := (A.old 55 rfl).trans x55
    replace x63 := (A.old 63 rfl).trans x63
    replace x84 := (A.old 84 rfl).trans x84
    have x6 : f12.eval (.tmp 6) = .bool true := A.has 1 6 rfl
    have lt_m7 := Ob.lt m7
    replace m7 := Ob.below m7 hb
    replace bl := (bl.trans (Below.mono hb bl.size))
    replace sz := A.size.trans sz
    replace df := A.defs.trans df
    clear A hb
    show Code.wp _ _ _ _ _
    refine wp_ret ?_
    repeat (first | with_reducible refine then_ret ?_ | with_reducible refine block_ret ?_)
    exact bodyPost_ret (v := .bool true) (ret_slot rfl f12 _ x6 _ _) df ⟨rfl, bl⟩
  refine wp_all_seq [.eq (v), .eq (.int .i64 (((l).length : Nat) : Int)), .eq (.bool true)] (by kernel_rfl) (by kernel_rfl) (by rw [sz]; kernel_rfl) (by kernel_rfl) ⟨fun hw ac u K => ?_, fun hw ac u K => ?_, fun hw ac u K => ?_, trivial⟩ ?_
  · exact st_move (.tmp 0) rfl ((K.old 0 rfl).trans x0)
  · exact st_lenc (.tmp 12) rfl ((l).length) rfl (fk_val (K.dep 0 12 rfl) (Fk.mono _ _ _ _ hv (bl.trans (Below.mono K.grow bl.size))))
  · exact st_gtr 3 (.tmp 13) (.const (.int .i64 70)) rfl .i64 ((((l).length : Nat) : Int)) (70) (K.dep 1 13 rfl) rfl _ (by rw [eq_comm, decide_eq_true_iff]; omega)
  intro f2 w2 A hb
  replace bl0 := bl
  replace x0 := (A.old 0 rfl).trans x0
  replace x1 := (A.old 1 rfl).trans x1
  replace x2 := (A.old 2 rfl).trans x2
  replace x6 := (A.old 6 rfl).trans x6
  have x14 : f2.eval (.tmp 14) = .bool true := A.has 2 14 rfl
  replace bl := (bl.trans (Below.mono hb bl.size))
  replace sz := A.size.trans sz
  replace df := A.defs.trans df
  clear A hb
  show Code.wp _ _ _ _ _
  refine wp_cond_true x14 ?_
  refine wp_seq ?_
  refine wp_all_seq [.eq (.bool true), .eq (.bool true)] (by kernel_rfl) (by kernel_rfl) (by rw [sz]; kernel_rfl) (by kernel_rfl) ⟨fun hw ac u K => ?_, fun hw ac u K => ?_, trivial⟩ ?_
  · exact st_call 8 (.func 8) _ _ #[] rfl rfl rfl Tryd.enter8 (fk_of (awake_any _ (hK.below (bl.trans (Below.mono K.grow bl.size)))))
  · exact st_assign (.tmp 15) rfl (K.dep 0 15 rfl)
  intro f3 w3 A hb
  replace bl0 := bl
  replace x0 := (A.old 0 rfl).trans x0
  replace x1 := (A.old 1 rfl).trans x1
  replace x2 := (A.old 2 rfl).trans x2
  clear x6
  replace x14 := (A.old 14 rfl).trans x14
  have x6 : f3.eval (.tmp 6) = .bool true := A.has 1 6 rfl
  replace bl := (bl.trans (Below.mono hb bl.size))
  replace sz := A.size.trans sz
  replace df := A.defs.trans df
  clear A hb
  show Code.wp _ _ _ _ _
  refine wp_ret ?_
  repeat (first | with_reducible refine then_ret ?_ | with_reducible refine block_ret ?_)
  exact bodyPost_ret (v := .bool true) (ret_slot rfl f3 _ x6 _ _) df ⟨rfl, bl⟩
end Go.Proofs.YthhnlemldpgbeaaDoor
