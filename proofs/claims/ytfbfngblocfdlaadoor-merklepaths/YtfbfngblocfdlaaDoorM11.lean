/- MerklePaths, MerkleProofs. What the rows of this seat share: what the listed variable gives a walk, an array of bytes opened, the start that fits. A slice of bytes that came in, opened. A slice of hashes that came in, opened. Signatures and structs with them that came in, opened. Arguments opened: numbers with their bounds, slices of hashes with their room. -/
import Derived.Test.YtfbfngblocfdlaaDoorM8
import Derived.Test.YtfbfngblocfdlaaDoorM9
import Derived.Test.YtfbfngblocfdlaaDoorM10
import Derived.Test.YtfbfngblocfdlaaDoorRows
import Derived.Test.YtfbfngblocfdlaaDoorM2
import Derived.ProofKit
import Derived.LaidMore
import Derived.OpenShut
import Derived.ShutString
import Derived.ChangeOld
import Derived.Lib.LaidTab
import Derived.SevenTiedAt
import Derived.Test.YtfbfngblocfdlaaDoorM3
import Derived.Deep.Slices
import Derived.Deep.Strs
import Derived.Test.YtfbfngblocfdlaaDoorM5
namespace Go.Proofs.YtfbfngblocfdlaaDoor
set_option maxRecDepth 100000
open Go.RowKit
theorem rpl_in (n : Nat) : ∀ a i p, p ∈ rpl a n i → p.1 ≤ p.2 ∧ p.2 ≤ a + n := by
  induction n using Nat.strongRecOn with
  | ind n ih =>
    intro a i p hp
    by_cases h2 : n ≤ 1
    · rw [rpl, dif_pos h2] at hp; cases hp
    · have hs := spl_lt (n := n) (by omega)
      have hp1 := spl_pos n
      by_cases hi : i < a + spl n
      · rw [rpl_left (by omega) hi, List.mem_append] at hp
        rcases hp with hp | hp
        · have := ih (spl n) hs a i p hp; omega
        · obtain rfl := List.mem_singleton.1 hp
          exact ⟨by simp only; omega, Nat.le_refl _⟩
      · rw [rpl_right (by omega) hi, List.mem_append] at hp
        rcases hp with hp | hp
        · have := ih (n - spl n) (by omega) (a + spl n) i p hp; omega
        · obtain rfl := List.mem_singleton.1 hp
          exact ⟨by simp only; omega, by simp only; omega⟩
theorem rsb_in (n : Nat) : ∀ a m b p, p ∈ rsb a n m b → p.1 ≤ p.2 ∧ p.2 ≤ a + n := by
  induction n using Nat.strongRecOn with
  | ind n ih =>
    intro a m b p hp
    by_cases hm : m = n
    · rw [rsb, if_pos hm] at hp
      split at hp
      · cases hp
      · obtain rfl := List.mem_singleton.1 hp
        exact ⟨by simp only; omega, Nat.le_refl _⟩
    · by_cases h2 : n ≤ 1
      · rw [rsb, if_neg hm, dif_pos h2] at hp; cases hp
      · have hs := spl_lt (n := n) (by omega)
        have hp1 := spl_pos n
        by_cases hi : m ≤ spl n
        · rw [rsb_left (by omega) hm hi, List.mem_append] at hp
          rcases hp with hp | hp
          · have := ih (spl n) hs a m b p hp; omega
          · obtain rfl := List.mem_singleton.1 hp
            exact ⟨by simp only; omega, Nat.le_refl _⟩
        · rw [rsb_right (by omega) hm hi, List.mem_append] at hp
          rcases hp with hp | hp
          · have := ih (n - spl n) (by omega) (a + spl n) (m - spl n) false p hp; omega
          · obtain rfl := List.mem_singleton.1 hp
            exact ⟨by simp only; omega, by simp only; omega⟩
theorem sgm_whole (l : List (List (BitVec 8))) : sgm l 0 l.length = l := by
  unfold sgm
  rw [List.drop_zero, List.take_of_length_le (Nat.le_refl _)]
theorem fk_rpath {n i : Nat} {w : World} (h1 : 1 ≤ n) (h2 : n ≤ 1000) : Calls Tryd.prog 18 #[.int .i64 0, .int .i64 ((n : Nat) : Int), .int .i64 ((i : Nat) : Int)] w fun e w' => ∃ u, e = .returned u ∧ (Fk.ps (rpl 0 n i)).f u w' ∧ Below w.heap.size w w' := by
  have := rpath_any n 0 i w h1 (by omega)
  rw [Nat.zero_add] at this
  refine Calls.mono this ?_
  rintro e w' ⟨u, rfl, h, hb⟩
  exact ⟨u, rfl, op_ps h, hb⟩
theorem fk_rsub {n m : Nat} {w : World} (h1 : 1 ≤ n) (h2 : n ≤ 1000) (h3 : 1 ≤ m) (h4 : m ≤ n) : Calls Tryd.prog 20 #[.int .i64 0, .int .i64 ((n : Nat) : Int), .int .i64 ((m : Nat) : Int), .bool true] w fun e w' => ∃ u, e = .returned u ∧ (Fk.ps (rsb 0 n m true)).f u w' ∧ Below w.heap.size w w' := by
  have := rsub_any n 0 m true w h1 (by omega) h3 h4
  rw [Nat.zero_add] at this
  refine Calls.mono this ?_
  rintro e w' ⟨u, rfl, h, hb⟩
  exact ⟨u, rfl, op_ps h, hb⟩
theorem fk_roots {l : List (List (BitVec 8))} {P : List (Nat × Nat)} (h400 : l.length ≤ 400) (hPl : P.length ≤ 500) (hin : ∀ p ∈ P, p.1 ≤ p.2 ∧ p.2 ≤ l.length) {w : World} {v u : Value} (hv : (Fk.hc l).f v w) (hP : (Fk.ps P).f u w) (hK : Tab w) {S : List (List (BitVec 8))} (hS : Box (rts l P = S)) :
    Calls Tryd.prog 17 #[v, u] w fun e w' => ∃ r, e = .returned r ∧ (Fk.hs S).f r w' ∧ Below w.heap.size w w' := by
  refine (roots_any h400 hPl hin w hv hP hK).mono ?_
  rintro e w' ⟨r, rfl, h, hb⟩
  rw [hS.out] at h
  exact ⟨r, rfl, ow_hs h, hb⟩
theorem fk_proof {l : List (List (BitVec 8))} {m : Nat} (hm1 : 1 ≤ m) (hm : m ≤ l.length) (h1000 : l.length ≤ 1000) {w : World} {v : Value} (hv : (Fk.hc l).f v w) (hK : Tab w) {S : List (List (BitVec 8))} (hS : Box (msub l m true = S)) :
    Calls Tryd.prog 19 #[v, .int .i64 ((m : Nat) : Int)] w fun e w' => ∃ u, e = .returned u ∧ (Fk.t2 (.hs S) (.int .i64 0)).f u w' ∧ Below w.heap.size w w' := by
  refine (proof_ok hm1 hm h1000 w hv hK).mono ?_
  rintro e w' ⟨u, rfl, ⟨p, e1, h1⟩, hb⟩
  rw [hS.out] at h1
  exact ⟨u, rfl, ⟨p, e1, ow_hs h1⟩, hb⟩
/-- No hashes. -/
def nohs : List (List (BitVec 8)) := []
theorem hs_nil (w : World) : (Fk.hs nohs).f (.slice none 0 0) w := hc_hs (hc_nil w)
theorem paths_law {l : List (List (BitVec 8))} (z : Int) (w : World) (hK : Tab w) {v : Value} (hv : (Fk.hc l).f v w) :
    Calls Tryd.prog 6 #[v, .int .i64 z] w fun e w' => e = .returned (.bool true) ∧ Below w.heap.size w w' := by
  have hnil := hs_nil w
  go_enter Tryd.func6, Tryd.ntmps6
  refine code_both (fun f w1 => f.tmps.size = 50 ∧ f.defers = [] ∧ f.eval (.tmp 0) = v ∧ f.eval (.tmp 1) = .int .i64 (z) ∧ Below w.heap.size w (w1)) ⟨rfl, rfl, rfl, rfl, Below.refl _ _⟩ ?_
  rintro f0 w0 ⟨sz, df, x0, x1, bl⟩
  have bl0 := bl
  refine wp_seq ?_
  -- R0
  refine wp_all_seq [.eq (.bool false)] (by kernel_rfl) (by kernel_rfl) (by rw [sz]; kernel_rfl) (by kernel_rfl) ⟨fun hw ac u K => ?_, trivial⟩ ?_
  · exact st_assign (.const (.bool false)) rfl rfl
  intro f1 w1 A hb
  replace bl0 := bl
  replace x0 := (A.old 0 rfl).trans x0
  replace x1 := (A.old 1 rfl).trans x1
  have x4 : f1.eval (.tmp 4) = .bool false := A.has 0 4 rfl
  replace bl := (bl.trans (Below.mono hb bl.size))
  replace sz := A.size.trans sz
  replace df := A.defs.trans df
  clear A hb
  show Code.wp _ _ _ _ _
  refine wp_seq ?_
  refine wp_seq ?_
  by_cases h70 : 70 < l.length
  rotate_left
  · skip
    -- R1
    refine wp_all_seq [.eq (v), .eq (.int .i64 (((l).length : Nat) : Int)), .eq (.bool false)] (by kernel_rfl) (by kernel_rfl) (by rw [sz]; kernel_rfl) (by kernel_rfl) ⟨fun hw ac u K => ?_, fun hw ac u K => ?_, fun hw ac u K => ?_, trivial⟩ ?_
    · exact st_move (.tmp 0) rfl ((K.old 0 rfl).trans x0)
    · exact st_lenc (.tmp 7) rfl ((l).length) rfl (fk_val (K.dep 0 7 rfl) (Fk.mono _ _ _ _ hv (bl.trans (Below.mono K.grow bl.size))))
    · exact st_gtr 3 (.tmp 8) (.const (.int .i64 70)) rfl .i64 ((((l).length : Nat) : Int)) (70) (K.dep 1 8 rfl) rfl _ (by rw [eq_comm, decide_eq_false_iff_not]; omega)
    intro f2 w2 A hb
    replace bl0 := bl
    replace x0 := (A.old 0 rfl).trans x0
    replace x1 := (A.old 1 rfl).trans x1
    replace x4 := (A.old 4 rfl).trans x4
    have x9 : f2.eval (.tmp 9) = .bool false := A.has 2 9 rfl
    replace bl := (bl.trans (Below.mono hb bl.size))
    replace sz := A.size.trans sz
    replace df := A.defs.trans df
    clear A hb
    show Code.wp _ _ _ _ _
    refine wp_cond_false x9 ?_
    refine wp_skip ?_
    show Code.wp _ _ _ _ _
    refine wp_seq ?_
    by_cases hz : z < 0 ∨ (l.length : Int) ≤ z
    rotate_left
    · skip
      obtain ⟨i, rfl⟩ := Int.eq_ofNat_of_zero_le (show 0 ≤ z by omega)
      have hi : i < l.length := by omega
      obtain ⟨S, eS⟩ : ∃ S, Box (mpath l i = S) := ⟨_, ⟨rfl⟩⟩
      have hSl : S.length ≤ 100000 := by have := mpath_len _ l i rfl; rw [eS.out] at this; omega
      have eR : Box (rts l (rpl 0 l.length i) = S) := ⟨by rw [rts_path l l.length 0 i (by omega) (by omega) (by omega) (by omega), sgm_whole, Nat.sub_zero]; exact eS.out⟩
      -- R3
      refine wp_all_seq [.eq (v), .eq (.int .i64 ((i : Nat) : Int)), .t2 (.hs (S)) (.int .i64 0), .t2 (.hs (S)) (.int .i64 0), .hs (S), .eq (.int .i64 0), .hs (S), .eq (.int .i64 0)] (by kernel_rfl) (by kernel_rfl) (by rw [sz]; kernel_rfl) (by kernel_rfl) ⟨fun hw ac u K => ?_, fun hw ac u K => ?_, fun hw ac u K => ?_, fun hw ac u K => ?_, fun hw ac u K => ?_, fun hw ac u K => ?_, fun hw ac u K => ?_, fun hw ac u K => ?_, trivial⟩ ?_
      · exact st_move (.tmp 0) rfl ((K.old 0 rfl).trans x0)
      · exact st_move (.tmp 1) rfl ((K.old 1 rfl).trans x1)
      · exact st_call 15 (.func 15) _ _ #[v, .int .i64 ((i : Nat) : Int)] rfl rfl (arg2 (K.dep 0 12 rfl) (K.dep 1 13 rfl)) Tryd.enter15 (fk_path hi (by omega) (Fk.mono _ _ _ _ hv (bl.trans (Below.mono K.grow bl.size))) (hK.below (bl.trans (Below.mono K.grow bl.size))) eS)
      · exact st_move (.tmp 14) rfl (K.dep 2 14 rfl)
      · exact st_t2a (.tmp 11) rfl (K.dep 3 11 rfl)
      · exact st_t2b (.tmp 11) rfl (K.dep 3 11 rfl)
      · exact st_assign (.tmp 15) rfl (K.dep 4 15 rfl)
      · exact st_assign (.tmp 16) rfl (K.dep 5 16 rfl)
      intro f3 w3 A hb
      replace bl0 := bl
      replace x0 := (A.old 0 rfl).trans x0
      replace x1 := (A.old 1 rfl).trans x1
      replace x4 := (A.old 4 rfl).trans x4
      replace x9 := (A.old 9 rfl).trans x9
      have x5 : Fk.f (.hs (S)) (f3.eval (.tmp 5)) w3 := A.has 6 5 rfl
      have x6 : f3.eval (.tmp 6) = .int .i64 0 := A.has 7 6 rfl
      replace bl := (bl.trans (Below.mono hb bl.size))
      replace sz := A.size.trans sz
      replace df := A.defs.trans df
      clear A hb
      show Code.wp _ _ _ _ _
      refine wp_seq ?_
      refine wp_seq ?_
      -- R4
      refine wp_all_seq [.eq (.int .i64 ((i : Nat) : Int)), .eq (.bool false), .eq (.bool false), .eq (.int .i64 ((i : Nat) : Int)), .eq (v), .eq (.int .i64 (((l).length : Nat) : Int)), .eq (.bool false), .eq (.bool false)] (by kernel_rfl) (by kernel_rfl) (by rw [sz]; kernel_rfl) (by kernel_rfl) ⟨fun hw ac u K => ?_, fun hw ac u K => ?_, fun hw ac u K => ?_, fun hw ac u K => ?_, fun hw ac u K => ?_, fun hw ac u K => ?_, fun hw ac u K => ?_, fun hw ac u K => ?_, trivial⟩ ?_
      · exact st_move (.tmp 1) rfl ((K.old 1 rfl).trans x1)
      · exact st_lss 3 (.tmp 17) (.const (.int .i64 0)) rfl .i64 (((i : Nat) : Int)) (0) (K.dep 0 17 rfl) rfl _ (by rw [eq_comm, decide_eq_false_iff_not]; omega)
      · exact st_move (.tmp 18) rfl (K.dep 1 18 rfl)
      · exact st_move (.tmp 1) rfl ((K.old 1 rfl).trans x1)
      · exact st_move (.tmp 0) rfl ((K.old 0 rfl).trans x0)
      · exact st_lenc (.tmp 21) rfl ((l).length) rfl (fk_val (K.dep 4 21 rfl) (Fk.mono _ _ _ _ hv (bl.trans (Below.mono K.grow bl.size))))
      · exact st_geq 3 (.tmp 20) (.tmp 22) rfl .i64 (((i : Nat) : Int)) ((((l).length : Nat) : Int)) (K.dep 3 20 rfl) (K.dep 5 22 rfl) _ (by rw [eq_comm, decide_eq_false_iff_not]; omega)
      · exact st_pick_f' (.tmp 19) (.const (.bool true)) (.tmp 23) rfl (K.dep 2 19 rfl) (K.dep 6 23 rfl)
      intro f4 w4 A hb
      replace bl0 := bl
      replace x0 := (A.old 0 rfl).trans x0
      replace x1 := (A.old 1 rfl).trans x1
      replace x4 := (A.old 4 rfl).trans x4
      replace x9 := (A.old 9 rfl).trans x9
      replace x5 := f_at (A.old 5 rfl) (Fk.mono _ _ _ _ x5 hb)
      replace x6 := (A.old 6 rfl).trans x6
      have x24 : f4.eval (.tmp 24) = .bool false := A.has 7 24 rfl
      replace bl := (bl.trans (Below.mono hb bl.size))
      replace sz := A.size.trans sz
      replace df := A.defs.trans df
      clear A hb
      show Code.wp _ _ _ _ _
      refine wp_cond_false x24 ?_
      refine wp_skip ?_
      show Code.wp _ _ _ _ _
      refine wp_seq ?_
      -- R6
      refine wp_all_seq [.eq (.int .i64 0), .eq (.bool true), .eq (.bool true), .hs (S), .eq (v), .eq (v), .eq (.int .i64 (((l).length : Nat) : Int)), .eq (.int .i64 ((i : Nat) : Int)), .ps (rpl 0 l.length i), .hs (S), .eq (.bool true), .eq (.bool true), .eq (.bool true), .eq (.bool true), .eq (.bool true), .eq (.bool true)] (by kernel_rfl) (by kernel_rfl) (by rw [sz]; kernel_rfl) (by kernel_rfl) ⟨fun hw ac u K => ?_, fun hw ac u K => ?_, fun hw ac u K => ?_, fun hw ac u K => ?_, fun hw ac u K => ?_, fun hw ac u K => ?_, fun hw ac u K => ?_, fun hw ac u K => ?_, fun hw ac u K => ?_, fun hw ac u K => ?_, fun hw ac u K => ?_, fun hw ac u K => ?_, fun hw ac u K => ?_, fun hw ac u K => ?_, fun hw ac u K => ?_, fun hw ac u K => ?_, trivial⟩ ?_
      · exact st_move (.tmp 6) rfl ((K.old 6 rfl).trans x6)
      · exact st_eqi 38 (.tmp 35) (.const (.int .i64 0)) rfl .i64 (0) (0) (K.dep 0 35 rfl) rfl _ (by rfl)
      · exact st_move (.tmp 36) rfl (K.dep 1 36 rfl)
      · exact st_move (.tmp 5) rfl (f_at (K.old 5 rfl) (Fk.mono _ _ _ _ x5 K.grow))
      · exact st_move (.tmp 0) rfl ((K.old 0 rfl).trans x0)
      · exact st_move (.tmp 0) rfl ((K.old 0 rfl).trans x0)
      · exact st_lenc (.tmp 40) rfl ((l).length) rfl (fk_val (K.dep 5 40 rfl) (Fk.mono _ _ _ _ hv (bl.trans (Below.mono K.grow bl.size))))
      · exact st_move (.tmp 1) rfl ((K.old 1 rfl).trans x1)
      · exact st_call 18 (.func 18) _ _ #[.int .i64 0, .int .i64 (((l).length : Nat) : Int), .int .i64 ((i : Nat) : Int)] rfl rfl (arg3 rfl (K.dep 6 41 rfl) (K.dep 7 42 rfl)) Tryd.enter18 (fk_rpath (by omega) (by omega))
      · exact st_call 17 (.func 17) _ _ #[v, ac.eval (.tmp 43)] rfl rfl (arg2 (K.dep 4 39 rfl) rfl) Tryd.enter17 (fk_roots (by omega) (by have := rpl_len l.length 0 i; omega) (fun p hp => by have := rpl_in l.length 0 i p hp; omega) (Fk.mono _ _ _ _ hv (bl.trans (Below.mono K.grow bl.size))) (K.dep 8 43 rfl) (hK.below (bl.trans (Below.mono K.grow bl.size))) eR)
      · exact st_call 16 (.func 16) _ _ #[ac.eval (.tmp 38), ac.eval (.tmp 44)] rfl rfl (arg2 rfl rfl) Tryd.enter16 (fk_of (same_any hSl _ (K.dep 3 38 rfl) (K.dep 9 44 rfl) true (by simp)))
      · exact st_pick_t (.tmp 37) (.tmp 45) (.const (.bool false)) rfl (K.dep 2 37 rfl) (K.dep 10 45 rfl)
      · exact st_move (.tmp 46) rfl (K.dep 11 46 rfl)
      · exact st_call 10 (.func 10) _ _ #[] rfl rfl rfl Tryd.enter10 (fk_of (awake_any _ (hK.below (bl.trans (Below.mono K.grow bl.size)))))
      · exact st_pick_t (.tmp 47) (.tmp 48) (.const (.bool false)) rfl (K.dep 12 47 rfl) (K.dep 13 48 rfl)
      · exact st_assign (.tmp 49) rfl (K.dep 14 49 rfl)
      intro f5 w5 A hb
      replace bl0 := bl
      replace x0 := (A.old 0 rfl).trans x0
      replace x1 := (A.old 1 rfl).trans x1
      clear x4
      replace x9 := (A.old 9 rfl).trans x9
      replace x5 := f_at (A.old 5 rfl) (Fk.mono _ _ _ _ x5 hb)
      replace x6 := (A.old 6 rfl).trans x6
      replace x24 := (A.old 24 rfl).trans x24
      have x4 : f5.eval (.tmp 4) = .bool true := A.has 15 4 rfl
      replace bl := (bl.trans (Below.mono hb bl.size))
      replace sz := A.size.trans sz
      replace df := A.defs.trans df
      clear A hb
      show Code.wp _ _ _ _ _
      refine wp_ret ?_
      repeat (first | with_reducible refine then_ret ?_ | with_reducible refine block_ret ?_)
      exact bodyPost_ret (v := .bool true) (ret_slot rfl f5 _ x4 _ _) df ⟨rfl, bl⟩
    -- R3
    refine wp_all_seq [.eq (v), .eq (.int .i64 (z)), .eq (.tuple #[.slice none 0 0, .int .i64 11]), .eq (.tuple #[.slice none 0 0, .int .i64 11]), .eq (.slice none 0 0), .eq (.int .i64 11), .eq (.slice none 0 0), .eq (.int .i64 11)] (by kernel_rfl) (by kernel_rfl) (by rw [sz]; kernel_rfl) (by kernel_rfl) ⟨fun hw ac u K => ?_, fun hw ac u K => ?_, fun hw ac u K => ?_, fun hw ac u K => ?_, fun hw ac u K => ?_, fun hw ac u K => ?_, fun hw ac u K => ?_, fun hw ac u K => ?_, trivial⟩ ?_
    · exact st_move (.tmp 0) rfl ((K.old 0 rfl).trans x0)
    · exact st_move (.tmp 1) rfl ((K.old 1 rfl).trans x1)
    · exact st_call 15 (.func 15) _ _ #[v, .int .i64 (z)] rfl rfl (arg2 (K.dep 0 12 rfl) (K.dep 1 13 rfl)) Tryd.enter15 (fk_of (path_no z hz _ (Fk.mono _ _ _ _ hv (bl.trans (Below.mono K.grow bl.size)))))
    · exact st_move (.tmp 14) rfl (K.dep 2 14 rfl)
    · exact st_ext0 (.tmp 11) rfl (K.dep 3 11 rfl) rfl
    · exact st_ext1 (.tmp 11) rfl (K.dep 3 11 rfl) rfl
    · exact st_assign (.tmp 15) rfl (K.dep 4 15 rfl)
    · exact st_assign (.tmp 16) rfl (K.dep 5 16 rfl)
    intro f3 w3 A hb
    replace bl0 := bl
    replace x0 := (A.old 0 rfl).trans x0
    replace x1 := (A.old 1 rfl).trans x1
    replace x4 := (A.old 4 rfl).trans x4
    replace x9 := (A.old 9 rfl).trans x9
    have x5 : f3.eval (.tmp 5) = .slice none 0 0 := A.has 6 5 rfl
    have x6 : f3.eval (.tmp 6) = .int .i64 11 := A.has 7 6 rfl
    replace bl := (bl.trans (Below.mono hb bl.size))
    replace sz := A.size.trans sz
    replace df := A.defs.trans df
    clear A hb
    show Code.wp _ _ _ _ _
    refine wp_seq ?_
    refine wp_seq ?_
    by_cases hz0 : z < 0
    rotate_left
    · skip
      -- R4
      refine wp_all_seq [.eq (.int .i64 (z)), .eq (.bool false), .eq (.bool false), .eq (.int .i64 (z)), .eq (v), .eq (.int .i64 (((l).length : Nat) : Int)), .eq (.bool true), .eq (.bool true)] (by kernel_rfl) (by kernel_rfl) (by rw [sz]; kernel_rfl) (by kernel_rfl) ⟨fun hw ac u K => ?_, fun hw ac u K => ?_, fun hw ac u K => ?_, fun hw ac u K => ?_, fun hw ac u K => ?_, fun hw ac u K => ?_, fun hw ac u K => ?_, fun hw ac u K => ?_, trivial⟩ ?_
      · exact st_move (.tmp 1) rfl ((K.old 1 rfl).trans x1)
      · exact st_lss 3 (.tmp 17) (.const (.int .i64 0)) rfl .i64 ((z)) (0) (K.dep 0 17 rfl) rfl _ (by rw [eq_comm, decide_eq_false_iff_not]; omega)
      · exact st_move (.tmp 18) rfl (K.dep 1 18 rfl)
      · exact st_move (.tmp 1) rfl ((K.old 1 rfl).trans x1)
      · exact st_move (.tmp 0) rfl ((K.old 0 rfl).trans x0)
      · exact st_lenc (.tmp 21) rfl ((l).length) rfl (fk_val (K.dep 4 21 rfl) (Fk.mono _ _ _ _ hv (bl.trans (Below.mono K.grow bl.size))))
      · exact st_geq 3 (.tmp 20) (.tmp 22) rfl .i64 ((z)) ((((l).length : Nat) : Int)) (K.dep 3 20 rfl) (K.dep 5 22 rfl) _ (by rw [eq_comm, decide_eq_true_iff]; omega)
      · exact st_pick_f' (.tmp 19) (.const (.bool true)) (.tmp 23) rfl (K.dep 2 19 rfl) (K.dep 6 23 rfl)
      intro f4 w4 A hb
      replace bl0 := bl
      replace x0 := (A.old 0 rfl).trans x0
      replace x1 := (A.old 1 rfl).trans x1
      replace x4 := (A.old 4 rfl).trans x4
      replace x9 := (A.old 9 rfl).trans x9
      replace x5 := (A.old 5 rfl).trans x5
      replace x6 := (A.old 6 rfl).trans x6
      have x24 : f4.eval (.tmp 24) = .bool true := A.has 7 24 rfl
      replace bl := (bl.trans (Below.mono hb bl.size))
      replace sz := A.size.trans sz
      replace df := A.defs.trans df
      clear A hb
      show Code.wp _ _ _ _ _
      refine wp_cond_true x24 ?_
      refine wp_seq ?_
      -- R5
      refine wp_all_seq [.eq (.int .i64 11), .eq (.bool true), .eq (.bool true), .eq (.slice none 0 0), .eq (.int .i64 (((nohs).length : Nat) : Int)), .eq (.bool true), .eq (.bool true), .eq (.bool true), .eq (.bool true), .eq (.bool true), .eq (.bool true)] (by kernel_rfl) (by kernel_rfl) (by rw [sz]; kernel_rfl) (by kernel_rfl) ⟨fun hw ac u K => ?_, fun hw ac u K => ?_, fun hw ac u K => ?_, fun hw ac u K => ?_, fun hw ac u K => ?_, fun hw ac u K => ?_, fun hw ac u K => ?_, fun hw ac u K => ?_, fun hw ac u K => ?_, fun hw ac u K => ?_, fun hw ac u K => ?_, trivial⟩ ?_
      · exact st_move (.tmp 6) rfl ((K.old 6 rfl).trans x6)
      · exact st_eqi 38 (.tmp 25) (.const (.int .i64 11)) rfl .i64 (11) (11) (K.dep 0 25 rfl) rfl _ (by rfl)
      · exact st_move (.tmp 26) rfl (K.dep 1 26 rfl)
      · exact st_move (.tmp 5) rfl ((K.old 5 rfl).trans x5)
      · exact st_lenh (.tmp 28) rfl (fk_val (K.dep 3 28 rfl) (Fk.mono _ _ _ _ hnil (bl.trans (Below.mono K.grow bl.size))))
      · exact st_eqi 3 (.tmp 29) (.const (.int .i64 0)) rfl .i64 ((((nohs).length : Nat) : Int)) (0) (K.dep 4 29 rfl) rfl _ (by rfl)
      · exact st_pick_t (.tmp 27) (.tmp 30) (.const (.bool false)) rfl (K.dep 2 27 rfl) (K.dep 5 30 rfl)
      · exact st_move (.tmp 31) rfl (K.dep 6 31 rfl)
      · exact st_call 10 (.func 10) _ _ #[] rfl rfl rfl Tryd.enter10 (fk_of (awake_any _ (hK.below (bl.trans (Below.mono K.grow bl.size)))))
      · exact st_pick_t (.tmp 32) (.tmp 33) (.const (.bool false)) rfl (K.dep 7 32 rfl) (K.dep 8 33 rfl)
      · exact st_assign (.tmp 34) rfl (K.dep 9 34 rfl)
      intro f5 w5 A hb
      replace bl0 := bl
      replace x0 := (A.old 0 rfl).trans x0
      replace x1 := (A.old 1 rfl).trans x1
      clear x4
      replace x9 := (A.old 9 rfl).trans x9
      replace x5 := (A.old 5 rfl).trans x5
      replace x6 := (A.old 6 rfl).trans x6
      replace x24 := (A.old 24 rfl).trans x24
      have x4 : f5.eval (.tmp 4) = .bool true := A.has 10 4 rfl
      replace bl := (bl.trans (Below.mono hb bl.size))
      replace sz := A.size.trans sz
      replace df := A.defs.trans df
      clear A hb
      show Code.wp _ _ _ _ _
      refine wp_ret ?_
      repeat (first | with_reducible refine then_ret ?_ | with_reducible refine block_ret ?_)
      exact bodyPost_ret (v := .bool true) (ret_slot rfl f5 _ x4 _ _) df ⟨rfl, bl⟩
    -- R4
    refine wp_all_seq [.eq (.int .i64 (z)), .eq (.bool true), .eq (.bool true), .any, .any, .any, .any, .eq (.bool true)] (by kernel_rfl) (by kernel_rfl) (by rw [sz]; kernel_rfl) (by kernel_rfl) ⟨fun hw ac u K => ?_, fun hw ac u K => ?_, fun hw ac u K => ?_, fun hw ac u K => ?_, fun hw ac u K => ?_, fun hw ac u K => ?_, fun hw ac u K => ?_, fun hw ac u K => ?_, trivial⟩ ?_
    · exact st_move (.tmp 1) rfl ((K.old 1 rfl).trans x1)
    · exact st_lss 3 (.tmp 17) (.const (.int .i64 0)) rfl .i64 ((z)) (0) (K.dep 0 17 rfl) rfl _ (by rw [eq_comm, decide_eq_true_iff]; omega)
    · exact st_move (.tmp 18) rfl (K.dep 1 18 rfl)
    · exact (Bool.false_ne_true hw).elim
    · exact (Bool.false_ne_true hw).elim
    · exact (Bool.false_ne_true hw).elim
    · exact (Bool.false_ne_true hw).elim
    · exact st_pick_t (.tmp 19) (.const (.bool true)) (.tmp 23) rfl (K.dep 2 19 rfl) rfl
    intro f4 w4 A hb
    replace bl0 := bl
    replace x0 := (A.old 0 rfl).trans x0
    replace x1 := (A.old 1 rfl).trans x1
    replace x4 := (A.old 4 rfl).trans x4
    replace x9 := (A.old 9 rfl).trans x9
    replace x5 := (A.old 5 rfl).trans x5
    replace x6 := (A.old 6 rfl).trans x6
    have x24 : f4.eval (.tmp 24) = .bool true := A.has 7 24 rfl
    replace bl := (bl.trans (Below.mono hb bl.size))
    replace sz := A.size.trans sz
    replace df := A.defs.trans df
    clear A hb
    show Code.wp _ _ _ _ _
    refine wp_cond_true x24 ?_
    refine wp_seq ?_
    -- R5
    refine wp_all_seq [.eq (.int .i64 11), .eq (.bool true), .eq (.bool true), .eq (.slice none 0 0), .eq (.int .i64 (((nohs).length : Nat) : Int)), .eq (.bool true), .eq (.bool true), .eq (.bool true), .eq (.bool true), .eq (.bool true), .eq (.bool true)] (by kernel_rfl) (by kernel_rfl) (by rw [sz]; kernel_rfl) (by kernel_rfl) ⟨fun hw ac u K => ?_, fun hw ac u K => ?_, fun hw ac u K => ?_, fun hw ac u K => ?_, fun hw ac u K => ?_, fun hw ac u K => ?_, fun hw ac u K => ?_, fun hw ac u K => ?_, fun hw ac u K => ?_, fun hw ac u K => ?_, fun hw ac u K => ?_, trivial⟩ ?_
    · exact st_move (.tmp 6) rfl ((K.old 6 rfl).trans x6)
    · exact st_eqi 38 (.tmp 25) (.const (.int .i64 11)) rfl .i64 (11) (11) (K.dep 0 25 rfl) rfl _ (by rfl)
    · exact st_move (.tmp 26) rfl (K.dep 1 26 rfl)
    · exact st_move (.tmp 5) rfl ((K.old 5 rfl).trans x5)
    · exact st_lenh (.tmp 28) rfl (fk_val (K.dep 3 28 rfl) (Fk.mono _ _ _ _ hnil (bl.trans (Below.mono K.grow bl.size))))
    · exact st_eqi 3 (.tmp 29) (.const (.int .i64 0)) rfl .i64 ((((nohs).length : Nat) : Int)) (0) (K.dep 4 29 rfl) rfl _ (by rfl)
    · exact st_pick_t (.tmp 27) (.tmp 30) (.const (.bool false)) rfl (K.dep 2 27 rfl) (K.dep 5 30 rfl)
    · exact st_move (.tmp 31) rfl (K.dep 6 31 rfl)
    · exact st_call 10 (.func 10) _ _ #[] rfl rfl rfl Tryd.enter10 (fk_of (awake_any _ (hK.below (bl.trans (Below.mono K.grow bl.size)))))
    · exact st_pick_t (.tmp 32) (.tmp 33) (.const (.bool false)) rfl (K.dep 7 32 rfl) (K.dep 8 33 rfl)
    · exact st_assign (.tmp 34) rfl (K.dep 9 34 rfl)
    intro f5 w5 A hb
    replace bl0 := bl
    replace x0 := (A.old 0 rfl).trans x0
    replace x1 := (A.old 1 rfl).trans x1
    clear x4
    replace x9 := (A.old 9 rfl).trans x9
    replace x5 := (A.old 5 rfl).trans x5
    replace x6 := (A.old 6 rfl).trans x6
    replace x24 := (A.old 24 rfl).trans x24
    have x4 : f5.eval (.tmp 4) = .bool true := A.has 10 4 rfl
    replace bl := (bl.trans (Below.mono hb bl.size))
    replace sz := A.size.trans sz
    replace df := A.defs.trans df
    clear A hb
    show Code.wp _ _ _ _ _
    refine wp_ret ?_
    repeat (first | with_reducible refine then_ret ?_ | with_reducible refine block_ret ?_)
    exact bodyPost_ret (v := .bool true) (ret_slot rfl f5 _ x4 _ _) df ⟨rfl, bl⟩
  -- R1
  refine wp_all_seq [.eq (v), .eq (.int .i64 (((l).length : Nat) : Int)), .eq (.bool true)] (by kernel_rfl) (by kernel_rfl) (by rw [sz]; kernel_rfl) (by kernel_rfl) ⟨fun hw ac u K => ?_, fun hw ac u K => ?_, fun hw ac u K => ?_, trivial⟩ ?_
  · exact st_move (.tmp 0) rfl ((K.old 0 rfl).trans x0)
  · exact st_lenc (.tmp 7) rfl ((l).length) rfl (fk_val (K.dep 0 7 rfl) (Fk.mono _ _ _ _ hv (bl.trans (Below.mono K.grow bl.size))))
  · exact st_gtr 3 (.tmp 8) (.const (.int .i64 70)) rfl .i64 ((((l).length : Nat) : Int)) (70) (K.dep 1 8 rfl) rfl _ (by rw [eq_comm, decide_eq_true_iff]; omega)
  intro f2 w2 A hb
  replace bl0 := bl
  replace x0 := (A.old 0 rfl).trans x0
  replace x1 := (A.old 1 rfl).trans x1
  replace x4 := (A.old 4 rfl).trans x4
  have x9 : f2.eval (.tmp 9) = .bool true := A.has 2 9 rfl
  replace bl := (bl.trans (Below.mono hb bl.size))
  replace sz := A.size.trans sz
  replace df := A.defs.trans df
  clear A hb
  show Code.wp _ _ _ _ _
  refine wp_cond_true x9 ?_
  refine wp_seq ?_
  -- R2
  refine wp_all_seq [.eq (.bool true), .eq (.bool true)] (by kernel_rfl) (by kernel_rfl) (by rw [sz]; kernel_rfl) (by kernel_rfl) ⟨fun hw ac u K => ?_, fun hw ac u K => ?_, trivial⟩ ?_
  · exact st_call 10 (.func 10) _ _ #[] rfl rfl rfl Tryd.enter10 (fk_of (awake_any _ (hK.below (bl.trans (Below.mono K.grow bl.size)))))
  · exact st_assign (.tmp 10) rfl (K.dep 0 10 rfl)
  intro f3 w3 A hb
  replace bl0 := bl
  replace x0 := (A.old 0 rfl).trans x0
  replace x1 := (A.old 1 rfl).trans x1
  clear x4
  replace x9 := (A.old 9 rfl).trans x9
  have x4 : f3.eval (.tmp 4) = .bool true := A.has 1 4 rfl
  replace bl := (bl.trans (Below.mono hb bl.size))
  replace sz := A.size.trans sz
  replace df := A.defs.trans df
  clear A hb
  show Code.wp _ _ _ _ _
  refine wp_ret ?_
  repeat (first | with_reducible refine then_ret ?_ | with_reducible refine block_ret ?_)
  exact bodyPost_ret (v := .bool true) (ret_slot rfl f3 _ x4 _ _) df ⟨rfl, bl⟩
theorem proofs_law {l : List (List (BitVec 8))} (z : Int) (w : World) (hK : Tab w) {v : Value} (hv : (Fk.hc l).f v w) :
    Calls Tryd.prog 7 #[v, .int .i64 z] w fun e w' => e = .returned (.bool true) ∧ Below w.heap.size w w' := by
  have hnil := hs_nil w
  go_enter Tryd.func7, Tryd.ntmps7
  refine code_both (fun f w1 => f.tmps.size = 62 ∧ f.defers = [] ∧ f.eval (.tmp 0) = v ∧ f.eval (.tmp 1) = .int .i64 (z) ∧ Below w.heap.size w (w1)) ⟨rfl, rfl, rfl, rfl, Below.refl _ _⟩ ?_
  rintro f0 w0 ⟨sz, df, x0, x1, bl⟩
  have bl0 := bl
  refine wp_seq ?_
  -- R0
  refine wp_all_seq [.eq (.bool false)] (by kernel_rfl) (by kernel_rfl) (by rw [sz]; kernel_rfl) (by kernel_rfl) ⟨fun hw ac u K => ?_, trivial⟩ ?_
  · exact st_assign (.const (.bool false)) rfl rfl
  intro f1 w1 A hb
  replace bl0 := bl
  replace x0 := (A.old 0 rfl).trans x0
  replace x1 := (A.old 1 rfl).trans x1
  have x4 : f1.eval (.tmp 4) = .bool false := A.has 0 4 rfl
  replace bl := (bl.trans (Below.mono hb bl.size))
  replace sz := A.size.trans sz
  replace df := A.defs.trans df
  clear A hb
  show Code.wp _ _ _ _ _
  refine wp_seq ?_
  refine wp_seq ?_
  by_cases h70 : 70 < l.length
  rotate_left
  · skip
    -- R1
    refine wp_all_seq [.eq (v), .eq (.int .i64 (((l).length : Nat) : Int)), .eq (.bool false)] (by kernel_rfl) (by kernel_rfl) (by rw [sz]; kernel_rfl) (by kernel_rfl) ⟨fun hw ac u K => ?_, fun hw ac u K => ?_, fun hw ac u K => ?_, trivial⟩ ?_
    · exact st_move (.tmp 0) rfl ((K.old 0 rfl).trans x0)
    · exact st_lenc (.tmp 7) rfl ((l).length) rfl (fk_val (K.dep 0 7 rfl) (Fk.mono _ _ _ _ hv (bl.trans (Below.mono K.grow bl.size))))
    · exact st_gtr 3 (.tmp 8) (.const (.int .i64 70)) rfl .i64 ((((l).length : Nat) : Int)) (70) (K.dep 1 8 rfl) rfl _ (by rw [eq_comm, decide_eq_false_iff_not]; omega)
    intro f2 w2 A hb
    replace bl0 := bl
    replace x0 := (A.old 0 rfl).trans x0
    replace x1 := (A.old 1 rfl).trans x1
    replace x4 := (A.old 4 rfl).trans x4
    have x9 : f2.eval (.tmp 9) = .bool false := A.has 2 9 rfl
    replace bl := (bl.trans (Below.mono hb bl.size))
    replace sz := A.size.trans sz
    replace df := A.defs.trans df
    clear A hb
    show Code.wp _ _ _ _ _
    refine wp_cond_false x9 ?_
    refine wp_skip ?_
    show Code.wp _ _ _ _ _
    refine wp_seq ?_
    by_cases hz : z < 0 ∨ (l.length : Int) < z
    rotate_left
    · skip
      by_cases hz0 : z = 0
      rotate_left
      · skip
        obtain ⟨m, rfl⟩ := Int.eq_ofNat_of_zero_le (show 0 ≤ z by omega)
        have hm1 : 1 ≤ m := by omega
        have hm2 : m ≤ l.length := by omega
        obtain ⟨S, eS⟩ : ∃ S, Box (msub l m true = S) := ⟨_, ⟨rfl⟩⟩
        have hSl : S.length ≤ 100000 := by have := msub_len _ l m true rfl; rw [eS.out] at this; omega
        have eR : Box (rts l (rsb 0 l.length m true) = S) := ⟨by rw [rts_sub l l.length 0 m true (by omega) (by omega) hm1 hm2, sgm_whole]; exact eS.out⟩
        -- R3
        refine wp_all_seq [.eq (v), .eq (.int .i64 ((m : Nat) : Int)), .t2 (.hs (S)) (.int .i64 0), .t2 (.hs (S)) (.int .i64 0), .hs (S), .eq (.int .i64 0), .hs (S), .eq (.int .i64 0)] (by kernel_rfl) (by kernel_rfl) (by rw [sz]; kernel_rfl) (by kernel_rfl) ⟨fun hw ac u K => ?_, fun hw ac u K => ?_, fun hw ac u K => ?_, fun hw ac u K => ?_, fun hw ac u K => ?_, fun hw ac u K => ?_, fun hw ac u K => ?_, fun hw ac u K => ?_, trivial⟩ ?_
        · exact st_move (.tmp 0) rfl ((K.old 0 rfl).trans x0)
        · exact st_move (.tmp 1) rfl ((K.old 1 rfl).trans x1)
        · exact st_call 19 (.func 19) _ _ #[v, .int .i64 ((m : Nat) : Int)] rfl rfl (arg2 (K.dep 0 12 rfl) (K.dep 1 13 rfl)) Tryd.enter19 (fk_proof hm1 hm2 (by omega) (Fk.mono _ _ _ _ hv (bl.trans (Below.mono K.grow bl.size))) (hK.below (bl.trans (Below.mono K.grow bl.size))) eS)
        · exact st_move (.tmp 14) rfl (K.dep 2 14 rfl)
        · exact st_t2a (.tmp 11) rfl (K.dep 3 11 rfl)
        · exact st_t2b (.tmp 11) rfl (K.dep 3 11 rfl)
        · exact st_assign (.tmp 15) rfl (K.dep 4 15 rfl)
        · exact st_assign (.tmp 16) rfl (K.dep 5 16 rfl)
        intro f3 w3 A hb
        replace bl0 := bl
        replace x0 := (A.old 0 rfl).trans x0
        replace x1 := (A.old 1 rfl).trans x1
        replace x4 := (A.old 4 rfl).trans x4
        replace x9 := (A.old 9 rfl).trans x9
        have x5 : Fk.f (.hs (S)) (f3.eval (.tmp 5)) w3 := A.has 6 5 rfl
        have x6 : f3.eval (.tmp 6) = .int .i64 0 := A.has 7 6 rfl
        replace bl := (bl.trans (Below.mono hb bl.size))
        replace sz := A.size.trans sz
        replace df := A.defs.trans df
        clear A hb
        show Code.wp _ _ _ _ _
        refine wp_seq ?_
        refine wp_seq ?_
        -- R4
        refine wp_all_seq [.eq (.int .i64 ((m : Nat) : Int)), .eq (.bool false), .eq (.bool false), .eq (.int .i64 ((m : Nat) : Int)), .eq (v), .eq (.int .i64 (((l).length : Nat) : Int)), .eq (.bool false), .eq (.bool false)] (by kernel_rfl) (by kernel_rfl) (by rw [sz]; kernel_rfl) (by kernel_rfl) ⟨fun hw ac u K => ?_, fun hw ac u K => ?_, fun hw ac u K => ?_, fun hw ac u K => ?_, fun hw ac u K => ?_, fun hw ac u K => ?_, fun hw ac u K => ?_, fun hw ac u K => ?_, trivial⟩ ?_
        · exact st_move (.tmp 1) rfl ((K.old 1 rfl).trans x1)
        · exact st_lss 3 (.tmp 17) (.const (.int .i64 0)) rfl .i64 (((m : Nat) : Int)) (0) (K.dep 0 17 rfl) rfl _ (by rw [eq_comm, decide_eq_false_iff_not]; omega)
        · exact st_move (.tmp 18) rfl (K.dep 1 18 rfl)
        · exact st_move (.tmp 1) rfl ((K.old 1 rfl).trans x1)
        · exact st_move (.tmp 0) rfl ((K.old 0 rfl).trans x0)
        · exact st_lenc (.tmp 21) rfl ((l).length) rfl (fk_val (K.dep 4 21 rfl) (Fk.mono _ _ _ _ hv (bl.trans (Below.mono K.grow bl.size))))
        · exact st_gtr 3 (.tmp 20) (.tmp 22) rfl .i64 (((m : Nat) : Int)) ((((l).length : Nat) : Int)) (K.dep 3 20 rfl) (K.dep 5 22 rfl) _ (by rw [eq_comm, decide_eq_false_iff_not]; omega)
        · exact st_pick_f' (.tmp 19) (.const (.bool true)) (.tmp 23) rfl (K.dep 2 19 rfl) (K.dep 6 23 rfl)
        intro f4 w4 A hb
        replace bl0 := bl
        replace x0 := (A.old 0 rfl).trans x0
        replace x1 := (A.old 1 rfl).trans x1
        replace x4 := (A.old 4 rfl).trans x4
        replace x9 := (A.old 9 rfl).trans x9
        replace x5 := f_at (A.old 5 rfl) (Fk.mono _ _ _ _ x5 hb)
        replace x6 := (A.old 6 rfl).trans x6
        have x24 : f4.eval (.tmp 24) = .bool false := A.has 7 24 rfl
        replace bl := (bl.trans (Below.mono hb bl.size))
        replace sz := A.size.trans sz
        replace df := A.defs.trans df
        clear A hb
        show Code.wp _ _ _ _ _
        refine wp_cond_false x24 ?_
        refine wp_skip ?_
        show Code.wp _ _ _ _ _
        refine wp_seq ?_
        refine wp_seq ?_
        -- R6
        refine wp_all_seq [.eq (.int .i64 ((m : Nat) : Int)), .eq (.bool false)] (by kernel_rfl) (by kernel_rfl) (by rw [sz]; kernel_rfl) (by kernel_rfl) ⟨fun hw ac u K => ?_, fun hw ac u K => ?_, trivial⟩ ?_
        · exact st_move (.tmp 1) rfl ((K.old 1 rfl).trans x1)
        · exact st_eqi 3 (.tmp 35) (.const (.int .i64 0)) rfl .i64 (((m : Nat) : Int)) (0) (K.dep 0 35 rfl) rfl _ (by rw [eq_comm, decide_eq_false_iff_not]; omega)
        intro f5 w5 A hb
        replace bl0 := bl
        replace x0 := (A.old 0 rfl).trans x0
        replace x1 := (A.old 1 rfl).trans x1
        replace x4 := (A.old 4 rfl).trans x4
        replace x9 := (A.old 9 rfl).trans x9
        replace x5 := f_at (A.old 5 rfl) (Fk.mono _ _ _ _ x5 hb)
        replace x6 := (A.old 6 rfl).trans x6
        replace x24 := (A.old 24 rfl).trans x24
        have x36 : f5.eval (.tmp 36) = .bool false := A.has 1 36 rfl
        replace bl := (bl.trans (Below.mono hb bl.size))
        replace sz := A.size.trans sz
        replace df := A.defs.trans df
        clear A hb
        show Code.wp _ _ _ _ _
        refine wp_cond_false x36 ?_
        refine wp_skip ?_
        show Code.wp _ _ _ _ _
        refine wp_seq ?_
        -- R8
        refine wp_all_seq [.eq (.int .i64 0), .eq (.bool true), .eq (.bool true), .hs (S), .eq (v), .eq (v), .eq (.int .i64 (((l).length : Nat) : Int)), .eq (.int .i64 ((m : Nat) : Int)), .ps (rsb 0 l.length m true), .hs (S), .eq (.bool true), .eq (.bool true), .eq (.bool true), .eq (.bool true), .eq (.bool true), .eq (.bool true)] (by kernel_rfl) (by kernel_rfl) (by rw [sz]; kernel_rfl) (by kernel_rfl) ⟨fun hw ac u K => ?_, fun hw ac u K => ?_, fun hw ac u K => ?_, fun hw ac u K => ?_, fun hw ac u K => ?_, fun hw ac u K => ?_, fun hw ac u K => ?_, fun hw ac u K => ?_, fun hw ac u K => ?_, fun hw ac u K => ?_, fun hw ac u K => ?_, fun hw ac u K => ?_, fun hw ac u K => ?_, fun hw ac u K => ?_, fun hw ac u K => ?_, fun hw ac u K => ?_, trivial⟩ ?_
        · exact st_move (.tmp 6) rfl ((K.old 6 rfl).trans x6)
        · exact st_eqi 38 (.tmp 47) (.const (.int .i64 0)) rfl .i64 (0) (0) (K.dep 0 47 rfl) rfl _ (by rfl)
        · exact st_move (.tmp 48) rfl (K.dep 1 48 rfl)
        · exact st_move (.tmp 5) rfl (f_at (K.old 5 rfl) (Fk.mono _ _ _ _ x5 K.grow))
        · exact st_move (.tmp 0) rfl ((K.old 0 rfl).trans x0)
        · exact st_move (.tmp 0) rfl ((K.old 0 rfl).trans x0)
        · exact st_lenc (.tmp 52) rfl ((l).length) rfl (fk_val (K.dep 5 52 rfl) (Fk.mono _ _ _ _ hv (bl.trans (Below.mono K.grow bl.size))))
        · exact st_move (.tmp 1) rfl ((K.old 1 rfl).trans x1)
        · exact st_call 20 (.func 20) _ _ #[.int .i64 0, .int .i64 (((l).length : Nat) : Int), .int .i64 ((m : Nat) : Int), .bool true] rfl rfl (arg4 rfl (K.dep 6 53 rfl) (K.dep 7 54 rfl) rfl) Tryd.enter20 (fk_rsub (by omega) (by omega) hm1 hm2)
        · exact st_call 17 (.func 17) _ _ #[v, ac.eval (.tmp 55)] rfl rfl (arg2 (K.dep 4 51 rfl) rfl) Tryd.enter17 (fk_roots (by omega) (by have := rsb_len l.length 0 m true; omega) (fun p hp => by have := rsb_in l.length 0 m true p hp; omega) (Fk.mono _ _ _ _ hv (bl.trans (Below.mono K.grow bl.size))) (K.dep 8 55 rfl) (hK.below (bl.trans (Below.mono K.grow bl.size))) eR)
        · exact st_call 16 (.func 16) _ _ #[ac.eval (.tmp 50), ac.eval (.tmp 56)] rfl rfl (arg2 rfl rfl) Tryd.enter16 (fk_of (same_any hSl _ (K.dep 3 50 rfl) (K.dep 9 56 rfl) true (by simp)))
        · exact st_pick_t (.tmp 49) (.tmp 57) (.const (.bool false)) rfl (K.dep 2 49 rfl) (K.dep 10 57 rfl)
        · exact st_move (.tmp 58) rfl (K.dep 11 58 rfl)
        · exact st_call 10 (.func 10) _ _ #[] rfl rfl rfl Tryd.enter10 (fk_of (awake_any _ (hK.below (bl.trans (Below.mono K.grow bl.size)))))
        · exact st_pick_t (.tmp 59) (.tmp 60) (.const (.bool false)) rfl (K.dep 12 59 rfl) (K.dep 13 60 rfl)
        · exact st_assign (.tmp 61) rfl (K.dep 14 61 rfl)
        intro f6 w6 A hb
        replace bl0 := bl
        replace x0 := (A.old 0 rfl).trans x0
        replace x1 := (A.old 1 rfl).trans x1
        clear x4
        replace x9 := (A.old 9 rfl).trans x9
        replace x5 := f_at (A.old 5 rfl) (Fk.mono _ _ _ _ x5 hb)
        replace x6 := (A.old 6 rfl).trans x6
        replace x24 := (A.old 24 rfl).trans x24
        replace x36 := (A.old 36 rfl).trans x36
        have x4 : f6.eval (.tmp 4) = .bool true := A.has 15 4 rfl
        replace bl := (bl.trans (Below.mono hb bl.size))
        replace sz := A.size.trans sz
        replace df := A.defs.trans df
        clear A hb
        show Code.wp _ _ _ _ _
        refine wp_ret ?_
        repeat (first | with_reducible refine then_ret ?_ | with_reducible refine block_ret ?_)
        exact bodyPost_ret (v := .bool true) (ret_slot rfl f6 _ x4 _ _) df ⟨rfl, bl⟩
      subst hz0
      -- R3
      refine wp_all_seq [.eq (v), .eq (.int .i64 0), .eq (.tuple #[.slice none 0 0, .int .i64 0]), .eq (.tuple #[.slice none 0 0, .int .i64 0]), .eq (.slice none 0 0), .eq (.int .i64 0), .eq (.slice none 0 0), .eq (.int .i64 0)] (by kernel_rfl) (by kernel_rfl) (by rw [sz]; kernel_rfl) (by kernel_rfl) ⟨fun hw ac u K => ?_, fun hw ac u K => ?_, fun hw ac u K => ?_, fun hw ac u K => ?_, fun hw ac u K => ?_, fun hw ac u K => ?_, fun hw ac u K => ?_, fun hw ac u K => ?_, trivial⟩ ?_
      · exact st_move (.tmp 0) rfl ((K.old 0 rfl).trans x0)
      · exact st_move (.tmp 1) rfl ((K.old 1 rfl).trans x1)
      · exact st_call 19 (.func 19) _ _ #[v, .int .i64 0] rfl rfl (arg2 (K.dep 0 12 rfl) (K.dep 1 13 rfl)) Tryd.enter19 (fk_of (proof_zero _ (Fk.mono _ _ _ _ hv (bl.trans (Below.mono K.grow bl.size)))))
      · exact st_move (.tmp 14) rfl (K.dep 2 14 rfl)
      · exact st_ext0 (.tmp 11) rfl (K.dep 3 11 rfl) rfl
      · exact st_ext1 (.tmp 11) rfl (K.dep 3 11 rfl) rfl
      · exact st_assign (.tmp 15) rfl (K.dep 4 15 rfl)
      · exact st_assign (.tmp 16) rfl (K.dep 5 16 rfl)
      intro f3 w3 A hb
      replace bl0 := bl
      replace x0 := (A.old 0 rfl).trans x0
      replace x1 := (A.old 1 rfl).trans x1
      replace x4 := (A.old 4 rfl).trans x4
      replace x9 := (A.old 9 rfl).trans x9
      have x5 : f3.eval (.tmp 5) = .slice none 0 0 := A.has 6 5 rfl
      have x6 : f3.eval (.tmp 6) = .int .i64 0 := A.has 7 6 rfl
      replace bl := (bl.trans (Below.mono hb bl.size))
      replace sz := A.size.trans sz
      replace df := A.defs.trans df
      clear A hb
      show Code.wp _ _ _ _ _
      refine wp_seq ?_
      refine wp_seq ?_
      -- R4
      refine wp_all_seq [.eq (.int .i64 0), .eq (.bool false), .eq (.bool false), .eq (.int .i64 0), .eq (v), .eq (.int .i64 (((l).length : Nat) : Int)), .eq (.bool false), .eq (.bool false)] (by kernel_rfl) (by kernel_rfl) (by rw [sz]; kernel_rfl) (by kernel_rfl) ⟨fun hw ac u K => ?_, fun hw ac u K => ?_, fun hw ac u K => ?_, fun hw ac u K => ?_, fun hw ac u K => ?_, fun hw ac u K => ?_, fun hw ac u K => ?_, fun hw ac u K => ?_, trivial⟩ ?_
      · exact st_move (.tmp 1) rfl ((K.old 1 rfl).trans x1)
      · exact st_lss 3 (.tmp 17) (.const (.int .i64 0)) rfl .i64 (0) (0) (K.dep 0 17 rfl) rfl _ (by rfl)
      · exact st_move (.tmp 18) rfl (K.dep 1 18 rfl)
      · exact st_move (.tmp 1) rfl ((K.old 1 rfl).trans x1)
      · exact st_move (.tmp 0) rfl ((K.old 0 rfl).trans x0)
      · exact st_lenc (.tmp 21) rfl ((l).length) rfl (fk_val (K.dep 4 21 rfl) (Fk.mono _ _ _ _ hv (bl.trans (Below.mono K.grow bl.size))))
      · exact st_gtr 3 (.tmp 20) (.tmp 22) rfl .i64 (0) ((((l).length : Nat) : Int)) (K.dep 3 20 rfl) (K.dep 5 22 rfl) _ (by rw [eq_comm, decide_eq_false_iff_not]; omega)
      · exact st_pick_f' (.tmp 19) (.const (.bool true)) (.tmp 23) rfl (K.dep 2 19 rfl) (K.dep 6 23 rfl)
      intro f4 w4 A hb
      replace bl0 := bl
      replace x0 := (A.old 0 rfl).trans x0
      replace x1 := (A.old 1 rfl).trans x1
      replace x4 := (A.old 4 rfl).trans x4
      replace x9 := (A.old 9 rfl).trans x9
      replace x5 := (A.old 5 rfl).trans x5
      replace x6 := (A.old 6 rfl).trans x6
      have x24 : f4.eval (.tmp 24) = .bool false := A.has 7 24 rfl
      replace bl := (bl.trans (Below.mono hb bl.size))
      replace sz := A.size.trans sz
      replace df := A.defs.trans df
      clear A hb
      show Code.wp _ _ _ _ _
      refine wp_cond_false x24 ?_
      refine wp_skip ?_
      show Code.wp _ _ _ _ _
      refine wp_seq ?_
      refine wp_seq ?_
      -- R6
      refine wp_all_seq [.eq (.int .i64 0), .eq (.bool true)] (by kernel_rfl) (by kernel_rfl) (by rw [sz]; kernel_rfl) (by kernel_rfl) ⟨fun hw ac u K => ?_, fun hw ac u K => ?_, trivial⟩ ?_
      · exact st_move (.tmp 1) rfl ((K.old 1 rfl).trans x1)
      · exact st_eqi 3 (.tmp 35) (.const (.int .i64 0)) rfl .i64 (0) (0) (K.dep 0 35 rfl) rfl _ (by rfl)
      intro f5 w5 A hb
      replace bl0 := bl
      replace x0 := (A.old 0 rfl).trans x0
      replace x1 := (A.old 1 rfl).trans x1
      replace x4 := (A.old 4 rfl).trans x4
      replace x9 := (A.old 9 rfl).trans x9
      replace x5 := (A.old 5 rfl).trans x5
      replace x6 := (A.old 6 rfl).trans x6
      replace x24 := (A.old 24 rfl).trans x24
      have x36 : f5.eval (.tmp 36) = .bool true := A.has 1 36 rfl
      replace bl := (bl.trans (Below.mono hb bl.size))
      replace sz := A.size.trans sz
      replace df := A.defs.trans df
      clear A hb
      show Code.wp _ _ _ _ _
      refine wp_cond_true x36 ?_
      refine wp_seq ?_
      -- R7
      refine wp_all_seq [.eq (.int .i64 0), .eq (.bool true), .eq (.bool true), .eq (.slice none 0 0), .eq (.int .i64 (((nohs).length : Nat) : Int)), .eq (.bool true), .eq (.bool true), .eq (.bool true), .eq (.bool true), .eq (.bool true), .eq (.bool true)] (by kernel_rfl) (by kernel_rfl) (by rw [sz]; kernel_rfl) (by kernel_rfl) ⟨fun hw ac u K => ?_, fun hw ac u K => ?_, fun hw ac u K => ?_, fun hw ac u K => ?_, fun hw ac u K => ?_, fun hw ac u K => ?_, fun hw ac u K => ?_, fun hw ac u K => ?_, fun hw ac u K => ?_, fun hw ac u K => ?_, fun hw ac u K => ?_, trivial⟩ ?_
      · exact st_move (.tmp 6) rfl ((K.old 6 rfl).trans x6)
      · exact st_eqi 38 (.tmp 37) (.const (.int .i64 0)) rfl .i64 (0) (0) (K.dep 0 37 rfl) rfl _ (by rfl)
      · exact st_move (.tmp 38) rfl (K.dep 1 38 rfl)
      · exact st_move (.tmp 5) rfl ((K.old 5 rfl).trans x5)
      · exact st_lenh (.tmp 40) rfl (fk_val (K.dep 3 40 rfl) (Fk.mono _ _ _ _ hnil (bl.trans (Below.mono K.grow bl.size))))
      · exact st_eqi 3 (.tmp 41) (.const (.int .i64 0)) rfl .i64 ((((nohs).length : Nat) : Int)) (0) (K.dep 4 41 rfl) rfl _ (by rfl)
      · exact st_pick_t (.tmp 39) (.tmp 42) (.const (.bool false)) rfl (K.dep 2 39 rfl) (K.dep 5 42 rfl)
      · exact st_move (.tmp 43) rfl (K.dep 6 43 rfl)
      · exact st_call 10 (.func 10) _ _ #[] rfl rfl rfl Tryd.enter10 (fk_of (awake_any _ (hK.below (bl.trans (Below.mono K.grow bl.size)))))
      · exact st_pick_t (.tmp 44) (.tmp 45) (.const (.bool false)) rfl (K.dep 7 44 rfl) (K.dep 8 45 rfl)
      · exact st_assign (.tmp 46) rfl (K.dep 9 46 rfl)
      intro f6 w6 A hb
      replace bl0 := bl
      replace x0 := (A.old 0 rfl).trans x0
      replace x1 := (A.old 1 rfl).trans x1
      clear x4
      replace x9 := (A.old 9 rfl).trans x9
      replace x5 := (A.old 5 rfl).trans x5
      replace x6 := (A.old 6 rfl).trans x6
      replace x24 := (A.old 24 rfl).trans x24
      replace x36 := (A.old 36 rfl).trans x36
      have x4 : f6.eval (.tmp 4) = .bool true := A.has 10 4 rfl
      replace bl := (bl.trans (Below.mono hb bl.size))
      replace sz := A.size.trans sz
      replace df := A.defs.trans df
      clear A hb
      show Code.wp _ _ _ _ _
      refine wp_ret ?_
      repeat (first | with_reducible refine then_ret ?_ | with_reducible refine block_ret ?_)
      exact bodyPost_ret (v := .bool true) (ret_slot rfl f6 _ x4 _ _) df ⟨rfl, bl⟩
    -- R3
    refine wp_all_seq [.eq (v), .eq (.int .i64 (z)), .eq (.tuple #[.slice none 0 0, .int .i64 11]), .eq (.tuple #[.slice none 0 0, .int .i64 11]), .eq (.slice none 0 0), .eq (.int .i64 11), .eq (.slice none 0 0), .eq (.int .i64 11)] (by kernel_rfl) (by kernel_rfl) (by rw [sz]; kernel_rfl) (by kernel_rfl) ⟨fun hw ac u K => ?_, fun hw ac u K => ?_, fun hw ac u K => ?_, fun hw ac u K => ?_, fun hw ac u K => ?_, fun hw ac u K => ?_, fun hw ac u K => ?_, fun hw ac u K => ?_, trivial⟩ ?_
    · exact st_move (.tmp 0) rfl ((K.old 0 rfl).trans x0)
    · exact st_move (.tmp 1) rfl ((K.old 1 rfl).trans x1)
    · exact st_call 19 (.func 19) _ _ #[v, .int .i64 (z)] rfl rfl (arg2 (K.dep 0 12 rfl) (K.dep 1 13 rfl)) Tryd.enter19 (fk_of (proof_no z hz _ (Fk.mono _ _ _ _ hv (bl.trans (Below.mono K.grow bl.size)))))
    · exact st_move (.tmp 14) rfl (K.dep 2 14 rfl)
    · exact st_ext0 (.tmp 11) rfl (K.dep 3 11 rfl) rfl
    · exact st_ext1 (.tmp 11) rfl (K.dep 3 11 rfl) rfl
    · exact st_assign (.tmp 15) rfl (K.dep 4 15 rfl)
    · exact st_assign (.tmp 16) rfl (K.dep 5 16 rfl)
    intro f3 w3 A hb
    replace bl0 := bl
    replace x0 := (A.old 0 rfl).trans x0
    replace x1 := (A.old 1 rfl).trans x1
    replace x4 := (A.old 4 rfl).trans x4
    replace x9 := (A.old 9 rfl).trans x9
    have x5 : f3.eval (.tmp 5) = .slice none 0 0 := A.has 6 5 rfl
    have x6 : f3.eval (.tmp 6) = .int .i64 11 := A.has 7 6 rfl
    replace bl := (bl.trans (Below.mono hb bl.size))
    replace sz := A.size.trans sz
    replace df := A.defs.trans df
    clear A hb
    show Code.wp _ _ _ _ _
    refine wp_seq ?_
    refine wp_seq ?_
    by_cases hz0 : z < 0
    rotate_left
    · skip
      -- R4
      refine wp_all_seq [.eq (.int .i64 (z)), .eq (.bool false), .eq (.bool false), .eq (.int .i64 (z)), .eq (v), .eq (.int .i64 (((l).length : Nat) : Int)), .eq (.bool true), .eq (.bool true)] (by kernel_rfl) (by kernel_rfl) (by rw [sz]; kernel_rfl) (by kernel_rfl) ⟨fun hw ac u K => ?_, fun hw ac u K => ?_, fun hw ac u K => ?_, fun hw ac u K => ?_, fun hw ac u K => ?_, fun hw ac u K => ?_, fun hw ac u K => ?_, fun hw ac u K => ?_, trivial⟩ ?_
      · exact st_move (.tmp 1) rfl ((K.old 1 rfl).trans x1)
      · exact st_lss 3 (.tmp 17) (.const (.int .i64 0)) rfl .i64 ((z)) (0) (K.dep 0 17 rfl) rfl _ (by rw [eq_comm, decide_eq_false_iff_not]; omega)
      · exact st_move (.tmp 18) rfl (K.dep 1 18 rfl)
      · exact st_move (.tmp 1) rfl ((K.old 1 rfl).trans x1)
      · exact st_move (.tmp 0) rfl ((K.old 0 rfl).trans x0)
      · exact st_lenc (.tmp 21) rfl ((l).length) rfl (fk_val (K.dep 4 21 rfl) (Fk.mono _ _ _ _ hv (bl.trans (Below.mono K.grow bl.size))))
      · exact st_gtr 3 (.tmp 20) (.tmp 22) rfl .i64 ((z)) ((((l).length : Nat) : Int)) (K.dep 3 20 rfl) (K.dep 5 22 rfl) _ (by rw [eq_comm, decide_eq_true_iff]; omega)
      · exact st_pick_f' (.tmp 19) (.const (.bool true)) (.tmp 23) rfl (K.dep 2 19 rfl) (K.dep 6 23 rfl)
      intro f4 w4 A hb
      replace bl0 := bl
      replace x0 := (A.old 0 rfl).trans x0
      replace x1 := (A.old 1 rfl).trans x1
      replace x4 := (A.old 4 rfl).trans x4
      replace x9 := (A.old 9 rfl).trans x9
      replace x5 := (A.old 5 rfl).trans x5
      replace x6 := (A.old 6 rfl).trans x6
      have x24 : f4.eval (.tmp 24) = .bool true := A.has 7 24 rfl
      replace bl := (bl.trans (Below.mono hb bl.size))
      replace sz := A.size.trans sz
      replace df := A.defs.trans df
      clear A hb
      show Code.wp _ _ _ _ _
      refine wp_cond_true x24 ?_
      refine wp_seq ?_
      -- R5
      refine wp_all_seq [.eq (.int .i64 11), .eq (.bool true), .eq (.bool true), .eq (.slice none 0 0), .eq (.int .i64 (((nohs).length : Nat) : Int)), .eq (.bool true), .eq (.bool true), .eq (.bool true), .eq (.bool true), .eq (.bool true), .eq (.bool true)] (by kernel_rfl) (by kernel_rfl) (by rw [sz]; kernel_rfl) (by kernel_rfl) ⟨fun hw ac u K => ?_, fun hw ac u K => ?_, fun hw ac u K => ?_, fun hw ac u K => ?_, fun hw ac u K => ?_, fun hw ac u K => ?_, fun hw ac u K => ?_, fun hw ac u K => ?_, fun hw ac u K => ?_, fun hw ac u K => ?_, fun hw ac u K => ?_, trivial⟩ ?_
      · exact st_move (.tmp 6) rfl ((K.old 6 rfl).trans x6)
      · exact st_eqi 38 (.tmp 25) (.const (.int .i64 11)) rfl .i64 (11) (11) (K.dep 0 25 rfl) rfl _ (by rfl)
      · exact st_move (.tmp 26) rfl (K.dep 1 26 rfl)
      · exact st_move (.tmp 5) rfl ((K.old 5 rfl).trans x5)
      · exact st_lenh (.tmp 28) rfl (fk_val (K.dep 3 28 rfl) (Fk.mono _ _ _ _ hnil (bl.trans (Below.mono K.grow bl.size))))
      · exact st_eqi 3 (.tmp 29) (.const (.int .i64 0)) rfl .i64 ((((nohs).length : Nat) : Int)) (0) (K.dep 4 29 rfl) rfl _ (by rfl)
      · exact st_pick_t (.tmp 27) (.tmp 30) (.const (.bool false)) rfl (K.dep 2 27 rfl) (K.dep 5 30 rfl)
      · exact st_move (.tmp 31) rfl (K.dep 6 31 rfl)
      · exact st_call 10 (.func 10) _ _ #[] rfl rfl rfl Tryd.enter10 (fk_of (awake_any _ (hK.below (bl.trans (Below.mono K.grow bl.size)))))
      · exact st_pick_t (.tmp 32) (.tmp 33) (.const (.bool false)) rfl (K.dep 7 32 rfl) (K.dep 8 33 rfl)
      · exact st_assign (.tmp 34) rfl (K.dep 9 34 rfl)
      intro f5 w5 A hb
      replace bl0 := bl
      replace x0 := (A.old 0 rfl).trans x0
      replace x1 := (A.old 1 rfl).trans x1
      clear x4
      replace x9 := (A.old 9 rfl).trans x9
      replace x5 := (A.old 5 rfl).trans x5
      replace x6 := (A.old 6 rfl).trans x6
      replace x24 := (A.old 24 rfl).trans x24
      have x4 : f5.eval (.tmp 4) = .bool true := A.has 10 4 rfl
      replace bl := (bl.trans (Below.mono hb bl.size))
      replace sz := A.size.trans sz
      replace df := A.defs.trans df
      clear A hb
      show Code.wp _ _ _ _ _
      refine wp_ret ?_
      repeat (first | with_reducible refine then_ret ?_ | with_reducible refine block_ret ?_)
      exact bodyPost_ret (v := .bool true) (ret_slot rfl f5 _ x4 _ _) df ⟨rfl, bl⟩
    -- R4
    refine wp_all_seq [.eq (.int .i64 (z)), .eq (.bool true), .eq (.bool true), .any, .any, .any, .any, .eq (.bool true)] (by kernel_rfl) (by kernel_rfl) (by rw [sz]; kernel_rfl) (by kernel_rfl) ⟨fun hw ac u K => ?_, fun hw ac u K => ?_, fun hw ac u K => ?_, fun hw ac u K => ?_, fun hw ac u K => ?_, fun hw ac u K => ?_, fun hw ac u K => ?_, fun hw ac u K => ?_, trivial⟩ ?_
    · exact st_move (.tmp 1) rfl ((K.old 1 rfl).trans x1)
    · exact st_lss 3 (.tmp 17) (.const (.int .i64 0)) rfl .i64 ((z)) (0) (K.dep 0 17 rfl) rfl _ (by rw [eq_comm, decide_eq_true_iff]; omega)
    · exact st_move (.tmp 18) rfl (K.dep 1 18 rfl)
    · exact (Bool.false_ne_true hw).elim
    · exact (Bool.false_ne_true hw).elim
    · exact (Bool.false_ne_true hw).elim
    · exact (Bool.false_ne_true hw).elim
    · exact st_pick_t (.tmp 19) (.const (.bool true)) (.tmp 23) rfl (K.dep 2 19 rfl) rfl
    intro f4 w4 A hb
    replace bl0 := bl
    replace x0 := (A.old 0 rfl).trans x0
    replace x1 := (A.old 1 rfl).trans x1
    replace x4 := (A.old 4 rfl).trans x4
    replace x9 := (A.old 9 rfl).trans x9
    replace x5 := (A.old 5 rfl).trans x5
    replace x6 := (A.old 6 rfl).trans x6
    have x24 : f4.eval (.tmp 24) = .bool true := A.has 7 24 rfl
    replace bl := (bl.trans (Below.mono hb bl.size))
    replace sz := A.size.trans sz
    replace df := A.defs.trans df
    clear A hb
    show Code.wp _ _ _ _ _
    refine wp_cond_true x24 ?_
    refine wp_seq ?_
    -- R5
    refine wp_all_seq [.eq (.int .i64 11), .eq (.bool true), .eq (.bool true), .eq (.slice none 0 0), .eq (.int .i64 (((nohs).length : Nat) : Int)), .eq (.bool true), .eq (.bool true), .eq (.bool true), .eq (.bool true), .eq (.bool true), .eq (.bool true)] (by kernel_rfl) (by kernel_rfl) (by rw [sz]; kernel_rfl) (by kernel_rfl) ⟨fun hw ac u K => ?_, fun hw ac u K => ?_, fun hw ac u K => ?_, fun hw ac u K => ?_, fun hw ac u K => ?_, fun hw ac u K => ?_, fun hw ac u K => ?_, fun hw ac u K => ?_, fun hw ac u K => ?_, fun hw ac u K => ?_, fun hw ac u K => ?_, trivial⟩ ?_
    · exact st_move (.tmp 6) rfl ((K.old 6 rfl).trans x6)
    · exact st_eqi 38 (.tmp 25) (.const (.int .i64 11)) rfl .i64 (11) (11) (K.dep 0 25 rfl) rfl _ (by rfl)
    · exact st_move (.tmp 26) rfl (K.dep 1 26 rfl)
    · exact st_move (.tmp 5) rfl ((K.old 5 rfl).trans x5)
    · exact st_lenh (.tmp 28) rfl (fk_val (K.dep 3 28 rfl) (Fk.mono _ _ _ _ hnil (bl.trans (Below.mono K.grow bl.size))))
    · exact st_eqi 3 (.tmp 29) (.const (.int .i64 0)) rfl .i64 ((((nohs).length : Nat) : Int)) (0) (K.dep 4 29 rfl) rfl _ (by rfl)
    · exact st_pick_t (.tmp 27) (.tmp 30) (.const (.bool false)) rfl (K.dep 2 27 rfl) (K.dep 5 30 rfl)
    · exact st_move (.tmp 31) rfl (K.dep 6 31 rfl)
    · exact st_call 10 (.func 10) _ _ #[] rfl rfl rfl Tryd.enter10 (fk_of (awake_any _ (hK.below (bl.trans (Below.mono K.grow bl.size)))))
    · exact st_pick_t (.tmp 32) (.tmp 33) (.const (.bool false)) rfl (K.dep 7 32 rfl) (K.dep 8 33 rfl)
    · exact st_assign (.tmp 34) rfl (K.dep 9 34 rfl)
    intro f5 w5 A hb
    replace bl0 := bl
    replace x0 := (A.old 0 rfl).trans x0
    replace x1 := (A.old 1 rfl).trans x1
    clear x4
    replace x9 := (A.old 9 rfl).trans x9
    replace x5 := (A.old 5 rfl).trans x5
    replace x6 := (A.old 6 rfl).trans x6
    replace x24 := (A.old 24 rfl).trans x24
    have x4 : f5.eval (.tmp 4) = .bool true := A.has 10 4 rfl
    replace bl := (bl.trans (Below.mono hb bl.size))
    replace sz := A.size.trans sz
    replace df := A.defs.trans df
    clear A hb
    show Code.wp _ _ _ _ _
    refine wp_ret ?_
    repeat (first | with_reducible refine then_ret ?_ | with_reducible refine block_ret ?_)
    exact bodyPost_ret (v := .bool true) (ret_slot rfl f5 _ x4 _ _) df ⟨rfl, bl⟩
  -- R1
  refine wp_all_seq [.eq (v), .eq (.int .i64 (((l).length : Nat) : Int)), .eq (.bool true)] (by kernel_rfl) (by kernel_rfl) (by rw [sz]; kernel_rfl) (by kernel_rfl) ⟨fun hw ac u K => ?_, fun hw ac u K => ?_, fun hw ac u K => ?_, trivial⟩ ?_
  · exact st_move (.tmp 0) rfl ((K.old 0 rfl).trans x0)
  · exact st_lenc (.tmp 7) rfl ((l).length) rfl (fk_val (K.dep 0 7 rfl) (Fk.mono _ _ _ _ hv (bl.trans (Below.mono K.grow bl.size))))
  · exact st_gtr 3 (.tmp 8) (.const (.int .i64 70)) rfl .i64 ((((l).length : Nat) : Int)) (70) (K.dep 1 8 rfl) rfl _ (by rw [eq_comm, decide_eq_true_iff]; omega)
  intro f2 w2 A hb
  replace bl0 := bl
  replace x0 := (A.old 0 rfl).trans x0
  replace x1 := (A.old 1 rfl).trans x1
  replace x4 := (A.old 4 rfl).trans x4
  have x9 : f2.eval (.tmp 9) = .bool true := A.has 2 9 rfl
  replace bl := (bl.trans (Below.mono hb bl.size))
  replace sz := A.size.trans sz
  replace df := A.defs.trans df
  clear A hb
  show Code.wp _ _ _ _ _
  refine wp_cond_true x9 ?_
  refine wp_seq ?_
  -- R2
  refine wp_all_seq [.eq (.bool true), .eq (.bool true)] (by kernel_rfl) (by kernel_rfl) (by rw [sz]; kernel_rfl) (by kernel_rfl) ⟨fun hw ac u K => ?_, fun hw ac u K => ?_, trivial⟩ ?_
  · exact st_call 10 (.func 10) _ _ #[] rfl rfl rfl Tryd.enter10 (fk_of (awake_any _ (hK.below (bl.trans (Below.mono K.grow bl.size)))))
  · exact st_assign (.tmp 10) rfl (K.dep 0 10 rfl)
  intro f3 w3 A hb
  replace bl0 := bl
  replace x0 := (A.old 0 rfl).trans x0
  replace x1 := (A.old 1 rfl).trans x1
  clear x4
  replace x9 := (A.old 9 rfl).trans x9
  have x4 : f3.eval (.tmp 4) = .bool true := A.has 1 4 rfl
  replace bl := (bl.trans (Below.mono hb bl.size))
  replace sz := A.size.trans sz
  replace df := A.defs.trans df
  clear A hb
  show Code.wp _ _ _ _ _
  refine wp_ret ?_
  repeat (first | with_reducible refine then_ret ?_ | with_reducible refine block_ret ?_)
  exact bodyPost_ret (v := .bool true) (ret_slot rfl f3 _ x4 _ _) df ⟨rfl, bl⟩
end Go.Proofs.YtfbfngblocfdlaaDoor
namespace Go.Proofs.YtfbfngblocfdlaaDoor
set_option maxRecDepth 100000
open Go.ChangeShapes Go.WideShapes Go.ChangeAt Go.RowKit

theorem own : ownKnob Tryd.prog.godebug = none := by kernel_rfl
theorem laidOut : laidOutB Tryd.prog = true := by kernel_rfl
theorem gK : Tryd.prog.globalNamed "syngraph/sha.roundNumbers" = some 0 := by kernel_rfl
theorem tK : (Tryd.prog.globals[0]?).map (·.type) = some 74 := by kernel_rfl
theorem cells63 : Tryd.prog.cellsOf 63 = 1 := by kernel_rfl
theorem cells74 : Tryd.prog.cellsOf 74 = 64 := by kernel_rfl
theorem cells5 : Tryd.prog.cellsOf 5 = 1 := by kernel_rfl
theorem cells24 : Tryd.prog.cellsOf 24 = 32 := by kernel_rfl
theorem under63 : Tryd.prog.underlying 63 = some (.int .u32) := by kernel_rfl
/-- What the rows list. -/
def laidK : List (String × DataW Unit) := [("syngraph/sha.roundNumbers", Rows.laid_syngraph_sha_roundNumbers)]
theorem laidK_tab : laidK = [("syngraph/sha.roundNumbers", Lib.tabData .u32 (KN.map vl))] := by kernel_rfl
theorem hasK_of {W : World} (h : laidMetH Tryd.prog laidK W) : HasK W 0 ∧ 0 < W.heap.size := by
  rw [MakeChecks.laidMetH_plain _ _ _ (by kernel_rfl), laidK_tab] at h
  have hT := Lib.tabIs_of_head gK tK Tryd.under74 under63 cells63 cells74 h
  have hc : ∀ i, i < 64 → W.cell? ⟨0, i, none⟩ = some (.int .u32 (vl (KN.getD i 0))) := fun i hi => by
    rw [hT.cell gK i (by simpa [KN] using hi)]
    have hi' : i < KN.length := by simpa [KN] using hi
    simp [hi']
  exact ⟨hc, block_lt_of_cell (hc 0 (by omega))⟩
/-- An array of bytes, by value, opened. -/
theorem open_arr8 {H : Type} {enc : TypeId × Value → H} {P : Program} {w : World} {r : Reach} {b0 base : Nat} {spare : Nat → Bool} {held : Bool} {t e : TypeId} {n : Nat} {v : Value} {d : DataW H} {p : List MemPlace}
    (ht : P.underlying t = some (.array n e)) (he : P.underlying e = some (.int .u8)) (hce : P.cellsOf e = 1) (hct : P.cellsOf t = n)
    (hv : Value.okWide P w r b0 t v) (h : DataW.Trod enc P w base spare held t v d p) : ∃ xs : List (BitVec 8), xs.length = n ∧ v = .agg (xs.map V).toArray := by
  unfold Value.okWide at hv
  rw [ht] at hv
  obtain ⟨cs, rfl, hsz, _⟩ := hv
  obtain ⟨fuel, hf⟩ := h
  obtain ⟨ys, m, _, _, hl, hn, hel⟩ := DataW.trod_array ht hf
  have hcell : ∀ i, i < n → ∃ z : Int, cs.toList[i]? = some (.int .u8 z) ∧ 0 ≤ z ∧ z < 256 := fun i hi => by
    have h1 := hel i hi
    rw [hce, List.getElem?_eq_getElem (by omega)] at h1
    obtain ⟨z, hc, _, hw⟩ := DataW.trod_int he h1
    refine ⟨z, ?_, ?_⟩
    · have := congrArg (·[0]?) hc
      simpa [List.getElem?_take, List.getElem?_drop, Value.cells] using this
    · have := bounds_u8 hw
      omega
  refine ⟨cs.toList.map fun v => match v with | .int _ z => BitVec.ofInt 8 z | _ => 0, ?_, ?_⟩
  · rw [List.length_map, Array.length_toList]; omega
  · congr 1
    apply Array.toList_inj.1
    apply List.ext_getElem?
    intro i
    by_cases hi : i < n
    · obtain ⟨z, hz, h0, h1⟩ := hcell i hi
      rw [hz]
      simp only [List.getElem?_map, hz, Option.map_some, List.map_map, Function.comp]
      simp only [V, bv]
      rw [BitVec.toNat_ofInt]
      congr 2
      omega
    · rw [List.getElem?_eq_none (by simp; omega), List.getElem?_eq_none (by simp; omega)]
theorem door_met (os : Os) (args : Array Value) : laidMetH Tryd.prog laidK ((World.doorLaid Tryd.prog 400 os).forCall (fun _ _ => 0) ⟨#[], args, []⟩).memory :=
  laidMetH_of_parts3 (fuel := 8) (laidMet_of_run' 8 (by kernel_rfl) (by kernel_rfl)) (by kernel_rfl) (by kernel_rfl)
end Go.Proofs.YtfbfngblocfdlaaDoor
namespace Go.Proofs.YtfbfngblocfdlaaDoor
set_option maxRecDepth 100000
open Go.ChangeShapes Go.WideShapes Go.ChangeAt Go.RowKit
theorem bv_ofInt (z : Int) (h0 : 0 ≤ z) (h1 : z < 256) : bv (BitVec.ofInt 8 z) = z := by
  unfold bv
  rw [BitVec.toNat_ofInt]
  omega
theorem sl_of {H : Type} {enc : TypeId × Value → H} {W : World} {a : Option Addr} {len cap : Nat} {d : DataW H} {p : List MemPlace}
    (h : DataW.Trod enc Tryd.prog W 0 (fun _ => true) true 35 (.slice a len cap) d p) : ∃ bs b o, Sl W a len cap bs b o ∧ len ≤ maxLen := by
  obtain ⟨fuel, hf⟩ := h
  rcases open_ints Tryd.under35 Tryd.under5 (by kernel_rfl) hf with ⟨hcs, _⟩ | ⟨x, l, c, zs, hcs, _, hl, hm, hz, _, hcell, hwz⟩
  · simp [Value.cells] at hcs
    obtain ⟨rfl, rfl, rfl⟩ := hcs
    exact ⟨[], 0, 0, ⟨rfl, Nat.le_refl _, fun _ => ⟨rfl, rfl⟩, fun h => absurd h (by omega)⟩, by unfold maxLen; omega⟩
  · simp [Value.cells] at hcs
    obtain ⟨rfl, rfl, rfl⟩ := hcs
    have hlen : zs.length = cap := by simpa using hz
    refine ⟨(zs.take len).map (BitVec.ofInt 8), x.block, x.off, ⟨?_, hl, fun h => by (cases h), fun hp => ?_⟩, by unfold maxLen at *; omega⟩
    · rw [List.length_map, List.length_take]; omega
    · have hspot : x.spot = none := by
        have := hcell 0 (by omega)
        simp only [Addr.add, if_true] at this
        unfold World.cell? at this
        split at this
        · split at this
          · cases this
          · rename_i h; simpa using h
        · cases this
      have hx : x = ⟨x.block, x.off, none⟩ := by rw [← hspot]
      have hadd : ∀ i, x.add i = ⟨x.block, x.off + i, none⟩ := fun i => by
        unfold Addr.add
        split
        · rename_i h; subst h; rw [Nat.add_zero]; exact hx
        · rfl
      refine ⟨by rw [← hx], ?_, ?_⟩
      · have := block_lt_of_cell (hcell 0 (by omega))
        simpa [Addr.add] using this
      · intro i hi
        have hil : i < zs.length := by rw [List.length_map, List.length_take] at hi; omega
        have hin : i < len := by rw [List.length_map, List.length_take] at hi; omega
        rw [← hadd, hcell i hil]
        have hb := bounds_u8 (hwz (zs[i]) (List.getElem_mem hil))
        have e1 : zs.getD i 0 = zs[i] := by simp [hil]
        have e2 : ((zs.take len).map (BitVec.ofInt 8)).getD i 0 = BitVec.ofInt 8 zs[i] := by simp [hil, hin]
        rw [e1, e2, bv_ofInt _ (by omega) (by omega)]
end Go.Proofs.YtfbfngblocfdlaaDoor
namespace Go.Proofs.YtfbfngblocfdlaaDoor
set_option maxRecDepth 100000
open Go.ChangeShapes Go.WideShapes Go.ChangeAt Go.RowKit
theorem add_plain {w : World} {x : Addr} {v : Value} (h : w.cell? x = some v) : ∀ i, x.add i = ⟨x.block, x.off + i, none⟩ := by
  have hspot : x.spot = none := by
    unfold World.cell? at h
    split at h
    · split at h
      · cases h
      · rename_i h2; simpa using h2
    · cases h
  intro i
  unfold Addr.add
  split
  · rename_i h2; subst h2; rw [Nat.add_zero, ← hspot]
  · rfl
theorem Tryd.under22 : Tryd.prog.underlying 22 = some (.slice 24) := by kernel_rfl
theorem hl_of {H : Type} {enc : TypeId × Value → H} {W : World} {A : Option Addr} {N C : Nat} {d : DataW H} {p : List MemPlace}
    (h : DataW.Trod enc Tryd.prog W 0 (fun _ => true) true 22 (.slice A N C) d p) : ∃ lb lo hs, Hl W A lb lo hs ∧ N = hs.length ∧ N ≤ maxLen := by
  obtain ⟨fuel, hf⟩ := h
  rcases Deep.open_slice Tryd.under22 hf with ⟨hcs, _⟩ | ⟨a, len, cap, m, n, D, Pl, hcs, _, hl, hm, hmm, _, hel⟩
  · simp [Value.cells] at hcs
    obtain ⟨rfl, rfl, rfl⟩ := hcs
    exact ⟨0, 0, [], ⟨fun h => absurd h (by simp), fun h => absurd h (by simp), fun i x hi => by simp at hi⟩, rfl, by unfold maxLen; omega⟩
  · simp [Value.cells] at hcs
    obtain ⟨rfl, rfl, rfl⟩ := hcs
    have hmc : m = C := by simpa using hmm
    subst hmc
    rw [cells24] at hel
    obtain ⟨F, hF⟩ := Deep.choose_lt (α := List (BitVec 8)) (n := N) (p := fun i x => x.length = 32 ∧ ∀ j, j < 32 → W.cell? (a.add (i * 32 + j)) = some (.int .u8 (bv (x.getD j 0)))) (fun i hi => by
      obtain ⟨cs', h1, h2⟩ := hel i (by omega)
      obtain ⟨_, hlen, hcell⟩ := World.cells?_some h1
      obtain ⟨ys, m', _, _, hl', hn, hel'⟩ := DataW.trod_array Tryd.under24 h2
      have hz : ∀ j, j < 32 → ∃ z : Int, cs'[j]? = some (.int .u8 z) ∧ 0 ≤ z ∧ z < 256 := fun j hj => by
        have h3 := hel' j hj
        rw [cells5, List.getElem?_eq_getElem (by omega)] at h3
        obtain ⟨z, hc, _, hw⟩ := DataW.trod_int Tryd.under5 h3
        refine ⟨z, ?_, ?_⟩
        · have := congrArg (·[0]?) hc
          simpa [List.getElem?_take, List.getElem?_drop, Value.cells] using this
        · have := bounds_u8 hw
          omega
      refine ⟨cs'.map fun v => match v with | .int _ z => BitVec.ofInt 8 z | _ => 0, by rw [List.length_map]; exact hlen, fun j hj => ?_⟩
      obtain ⟨z, hz1, h0, h256⟩ := hz j hj
      rw [← Deep.add_add, hcell j hj, hz1]
      have : bv (BitVec.ofInt 8 z) = z := bv_ofInt z h0 h256
      simp [hz1, this])
    have hbase : 0 < N → ∀ i, a.add i = ⟨a.block, a.off + i, none⟩ := fun hp => by
      have h0 := (hF 0 hp).2 0 (by omega)
      have e0 : a.add (0 * 32 + 0) = a := by simp [Addr.add]
      rw [e0] at h0
      exact add_plain h0
    refine ⟨a.block, a.off, (List.range N).map F, ⟨fun hp => ?_, fun hp => ?_, fun i x hi => ?_⟩, by simp, by unfold maxLen at *; omega⟩
    · rw [List.length_map, List.length_range] at hp
      have := hbase hp 0
      have e0 : a.add 0 = a := by simp [Addr.add]
      rw [e0, Nat.add_zero] at this
      rw [← this]
    · rw [List.length_map, List.length_range] at hp
      have h0 := (hF 0 hp).2 0 (by omega)
      have e0 : a.add (0 * 32 + 0) = a := by simp [Addr.add]
      rw [e0] at h0
      exact block_lt_of_cell h0
    · obtain ⟨h1, h2⟩ := List.getElem?_eq_some_iff.1 hi
      have hiN : i < N := by simpa using h1
      have e : x = F i := by rw [← h2]; simp
      subst e
      refine ⟨(hF i hiN).1, fun j hj => ?_⟩
      have hj' : j < 32 := by rw [(hF i hiN).1] at hj; exact hj
      have := (hF i hiN).2 j hj'
      rw [hbase (by omega), ← Nat.add_assoc] at this
      exact this
end Go.Proofs.YtfbfngblocfdlaaDoor
namespace Go.Proofs.YtfbfngblocfdlaaDoor
set_option maxRecDepth 100000
open Go.ChangeShapes Go.WideShapes Go.ChangeAt Go.RowKit
/-- The types and places of a struct's fields. -/
def fldS (P : Program) (t : TypeId) : Option (List (TypeId × Nat)) := match P.underlying t with | some (.struct fs) => some (fs.toList.map fun f => (f.type, f.offset)) | _ => none
section
variable {H : Type} {enc : TypeId × Value → H} {W : World}
theorem parts_of {t : TypeId} {l : List (TypeId × Nat)} (hF : fldS Tryd.prog t = some l) {fuel : Nat} {cs : List Value} {x : DataW H × List MemPlace} (h : DataW.trod enc Tryd.prog W 0 (fun _ => true) true fuel t cs = some x) :
    cs.length = Tryd.prog.cellsOf t ∧ ∀ (i : Nat) (ty : TypeId) (off : Nat), l[i]? = some (ty, off) → ∃ n y, DataW.trod enc Tryd.prog W 0 (fun _ => true) true n ty ((cs.drop off).take (Tryd.prog.cellsOf ty)) = some y := by
  unfold fldS at hF
  cases hu : Tryd.prog.underlying t with
  | none => rw [hu] at hF; simp at hF
  | some td =>
    rw [hu] at hF
    cases td <;> simp only [] at hF <;> try (cases hF)
    rename_i fs
    obtain ⟨xs, n, _, rfl, hl, hlen, hf⟩ := DataW.trod_struct hu h
    refine ⟨hl, fun i ty off hi => ?_⟩
    rw [List.getElem?_map] at hi
    cases hfi : fs.toList[i]? with
    | none => rw [hfi] at hi; cases hi
    | some f =>
      rw [hfi] at hi
      obtain ⟨rfl, rfl⟩ : f.type = ty ∧ f.offset = off := by simpa using hi
      have hi2 : i < fs.toList.length := (List.getElem?_eq_some_iff.1 hfi).1
      have hi3 : i < xs.length := by simp only [Array.length_toList] at hi2; omega
      exact ⟨n, xs[i], (hf i f (by simpa using hfi)).trans (List.getElem?_eq_getElem hi3)⟩
theorem int_part {n : Nat} {cs : List Value} {y : DataW H × List MemPlace} (h : DataW.trod enc Tryd.prog W 0 (fun _ => true) true n 3 cs = some y) : ∃ z : Int, cs = [.int .i64 z] ∧ -9223372036854775808 ≤ z ∧ z ≤ 9223372036854775807 := by
  obtain ⟨z, hc, _, hw⟩ := DataW.trod_int Tryd.under3 h
  refine ⟨z, by simpa [Value.cells] using hc, ?_⟩
  have := bounds_i64 hw
  omega
theorem hs_part {n : Nat} {cs : List Value} {y : DataW H × List MemPlace} (h : DataW.trod enc Tryd.prog W 0 (fun _ => true) true n 22 cs = some y) : ∃ A C hs, cs = [.slice A hs.length C] ∧ (Fk.hs hs).f (.slice A hs.length C) W := by
  have key : ∀ A N C, cs = [.slice A N C] → ∃ A C hs, cs = [.slice A hs.length C] ∧ (Fk.hs hs).f (.slice A hs.length C) W := by
    intro A N C e
    obtain ⟨lb, lo, hs, hl, hn, _⟩ := hl_of (A := A) (N := N) (C := C) (d := y.1) (p := y.2) ⟨n, by rw [show (Value.slice A N C).cells.toList = cs from by rw [e]; rfl]; exact h⟩
    subst hn
    exact ⟨A, C, hs, e, A, C, lb, lo, rfl, hl⟩
  rcases Deep.open_slice Tryd.under22 h with ⟨hcs, _⟩ | ⟨a, len, cap, m, n', D, Pl, hcs, _⟩
  · exact key _ _ _ hcs
  · exact key _ _ _ hcs
theorem sl_part {n : Nat} {cs : List Value} {y : DataW H × List MemPlace} (h : DataW.trod enc Tryd.prog W 0 (fun _ => true) true n 35 cs = some y) : ∃ v bs, cs = [v] ∧ (Fk.sl bs).f v W := by
  have key : ∀ A N C, cs = [.slice A N C] → ∃ v bs, cs = [v] ∧ (Fk.sl bs).f v W := by
    intro A N C e
    obtain ⟨bs, b, o, hs, _⟩ := sl_of (a := A) (len := N) (cap := C) (d := y.1) (p := y.2) ⟨n, by rw [show (Value.slice A N C).cells.toList = cs from by rw [e]; rfl]; exact h⟩
    exact ⟨_, bs, e, A, N, C, b, o, rfl, hs⟩
  rcases Deep.open_slice Tryd.under35 h with ⟨hcs, _⟩ | ⟨a, len, cap, m, n', D, Pl, hcs, _⟩
  · exact key _ _ _ hcs
  · exact key _ _ _ hcs
theorem arr_part {n : Nat} {cs : List Value} {y : DataW H × List MemPlace} (h : DataW.trod enc Tryd.prog W 0 (fun _ => true) true n 24 cs = some y) : ∃ xs : List (BitVec 8), xs.length = 32 ∧ cs = xs.map V := by
  obtain ⟨ys, m, _, _, hl, hn, hel⟩ := DataW.trod_array Tryd.under24 h
  rw [cells24] at hl
  have hcell : ∀ i, i < 32 → ∃ z : Int, cs[i]? = some (.int .u8 z) ∧ 0 ≤ z ∧ z < 256 := fun i hi => by
    have h1 := hel i hi
    rw [cells5, List.getElem?_eq_getElem (by omega)] at h1
    obtain ⟨z, hc, _, hw⟩ := DataW.trod_int Tryd.under5 h1
    refine ⟨z, ?_, ?_⟩
    · have := congrArg (·[0]?) hc
      simpa [List.getElem?_take, List.getElem?_drop, Value.cells] using this
    · have := bounds_u8 hw
      omega
  refine ⟨cs.map fun v => match v with | .int _ z => BitVec.ofInt 8 z | _ => 0, by rw [List.length_map]; exact hl, ?_⟩
  apply List.ext_getElem?
  intro i
  by_cases hi : i < 32
  · obtain ⟨z, hz, h0, h1⟩ := hcell i hi
    rw [hz]
    simp only [List.getElem?_map, hz, Option.map_some, List.map_map, Function.comp]
    simp only [V, bv]
    rw [BitVec.toNat_ofInt]
    congr 2
    omega
  · rw [List.getElem?_eq_none (by omega), List.getElem?_eq_none (by simp; omega)]
theorem cells3 : Tryd.prog.cellsOf 3 = 1 := by kernel_rfl
theorem cells22 : Tryd.prog.cellsOf 22 = 1 := by kernel_rfl
theorem cells35 : Tryd.prog.cellsOf 35 = 1 := by kernel_rfl
end
end Go.Proofs.YtfbfngblocfdlaaDoor
namespace Go.Proofs.YtfbfngblocfdlaaDoor
set_option maxRecDepth 100000
set_option maxRecDepth 100000
open Go.ChangeShapes Go.WideShapes Go.ChangeAt Go.RowKit
variable {H : Type} {enc : TypeId × Value → H} {W : World}
theorem open_int {r : Reach} {b0 : Nat} {v : Value} {d : DataW H} {p : List MemPlace} (hv : Value.okWide Tryd.prog W r b0 3 v) (h : DataW.Trod enc Tryd.prog W 0 (fun _ => true) true 3 v d p) : ∃ z : Int, v = .int .i64 z ∧ -9223372036854775808 ≤ z ∧ z ≤ 9223372036854775807 := by
  obtain ⟨z, rfl⟩ := okWide_int Tryd.under3 hv
  obtain ⟨m, hm⟩ := h
  obtain ⟨z', e, h1, h2⟩ := int_part hm
  have : z = z' := by simpa [Value.cells] using e
  subst this
  exact ⟨z, rfl, h1, h2⟩
theorem open_hc {r : Reach} {b0 : Nat} {v : Value} {d : DataW H} {p : List MemPlace} (hv : Value.okWide Tryd.prog W r b0 22 v) (h : DataW.Trod enc Tryd.prog W 0 (fun _ => true) true 22 v d p) : ∃ l, (Fk.hc l).f v W ∧ l.length ≤ maxLen := by
  obtain ⟨A, N, C, rfl⟩ := okWide_slice Tryd.under22 hv
  have hcap : N ≤ C := by
    obtain ⟨m, hm⟩ := h
    rcases Deep.open_slice Tryd.under22 hm with ⟨hcs, _⟩ | ⟨a, len, cap, m, n, D, Pl, hcs, _, hl, _⟩
    · simp [Value.cells] at hcs
      omega
    · simp [Value.cells] at hcs
      obtain ⟨_, rfl, rfl⟩ := hcs
      exact hl
  obtain ⟨lb, lo, hs, hl, hn, hm⟩ := hl_of h
  subst hn
  exact ⟨hs, ⟨A, C, lb, lo, rfl, hcap, hl⟩, hm⟩
end Go.Proofs.YtfbfngblocfdlaaDoor
