/- The reference's Root, Path, Sub. Root. An own slice of hashes that is cut is an own slice. -/
import Derived.Test.YtfbfngblocfdlaaDoorM7
import Derived.Test.YtfbfngblocfdlaaDoorM6
namespace Go.Proofs.YtfbfngblocfdlaaDoor
set_option maxRecDepth 100000
open Go.RowKit
theorem rops_len (n : Nat) : ∀ a, 1 ≤ n → (rops a n).length = 2 * n - 1 := by
  induction n using Nat.strongRecOn with
  | ind n ih =>
    intro a h1
    by_cases h2 : n = 1
    · subst h2; rw [rops_one]; rfl
    · have hs := spl_lt (n := n) (by omega)
      have hp := spl_pos n
      rw [rops_two a (by omega), List.length_append, List.length_append, ih (spl n) hs a hp, ih (n - spl n) (by omega) (a + spl n) (by omega)]
      simp only [List.length_cons, List.length_nil]
      omega
theorem rpl_len (n : Nat) : ∀ a i, (rpl a n i).length ≤ n := by
  induction n using Nat.strongRecOn with
  | ind n ih =>
    intro a i
    by_cases h2 : n ≤ 1
    · rw [rpl, dif_pos h2]; exact Nat.zero_le _
    · have hs := spl_lt (n := n) (by omega)
      have hp := spl_pos n
      by_cases hi : i < a + spl n
      · have := ih (spl n) hs a i
        rw [rpl_left (by omega) hi, List.length_append, List.length_singleton]; omega
      · have := ih (n - spl n) (by omega) (a + spl n) i
        rw [rpl_right (by omega) hi, List.length_append, List.length_singleton]; omega
theorem rsb_len (n : Nat) : ∀ a m b, (rsb a n m b).length ≤ n + 1 := by
  induction n using Nat.strongRecOn with
  | ind n ih =>
    intro a m b
    by_cases hm : m = n
    · rw [rsb, if_pos hm]; split <;> simp
    · by_cases h2 : n ≤ 1
      · rw [rsb, if_neg hm, dif_pos h2]; exact Nat.zero_le _
      · have hs := spl_lt (n := n) (by omega)
        have hp := spl_pos n
        by_cases hi : m ≤ spl n
        · have := ih (spl n) hs a m b
          rw [rsb_left (by omega) hm hi, List.length_append, List.length_singleton]; omega
        · have := ih (n - spl n) (by omega) (a + spl n) (m - spl n) false
          rw [rsb_right (by omega) hm hi, List.length_append, List.length_singleton]; omega
theorem rroot_any (n : Nat) : ∀ (a : Nat) (w : World), 1 ≤ n → a + n ≤ 1000 → Calls Tryd.prog 23 #[.int .i64 ((a : Nat) : Int), .int .i64 ((a + n : Nat) : Int)] w fun e w' => ∃ u, e = .returned u ∧ (Fk.oi w.heap.size (rops a n)).f u w' ∧ Below w.heap.size w w' := by
  induction n using Nat.strongRecOn with
  | ind n ih =>
  intro a w hn1 hle
  by_cases h1 : n = 1
  · skip
    go_enter Tryd.func23, Tryd.ntmps23
    refine code_both (fun f w1 => f.tmps.size = 34 ∧ f.defers = [] ∧ f.eval (.tmp 0) = .int .i64 ((a : Nat) : Int) ∧ f.eval (.tmp 1) = .int .i64 ((a + n : Nat) : Int) ∧ Below w.heap.size w (w1)) ⟨rfl, rfl, rfl, rfl, Below.refl _ _⟩ ?_
    rintro f0 w0 ⟨sz, df, x0, x1, bl⟩
    have bl0 := bl
    refine wp_seq ?_
    -- R0
    refine wp_all_seq [.eq (.slice none 0 0)] (by kernel_rfl) (by kernel_rfl) (by rw [sz]; kernel_rfl) (by kernel_rfl) ⟨fun hw ac u K => ?_, trivial⟩ ?_
    · exact st_assign (.const (.slice none 0 0)) rfl rfl
    intro f1 w1 A hb
    replace bl0 := bl
    replace x0 := (A.old 0 rfl).trans x0
    replace x1 := (A.old 1 rfl).trans x1
    have x4 : f1.eval (.tmp 4) = .slice none 0 0 := A.has 0 4 rfl
    replace bl := (bl.trans (Below.mono hb bl.size))
    replace sz := A.size.trans sz
    replace df := A.defs.trans df
    clear A hb
    show Code.wp _ _ _ _ _
    refine wp_seq ?_
    refine wp_seq ?_
    -- R1
    refine wp_all_seq [.eq (.int .i64 ((a + n : Nat) : Int)), .eq (.int .i64 ((a : Nat) : Int)), .eq (.int .i64 ((n : Nat) : Int)), .eq (.bool true)] (by kernel_rfl) (by kernel_rfl) (by rw [sz]; kernel_rfl) (by kernel_rfl) ⟨fun hw ac u K => ?_, fun hw ac u K => ?_, fun hw ac u K => ?_, fun hw ac u K => ?_, trivial⟩ ?_
    · exact st_move (.tmp 1) rfl ((K.old 1 rfl).trans x1)
    · exact st_move (.tmp 0) rfl ((K.old 0 rfl).trans x0)
    · exact st_sub (.tmp 7) (.tmp 8) rfl (a + n) (a) (n) (K.dep 0 7 rfl) (K.dep 1 8 rfl) (by omega) (by omega)
    · exact st_eqi 3 (.tmp 9) (.const (.int .i64 1)) rfl .i64 (((n : Nat) : Int)) (1) (K.dep 2 9 rfl) rfl _ (by rw [eq_comm, decide_eq_true_iff]; omega)
    intro f2 w2 A hb
    replace bl0 := bl
    replace x0 := (A.old 0 rfl).trans x0
    replace x1 := (A.old 1 rfl).trans x1
    replace x4 := (A.old 4 rfl).trans x4
    have x10 : f2.eval (.tmp 10) = .bool true := A.has 3 10 rfl
    replace bl := (bl.trans (Below.mono hb bl.size))
    replace sz := A.size.trans sz
    replace df := A.defs.trans df
    clear A hb
    show Code.wp _ _ _ _ _
    refine wp_cond_true x10 ?_
    refine wp_seq ?_
    -- R2
    refine wp_all_seq [.eq (.int .i64 ((a : Nat) : Int)), .oi w.heap.size ([(a : Int)]), .oi w.heap.size ([(a : Int)])] (by kernel_rfl) (by kernel_rfl) (by rw [sz]; kernel_rfl) (by kernel_rfl) ⟨fun hw ac u K => ?_, fun hw ac u K => ?_, fun hw ac u K => ?_, trivial⟩ ?_
    · exact st_move (.tmp 0) rfl ((K.old 0 rfl).trans x0)
    · exact st_bi1 (.tmp 11) rfl _ (K.dep 0 11 rfl) _ (bl.trans (Below.mono K.grow bl.size)).size
    · exact st_assign (.tmp 12) rfl (K.dep 1 12 rfl)
    intro f3 w3 A hb
    replace bl0 := bl
    replace x0 := (A.old 0 rfl).trans x0
    replace x1 := (A.old 1 rfl).trans x1
    clear x4
    replace x10 := (A.old 10 rfl).trans x10
    have x4 : Fk.f (.oi w.heap.size ([(a : Int)])) (f3.eval (.tmp 4)) w3 := A.has 2 4 rfl
    replace bl := (bl.trans (Below.mono hb bl.size))
    replace sz := A.size.trans sz
    replace df := A.defs.trans df
    clear A hb
    show Code.wp _ _ _ _ _
    refine wp_ret ?_
    repeat (first | with_reducible refine then_ret ?_ | with_reducible refine block_ret ?_)
    rw [h1, rops_one]
    exact bodyPost_ret (v := f3.eval (.tmp 4)) (ret_slot rfl f3 _ rfl _ _) df ⟨_, rfl, x4, bl⟩
  · skip
    have h2 : 2 ≤ n := by omega
    obtain ⟨k, hk⟩ : ∃ k, spl n = k := ⟨_, rfl⟩
    have hk1 : k < n := by rw [← hk]; exact spl_lt h2
    have hk2 : 1 ≤ k := by rw [← hk]; exact spl_pos _
    have hto : a + n = (a + k) + (n - k) := by omega
    go_enter Tryd.func23, Tryd.ntmps23
    refine code_both (fun f w1 => f.tmps.size = 34 ∧ f.defers = [] ∧ f.eval (.tmp 0) = .int .i64 ((a : Nat) : Int) ∧ f.eval (.tmp 1) = .int .i64 ((a + n : Nat) : Int) ∧ Below w.heap.size w (w1)) ⟨rfl, rfl, rfl, rfl, Below.refl _ _⟩ ?_
    rintro f0 w0 ⟨sz, df, x0, x1, bl⟩
    have bl0 := bl
    refine wp_seq ?_
    -- R0
    refine wp_all_seq [.eq (.slice none 0 0)] (by kernel_rfl) (by kernel_rfl) (by rw [sz]; kernel_rfl) (by kernel_rfl) ⟨fun hw ac u K => ?_, trivial⟩ ?_
    · exact st_assign (.const (.slice none 0 0)) rfl rfl
    intro f1 w1 A hb
    replace bl0 := bl
    replace x0 := (A.old 0 rfl).trans x0
    replace x1 := (A.old 1 rfl).trans x1
    have x4 : f1.eval (.tmp 4) = .slice none 0 0 := A.has 0 4 rfl
    replace bl := (bl.trans (Below.mono hb bl.size))
    replace sz := A.size.trans sz
    replace df := A.defs.trans df
    clear A hb
    show Code.wp _ _ _ _ _
    refine wp_seq ?_
    refine wp_seq ?_
    -- R1
    refine wp_all_seq [.eq (.int .i64 ((a + n : Nat) : Int)), .eq (.int .i64 ((a : Nat) : Int)), .eq (.int .i64 ((n : Nat) : Int)), .eq (.bool false)] (by kernel_rfl) (by kernel_rfl) (by rw [sz]; kernel_rfl) (by kernel_rfl) ⟨fun hw ac u K => ?_, fun hw ac u K => ?_, fun hw ac u K => ?_, fun hw ac u K => ?_, trivial⟩ ?_
    · exact st_move (.tmp 1) rfl ((K.old 1 rfl).trans x1)
    · exact st_move (.tmp 0) rfl ((K.old 0 rfl).trans x0)
    · exact st_sub (.tmp 7) (.tmp 8) rfl (a + n) (a) (n) (K.dep 0 7 rfl) (K.dep 1 8 rfl) (by omega) (by omega)
    · exact st_eqi 3 (.tmp 9) (.const (.int .i64 1)) rfl .i64 (((n : Nat) : Int)) (1) (K.dep 2 9 rfl) rfl _ (by rw [eq_comm, decide_eq_false_iff_not]; omega)
    intro f2 w2 A hb
    replace bl0 := bl
    replace x0 := (A.old 0 rfl).trans x0
    replace x1 := (A.old 1 rfl).trans x1
    replace x4 := (A.old 4 rfl).trans x4
    have x10 : f2.eval (.tmp 10) = .bool false := A.has 3 10 rfl
    replace bl := (bl.trans (Below.mono hb bl.size))
    replace sz := A.size.trans sz
    replace df := A.defs.trans df
    clear A hb
    show Code.wp _ _ _ _ _
    refine wp_cond_false x10 ?_
    refine wp_skip ?_
    show Code.wp _ _ _ _ _
    refine wp_seq ?_
    -- R3
    refine wp_all_seq [.eq (.int .i64 ((a + n : Nat) : Int)), .eq (.int .i64 ((a : Nat) : Int)), .eq (.int .i64 ((n : Nat) : Int)), .eq (.int .i64 ((k : Nat) : Int)), .eq (.int .i64 ((k : Nat) : Int))] (by kernel_rfl) (by kernel_rfl) (by rw [sz]; kernel_rfl) (by kernel_rfl) ⟨fun hw ac u K => ?_, fun hw ac u K => ?_, fun hw ac u K => ?_, fun hw ac u K => ?_, fun hw ac u K => ?_, trivial⟩ ?_
    · exact st_move (.tmp 1) rfl ((K.old 1 rfl).trans x1)
    · exact st_move (.tmp 0) rfl ((K.old 0 rfl).trans x0)
    · exact st_sub (.tmp 13) (.tmp 14) rfl (a + n) (a) (n) (K.dep 0 13 rfl) (K.dep 1 14 rfl) (by omega) (by omega)
    · exact st_call 31 (.func 31) _ _ #[.int .i64 ((n : Nat) : Int)] rfl rfl (one_arg (K.dep 2 15 rfl)) Tryd.enter31 (by rw [← hk]; exact fk_of (rsplit_any n h2 (by omega) _))
    · exact st_assign (.tmp 16) rfl (K.dep 3 16 rfl)
    intro f3 w3 A hb
    replace bl0 := bl
    replace x0 := (A.old 0 rfl).trans x0
    replace x1 := (A.old 1 rfl).trans x1
    replace x4 := (A.old 4 rfl).trans x4
    replace x10 := (A.old 10 rfl).trans x10
    have x5 : f3.eval (.tmp 5) = .int .i64 ((k : Nat) : Int) := A.has 4 5 rfl
    replace bl := (bl.trans (Below.mono hb bl.size))
    replace sz := A.size.trans sz
    replace df := A.defs.trans df
    clear A hb
    show Code.wp _ _ _ _ _
    refine wp_seq ?_
    -- R4
    refine wp_all_seq [.oi w.heap.size ([])] (by kernel_rfl) (by kernel_rfl) (by rw [sz]; kernel_rfl) (by kernel_rfl) ⟨fun hw ac u K => ?_, trivial⟩ ?_
    · exact st_assign (.const (.slice none 0 0)) rfl (oi_nil _ _)
    intro f4 w4 A hb
    replace bl0 := bl
    replace x0 := (A.old 0 rfl).trans x0
    replace x1 := (A.old 1 rfl).trans x1
    replace x4 := (A.old 4 rfl).trans x4
    replace x10 := (A.old 10 rfl).trans x10
    replace x5 := (A.old 5 rfl).trans x5
    have x6 : Fk.f (.oi w.heap.size ([])) (f4.eval (.tmp 6)) w4 := A.has 0 6 rfl
    replace bl := (bl.trans (Below.mono hb bl.size))
    replace sz := A.size.trans sz
    replace df := A.defs.trans df
    clear A hb
    show Code.wp _ _ _ _ _
    refine wp_seq ?_
    -- R5
    refine wp_region_seq [.oi w.heap.size ([]), .eq (.int .i64 ((a : Nat) : Int)), .eq (.int .i64 ((a : Nat) : Int)), .eq (.int .i64 ((k : Nat) : Int)), .eq (.int .i64 ((a + k : Nat) : Int)), .oi w.heap.size (rops a k)] (by kernel_rfl) (by kernel_rfl) (by rw [sz]; kernel_rfl) (by kernel_rfl) ⟨fun hw ac u K => ?_, fun hw ac u K => ?_, fun hw ac u K => ?_, fun hw ac u K => ?_, fun hw ac u K => ?_, fun hw ac u K => ?_, trivial⟩ ?_
    · exact st_move (.tmp 6) rfl (f_at (K.old 6 rfl) (Fk.mono _ _ _ _ x6 K.grow))
    · exact st_move (.tmp 0) rfl ((K.old 0 rfl).trans x0)
    · exact st_move (.tmp 0) rfl ((K.old 0 rfl).trans x0)
    · exact st_move (.tmp 5) rfl ((K.old 5 rfl).trans x5)
    · exact st_add (.tmp 19) (.tmp 20) rfl (a) (k) (a + k) (K.dep 2 19 rfl) (K.dep 3 20 rfl) (by omega) (by omega)
    · exact st_call 23 (.func 23) _ _ #[.int .i64 ((a : Nat) : Int), .int .i64 ((a + k : Nat) : Int)] rfl rfl (arg2 (K.dep 1 18 rfl) (K.dep 4 21 rfl)) Tryd.enter23 (fk_orw (bl.trans (Below.mono K.grow bl.size)).size (ih k (by omega) a _ hk2 (by omega)))
    intro f5 w5 A hb
    replace bl0 := bl
    replace x0 := (A.old 0 rfl).trans x0
    replace x1 := (A.old 1 rfl).trans x1
    replace x4 := (A.old 4 rfl).trans x4
    replace x10 := (A.old 10 rfl).trans x10
    replace x5 := (A.old 5 rfl).trans x5
    replace x6 := f_at (A.old 6 rfl) (Fk.mono _ _ _ _ x6 hb)
    have x17 : Fk.f (.oi w.heap.size ([])) (f5.eval (.tmp 17)) w5 := A.has 0 17 rfl
    have x22 : Fk.f (.oi w.heap.size (rops a k)) (f5.eval (.tmp 22)) w5 := A.has 5 22 rfl
    replace bl := (bl.trans (Below.mono hb bl.size))
    replace sz := A.size.trans sz
    replace df := A.defs.trans df
    clear A hb
    refine wl_appendi rfl (.tmp 17) (.tmp 22) rfl 23 rfl (by rw [sz]; decide) x17 x22 (by rw [rops_len k a hk2]; omega) bl (by rw [rops_len k a hk2]; simp; omega) ?_
    intro f6 w6 df2 sz2 old2 new2 bl2
    clear x6
    clear x17
    clear x22
    replace x0 := (old2 0 rfl).trans x0
    replace x1 := (old2 1 rfl).trans x1
    replace x4 := (old2 4 rfl).trans x4
    replace x10 := (old2 10 rfl).trans x10
    replace x5 := (old2 5 rfl).trans x5
    have x23 : Fk.f (.oi w.heap.size (rops a k)) (f6.eval (.tmp 23)) w6 := new2
    replace bl := bl2
    replace bl0 := bl
    replace sz := sz2.trans sz
    replace df := df2.trans df
    clear df2 sz2 old2 new2 bl2
    refine wl_one (.oi w.heap.size (rops a k)) rfl 6 rfl (by rw [sz]; decide) (st_assign (.tmp 23) rfl x23) ?_
    intro f7 w7 df2 sz2 old2 new2 hb
    replace bl0 := bl
    replace x0 := (old2 0 rfl).trans x0
    replace x1 := (old2 1 rfl).trans x1
    replace x4 := (old2 4 rfl).trans x4
    replace x10 := (old2 10 rfl).trans x10
    replace x5 := (old2 5 rfl).trans x5
    replace x23 := f_at (old2 23 rfl) (Fk.mono _ _ _ _ x23 hb)
    have x6 : Fk.f (.oi w.heap.size (rops a k)) (f7.eval (.tmp 6)) w7 := new2
    replace bl := (bl.trans (Below.mono hb bl.size))
    replace sz := sz2.trans sz
    replace df := df2.trans df
    clear df2 sz2 old2 new2 hb
    refine wpList_nil ?_
    clear x23
    show Code.wp _ _ _ _ _
    refine wp_seq ?_
    -- R6
    refine wp_region_seq [.oi w.heap.size (rops a k), .eq (.int .i64 ((a : Nat) : Int)), .eq (.int .i64 ((k : Nat) : Int)), .eq (.int .i64 ((a + k : Nat) : Int)), .eq (.int .i64 ((a + n : Nat) : Int)), .oi w.heap.size (rops (a + k) (n - k))] (by kernel_rfl) (by kernel_rfl) (by rw [sz]; kernel_rfl) (by kernel_rfl) ⟨fun hw ac u K => ?_, fun hw ac u K => ?_, fun hw ac u K => ?_, fun hw ac u K => ?_, fun hw ac u K => ?_, fun hw ac u K => ?_, trivial⟩ ?_
    · exact st_move (.tmp 6) rfl (f_at (K.old 6 rfl) (Fk.mono _ _ _ _ x6 K.grow))
    · exact st_move (.tmp 0) rfl ((K.old 0 rfl).trans x0)
    · exact st_move (.tmp 5) rfl ((K.old 5 rfl).trans x5)
    · exact st_add (.tmp 25) (.tmp 26) rfl (a) (k) (a + k) (K.dep 1 25 rfl) (K.dep 2 26 rfl) (by omega) (by omega)
    · exact st_move (.tmp 1) rfl ((K.old 1 rfl).trans x1)
    · exact st_call 23 (.func 23) _ _ #[.int .i64 ((a + k : Nat) : Int), .int .i64 ((a + n : Nat) : Int)] rfl rfl (arg2 (K.dep 3 27 rfl) (K.dep 4 28 rfl)) Tryd.enter23 (fk_orw (bl.trans (Below.mono K.grow bl.size)).size (by rw [hto]; exact ih (n - k) (by omega) (a + k) _ (by omega) (by omega)))
    intro f8 w8 A hb
    replace bl0 := bl
    replace x0 := (A.old 0 rfl).trans x0
    replace x1 := (A.old 1 rfl).trans x1
    replace x4 := (A.old 4 rfl).trans x4
    replace x10 := (A.old 10 rfl).trans x10
    replace x5 := (A.old 5 rfl).trans x5
    replace x6 := f_at (A.old 6 rfl) (Fk.mono _ _ _ _ x6 hb)
    have x24 : Fk.f (.oi w.heap.size (rops a k)) (f8.eval (.tmp 24)) w8 := A.has 0 24 rfl
    have x29 : Fk.f (.oi w.heap.size (rops (a + k) (n - k))) (f8.eval (.tmp 29)) w8 := A.has 5 29 rfl
    replace bl := (bl.trans (Below.mono hb bl.size))
    replace sz := A.size.trans sz
    replace df := A.defs.trans df
    clear A hb
    refine wl_appendi rfl (.tmp 24) (.tmp 29) rfl 30 rfl (by rw [sz]; decide) x24 x29 (by rw [rops_len _ _ (by omega)]; omega) bl (by rw [rops_len k a hk2, rops_len _ _ (by omega)]; omega) ?_
    intro f9 w9 df2 sz2 old2 new2 bl2
    clear x6
    clear x24
    clear x29
    replace x0 := (old2 0 rfl).trans x0
    replace x1 := (old2 1 rfl).trans x1
    replace x4 := (old2 4 rfl).trans x4
    replace x10 := (old2 10 rfl).trans x10
    replace x5 := (old2 5 rfl).trans x5
    have x30 : Fk.f (.oi w.heap.size (rops a k ++ rops (a + k) (n - k))) (f9.eval (.tmp 30)) w9 := new2
    replace bl := bl2
    replace bl0 := bl
    replace sz := sz2.trans sz
    replace df := df2.trans df
    clear df2 sz2 old2 new2 bl2
    refine wl_one (.oi w.heap.size (rops a k ++ rops (a + k) (n - k))) rfl 6 rfl (by rw [sz]; decide) (st_assign (.tmp 30) rfl x30) ?_
    intro f10 w10 df2 sz2 old2 new2 hb
    replace bl0 := bl
    replace x0 := (old2 0 rfl).trans x0
    replace x1 := (old2 1 rfl).trans x1
    replace x4 := (old2 4 rfl).trans x4
    replace x10 := (old2 10 rfl).trans x10
    replace x5 := (old2 5 rfl).trans x5
    replace x30 := f_at (old2 30 rfl) (Fk.mono _ _ _ _ x30 hb)
    have x6 : Fk.f (.oi w.heap.size (rops a k ++ rops (a + k) (n - k))) (f10.eval (.tmp 6)) w10 := new2
    replace bl := (bl.trans (Below.mono hb bl.size))
    replace sz := sz2.trans sz
    replace df := df2.trans df
    clear df2 sz2 old2 new2 hb
    refine wpList_nil ?_
    clear x30
    show Code.wp _ _ _ _ _
    refine wp_seq ?_
    -- R7
    refine wp_region_seq [.oi w.heap.size (rops a k ++ rops (a + k) (n - k)), .oi w.heap.size ([-1])] (by kernel_rfl) (by kernel_rfl) (by rw [sz]; kernel_rfl) (by kernel_rfl) ⟨fun hw ac u K => ?_, fun hw ac u K => ?_, trivial⟩ ?_
    · exact st_move (.tmp 6) rfl (f_at (K.old 6 rfl) (Fk.mono _ _ _ _ x6 K.grow))
    · exact st_bi1 (.const (.int .i64 (-1))) rfl _ rfl _ (bl.trans (Below.mono K.grow bl.size)).size
    intro f11 w11 A hb
    replace bl0 := bl
    replace x0 := (A.old 0 rfl).trans x0
    replace x1 := (A.old 1 rfl).trans x1
    replace x4 := (A.old 4 rfl).trans x4
    replace x10 := (A.old 10 rfl).trans x10
    replace x5 := (A.old 5 rfl).trans x5
    replace x6 := f_at (A.old 6 rfl) (Fk.mono _ _ _ _ x6 hb)
    have x31 : Fk.f (.oi w.heap.size (rops a k ++ rops (a + k) (n - k))) (f11.eval (.tmp 31)) w11 := A.has 0 31 rfl
    have x32 : Fk.f (.oi w.heap.size ([-1])) (f11.eval (.tmp 32)) w11 := A.has 1 32 rfl
    replace bl := (bl.trans (Below.mono hb bl.size))
    replace sz := A.size.trans sz
    replace df := A.defs.trans df
    clear A hb
    refine wl_appendi rfl (.tmp 31) (.tmp 32) rfl 33 rfl (by rw [sz]; decide) x31 x32 (by simp) bl (by rw [List.length_append, rops_len k a hk2, rops_len _ _ (by omega)]; simp only [List.length_cons, List.length_nil]; omega) ?_
    intro f12 w12 df2 sz2 old2 new2 bl2
    clear x6
    clear x31
    clear x32
    replace x0 := (old2 0 rfl).trans x0
    replace x1 := (old2 1 rfl).trans x1
    replace x4 := (old2 4 rfl).trans x4
    replace x10 := (old2 10 rfl).trans x10
    replace x5 := (old2 5 rfl).trans x5
    have x33 : Fk.f (.oi w.heap.size ((rops a k ++ rops (a + k) (n - k)) ++ [-1])) (f12.eval (.tmp 33)) w12 := new2
    replace bl := bl2
    replace bl0 := bl
    replace sz := sz2.trans sz
    replace df := df2.trans df
    clear df2 sz2 old2 new2 bl2
    refine wl_one (.oi w.heap.size ((rops a k ++ rops (a + k) (n - k)) ++ [-1])) rfl 4 rfl (by rw [sz]; decide) (st_assign (.tmp 33) rfl x33) ?_
    intro f13 w13 df2 sz2 old2 new2 hb
    replace bl0 := bl
    replace x0 := (old2 0 rfl).trans x0
    replace x1 := (old2 1 rfl).trans x1
    clear x4
    replace x10 := (old2 10 rfl).trans x10
    replace x5 := (old2 5 rfl).trans x5
    replace x33 := f_at (old2 33 rfl) (Fk.mono _ _ _ _ x33 hb)
    have x4 : Fk.f (.oi w.heap.size ((rops a k ++ rops (a + k) (n - k)) ++ [-1])) (f13.eval (.tmp 4)) w13 := new2
    replace bl := (bl.trans (Below.mono hb bl.size))
    replace sz := sz2.trans sz
    replace df := df2.trans df
    clear df2 sz2 old2 new2 hb
    refine wpList_nil ?_
    clear x33
    show Code.wp _ _ _ _ _
    refine wp_ret ?_
    repeat (first | with_reducible refine then_ret ?_ | with_reducible refine block_ret ?_)
    rw [List.append_assoc] at x4
    rw [rops_two a h2, hk]
    exact bodyPost_ret (v := f13.eval (.tmp 4)) (ret_slot rfl f13 _ rfl _ _) df ⟨_, rfl, x4, bl⟩
theorem rpath_any (n : Nat) : ∀ (a i : Nat) (w : World), 1 ≤ n → a + n ≤ 1000 → Calls Tryd.prog 18 #[.int .i64 ((a : Nat) : Int), .int .i64 ((a + n : Nat) : Int), .int .i64 ((i : Nat) : Int)] w fun e w' => ∃ u, e = .returned u ∧ (Fk.op w.heap.size (rpl a n i)).f u w' ∧ Below w.heap.size w w' := by
  induction n using Nat.strongRecOn with
  | ind n ih =>
  intro a i w hn1 hle
  by_cases h1 : n = 1
  · skip
    go_enter Tryd.func18, Tryd.ntmps18
    refine code_both (fun f w1 => f.tmps.size = 39 ∧ f.defers = [] ∧ f.eval (.tmp 0) = .int .i64 ((a : Nat) : Int) ∧ f.eval (.tmp 1) = .int .i64 ((a + n : Nat) : Int) ∧ f.eval (.tmp 2) = .int .i64 ((i : Nat) : Int) ∧ Below w.heap.size w (w1)) ⟨rfl, rfl, rfl, rfl, rfl, Below.refl _ _⟩ ?_
    rintro f0 w0 ⟨sz, df, x0, x1, x2, bl⟩
    have bl0 := bl
    refine wp_seq ?_
    -- R0
    refine wp_all_seq [.eq (.slice none 0 0)] (by kernel_rfl) (by kernel_rfl) (by rw [sz]; kernel_rfl) (by kernel_rfl) ⟨fun hw ac u K => ?_, trivial⟩ ?_
    · exact st_assign (.const (.slice none 0 0)) rfl rfl
    intro f1 w1 A hb
    replace bl0 := bl
    replace x0 := (A.old 0 rfl).trans x0
    replace x1 := (A.old 1 rfl).trans x1
    replace x2 := (A.old 2 rfl).trans x2
    have x6 : f1.eval (.tmp 6) = .slice none 0 0 := A.has 0 6 rfl
    replace bl := (bl.trans (Below.mono hb bl.size))
    replace sz := A.size.trans sz
    replace df := A.defs.trans df
    clear A hb
    show Code.wp _ _ _ _ _
    refine wp_seq ?_
    refine wp_seq ?_
    -- R1
    refine wp_all_seq [.eq (.int .i64 ((a + n : Nat) : Int)), .eq (.int .i64 ((a : Nat) : Int)), .eq (.int .i64 ((n : Nat) : Int)), .eq (.bool true)] (by kernel_rfl) (by kernel_rfl) (by rw [sz]; kernel_rfl) (by kernel_rfl) ⟨fun hw ac u K => ?_, fun hw ac u K => ?_, fun hw ac u K => ?_, fun hw ac u K => ?_, trivial⟩ ?_
    · exact st_move (.tmp 1) rfl ((K.old 1 rfl).trans x1)
    · exact st_move (.tmp 0) rfl ((K.old 0 rfl).trans x0)
    · exact st_sub (.tmp 8) (.tmp 9) rfl (a + n) (a) (n) (K.dep 0 8 rfl) (K.dep 1 9 rfl) (by omega) (by omega)
    · exact st_eqi 3 (.tmp 10) (.const (.int .i64 1)) rfl .i64 (((n : Nat) : Int)) (1) (K.dep 2 10 rfl) rfl _ (by rw [eq_comm, decide_eq_true_iff]; omega)
    intro f2 w2 A hb
    replace bl0 := bl
    replace x0 := (A.old 0 rfl).trans x0
    replace x1 := (A.old 1 rfl).trans x1
    replace x2 := (A.old 2 rfl).trans x2
    replace x6 := (A.old 6 rfl).trans x6
    have x11 : f2.eval (.tmp 11) = .bool true := A.has 3 11 rfl
    replace bl := (bl.trans (Below.mono hb bl.size))
    replace sz := A.size.trans sz
    replace df := A.defs.trans df
    clear A hb
    show Code.wp _ _ _ _ _
    refine wp_cond_true x11 ?_
    refine wp_seq ?_
    -- R2
    refine wp_all_seq [.eq (.slice none 0 0)] (by kernel_rfl) (by kernel_rfl) (by rw [sz]; kernel_rfl) (by kernel_rfl) ⟨fun hw ac u K => ?_, trivial⟩ ?_
    · exact st_assign (.const (.slice none 0 0)) rfl rfl
    intro f3 w3 A hb
    replace bl0 := bl
    replace x0 := (A.old 0 rfl).trans x0
    replace x1 := (A.old 1 rfl).trans x1
    replace x2 := (A.old 2 rfl).trans x2
    clear x6
    replace x11 := (A.old 11 rfl).trans x11
    have x6 : f3.eval (.tmp 6) = .slice none 0 0 := A.has 0 6 rfl
    replace bl := (bl.trans (Below.mono hb bl.size))
    replace sz := A.size.trans sz
    replace df := A.defs.trans df
    clear A hb
    show Code.wp _ _ _ _ _
    refine wp_ret ?_
    repeat (first | with_reducible refine then_ret ?_ | with_reducible refine block_ret ?_)
    rw [h1, rpl_one]
    exact bodyPost_ret (v := .slice none 0 0) (ret_slot rfl f3 _ x6 _ _) df ⟨_, rfl, op_nil _ _, bl⟩
  · skip
    have h2 : 2 ≤ n := by omega
    obtain ⟨k, hk⟩ : ∃ k, spl n = k := ⟨_, rfl⟩
    have hk1 : k < n := by rw [← hk]; exact spl_lt h2
    have hk2 : 1 ≤ k := by rw [← hk]; exact spl_pos _
    have hto : a + n = (a + k) + (n - k) := by omega
    go_enter Tryd.func18, Tryd.ntmps18
    refine code_both (fun f w1 => f.tmps.size = 39 ∧ f.defers = [] ∧ f.eval (.tmp 0) = .int .i64 ((a : Nat) : Int) ∧ f.eval (.tmp 1) = .int .i64 ((a + n : Nat) : Int) ∧ f.eval (.tmp 2) = .int .i64 ((i : Nat) : Int) ∧ Below w.heap.size w (w1)) ⟨rfl, rfl, rfl, rfl, rfl, Below.refl _ _⟩ ?_
    rintro f0 w0 ⟨sz, df, x0, x1, x2, bl⟩
    have bl0 := bl
    refine wp_seq ?_
    -- R0
    refine wp_all_seq [.eq (.slice none 0 0)] (by kernel_rfl) (by kernel_rfl) (by rw [sz]; kernel_rfl) (by kernel_rfl) ⟨fun hw ac u K => ?_, trivial⟩ ?_
    · exact st_assign (.const (.slice none 0 0)) rfl rfl
    intro f1 w1 A hb
    replace bl0 := bl
    replace x0 := (A.old 0 rfl).trans x0
    replace x1 := (A.old 1 rfl).trans x1
    replace x2 := (A.old 2 rfl).trans x2
    have x6 : f1.eval (.tmp 6) = .slice none 0 0 := A.has 0 6 rfl
    replace bl := (bl.trans (Below.mono hb bl.size))
    replace sz := A.size.trans sz
    replace df := A.defs.trans df
    clear A hb
    show Code.wp _ _ _ _ _
    refine wp_seq ?_
    refine wp_seq ?_
    -- R1
    refine wp_all_seq [.eq (.int .i64 ((a + n : Nat) : Int)), .eq (.int .i64 ((a : Nat) : Int)), .eq (.int .i64 ((n : Nat) : Int)), .eq (.bool false)] (by kernel_rfl) (by kernel_rfl) (by rw [sz]; kernel_rfl) (by kernel_rfl) ⟨fun hw ac u K => ?_, fun hw ac u K => ?_, fun hw ac u K => ?_, fun hw ac u K => ?_, trivial⟩ ?_
    · exact st_move (.tmp 1) rfl ((K.old 1 rfl).trans x1)
    · exact st_move (.tmp 0) rfl ((K.old 0 rfl).trans x0)
    · exact st_sub (.tmp 8) (.tmp 9) rfl (a + n) (a) (n) (K.dep 0 8 rfl) (K.dep 1 9 rfl) (by omega) (by omega)
    · exact st_eqi 3 (.tmp 10) (.const (.int .i64 1)) rfl .i64 (((n : Nat) : Int)) (1) (K.dep 2 10 rfl) rfl _ (by rw [eq_comm, decide_eq_false_iff_not]; omega)
    intro f2 w2 A hb
    replace bl0 := bl
    replace x0 := (A.old 0 rfl).trans x0
    replace x1 := (A.old 1 rfl).trans x1
    replace x2 := (A.old 2 rfl).trans x2
    replace x6 := (A.old 6 rfl).trans x6
    have x11 : f2.eval (.tmp 11) = .bool false := A.has 3 11 rfl
    replace bl := (bl.trans (Below.mono hb bl.size))
    replace sz := A.size.trans sz
    replace df := A.defs.trans df
    clear A hb
    show Code.wp _ _ _ _ _
    refine wp_cond_false x11 ?_
    refine wp_skip ?_
    show Code.wp _ _ _ _ _
    refine wp_seq ?_
    -- R3
    refine wp_all_seq [.eq (.int .i64 ((a : Nat) : Int)), .eq (.int .i64 ((a + n : Nat) : Int)), .eq (.int .i64 ((a : Nat) : Int)), .eq (.int .i64 ((n : Nat) : Int)), .eq (.int .i64 ((k : Nat) : Int)), .eq (.int .i64 ((a + k : Nat) : Int)), .eq (.int .i64 ((a + k : Nat) : Int))] (by kernel_rfl) (by kernel_rfl) (by rw [sz]; kernel_rfl) (by kernel_rfl) ⟨fun hw ac u K => ?_, fun hw ac u K => ?_, fun hw ac u K => ?_, fun hw ac u K => ?_, fun hw ac u K => ?_, fun hw ac u K => ?_, fun hw ac u K => ?_, trivial⟩ ?_
    · exact st_move (.tmp 0) rfl ((K.old 0 rfl).trans x0)
    · exact st_move (.tmp 1) rfl ((K.old 1 rfl).trans x1)
    · exact st_move (.tmp 0) rfl ((K.old 0 rfl).trans x0)
    · exact st_sub (.tmp 13) (.tmp 14) rfl (a + n) (a) (n) (K.dep 1 13 rfl) (K.dep 2 14 rfl) (by omega) (by omega)
    · exact st_call 31 (.func 31) _ _ #[.int .i64 ((n : Nat) : Int)] rfl rfl (one_arg (K.dep 3 15 rfl)) Tryd.enter31 (by rw [← hk]; exact fk_of (rsplit_any n h2 (by omega) _))
    · exact st_add (.tmp 12) (.tmp 16) rfl (a) (k) (a + k) (K.dep 0 12 rfl) (K.dep 4 16 rfl) (by omega) (by omega)
    · exact st_assign (.tmp 17) rfl (K.dep 5 17 rfl)
    intro f3 w3 A hb
    replace bl0 := bl
    replace x0 := (A.old 0 rfl).trans x0
    replace x1 := (A.old 1 rfl).trans x1
    replace x2 := (A.old 2 rfl).trans x2
    replace x6 := (A.old 6 rfl).trans x6
    replace x11 := (A.old 11 rfl).trans x11
    have x7 : f3.eval (.tmp 7) = .int .i64 ((a + k : Nat) : Int) := A.has 6 7 rfl
    replace bl := (bl.trans (Below.mono hb bl.size))
    replace sz := A.size.trans sz
    replace df := A.defs.trans df
    clear A hb
    show Code.wp _ _ _ _ _
    refine wp_seq ?_
    refine wp_seq ?_
    by_cases hik : i < a + k
    rotate_left
    · skip
      have hl1 := rpl_len (n - k) (a + k) i
      -- R4
      refine wp_all_seq [.eq (.int .i64 ((i : Nat) : Int)), .eq (.int .i64 ((a + k : Nat) : Int)), .eq (.bool false)] (by kernel_rfl) (by kernel_rfl) (by rw [sz]; kernel_rfl) (by kernel_rfl) ⟨fun hw ac u K => ?_, fun hw ac u K => ?_, fun hw ac u K => ?_, trivial⟩ ?_
      · exact st_move (.tmp 2) rfl ((K.old 2 rfl).trans x2)
      · exact st_move (.tmp 7) rfl ((K.old 7 rfl).trans x7)
      · exact st_lss 3 (.tmp 18) (.tmp 19) rfl .i64 (((i : Nat) : Int)) (((a + k : Nat) : Int)) (K.dep 0 18 rfl) (K.dep 1 19 rfl) _ (by first | (simp; done) | (simp; omega))
      intro f4 w4 A hb
      replace bl0 := bl
      replace x0 := (A.old 0 rfl).trans x0
      replace x1 := (A.old 1 rfl).trans x1
      replace x2 := (A.old 2 rfl).trans x2
      replace x6 := (A.old 6 rfl).trans x6
      replace x11 := (A.old 11 rfl).trans x11
      replace x7 := (A.old 7 rfl).trans x7
      have x20 : f4.eval (.tmp 20) = .bool false := A.has 2 20 rfl
      replace bl := (bl.trans (Below.mono hb bl.size))
      replace sz := A.size.trans sz
      replace df := A.defs.trans df
      clear A hb
      show Code.wp _ _ _ _ _
      refine wp_cond_false x20 ?_
      refine wp_skip ?_
      show Code.wp _ _ _ _ _
      refine wp_seq ?_
      -- R6
      refine wp_region_seq [.eq (.int .i64 ((a + k : Nat) : Int)), .eq (.int .i64 ((a + n : Nat) : Int)), .eq (.int .i64 ((i : Nat) : Int)), .op w.heap.size (rpl (a + k) (n - k) i), .eq (.int .i64 ((a : Nat) : Int)), .eq (.int .i64 ((a + k : Nat) : Int)), .eq (.agg ([.int .i64 ((a : Nat) : Int), .int .i64 ((a + k : Nat) : Int)] : List Value).toArray), .op w.heap.size ([(a, a + k)])] (by kernel_rfl) (by kernel_rfl) (by rw [sz]; kernel_rfl) (by kernel_rfl) ⟨fun hw ac u K => ?_, fun hw ac u K => ?_, fun hw ac u K => ?_, fun hw ac u K => ?_, fun hw ac u K => ?_, fun hw ac u K => ?_, fun hw ac u K => ?_, fun hw ac u K => ?_, trivial⟩ ?_
      · exact st_move (.tmp 7) rfl ((K.old 7 rfl).trans x7)
      · exact st_move (.tmp 1) rfl ((K.old 1 rfl).trans x1)
      · exact st_move (.tmp 2) rfl ((K.old 2 rfl).trans x2)
      · exact st_call 18 (.func 18) _ _ #[.int .i64 ((a + k : Nat) : Int), .int .i64 ((a + n : Nat) : Int), .int .i64 ((i : Nat) : Int)] rfl rfl (arg3 (K.dep 0 30 rfl) (K.dep 1 31 rfl) (K.dep 2 32 rfl)) Tryd.enter18 (fk_orw (bl.trans (Below.mono K.grow bl.size)).size (by rw [hto]; exact ih (n - k) (by omega) (a + k) i _ (by omega) (by omega)))
      · exact st_move (.tmp 0) rfl ((K.old 0 rfl).trans x0)
      · exact st_move (.tmp 7) rfl ((K.old 7 rfl).trans x7)
      · exact st_build 56 _ rfl (by simp only [List.map_toArray, List.map_cons, List.map_nil, show ac.eval (.tmp 34) = _ from (K.dep 4 34 rfl), show ac.eval (.tmp 35) = _ from (K.dep 5 35 rfl)]; kernel_rfl)
      · exact st_bp1 (.tmp 36) rfl _ _ (K.dep 6 36 rfl) _ (bl.trans (Below.mono K.grow bl.size)).size
      intro f5 w5 A hb
      replace bl0 := bl
      replace x0 := (A.old 0 rfl).trans x0
      replace x1 := (A.old 1 rfl).trans x1
      replace x2 := (A.old 2 rfl).trans x2
      replace x6 := (A.old 6 rfl).trans x6
      replace x11 := (A.old 11 rfl).trans x11
      replace x7 := (A.old 7 rfl).trans x7
      replace x20 := (A.old 20 rfl).trans x20
      have x33 : Fk.f (.op w.heap.size (rpl (a + k) (n - k) i)) (f5.eval (.tmp 33)) w5 := A.has 3 33 rfl
      have x37 : Fk.f (.op w.heap.size ([(a, a + k)])) (f5.eval (.tmp 37)) w5 := A.has 7 37 rfl
      replace bl := (bl.trans (Below.mono hb bl.size))
      replace sz := A.size.trans sz
      replace df := A.defs.trans df
      clear A hb
      refine wl_appendp rfl (.tmp 33) (.tmp 37) rfl 38 rfl (by rw [sz]; decide) x33 x37 (by simp) bl (by simp only [List.length_cons, List.length_nil]; omega) ?_
      intro f6 w6 df2 sz2 old2 new2 bl2
      clear x33
      clear x37
      replace x0 := (old2 0 rfl).trans x0
      replace x1 := (old2 1 rfl).trans x1
      replace x2 := (old2 2 rfl).trans x2
      replace x6 := (old2 6 rfl).trans x6
      replace x11 := (old2 11 rfl).trans x11
      replace x7 := (old2 7 rfl).trans x7
      replace x20 := (old2 20 rfl).trans x20
      have x38 : Fk.f (.op w.heap.size (rpl (a + k) (n - k) i ++ [(a, a + k)])) (f6.eval (.tmp 38)) w6 := new2
      replace bl := bl2
      replace bl0 := bl
      replace sz := sz2.trans sz
      replace df := df2.trans df
      clear df2 sz2 old2 new2 bl2
      refine wl_one (.op w.heap.size (rpl (a + k) (n - k) i ++ [(a, a + k)])) rfl 6 rfl (by rw [sz]; decide) (st_assign (.tmp 38) rfl x38) ?_
      intro f7 w7 df2 sz2 old2 new2 hb
      replace bl0 := bl
      replace x0 := (old2 0 rfl).trans x0
      replace x1 := (old2 1 rfl).trans x1
      replace x2 := (old2 2 rfl).trans x2
      clear x6
      replace x11 := (old2 11 rfl).trans x11
      replace x7 := (old2 7 rfl).trans x7
      replace x20 := (old2 20 rfl).trans x20
      replace x38 := f_at (old2 38 rfl) (Fk.mono _ _ _ _ x38 hb)
      have x6 : Fk.f (.op w.heap.size (rpl (a + k) (n - k) i ++ [(a, a + k)])) (f7.eval (.tmp 6)) w7 := new2
      replace bl := (bl.trans (Below.mono hb bl.size))
      replace sz := sz2.trans sz
      replace df := df2.trans df
      clear df2 sz2 old2 new2 hb
      refine wpList_nil ?_
      clear x38
      show Code.wp _ _ _ _ _
      refine wp_ret ?_
      repeat (first | with_reducible refine then_ret ?_ | with_reducible refine block_ret ?_)
      rw [rpl_right h2 (by rw [hk]; exact hik), hk]
      exact bodyPost_ret (v := f7.eval (.tmp 6)) (ret_slot rfl f7 _ rfl _ _) df ⟨_, rfl, x6, bl⟩
    have hl1 := rpl_len k a i
    -- R4
    refine wp_all_seq [.eq (.int .i64 ((i : Nat) : Int)), .eq (.int .i64 ((a + k : Nat) : Int)), .eq (.bool true)] (by kernel_rfl) (by kernel_rfl) (by rw [sz]; kernel_rfl) (by kernel_rfl) ⟨fun hw ac u K => ?_, fun hw ac u K => ?_, fun hw ac u K => ?_, trivial⟩ ?_
    · exact st_move (.tmp 2) rfl ((K.old 2 rfl).trans x2)
    · exact st_move (.tmp 7) rfl ((K.old 7 rfl).trans x7)
    · exact st_lss 3 (.tmp 18) (.tmp 19) rfl .i64 (((i : Nat) : Int)) (((a + k : Nat) : Int)) (K.dep 0 18 rfl) (K.dep 1 19 rfl) _ (by first | (simp; done) | (simp; omega))
    intro f4 w4 A hb
    replace bl0 := bl
    replace x0 := (A.old 0 rfl).trans x0
    replace x1 := (A.old 1 rfl).trans x1
    replace x2 := (A.old 2 rfl).trans x2
    replace x6 := (A.old 6 rfl).trans x6
    replace x11 := (A.old 11 rfl).trans x11
    replace x7 := (A.old 7 rfl).trans x7
    have x20 : f4.eval (.tmp 20) = .bool true := A.has 2 20 rfl
    replace bl := (bl.trans (Below.mono hb bl.size))
    replace sz := A.size.trans sz
    replace df := A.defs.trans df
    clear A hb
    show Code.wp _ _ _ _ _
    refine wp_cond_true x20 ?_
    refine wp_seq ?_
    -- R5
    refine wp_region_seq [.eq (.int .i64 ((a : Nat) : Int)), .eq (.int .i64 ((a + k : Nat) : Int)), .eq (.int .i64 ((i : Nat) : Int)), .op w.heap.size (rpl a k i), .eq (.int .i64 ((a + k : Nat) : Int)), .eq (.int .i64 ((a + n : Nat) : Int)), .eq (.agg ([.int .i64 ((a + k : Nat) : Int), .int .i64 ((a + n : Nat) : Int)] : List Value).toArray), .op w.heap.size ([(a + k, a + n)])] (by kernel_rfl) (by kernel_rfl) (by rw [sz]; kernel_rfl) (by kernel_rfl) ⟨fun hw ac u K => ?_, fun hw ac u K => ?_, fun hw ac u K => ?_, fun hw ac u K => ?_, fun hw ac u K => ?_, fun hw ac u K => ?_, fun hw ac u K => ?_, fun hw ac u K => ?_, trivial⟩ ?_
    · exact st_move (.tmp 0) rfl ((K.old 0 rfl).trans x0)
    · exact st_move (.tmp 7) rfl ((K.old 7 rfl).trans x7)
    · exact st_move (.tmp 2) rfl ((K.old 2 rfl).trans x2)
    · exact st_call 18 (.func 18) _ _ #[.int .i64 ((a : Nat) : Int), .int .i64 ((a + k : Nat) : Int), .int .i64 ((i : Nat) : Int)] rfl rfl (arg3 (K.dep 0 21 rfl) (K.dep 1 22 rfl) (K.dep 2 23 rfl)) Tryd.enter18 (fk_orw (bl.trans (Below.mono K.grow bl.size)).size (ih k (by omega) a i _ hk2 (by omega)))
    · exact st_move (.tmp 7) rfl ((K.old 7 rfl).trans x7)
    · exact st_move (.tmp 1) rfl ((K.old 1 rfl).trans x1)
    · exact st_build 56 _ rfl (by simp only [List.map_toArray, List.map_cons, List.map_nil, show ac.eval (.tmp 25) = _ from (K.dep 4 25 rfl), show ac.eval (.tmp 26) = _ from (K.dep 5 26 rfl)]; kernel_rfl)
    · exact st_bp1 (.tmp 27) rfl _ _ (K.dep 6 27 rfl) _ (bl.trans (Below.mono K.grow bl.size)).size
    intro f5 w5 A hb
    replace bl0 := bl
    replace x0 := (A.old 0 rfl).trans x0
    replace x1 := (A.old 1 rfl).trans x1
    replace x2 := (A.old 2 rfl).trans x2
    replace x6 := (A.old 6 rfl).trans x6
    replace x11 := (A.old 11 rfl).trans x11
    replace x7 := (A.old 7 rfl).trans x7
    replace x20 := (A.old 20 rfl).trans x20
    have x24 : Fk.f (.op w.heap.size (rpl a k i)) (f5.eval (.tmp 24)) w5 := A.has 3 24 rfl
    have x28 : Fk.f (.op w.heap.size ([(a + k, a + n)])) (f5.eval (.tmp 28)) w5 := A.has 7 28 rfl
    replace bl := (bl.trans (Below.mono hb bl.size))
    replace sz := A.size.trans sz
    replace df := A.defs.trans df
    clear A hb
    refine wl_appendp rfl (.tmp 24) (.tmp 28) rfl 29 rfl (by rw [sz]; decide) x24 x28 (by simp) bl (by simp only [List.length_cons, List.length_nil]; omega) ?_
    intro f6 w6 df2 sz2 old2 new2 bl2
    clear x24
    clear x28
    replace x0 := (old2 0 rfl).trans x0
    replace x1 := (old2 1 rfl).trans x1
    replace x2 := (old2 2 rfl).trans x2
    replace x6 := (old2 6 rfl).trans x6
    replace x11 := (old2 11 rfl).trans x11
    replace x7 := (old2 7 rfl).trans x7
    replace x20 := (old2 20 rfl).trans x20
    have x29 : Fk.f (.op w.heap.size (rpl a k i ++ [(a + k, a + n)])) (f6.eval (.tmp 29)) w6 := new2
    replace bl := bl2
    replace bl0 := bl
    replace sz := sz2.trans sz
    replace df := df2.trans df
    clear df2 sz2 old2 new2 bl2
    refine wl_one (.op w.heap.size (rpl a k i ++ [(a + k, a + n)])) rfl 6 rfl (by rw [sz]; decide) (st_assign (.tmp 29) rfl x29) ?_
    intro f7 w7 df2 sz2 old2 new2 hb
    replace bl0 := bl
    replace x0 := (old2 0 rfl).trans x0
    replace x1 := (old2 1 rfl).trans x1
    replace x2 := (old2 2 rfl).trans x2
    clear x6
    replace x11 := (old2 11 rfl).trans x11
    replace x7 := (old2 7 rfl).trans x7
    replace x20 := (old2 20 rfl).trans x20
    replace x29 := f_at (old2 29 rfl) (Fk.mono _ _ _ _ x29 hb)
    have x6 : Fk.f (.op w.heap.size (rpl a k i ++ [(a + k, a + n)])) (f7.eval (.tmp 6)) w7 := new2
    replace bl := (bl.trans (Below.mono hb bl.size))
    replace sz := sz2.trans sz
    replace df := df2.trans df
    clear df2 sz2 old2 new2 hb
    refine wpList_nil ?_
    clear x29
    show Code.wp _ _ _ _ _
    refine wp_ret ?_
    repeat (first | with_reducible refine then_ret ?_ | with_reducible refine block_ret ?_)
    rw [rpl_left h2 (by rw [hk]; exact hik), hk]
    exact bodyPost_ret (v := f7.eval (.tmp 6)) (ret_slot rfl f7 _ rfl _ _) df ⟨_, rfl, x6, bl⟩
theorem rsub_any (n : Nat) : ∀ (a m : Nat) (b : Bool) (w : World), 1 ≤ n → a + n ≤ 1000 → 1 ≤ m → m ≤ n → Calls Tryd.prog 20 #[.int .i64 ((a : Nat) : Int), .int .i64 ((a + n : Nat) : Int), .int .i64 ((m : Nat) : Int), .bool b] w fun e w' => ∃ u, e = .returned u ∧ (Fk.op w.heap.size (rsb a n m b)).f u w' ∧ Below w.heap.size w w' := by
  induction n using Nat.strongRecOn with
  | ind n ih =>
  intro a m b w hn1 hle hm1 hm2
  by_cases hmn : m = n
  · cases b
    · skip
      go_enter Tryd.func20, Tryd.ntmps20
      refine code_both (fun f w1 => f.tmps.size = 56 ∧ f.defers = [] ∧ f.eval (.tmp 0) = .int .i64 ((a : Nat) : Int) ∧ f.eval (.tmp 1) = .int .i64 ((a + n : Nat) : Int) ∧ f.eval (.tmp 2) = .int .i64 ((m : Nat) : Int) ∧ f.eval (.tmp 3) = .bool false ∧ Below w.heap.size w (w1)) ⟨rfl, rfl, rfl, rfl, rfl, rfl, Below.refl _ _⟩ ?_
      rintro f0 w0 ⟨sz, df, x0, x1, x2, x3, bl⟩
      have bl0 := bl
      refine wp_seq ?_
      -- R0
      refine wp_all_seq [.eq (.slice none 0 0)] (by kernel_rfl) (by kernel_rfl) (by rw [sz]; kernel_rfl) (by kernel_rfl) ⟨fun hw ac u K => ?_, trivial⟩ ?_
      · exact st_assign (.const (.slice none 0 0)) rfl rfl
      intro f1 w1 A hb
      replace bl0 := bl
      replace x0 := (A.old 0 rfl).trans x0
      replace x1 := (A.old 1 rfl).trans x1
      replace x2 := (A.old 2 rfl).trans x2
      replace x3 := (A.old 3 rfl).trans x3
      have x8 : f1.eval (.tmp 8) = .slice none 0 0 := A.has 0 8 rfl
      replace bl := (bl.trans (Below.mono hb bl.size))
      replace sz := A.size.trans sz
      replace df := A.defs.trans df
      clear A hb
      show Code.wp _ _ _ _ _
      refine wp_seq ?_
      refine wp_seq ?_
      -- R1
      refine wp_all_seq [.eq (.int .i64 ((m : Nat) : Int)), .eq (.int .i64 ((a + n : Nat) : Int)), .eq (.int .i64 ((a : Nat) : Int)), .eq (.int .i64 ((n : Nat) : Int)), .eq (.bool true)] (by kernel_rfl) (by kernel_rfl) (by rw [sz]; kernel_rfl) (by kernel_rfl) ⟨fun hw ac u K => ?_, fun hw ac u K => ?_, fun hw ac u K => ?_, fun hw ac u K => ?_, fun hw ac u K => ?_, trivial⟩ ?_
      · exact st_move (.tmp 2) rfl ((K.old 2 rfl).trans x2)
      · exact st_move (.tmp 1) rfl ((K.old 1 rfl).trans x1)
      · exact st_move (.tmp 0) rfl ((K.old 0 rfl).trans x0)
      · exact st_sub (.tmp 11) (.tmp 12) rfl (a + n) (a) (n) (K.dep 1 11 rfl) (K.dep 2 12 rfl) (by omega) (by omega)
      · exact st_eqi 3 (.tmp 10) (.tmp 13) rfl .i64 (((m : Nat) : Int)) (((n : Nat) : Int)) (K.dep 0 10 rfl) (K.dep 3 13 rfl) _ (by rw [eq_comm, decide_eq_true_iff]; omega)
      intro f2 w2 A hb
      replace bl0 := bl
      replace x0 := (A.old 0 rfl).trans x0
      replace x1 := (A.old 1 rfl).trans x1
      replace x2 := (A.old 2 rfl).trans x2
      replace x3 := (A.old 3 rfl).trans x3
      replace x8 := (A.old 8 rfl).trans x8
      have x14 : f2.eval (.tmp 14) = .bool true := A.has 4 14 rfl
      replace bl := (bl.trans (Below.mono hb bl.size))
      replace sz := A.size.trans sz
      replace df := A.defs.trans df
      clear A hb
      show Code.wp _ _ _ _ _
      refine wp_cond_true x14 ?_
      refine wp_seq ?_
      refine wp_seq ?_
      -- R2
      refine wp_all_seq [.eq (.bool false)] (by kernel_rfl) (by kernel_rfl) (by rw [sz]; kernel_rfl) (by kernel_rfl) ⟨fun hw ac u K => ?_, trivial⟩ ?_
      · exact st_move (.tmp 3) rfl ((K.old 3 rfl).trans x3)
      intro f3 w3 A hb
      replace bl0 := bl
      replace x0 := (A.old 0 rfl).trans x0
      replace x1 := (A.old 1 rfl).trans x1
      replace x2 := (A.old 2 rfl).trans x2
      replace x3 := (A.old 3 rfl).trans x3
      replace x8 := (A.old 8 rfl).trans x8
      replace x14 := (A.old 14 rfl).trans x14
      have x15 : f3.eval (.tmp 15) = .bool false := A.has 0 15 rfl
      replace bl := (bl.trans (Below.mono hb bl.size))
      replace sz := A.size.trans sz
      replace df := A.defs.trans df
      clear A hb
      show Code.wp _ _ _ _ _
      refine wp_cond_false x15 ?_
      refine wp_skip ?_
      show Code.wp _ _ _ _ _
      refine wp_seq ?_
      -- R4
      refine wp_all_seq [.eq (.int .i64 ((a : Nat) : Int)), .eq (.int .i64 ((a + n : Nat) : Int)), .eq (.agg ([.int .i64 ((a : Nat) : Int), .int .i64 ((a + n : Nat) : Int)] : List Value).toArray), .op w.heap.size ([(a, a + n)]), .op w.heap.size ([(a, a + n)])] (by kernel_rfl) (by kernel_rfl) (by rw [sz]; kernel_rfl) (by kernel_rfl) ⟨fun hw ac u K => ?_, fun hw ac u K => ?_, fun hw ac u K => ?_, fun hw ac u K => ?_, fun hw ac u K => ?_, trivial⟩ ?_
      · exact st_move (.tmp 0) rfl ((K.old 0 rfl).trans x0)
      · exact st_move (.tmp 1) rfl ((K.old 1 rfl).trans x1)
      · exact st_build 56 _ rfl (by simp only [List.map_toArray, List.map_cons, List.map_nil, show ac.eval (.tmp 16) = _ from (K.dep 0 16 rfl), show ac.eval (.tmp 17) = _ from (K.dep 1 17 rfl)]; kernel_rfl)
      · exact st_bp1 (.tmp 18) rfl _ _ (K.dep 2 18 rfl) _ (bl.trans (Below.mono K.grow bl.size)).size
      · exact st_assign (.tmp 19) rfl (K.dep 3 19 rfl)
      intro f4 w4 A hb
      replace bl0 := bl
      replace x0 := (A.old 0 rfl).trans x0
      replace x1 := (A.old 1 rfl).trans x1
      replace x2 := (A.old 2 rfl).trans x2
      replace x3 := (A.old 3 rfl).trans x3
      clear x8
      replace x14 := (A.old 14 rfl).trans x14
      replace x15 := (A.old 15 rfl).trans x15
      have x8 : Fk.f (.op w.heap.size ([(a, a + n)])) (f4.eval (.tmp 8)) w4 := A.has 4 8 rfl
      replace bl := (bl.trans (Below.mono hb bl.size))
      replace sz := A.size.trans sz
      replace df := A.defs.trans df
      clear A hb
      show Code.wp _ _ _ _ _
      refine wp_ret ?_
      repeat (first | with_reducible refine then_ret ?_ | with_reducible refine block_ret ?_)
      rw [hmn, rsb_part]
      exact bodyPost_ret (v := f4.eval (.tmp 8)) (ret_slot rfl f4 _ rfl _ _) df ⟨_, rfl, x8, bl⟩
    · skip
      go_enter Tryd.func20, Tryd.ntmps20
      refine code_both (fun f w1 => f.tmps.size = 56 ∧ f.defers = [] ∧ f.eval (.tmp 0) = .int .i64 ((a : Nat) : Int) ∧ f.eval (.tmp 1) = .int .i64 ((a + n : Nat) : Int) ∧ f.eval (.tmp 2) = .int .i64 ((m : Nat) : Int) ∧ f.eval (.tmp 3) = .bool true ∧ Below w.heap.size w (w1)) ⟨rfl, rfl, rfl, rfl, rfl, rfl, Below.refl _ _⟩ ?_
      rintro f0 w0 ⟨sz, df, x0, x1, x2, x3, bl⟩
      have bl0 := bl
      refine wp_seq ?_
      -- R0
      refine wp_all_seq [.eq (.slice none 0 0)] (by kernel_rfl) (by kernel_rfl) (by rw [sz]; kernel_rfl) (by kernel_rfl) ⟨fun hw ac u K => ?_, trivial⟩ ?_
      · exact st_assign (.const (.slice none 0 0)) rfl rfl
      intro f1 w1 A hb
      replace bl0 := bl
      replace x0 := (A.old 0 rfl).trans x0
      replace x1 := (A.old 1 rfl).trans x1
      replace x2 := (A.old 2 rfl).trans x2
      replace x3 := (A.old 3 rfl).trans x3
      have x8 : f1.eval (.tmp 8) = .slice none 0 0 := A.has 0 8 rfl
      replace bl := (bl.trans (Below.mono hb bl.size))
      replace sz := A.size.trans sz
      replace df := A.defs.trans df
      clear A hb
      show Code.wp _ _ _ _ _
      refine wp_seq ?_
      refine wp_seq ?_
      -- R1
      refine wp_all_seq [.eq (.int .i64 ((m : Nat) : Int)), .eq (.int .i64 ((a + n : Nat) : Int)), .eq (.int .i64 ((a : Nat) : Int)), .eq (.int .i64 ((n : Nat) : Int)), .eq (.bool true)] (by kernel_rfl) (by kernel_rfl) (by rw [sz]; kernel_rfl) (by kernel_rfl) ⟨fun hw ac u K => ?_, fun hw ac u K => ?_, fun hw ac u K => ?_, fun hw ac u K => ?_, fun hw ac u K => ?_, trivial⟩ ?_
      · exact st_move (.tmp 2) rfl ((K.old 2 rfl).trans x2)
      · exact st_move (.tmp 1) rfl ((K.old 1 rfl).trans x1)
      · exact st_move (.tmp 0) rfl ((K.old 0 rfl).trans x0)
      · exact st_sub (.tmp 11) (.tmp 12) rfl (a + n) (a) (n) (K.dep 1 11 rfl) (K.dep 2 12 rfl) (by omega) (by omega)
      · exact st_eqi 3 (.tmp 10) (.tmp 13) rfl .i64 (((m : Nat) : Int)) (((n : Nat) : Int)) (K.dep 0 10 rfl) (K.dep 3 13 rfl) _ (by rw [eq_comm, decide_eq_true_iff]; omega)
      intro f2 w2 A hb
      replace bl0 := bl
      replace x0 := (A.old 0 rfl).trans x0
      replace x1 := (A.old 1 rfl).trans x1
      replace x2 := (A.old 2 rfl).trans x2
      replace x3 := (A.old 3 rfl).trans x3
      replace x8 := (A.old 8 rfl).trans x8
      have x14 : f2.eval (.tmp 14) = .bool true := A.has 4 14 rfl
      replace bl := (bl.trans (Below.mono hb bl.size))
      replace sz := A.size.trans sz
      replace df := A.defs.trans df
      clear A hb
      show Code.wp _ _ _ _ _
      refine wp_cond_true x14 ?_
      refine wp_seq ?_
      refine wp_seq ?_
      -- R2
      refine wp_all_seq [.eq (.bool true)] (by kernel_rfl) (by kernel_rfl) (by rw [sz]; kernel_rfl) (by kernel_rfl) ⟨fun hw ac u K => ?_, trivial⟩ ?_
      · exact st_move (.tmp 3) rfl ((K.old 3 rfl).trans x3)
      intro f3 w3 A hb
      replace bl0 := bl
      replace x0 := (A.old 0 rfl).trans x0
      replace x1 := (A.old 1 rfl).trans x1
      replace x2 := (A.old 2 rfl).trans x2
      replace x3 := (A.old 3 rfl).trans x3
      replace x8 := (A.old 8 rfl).trans x8
      replace x14 := (A.old 14 rfl).trans x14
      have x15 : f3.eval (.tmp 15) = .bool true := A.has 0 15 rfl
      replace bl := (bl.trans (Below.mono hb bl.size))
      replace sz := A.size.trans sz
      replace df := A.defs.trans df
      clear A hb
      show Code.wp _ _ _ _ _
      refine wp_cond_true x15 ?_
      refine wp_seq ?_
      -- R3
      refine wp_all_seq [.eq (.slice none 0 0)] (by kernel_rfl) (by kernel_rfl) (by rw [sz]; kernel_rfl) (by kernel_rfl) ⟨fun hw ac u K => ?_, trivial⟩ ?_
      · exact st_assign (.const (.slice none 0 0)) rfl rfl
      intro f4 w4 A hb
      replace bl0 := bl
      replace x0 := (A.old 0 rfl).trans x0
      replace x1 := (A.old 1 rfl).trans x1
      replace x2 := (A.old 2 rfl).trans x2
      replace x3 := (A.old 3 rfl).trans x3
      clear x8
      replace x14 := (A.old 14 rfl).trans x14
      replace x15 := (A.old 15 rfl).trans x15
      have x8 : f4.eval (.tmp 8) = .slice none 0 0 := A.has 0 8 rfl
      replace bl := (bl.trans (Below.mono hb bl.size))
      replace sz := A.size.trans sz
      replace df := A.defs.trans df
      clear A hb
      show Code.wp _ _ _ _ _
      refine wp_ret ?_
      repeat (first | with_reducible refine then_ret ?_ | with_reducible refine block_ret ?_)
      rw [hmn, rsb_all]
      exact bodyPost_ret (v := .slice none 0 0) (ret_slot rfl f4 _ x8 _ _) df ⟨_, rfl, op_nil _ _, bl⟩
  · skip
    have h2 : 2 ≤ n := by omega
    obtain ⟨k, hk⟩ : ∃ k, spl n = k := ⟨_, rfl⟩
    have hk1 : k < n := by rw [← hk]; exact spl_lt h2
    have hk2 : 1 ≤ k := by rw [← hk]; exact spl_pos _
    have hto : a + n = (a + k) + (n - k) := by omega
    go_enter Tryd.func20, Tryd.ntmps20
    refine code_both (fun f w1 => f.tmps.size = 56 ∧ f.defers = [] ∧ f.eval (.tmp 0) = .int .i64 ((a : Nat) : Int) ∧ f.eval (.tmp 1) = .int .i64 ((a + n : Nat) : Int) ∧ f.eval (.tmp 2) = .int .i64 ((m : Nat) : Int) ∧ f.eval (.tmp 3) = .bool b ∧ Below w.heap.size w (w1)) ⟨rfl, rfl, rfl, rfl, rfl, rfl, Below.refl _ _⟩ ?_
    rintro f0 w0 ⟨sz, df, x0, x1, x2, x3, bl⟩
    have bl0 := bl
    refine wp_seq ?_
    -- R0
    refine wp_all_seq [.eq (.slice none 0 0)] (by kernel_rfl) (by kernel_rfl) (by rw [sz]; kernel_rfl) (by kernel_rfl) ⟨fun hw ac u K => ?_, trivial⟩ ?_
    · exact st_assign (.const (.slice none 0 0)) rfl rfl
    intro f1 w1 A hb
    replace bl0 := bl
    replace x0 := (A.old 0 rfl).trans x0
    replace x1 := (A.old 1 rfl).trans x1
    replace x2 := (A.old 2 rfl).trans x2
    replace x3 := (A.old 3 rfl).trans x3
    have x8 : f1.eval (.tmp 8) = .slice none 0 0 := A.has 0 8 rfl
    replace bl := (bl.trans (Below.mono hb bl.size))
    replace sz := A.size.trans sz
    replace df := A.defs.trans df
    clear A hb
    show Code.wp _ _ _ _ _
    refine wp_seq ?_
    refine wp_seq ?_
    -- R1
    refine wp_all_seq [.eq (.int .i64 ((m : Nat) : Int)), .eq (.int .i64 ((a + n : Nat) : Int)), .eq (.int .i64 ((a : Nat) : Int)), .eq (.int .i64 ((n : Nat) : Int)), .eq (.bool false)] (by kernel_rfl) (by kernel_rfl) (by rw [sz]; kernel_rfl) (by kernel_rfl) ⟨fun hw ac u K => ?_, fun hw ac u K => ?_, fun hw ac u K => ?_, fun hw ac u K => ?_, fun hw ac u K => ?_, trivial⟩ ?_
    · exact st_move (.tmp 2) rfl ((K.old 2 rfl).trans x2)
    · exact st_move (.tmp 1) rfl ((K.old 1 rfl).trans x1)
    · exact st_move (.tmp 0) rfl ((K.old 0 rfl).trans x0)
    · exact st_sub (.tmp 11) (.tmp 12) rfl (a + n) (a) (n) (K.dep 1 11 rfl) (K.dep 2 12 rfl) (by omega) (by omega)
    · exact st_eqi 3 (.tmp 10) (.tmp 13) rfl .i64 (((m : Nat) : Int)) (((n : Nat) : Int)) (K.dep 0 10 rfl) (K.dep 3 13 rfl) _ (by rw [eq_comm, decide_eq_false_iff_not]; omega)
    intro f2 w2 A hb
    replace bl0 := bl
    replace x0 := (A.old 0 rfl).trans x0
    replace x1 := (A.old 1 rfl).trans x1
    replace x2 := (A.old 2 rfl).trans x2
    replace x3 := (A.old 3 rfl).trans x3
    replace x8 := (A.old 8 rfl).trans x8
    have x14 : f2.eval (.tmp 14) = .bool false := A.has 4 14 rfl
    replace bl := (bl.trans (Below.mono hb bl.size))
    replace sz := A.size.trans sz
    replace df := A.defs.trans df
    clear A hb
    show Code.wp _ _ _ _ _
    refine wp_cond_false x14 ?_
    refine wp_skip ?_
    show Code.wp _ _ _ _ _
    refine wp_seq ?_
    -- R5
    refine wp_all_seq [.eq (.int .i64 ((a + n : Nat) : Int)), .eq (.int .i64 ((a : Nat) : Int)), .eq (.int .i64 ((n : Nat) : Int)), .eq (.int .i64 ((k : Nat) : Int)), .eq (.int .i64 ((k : Nat) : Int))] (by kernel_rfl) (by kernel_rfl) (by rw [sz]; kernel_rfl) (by kernel_rfl) ⟨fun hw ac u K => ?_, fun hw ac u K => ?_, fun hw ac u K => ?_, fun hw ac u K => ?_, fun hw ac u K => ?_, trivial⟩ ?_
    · exact st_move (.tmp 1) rfl ((K.old 1 rfl).trans x1)
    · exact st_move (.tmp 0) rfl ((K.old 0 rfl).trans x0)
    · exact st_sub (.tmp 20) (.tmp 21) rfl (a + n) (a) (n) (K.dep 0 20 rfl) (K.dep 1 21 rfl) (by omega) (by omega)
    · exact st_call 31 (.func 31) _ _ #[.int .i64 ((n : Nat) : Int)] rfl rfl (one_arg (K.dep 2 22 rfl)) Tryd.enter31 (by rw [← hk]; exact fk_of (rsplit_any n h2 (by omega) _))
    · exact st_assign (.tmp 23) rfl (K.dep 3 23 rfl)
    intro f3 w3 A hb
    replace bl0 := bl
    replace x0 := (A.old 0 rfl).trans x0
    replace x1 := (A.old 1 rfl).trans x1
    replace x2 := (A.old 2 rfl).trans x2
    replace x3 := (A.old 3 rfl).trans x3
    replace x8 := (A.old 8 rfl).trans x8
    replace x14 := (A.old 14 rfl).trans x14
    have x9 : f3.eval (.tmp 9) = .int .i64 ((k : Nat) : Int) := A.has 4 9 rfl
    replace bl := (bl.trans (Below.mono hb bl.size))
    replace sz := A.size.trans sz
    replace df := A.defs.trans df
    clear A hb
    show Code.wp _ _ _ _ _
    refine wp_seq ?_
    refine wp_seq ?_
    by_cases hik : m ≤ k
    rotate_left
    · skip
      have hl1 := rsb_len (n - k) (a + k) (m - k) false
      -- R6
      refine wp_all_seq [.eq (.int .i64 ((m : Nat) : Int)), .eq (.int .i64 ((k : Nat) : Int)), .eq (.bool false)] (by kernel_rfl) (by kernel_rfl) (by rw [sz]; kernel_rfl) (by kernel_rfl) ⟨fun hw ac u K => ?_, fun hw ac u K => ?_, fun hw ac u K => ?_, trivial⟩ ?_
      · exact st_move (.tmp 2) rfl ((K.old 2 rfl).trans x2)
      · exact st_move (.tmp 9) rfl ((K.old 9 rfl).trans x9)
      · exact st_leq 3 (.tmp 24) (.tmp 25) rfl .i64 (((m : Nat) : Int)) (((k : Nat) : Int)) (K.dep 0 24 rfl) (K.dep 1 25 rfl) _ (by first | (simp; done) | (simp; omega))
      intro f4 w4 A hb
      replace bl0 := bl
      replace x0 := (A.old 0 rfl).trans x0
      replace x1 := (A.old 1 rfl).trans x1
      replace x2 := (A.old 2 rfl).trans x2
      replace x3 := (A.old 3 rfl).trans x3
      replace x8 := (A.old 8 rfl).trans x8
      replace x14 := (A.old 14 rfl).trans x14
      replace x9 := (A.old 9 rfl).trans x9
      have x26 : f4.eval (.tmp 26) = .bool false := A.has 2 26 rfl
      replace bl := (bl.trans (Below.mono hb bl.size))
      replace sz := A.size.trans sz
      replace df := A.defs.trans df
      clear A hb
      show Code.wp _ _ _ _ _
      refine wp_cond_false x26 ?_
      refine wp_skip ?_
      show Code.wp _ _ _ _ _
      refine wp_seq ?_
      -- R8
      refine wp_region_seq [.eq (.int .i64 ((a : Nat) : Int)), .eq (.int .i64 ((k : Nat) : Int)), .eq (.int .i64 ((a + k : Nat) : Int)), .eq (.int .i64 ((a + n : Nat) : Int)), .eq (.int .i64 ((m : Nat) : Int)), .eq (.int .i64 ((k : Nat) : Int)), .eq (.int .i64 ((m - k : Nat) : Int)), .op w.heap.size (rsb (a + k) (n - k) (m - k) false), .eq (.int .i64 ((a : Nat) : Int)), .eq (.int .i64 ((a : Nat) : Int)), .eq (.int .i64 ((k : Nat) : Int)), .eq (.int .i64 ((a + k : Nat) : Int)), .eq (.agg ([.int .i64 ((a : Nat) : Int), .int .i64 ((a + k : Nat) : Int)] : List Value).toArray), .op w.heap.size ([(a, a + k)])] (by kernel_rfl) (by kernel_rfl) (by rw [sz]; kernel_rfl) (by kernel_rfl) ⟨fun hw ac u K => ?_, fun hw ac u K => ?_, fun hw ac u K => ?_, fun hw ac u K => ?_, fun hw ac u K => ?_, fun hw ac u K => ?_, fun hw ac u K => ?_, fun hw ac u K => ?_, fun hw ac u K => ?_, fun hw ac u K => ?_, fun hw ac u K => ?_, fun hw ac u K => ?_, fun hw ac u K => ?_, fun hw ac u K => ?_, trivial⟩ ?_
      · exact st_move (.tmp 0) rfl ((K.old 0 rfl).trans x0)
      · exact st_move (.tmp 9) rfl ((K.old 9 rfl).trans x9)
      · exact st_add (.tmp 41) (.tmp 42) rfl (a) (k) (a + k) (K.dep 0 41 rfl) (K.dep 1 42 rfl) (by omega) (by omega)
      · exact st_move (.tmp 1) rfl ((K.old 1 rfl).trans x1)
      · exact st_move (.tmp 2) rfl ((K.old 2 rfl).trans x2)
      · exact st_move (.tmp 9) rfl ((K.old 9 rfl).trans x9)
      · exact st_sub (.tmp 45) (.tmp 46) rfl (m) (k) (m - k) (K.dep 4 45 rfl) (K.dep 5 46 rfl) (by omega) (by omega)
      · exact st_call 20 (.func 20) _ _ #[.int .i64 ((a + k : Nat) : Int), .int .i64 ((a + n : Nat) : Int), .int .i64 ((m - k : Nat) : Int), .bool false] rfl rfl (arg4 (K.dep 2 43 rfl) (K.dep 3 44 rfl) (K.dep 6 47 rfl) rfl) Tryd.enter20 (fk_orw (bl.trans (Below.mono K.grow bl.size)).size (by rw [hto]; exact ih (n - k) (by omega) (a + k) (m - k) false _ (by omega) (by omega) (by omega) (by omega)))
      · exact st_move (.tmp 0) rfl ((K.old 0 rfl).trans x0)
      · exact st_move (.tmp 0) rfl ((K.old 0 rfl).trans x0)
      · exact st_move (.tmp 9) rfl ((K.old 9 rfl).trans x9)
      · exact st_add (.tmp 50) (.tmp 51) rfl (a) (k) (a + k) (K.dep 9 50 rfl) (K.dep 10 51 rfl) (by omega) (by omega)
      · exact st_build 56 _ rfl (by simp only [List.map_toArray, List.map_cons, List.map_nil, show ac.eval (.tmp 49) = _ from (K.dep 8 49 rfl), show ac.eval (.tmp 52) = _ from (K.dep 11 52 rfl)]; kernel_rfl)
      · exact st_bp1 (.tmp 53) rfl _ _ (K.dep 12 53 rfl) _ (bl.trans (Below.mono K.grow bl.size)).size
      intro f5 w5 A hb
      replace bl0 := bl
      replace x0 := (A.old 0 rfl).trans x0
      replace x1 := (A.old 1 rfl).trans x1
      replace x2 := (A.old 2 rfl).trans x2
      replace x3 := (A.old 3 rfl).trans x3
      replace x8 := (A.old 8 rfl).trans x8
      replace x14 := (A.old 14 rfl).trans x14
      replace x9 := (A.old 9 rfl).trans x9
      replace x26 := (A.old 26 rfl).trans x26
      have x48 : Fk.f (.op w.heap.size (rsb (a + k) (n - k) (m - k) false)) (f5.eval (.tmp 48)) w5 := A.has 7 48 rfl
      have x54 : Fk.f (.op w.heap.size ([(a, a + k)])) (f5.eval (.tmp 54)) w5 := A.has 13 54 rfl
      replace bl := (bl.trans (Below.mono hb bl.size))
      replace sz := A.size.trans sz
      replace df := A.defs.trans df
      clear A hb
      refine wl_appendp rfl (.tmp 48) (.tmp 54) rfl 55 rfl (by rw [sz]; decide) x48 x54 (by simp) bl (by simp only [List.length_cons, List.length_nil]; omega) ?_
      intro f6 w6 df2 sz2 old2 new2 bl2
      clear x48
      clear x54
      replace x0 := (old2 0 rfl).trans x0
      replace x1 := (old2 1 rfl).trans x1
      replace x2 := (old2 2 rfl).trans x2
      replace x3 := (old2 3 rfl).trans x3
      replace x8 := (old2 8 rfl).trans x8
      replace x14 := (old2 14 rfl).trans x14
      replace x9 := (old2 9 rfl).trans x9
      replace x26 := (old2 26 rfl).trans x26
      have x55 : Fk.f (.op w.heap.size (rsb (a + k) (n - k) (m - k) false ++ [(a, a + k)])) (f6.eval (.tmp 55)) w6 := new2
      replace bl := bl2
      replace bl0 := bl
      replace sz := sz2.trans sz
      replace df := df2.trans df
      clear df2 sz2 old2 new2 bl2
      refine wl_one (.op w.heap.size (rsb (a + k) (n - k) (m - k) false ++ [(a, a + k)])) rfl 8 rfl (by rw [sz]; decide) (st_assign (.tmp 55) rfl x55) ?_
      intro f7 w7 df2 sz2 old2 new2 hb
      replace bl0 := bl
      replace x0 := (old2 0 rfl).trans x0
      replace x1 := (old2 1 rfl).trans x1
      replace x2 := (old2 2 rfl).trans x2
      replace x3 := (old2 3 rfl).trans x3
      clear x8
      replace x14 := (old2 14 rfl).trans x14
      replace x9 := (old2 9 rfl).trans x9
      replace x26 := (old2 26 rfl).trans x26
      replace x55 := f_at (old2 55 rfl) (Fk.mono _ _ _ _ x55 hb)
      have x8 : Fk.f (.op w.heap.size (rsb (a + k) (n - k) (m - k) false ++ [(a, a + k)])) (f7.eval (.tmp 8)) w7 := new2
      replace bl := (bl.trans (Below.mono hb bl.size))
      replace sz := sz2.trans sz
      replace df := df2.trans df
      clear df2 sz2 old2 new2 hb
      refine wpList_nil ?_
      clear x55
      show Code.wp _ _ _ _ _
      refine wp_ret ?_
      repeat (first | with_reducible refine then_ret ?_ | with_reducible refine block_ret ?_)
      rw [rsb_right h2 hmn (by rw [hk]; exact hik), hk]
      exact bodyPost_ret (v := f7.eval (.tmp 8)) (ret_slot rfl f7 _ rfl _ _) df ⟨_, rfl, x8, bl⟩
    have hl1 := rsb_len k a m b
    -- R6
    refine wp_all_seq [.eq (.int .i64 ((m : Nat) : Int)), .eq (.int .i64 ((k : Nat) : Int)), .eq (.bool true)] (by kernel_rfl) (by kernel_rfl) (by rw [sz]; kernel_rfl) (by kernel_rfl) ⟨fun hw ac u K => ?_, fun hw ac u K => ?_, fun hw ac u K => ?_, trivial⟩ ?_
    · exact st_move (.tmp 2) rfl ((K.old 2 rfl).trans x2)
    · exact st_move (.tmp 9) rfl ((K.old 9 rfl).trans x9)
    · exact st_leq 3 (.tmp 24) (.tmp 25) rfl .i64 (((m : Nat) : Int)) (((k : Nat) : Int)) (K.dep 0 24 rfl) (K.dep 1 25 rfl) _ (by first | (simp; done) | (simp; omega))
    intro f4 w4 A hb
    replace bl0 := bl
    replace x0 := (A.old 0 rfl).trans x0
    replace x1 := (A.old 1 rfl).trans x1
    replace x2 := (A.old 2 rfl).trans x2
    replace x3 := (A.old 3 rfl).trans x3
    replace x8 := (A.old 8 rfl).trans x8
    replace x14 := (A.old 14 rfl).trans x14
    replace x9 := (A.old 9 rfl).trans x9
    have x26 : f4.eval (.tmp 26) = .bool true := A.has 2 26 rfl
    replace bl := (bl.trans (Below.mono hb bl.size))
    replace sz := A.size.trans sz
    replace df := A.defs.trans df
    clear A hb
    show Code.wp _ _ _ _ _
    refine wp_cond_true x26 ?_
    refine wp_seq ?_
    -- R7
    refine wp_region_seq [.eq (.int .i64 ((a : Nat) : Int)), .eq (.int .i64 ((a : Nat) : Int)), .eq (.int .i64 ((k : Nat) : Int)), .eq (.int .i64 ((a + k : Nat) : Int)), .eq (.int .i64 ((m : Nat) : Int)), .eq (.bool b), .op w.heap.size (rsb a k m b), .eq (.int .i64 ((a : Nat) : Int)), .eq (.int .i64 ((k : Nat) : Int)), .eq (.int .i64 ((a + k : Nat) : Int)), .eq (.int .i64 ((a + n : Nat) : Int)), .eq (.agg ([.int .i64 ((a + k : Nat) : Int), .int .i64 ((a + n : Nat) : Int)] : List Value).toArray), .op w.heap.size ([(a + k, a + n)])] (by kernel_rfl) (by kernel_rfl) (by rw [sz]; kernel_rfl) (by kernel_rfl) ⟨fun hw ac u K => ?_, fun hw ac u K => ?_, fun hw ac u K => ?_, fun hw ac u K => ?_, fun hw ac u K => ?_, fun hw ac u K => ?_, fun hw ac u K => ?_, fun hw ac u K => ?_, fun hw ac u K => ?_, fun hw ac u K => ?_, fun hw ac u K => ?_, fun hw ac u K => ?_, fun hw ac u K => ?_, trivial⟩ ?_
    · exact st_move (.tmp 0) rfl ((K.old 0 rfl).trans x0)
    · exact st_move (.tmp 0) rfl ((K.old 0 rfl).trans x0)
    · exact st_move (.tmp 9) rfl ((K.old 9 rfl).trans x9)
    · exact st_add (.tmp 28) (.tmp 29) rfl (a) (k) (a + k) (K.dep 1 28 rfl) (K.dep 2 29 rfl) (by omega) (by omega)
    · exact st_move (.tmp 2) rfl ((K.old 2 rfl).trans x2)
    · exact st_move (.tmp 3) rfl ((K.old 3 rfl).trans x3)
    · exact st_call 20 (.func 20) _ _ #[.int .i64 ((a : Nat) : Int), .int .i64 ((a + k : Nat) : Int), .int .i64 ((m : Nat) : Int), .bool b] rfl rfl (arg4 (K.dep 0 27 rfl) (K.dep 3 30 rfl) (K.dep 4 31 rfl) (K.dep 5 32 rfl)) Tryd.enter20 (fk_orw (bl.trans (Below.mono K.grow bl.size)).size (ih k (by omega) a m b _ hk2 (by omega) hm1 hik))
    · exact st_move (.tmp 0) rfl ((K.old 0 rfl).trans x0)
    · exact st_move (.tmp 9) rfl ((K.old 9 rfl).trans x9)
    · exact st_add (.tmp 34) (.tmp 35) rfl (a) (k) (a + k) (K.dep 7 34 rfl) (K.dep 8 35 rfl) (by omega) (by omega)
    · exact st_move (.tmp 1) rfl ((K.old 1 rfl).trans x1)
    · exact st_build 56 _ rfl (by simp only [List.map_toArray, List.map_cons, List.map_nil, show ac.eval (.tmp 36) = _ from (K.dep 9 36 rfl), show ac.eval (.tmp 37) = _ from (K.dep 10 37 rfl)]; kernel_rfl)
    · exact st_bp1 (.tmp 38) rfl _ _ (K.dep 11 38 rfl) _ (bl.trans (Below.mono K.grow bl.size)).size
    intro f5 w5 A hb
    replace bl0 := bl
    replace x0 := (A.old 0 rfl).trans x0
    replace x1 := (A.old 1 rfl).trans x1
    replace x2 := (A.old 2 rfl).trans x2
    replace x3 := (A.old 3 rfl).trans x3
    replace x8 := (A.old 8 rfl).trans x8
    replace x14 := (A.old 14 rfl).trans x14
    replace x9 := (A.old 9 rfl).trans x9
    replace x26 := (A.old 26 rfl).trans x26
    have x33 : Fk.f (.op w.heap.size (rsb a k m b)) (f5.eval (.tmp 33)) w5 := A.has 6 33 rfl
    have x39 : Fk.f (.op w.heap.size ([(a + k, a + n)])) (f5.eval (.tmp 39)) w5 := A.has 12 39 rfl
    replace bl := (bl.trans (Below.mono hb bl.size))
    replace sz := A.size.trans sz
    replace df := A.defs.trans df
    clear A hb
    refine wl_appendp rfl (.tmp 33) (.tmp 39) rfl 40 rfl (by rw [sz]; decide) x33 x39 (by simp) bl (by simp only [List.length_cons, List.length_nil]; omega) ?_
    intro f6 w6 df2 sz2 old2 new2 bl2
    clear x33
    clear x39
    replace x0 := (old2 0 rfl).trans x0
    replace x1 := (old2 1 rfl).trans x1
    replace x2 := (old2 2 rfl).trans x2
    replace x3 := (old2 3 rfl).trans x3
    replace x8 := (old2 8 rfl).trans x8
    replace x14 := (old2 14 rfl).trans x14
    replace x9 := (old2 9 rfl).trans x9
    replace x26 := (old2 26 rfl).trans x26
    have x40 : Fk.f (.op w.heap.size (rsb a k m b ++ [(a + k, a + n)])) (f6.eval (.tmp 40)) w6 := new2
    replace bl := bl2
    replace bl0 := bl
    replace sz := sz2.trans sz
    replace df := df2.trans df
    clear df2 sz2 old2 new2 bl2
    refine wl_one (.op w.heap.size (rsb a k m b ++ [(a + k, a + n)])) rfl 8 rfl (by rw [sz]; decide) (st_assign (.tmp 40) rfl x40) ?_
    intro f7 w7 df2 sz2 old2 new2 hb
    replace bl0 := bl
    replace x0 := (old2 0 rfl).trans x0
    replace x1 := (old2 1 rfl).trans x1
    replace x2 := (old2 2 rfl).trans x2
    replace x3 := (old2 3 rfl).trans x3
    clear x8
    replace x14 := (old2 14 rfl).trans x14
    replace x9 := (old2 9 rfl).trans x9
    replace x26 := (old2 26 rfl).trans x26
    replace x40 := f_at (old2 40 rfl) (Fk.mono _ _ _ _ x40 hb)
    have x8 : Fk.f (.op w.heap.size (rsb a k m b ++ [(a + k, a + n)])) (f7.eval (.tmp 8)) w7 := new2
    replace bl := (bl.trans (Below.mono hb bl.size))
    replace sz := sz2.trans sz
    replace df := df2.trans df
    clear df2 sz2 old2 new2 hb
    refine wpList_nil ?_
    clear x40
    show Code.wp _ _ _ _ _
    refine wp_ret ?_
    repeat (first | with_reducible refine then_ret ?_ | with_reducible refine block_ret ?_)
    rw [rsb_left h2 hmn (by rw [hk]; exact hik), hk]
    exact bodyPost_ret (v := f7.eval (.tmp 8)) (ret_slot rfl f7 _ rfl _ _) df ⟨_, rfl, x8, bl⟩
end Go.Proofs.YtfbfngblocfdlaaDoor
namespace Go.Proofs.YtfbfngblocfdlaaDoor
set_option maxRecDepth 100000
open Go.RowKit
theorem sl_nil (w : World) : (Fk.sl []).f (.slice none 0 0) w := ⟨none, 0, 0, 0, 0, rfl, ⟨rfl, Nat.le_refl _, fun _ => ⟨rfl, rfl⟩, fun h => absurd h (by decide)⟩⟩
theorem hc_nil (w : World) : (Fk.hc []).f (.slice none 0 0) w := ⟨none, 0, 0, 0, rfl, Nat.le_refl _, fun h => absurd h (by decide), fun h => absurd h (by decide), fun i x hi => by simp at hi⟩
theorem hc_len {l : List (List (BitVec 8))} {v : Value} {w : World} (h : (Fk.hc l).f v w) : ∀ x ∈ l, x.length = 32 := by
  intro x hx
  obtain ⟨i, hi, rfl⟩ := List.getElem_of_mem hx
  obtain ⟨A, C, lb, lo, e, _, hl⟩ := h
  exact (hl.all i _ (List.getElem?_eq_getElem hi)).1
theorem mroot_len {l : List (List (BitVec 8))} (h : ∀ x ∈ l, x.length = 32) : (mroot l).length = 32 := by
  match l, h with
  | [], _ => rw [mroot_nil]; exact shaOf_len _
  | [x], h => rw [mroot_one]; exact h x (by simp)
  | x :: y :: r, _ => rw [mroot_two (by simp)]; exact nd_len _ _
theorem mroot_le1 {l : List (List (BitVec 8))} (h : l.length = 1) : ∃ x, l = [x] := by
  match l, h with
  | [x], _ => exact ⟨x, rfl⟩
theorem root_any (l : List (List (BitVec 8))) (w : World) (v : Value) (h1000 : l.length ≤ 1000) (hv : (Fk.hc l).f v w) (hK : Tab w) {y : List (BitVec 8)} (ey : Box (mroot l = y)) :
    Calls Tryd.prog 8 #[v] w fun e w' => e = .returned (.agg ((y).map V).toArray) ∧ Below w.heap.size w w' := by
  suffices H : ∀ (n : Nat) (l : List (List (BitVec 8))), l.length = n → ∀ (w : World) (v : Value), l.length ≤ 1000 → (Fk.hc l).f v w → Tab w → ∀ {y : List (BitVec 8)}, Box (mroot l = y) → Calls Tryd.prog 8 #[v] w fun e w' => e = .returned (.agg ((y).map V).toArray) ∧ Below w.heap.size w w' from H _ l rfl w v h1000 hv hK ey
  intro n
  induction n using Nat.strongRecOn with
  | ind n ih0 =>
  intro l hn w v h1000 hv hK y ey
  have ih : ∀ (l' : List (List (BitVec 8))), l'.length < n → ∀ (w : World) (v : Value), l'.length ≤ 1000 → (Fk.hc l').f v w → Tab w → ∀ {y : List (BitVec 8)}, Box (mroot l' = y) → Calls Tryd.prog 8 #[v] w fun e w' => e = .returned (.agg ((y).map V).toArray) ∧ Below w.heap.size w w' := fun l' hl' => ih0 _ hl' l' rfl
  clear ih0
  have hy : y.length = 32 := by rw [← ey.out]; exact mroot_len (hc_len hv)
  have hvs := hc_hs hv
  have hnil := sl_nil w
  by_cases h0 : l.length = 0
  · obtain rfl := List.eq_nil_of_length_eq_zero h0
    have eys : shaOf [] = y := by rw [← ey.out, mroot_nil]
    go_enter Tryd.func8, Tryd.ntmps8
    refine code_both (fun f w1 => f.tmps.size = 26 ∧ f.defers = [] ∧ f.eval (.tmp 0) = v ∧ Below w.heap.size w (w1)) ⟨rfl, rfl, rfl, Below.refl _ _⟩ ?_
    rintro f0 w0 ⟨sz, df, x0, bl⟩
    have bl0 := bl
    refine wp_seq ?_
    -- R0
    refine wp_all_seq [.nw w0.heap.size 24 ((hz).map V)] (by kernel_rfl) (by kernel_rfl) (by rw [sz]; kernel_rfl) (by kernel_rfl) ⟨fun hw ac u K => ?_, trivial⟩ ?_
    · exact st_alloc24 rfl _ K.grow.size
    intro f1 w1 A hb
    replace bl0 := bl
    replace x0 := (A.old 0 rfl).trans x0
    have x2 : Fk.f (.nw w0.heap.size 24 ((hz).map V)) (f1.eval (.tmp 2)) w1 := A.has 0 2 rfl
    replace bl := (bl.trans (Below.mono hb bl.size))
    replace sz := A.size.trans sz
    replace df := A.defs.trans df
    clear A hb
    obtain ⟨g2, hg2, e2, m2⟩ := x2
    have x2 := e2
    clear e2
    have hw2 : w.heap.size ≤ g2 := Nat.le_trans bl0.size hg2
    show Code.wp _ _ _ _ _
    refine wp_seq ?_
    refine wp_seq ?_
    -- R1
    refine wp_all_seq [.eq (v), .eq (.int .i64 ((0 : Nat) : Int))] (by kernel_rfl) (by kernel_rfl) (by rw [sz]; kernel_rfl) (by kernel_rfl) ⟨fun hw ac u K => ?_, fun hw ac u K => ?_, trivial⟩ ?_
    · exact st_move (.tmp 0) rfl ((K.old 0 rfl).trans x0)
    · exact st_lenc (.tmp 4) rfl (0) rfl (fk_val (K.dep 0 4 rfl) (Fk.mono _ _ _ _ hv (bl.trans (Below.mono K.grow bl.size))))
    intro f2 w2 A hb
    replace bl0 := bl
    replace x0 := (A.old 0 rfl).trans x0
    replace x2 := (A.old 2 rfl).trans x2
    have x5 : f2.eval (.tmp 5) = .int .i64 ((0 : Nat) : Int) := A.has 1 5 rfl
    have lt_m2 := Ob.lt m2
    replace m2 := Ob.below m2 hb
    replace bl := (bl.trans (Below.mono hb bl.size))
    replace sz := A.size.trans sz
    replace df := A.defs.trans df
    clear A hb
    show Code.wp _ _ _ _ _
    refine wp_block ?_
    refine wp_seq ?_
    -- R2
    refine wp_all_seq [.eq (.bool true), .eq (.bool true)] (by kernel_rfl) (by kernel_rfl) (by rw [sz]; kernel_rfl) (by kernel_rfl) ⟨fun hw ac u K => ?_, fun hw ac u K => ?_, trivial⟩ ?_
    · exact st_eqi 3 (.tmp 5) (.const (.int .i64 0)) rfl .i64 (((0 : Nat) : Int)) (0) ((K.old 5 rfl).trans x5) rfl _ (by simp)
    · exact st_assign (.tmp 7) rfl (K.dep 0 7 rfl)
    intro f3 w3 A hb
    replace bl0 := bl
    replace x0 := (A.old 0 rfl).trans x0
    replace x2 := (A.old 2 rfl).trans x2
    replace x5 := (A.old 5 rfl).trans x5
    have x6 : f3.eval (.tmp 6) = .bool true := A.has 1 6 rfl
    have lt_m2 := Ob.lt m2
    replace m2 := Ob.below m2 hb
    replace bl := (bl.trans (Below.mono hb bl.size))
    replace sz := A.size.trans sz
    replace df := A.defs.trans df
    clear A hb
    show Code.wp _ _ _ _ _
    refine wp_cond_true x6 ?_
    refine wp_seq ?_
    -- R3
    refine wp_region_seq [.eq (.agg ((y).map V).toArray)] (by kernel_rfl) (by kernel_rfl) (by rw [sz]; kernel_rfl) (by kernel_rfl) ⟨fun hw ac u K => ?_, trivial⟩ ?_
    · exact st_call 21 (.func 21) _ _ #[.slice none 0 0] rfl rfl (one_arg rfl) Tryd.enter21 (by rw [← eys]; exact fk_sum (by simp) (hK.below (bl.trans (Below.mono K.grow bl.size))) (Fk.mono _ _ _ _ hnil (bl.trans (Below.mono K.grow bl.size))))
    intro f4 w4 A hb
    replace bl0 := bl
    replace x0 := (A.old 0 rfl).trans x0
    replace x2 := (A.old 2 rfl).trans x2
    replace x5 := (A.old 5 rfl).trans x5
    replace x6 := (A.old 6 rfl).trans x6
    have x8 : f4.eval (.tmp 8) = .agg ((y).map V).toArray := A.has 0 8 rfl
    have lt_m2 := Ob.lt m2
    replace m2 := Ob.below m2 hb
    replace bl := (bl.trans (Below.mono hb bl.size))
    replace sz := A.size.trans sz
    replace df := A.defs.trans df
    clear A hb
    refine wl_store rfl (.tmp 2) (.tmp 8) rfl rfl (g2) (y) (hz) x2 x8 m2 hz_len hy ?_
    replace m2 : Ob (w4.setRow g2 ((y).map V : List Value).toArray) (g2) 24 ((y).map V) := Ob.setRow m2 ((y).map V)
    replace bl : Below w.heap.size w (w4.setRow g2 ((y).map V : List Value).toArray) := bl.trans (below_setRow _ _ _ _ hw2)
    generalize w4.setRow g2 ((y).map V : List Value).toArray = w5b at bl m2 ⊢
    refine wpList_nil ?_
    clear x8
    show Code.wp _ _ _ _ _
    refine wp_ret ?_
    repeat (first | with_reducible refine then_ret ?_ | with_reducible refine block_ret ?_)
    exact bodyPost_ret (v := .agg ((y).map V).toArray) (ret_hash rfl f4 _ g2 (y) hy x2 m2) df ⟨rfl, bl⟩
  by_cases h1 : l.length = 1
  · obtain ⟨x, rfl⟩ := mroot_le1 h1
    obtain rfl : x = y := by rw [← ey.out, mroot_one]
    go_enter Tryd.func8, Tryd.ntmps8
    refine code_both (fun f w1 => f.tmps.size = 26 ∧ f.defers = [] ∧ f.eval (.tmp 0) = v ∧ Below w.heap.size w (w1)) ⟨rfl, rfl, rfl, Below.refl _ _⟩ ?_
    rintro f0 w0 ⟨sz, df, x0, bl⟩
    have bl0 := bl
    refine wp_seq ?_
    -- R0
    refine wp_all_seq [.nw w0.heap.size 24 ((hz).map V)] (by kernel_rfl) (by kernel_rfl) (by rw [sz]; kernel_rfl) (by kernel_rfl) ⟨fun hw ac u K => ?_, trivial⟩ ?_
    · exact st_alloc24 rfl _ K.grow.size
    intro f1 w1 A hb
    replace bl0 := bl
    replace x0 := (A.old 0 rfl).trans x0
    have x2 : Fk.f (.nw w0.heap.size 24 ((hz).map V)) (f1.eval (.tmp 2)) w1 := A.has 0 2 rfl
    replace bl := (bl.trans (Below.mono hb bl.size))
    replace sz := A.size.trans sz
    replace df := A.defs.trans df
    clear A hb
    obtain ⟨g2, hg2, e2, m2⟩ := x2
    have x2 := e2
    clear e2
    have hw2 : w.heap.size ≤ g2 := Nat.le_trans bl0.size hg2
    show Code.wp _ _ _ _ _
    refine wp_seq ?_
    refine wp_seq ?_
    -- R1
    refine wp_all_seq [.eq (v), .eq (.int .i64 ((1 : Nat) : Int))] (by kernel_rfl) (by kernel_rfl) (by rw [sz]; kernel_rfl) (by kernel_rfl) ⟨fun hw ac u K => ?_, fun hw ac u K => ?_, trivial⟩ ?_
    · exact st_move (.tmp 0) rfl ((K.old 0 rfl).trans x0)
    · exact st_lenc (.tmp 4) rfl (1) rfl (fk_val (K.dep 0 4 rfl) (Fk.mono _ _ _ _ hv (bl.trans (Below.mono K.grow bl.size))))
    intro f2 w2 A hb
    replace bl0 := bl
    replace x0 := (A.old 0 rfl).trans x0
    replace x2 := (A.old 2 rfl).trans x2
    have x5 : f2.eval (.tmp 5) = .int .i64 ((1 : Nat) : Int) := A.has 1 5 rfl
    have lt_m2 := Ob.lt m2
    replace m2 := Ob.below m2 hb
    replace bl := (bl.trans (Below.mono hb bl.size))
    replace sz := A.size.trans sz
    replace df := A.defs.trans df
    clear A hb
    show Code.wp _ _ _ _ _
    refine wp_block ?_
    refine wp_seq ?_
    -- R2
    refine wp_all_seq [.eq (.bool false), .eq (.bool false)] (by kernel_rfl) (by kernel_rfl) (by rw [sz]; kernel_rfl) (by kernel_rfl) ⟨fun hw ac u K => ?_, fun hw ac u K => ?_, trivial⟩ ?_
    · exact st_eqi 3 (.tmp 5) (.const (.int .i64 0)) rfl .i64 (((1 : Nat) : Int)) (0) ((K.old 5 rfl).trans x5) rfl _ (by simp)
    · exact st_assign (.tmp 7) rfl (K.dep 0 7 rfl)
    intro f3 w3 A hb
    replace bl0 := bl
    replace x0 := (A.old 0 rfl).trans x0
    replace x2 := (A.old 2 rfl).trans x2
    replace x5 := (A.old 5 rfl).trans x5
    have x6 : f3.eval (.tmp 6) = .bool false := A.has 1 6 rfl
    have lt_m2 := Ob.lt m2
    replace m2 := Ob.below m2 hb
    replace bl := (bl.trans (Below.mono hb bl.size))
    replace sz := A.size.trans sz
    replace df := A.defs.trans df
    clear A hb
    show Code.wp _ _ _ _ _
    refine wp_cond_false x6 ?_
    refine wp_seq ?_
    -- R4
    refine wp_all_seq [.eq (.bool true), .eq (.bool true)] (by kernel_rfl) (by kernel_rfl) (by rw [sz]; kernel_rfl) (by kernel_rfl) ⟨fun hw ac u K => ?_, fun hw ac u K => ?_, trivial⟩ ?_
    · exact st_eqi 3 (.tmp 5) (.const (.int .i64 1)) rfl .i64 (((1 : Nat) : Int)) (1) ((K.old 5 rfl).trans x5) rfl _ (by simp)
    · exact st_assign (.tmp 10) rfl (K.dep 0 10 rfl)
    intro f4 w4 A hb
    replace bl0 := bl
    replace x0 := (A.old 0 rfl).trans x0
    replace x2 := (A.old 2 rfl).trans x2
    replace x5 := (A.old 5 rfl).trans x5
    replace x6 := (A.old 6 rfl).trans x6
    have x9 : f4.eval (.tmp 9) = .bool true := A.has 1 9 rfl
    have lt_m2 := Ob.lt m2
    replace m2 := Ob.below m2 hb
    replace bl := (bl.trans (Below.mono hb bl.size))
    replace sz := A.size.trans sz
    replace df := A.defs.trans df
    clear A hb
    show Code.wp _ _ _ _ _
    refine wp_cond_true x9 ?_
    refine wp_seq ?_
    -- R5
    refine wp_region_seq [.eq (v), .ph (x), .eq (.agg ((x).map V).toArray)] (by kernel_rfl) (by kernel_rfl) (by rw [sz]; kernel_rfl) (by kernel_rfl) ⟨fun hw ac u K => ?_, fun hw ac u K => ?_, fun hw ac u K => ?_, trivial⟩ ?_
    · exact st_move (.tmp 0) rfl ((K.old 0 rfl).trans x0)
    · exact st_idxh (.tmp 11) (.const (.int .i64 0)) rfl (fk_val (K.dep 0 11 rfl) (Fk.mono _ _ _ _ hvs (bl.trans (Below.mono K.grow bl.size)))) (0) (x) rfl rfl
    · exact st_loadh (.tmp 12) rfl (K.dep 1 12 rfl)
    intro f5 w5 A hb
    replace bl0 := bl
    replace x0 := (A.old 0 rfl).trans x0
    replace x2 := (A.old 2 rfl).trans x2
    replace x5 := (A.old 5 rfl).trans x5
    replace x6 := (A.old 6 rfl).trans x6
    replace x9 := (A.old 9 rfl).trans x9
    have x13 : f5.eval (.tmp 13) = .agg ((x).map V).toArray := A.has 2 13 rfl
    have lt_m2 := Ob.lt m2
    replace m2 := Ob.below m2 hb
    replace bl := (bl.trans (Below.mono hb bl.size))
    replace sz := A.size.trans sz
    replace df := A.defs.trans df
    clear A hb
    refine wl_store rfl (.tmp 2) (.tmp 13) rfl rfl (g2) (x) (hz) x2 x13 m2 hz_len hy ?_
    replace m2 : Ob (w5.setRow g2 ((x).map V : List Value).toArray) (g2) 24 ((x).map V) := Ob.setRow m2 ((x).map V)
    replace bl : Below w.heap.size w (w5.setRow g2 ((x).map V : List Value).toArray) := bl.trans (below_setRow _ _ _ _ hw2)
    generalize w5.setRow g2 ((x).map V : List Value).toArray = w6b at bl m2 ⊢
    refine wpList_nil ?_
    clear x13
    show Code.wp _ _ _ _ _
    refine wp_ret ?_
    repeat (first | with_reducible refine then_ret ?_ | with_reducible refine block_ret ?_)
    exact bodyPost_ret (v := .agg ((x).map V).toArray) (ret_hash rfl f5 _ g2 (x) hy x2 m2) df ⟨rfl, bl⟩
  · have h2 : 2 ≤ l.length := by omega
    obtain ⟨k, hk⟩ : ∃ k, spl l.length = k := ⟨_, rfl⟩
    have hk1 : k < l.length := by rw [← hk]; exact spl_lt h2
    have hk2 : 1 ≤ k := by rw [← hk]; exact spl_pos _
    obtain ⟨y1, ey1⟩ : ∃ p, Box (mroot (l.take k) = p) := ⟨_, ⟨rfl⟩⟩
    obtain ⟨y2, ey2⟩ : ∃ p, Box (mroot (l.drop k) = p) := ⟨_, ⟨rfl⟩⟩
    have hy1 : y1.length = 32 := by rw [← ey1.out]; exact mroot_len (fun x hx => hc_len hv x (List.mem_of_mem_take hx))
    have hy2 : y2.length = 32 := by rw [← ey2.out]; exact mroot_len (fun x hx => hc_len hv x (List.mem_of_mem_drop hx))
    have eyn : Box (nd y1 y2 = y) := ⟨by rw [← ey1.out, ← ey2.out, ← ey.out, mroot_two h2, hk]⟩
    go_enter Tryd.func8, Tryd.ntmps8
    refine code_both (fun f w1 => f.tmps.size = 26 ∧ f.defers = [] ∧ f.eval (.tmp 0) = v ∧ Below w.heap.size w (w1)) ⟨rfl, rfl, rfl, Below.refl _ _⟩ ?_
    rintro f0 w0 ⟨sz, df, x0, bl⟩
    have bl0 := bl
    refine wp_seq ?_
    -- R0
    refine wp_all_seq [.nw w0.heap.size 24 ((hz).map V)] (by kernel_rfl) (by kernel_rfl) (by rw [sz]; kernel_rfl) (by kernel_rfl) ⟨fun hw ac u K => ?_, trivial⟩ ?_
    · exact st_alloc24 rfl _ K.grow.size
    intro f1 w1 A hb
    replace bl0 := bl
    replace x0 := (A.old 0 rfl).trans x0
    have x2 : Fk.f (.nw w0.heap.size 24 ((hz).map V)) (f1.eval (.tmp 2)) w1 := A.has 0 2 rfl
    replace bl := (bl.trans (Below.mono hb bl.size))
    replace sz := A.size.trans sz
    replace df := A.defs.trans df
    clear A hb
    obtain ⟨g2, hg2, e2, m2⟩ := x2
    have x2 := e2
    clear e2
    have hw2 : w.heap.size ≤ g2 := Nat.le_trans bl0.size hg2
    show Code.wp _ _ _ _ _
    refine wp_seq ?_
    refine wp_seq ?_
    -- R1
    refine wp_all_seq [.eq (v), .eq (.int .i64 (((l).length : Nat) : Int))] (by kernel_rfl) (by kernel_rfl) (by rw [sz]; kernel_rfl) (by kernel_rfl) ⟨fun hw ac u K => ?_, fun hw ac u K => ?_, trivial⟩ ?_
    · exact st_move (.tmp 0) rfl ((K.old 0 rfl).trans x0)
    · exact st_lenc (.tmp 4) rfl ((l).length) rfl (fk_val (K.dep 0 4 rfl) (Fk.mono _ _ _ _ hv (bl.trans (Below.mono K.grow bl.size))))
    intro f2 w2 A hb
    replace bl0 := bl
    replace x0 := (A.old 0 rfl).trans x0
    replace x2 := (A.old 2 rfl).trans x2
    have x5 : f2.eval (.tmp 5) = .int .i64 (((l).length : Nat) : Int) := A.has 1 5 rfl
    have lt_m2 := Ob.lt m2
    replace m2 := Ob.below m2 hb
    replace bl := (bl.trans (Below.mono hb bl.size))
    replace sz := A.size.trans sz
    replace df := A.defs.trans df
    clear A hb
    show Code.wp _ _ _ _ _
    refine wp_block ?_
    refine wp_seq ?_
    -- R2
    refine wp_all_seq [.eq (.bool false), .eq (.bool false)] (by kernel_rfl) (by kernel_rfl) (by rw [sz]; kernel_rfl) (by kernel_rfl) ⟨fun hw ac u K => ?_, fun hw ac u K => ?_, trivial⟩ ?_
    · exact st_eqi 3 (.tmp 5) (.const (.int .i64 0)) rfl .i64 ((((l).length : Nat) : Int)) (0) ((K.old 5 rfl).trans x5) rfl _ (by rw [eq_comm, decide_eq_false_iff_not]; omega)
    · exact st_assign (.tmp 7) rfl (K.dep 0 7 rfl)
    intro f3 w3 A hb
    replace bl0 := bl
    replace x0 := (A.old 0 rfl).trans x0
    replace x2 := (A.old 2 rfl).trans x2
    replace x5 := (A.old 5 rfl).trans x5
    have x6 : f3.eval (.tmp 6) = .bool false := A.has 1 6 rfl
    have lt_m2 := Ob.lt m2
    replace m2 := Ob.below m2 hb
    replace bl := (bl.trans (Below.mono hb bl.size))
    replace sz := A.size.trans sz
    replace df := A.defs.trans df
    clear A hb
    show Code.wp _ _ _ _ _
    refine wp_cond_false x6 ?_
    refine wp_seq ?_
    -- R4
    refine wp_all_seq [.eq (.bool false), .eq (.bool false)] (by kernel_rfl) (by kernel_rfl) (by rw [sz]; kernel_rfl) (by kernel_rfl) ⟨fun hw ac u K => ?_, fun hw ac u K => ?_, trivial⟩ ?_
    · exact st_eqi 3 (.tmp 5) (.const (.int .i64 1)) rfl .i64 ((((l).length : Nat) : Int)) (1) ((K.old 5 rfl).trans x5) rfl _ (by rw [eq_comm, decide_eq_false_iff_not]; omega)
    · exact st_assign (.tmp 10) rfl (K.dep 0 10 rfl)
    intro f4 w4 A hb
    replace bl0 := bl
    replace x0 := (A.old 0 rfl).trans x0
    replace x2 := (A.old 2 rfl).trans x2
    replace x5 := (A.old 5 rfl).trans x5
    replace x6 := (A.old 6 rfl).trans x6
    have x9 : f4.eval (.tmp 9) = .bool false := A.has 1 9 rfl
    have lt_m2 := Ob.lt m2
    replace m2 := Ob.below m2 hb
    replace bl := (bl.trans (Below.mono hb bl.size))
    replace sz := A.size.trans sz
    replace df := A.defs.trans df
    clear A hb
    show Code.wp _ _ _ _ _
    refine wp_cond_false x9 ?_
    refine wp_skip ?_
    show Code.wp _ _ _ _ _
    refine wp_seq ?_
    -- R6
    refine wp_all_seq [.eq (v), .eq (.int .i64 (((l).length : Nat) : Int)), .eq (.int .i64 ((k : Nat) : Int)), .eq (.int .i64 ((k : Nat) : Int))] (by kernel_rfl) (by kernel_rfl) (by rw [sz]; kernel_rfl) (by kernel_rfl) ⟨fun hw ac u K => ?_, fun hw ac u K => ?_, fun hw ac u K => ?_, fun hw ac u K => ?_, trivial⟩ ?_
    · exact st_move (.tmp 0) rfl ((K.old 0 rfl).trans x0)
    · exact st_lenc (.tmp 14) rfl ((l).length) rfl (fk_val (K.dep 0 14 rfl) (Fk.mono _ _ _ _ hv (bl.trans (Below.mono K.grow bl.size))))
    · exact st_call 12 (.func 12) _ _ #[.int .i64 (((l).length : Nat) : Int)] rfl rfl (one_arg (K.dep 1 15 rfl)) Tryd.enter12 (by rw [← hk]; exact fk_of (split_hi l.length (by omega) (by omega) _))
    · exact st_assign (.tmp 16) rfl (K.dep 2 16 rfl)
    intro f5 w5 A hb
    replace bl0 := bl
    replace x0 := (A.old 0 rfl).trans x0
    replace x2 := (A.old 2 rfl).trans x2
    replace x5 := (A.old 5 rfl).trans x5
    replace x6 := (A.old 6 rfl).trans x6
    replace x9 := (A.old 9 rfl).trans x9
    have x3 : f5.eval (.tmp 3) = .int .i64 ((k : Nat) : Int) := A.has 3 3 rfl
    have lt_m2 := Ob.lt m2
    replace m2 := Ob.below m2 hb
    replace bl := (bl.trans (Below.mono hb bl.size))
    replace sz := A.size.trans sz
    replace df := A.defs.trans df
    clear A hb
    show Code.wp _ _ _ _ _
    refine wp_seq ?_
    -- R7
    refine wp_region_tail [.eq (v), .eq (.int .i64 ((k : Nat) : Int)), .hc ((l).take (k)), .eq (.agg ((y1).map V).toArray), .eq (v), .eq (.int .i64 ((k : Nat) : Int)), .hc ((l).drop (k)), .eq (.agg ((y2).map V).toArray), .eq (.agg ((y).map V).toArray)] [9] Tryd.mixed (by kernel_rfl) (by kernel_rfl) (by kernel_rfl) (by kernel_rfl) (by rw [sz]; kernel_rfl) (by kernel_rfl) ⟨fun hw ac u K => ?_, fun hw ac u K => ?_, fun hw ac u K => ?_, fun hw ac u K => ?_, fun hw ac u K => ?_, fun hw ac u K => ?_, fun hw ac u K => ?_, fun hw ac u K => ?_, fun hw ac u K => ?_, trivial⟩ ?_
    · exact st_move (.tmp 0) rfl ((K.old 0 rfl).trans x0)
    · exact st_move (.tmp 3) rfl ((K.old 3 rfl).trans x3)
    · exact st_cuth (.tmp 17) (.tmp 18) rfl (fk_val (K.dep 0 17 rfl) (Fk.mono _ _ _ _ hv (bl.trans (Below.mono K.grow bl.size)))) (k) (K.dep 1 18 rfl) (by omega)
    · exact st_call 8 (.func 8) _ _ #[ac.eval (.tmp 19)] rfl rfl (one_arg rfl) Tryd.enter8 (fk_of (ih (l.take k) (by rw [List.length_take]; omega) _ _ (by rw [List.length_take]; omega) (K.dep 2 19 rfl) (hK.below (bl.trans (Below.mono K.grow bl.size))) ey1))
    · exact st_move (.tmp 0) rfl ((K.old 0 rfl).trans x0)
    · exact st_move (.tmp 3) rfl ((K.old 3 rfl).trans x3)
    · exact st_restc (.tmp 21) (.tmp 22) rfl (fk_val (K.dep 4 21 rfl) (Fk.mono _ _ _ _ hv (bl.trans (Below.mono K.grow bl.size)))) (k) (K.dep 5 22 rfl) (by omega)
    · exact st_call 8 (.func 8) _ _ #[ac.eval (.tmp 23)] rfl rfl (one_arg rfl) Tryd.enter8 (fk_of (ih (l.drop k) (by rw [List.length_drop]; omega) _ _ (by rw [List.length_drop]; omega) (K.dep 6 23 rfl) (hK.below (bl.trans (Below.mono K.grow bl.size))) ey2))
    · exact st_call 22 (.func 22) _ _ #[.agg ((y1).map V).toArray, .agg ((y2).map V).toArray] rfl rfl (arg2 (K.dep 3 20 rfl) (K.dep 7 24 rfl)) Tryd.enter22 (fk_node hy1 hy2 (hK.below (bl.trans (Below.mono K.grow bl.size))) eyn)
    intro f6 w6 A hb
    replace bl0 := bl
    replace x0 := (A.old 0 rfl).trans x0
    replace x2 := (A.old 2 rfl).trans x2
    replace x5 := (A.old 5 rfl).trans x5
    replace x6 := (A.old 6 rfl).trans x6
    replace x9 := (A.old 9 rfl).trans x9
    replace x3 := (A.old 3 rfl).trans x3
    have x25 : f6.eval (.tmp 25) = .agg ((y).map V).toArray := A.has 8 25 rfl
    have lt_m2 := Ob.lt m2
    replace m2 := Ob.below m2 hb
    replace bl := (bl.trans (Below.mono hb bl.size))
    replace sz := A.size.trans sz
    replace df := A.defs.trans df
    clear A hb
    clear x3
    refine wl_store rfl (.tmp 2) (.tmp 25) rfl rfl (g2) (y) (hz) x2 x25 m2 hz_len hy ?_
    replace m2 : Ob (w6.setRow g2 ((y).map V : List Value).toArray) (g2) 24 ((y).map V) := Ob.setRow m2 ((y).map V)
    replace bl : Below w.heap.size w (w6.setRow g2 ((y).map V : List Value).toArray) := bl.trans (below_setRow _ _ _ _ hw2)
    generalize w6.setRow g2 ((y).map V : List Value).toArray = w7b at bl m2 ⊢
    refine wpList_nil ?_
    clear x25
    show Code.wp _ _ _ _ _
    refine wp_ret ?_
    repeat (first | with_reducible refine then_ret ?_ | with_reducible refine block_ret ?_)
    exact bodyPost_ret (v := .agg ((y).map V).toArray) (ret_hash rfl f6 _ g2 (y) hy x2 m2) df ⟨rfl, bl⟩
end Go.Proofs.YtfbfngblocfdlaaDoor
namespace Go.Proofs.YtfbfngblocfdlaaDoor
set_option maxRecDepth 100000
open Go.RowKit
theorem flat_take (hs : List (List (BitVec 8))) (h32 : ∀ (i : Nat) (x : List (BitVec 8)), hs[i]? = some x → x.length = 32) (n : Nat) : (hs.take n).flatten = hs.flatten.take (n * 32) := by
  induction hs generalizing n with
  | nil => simp
  | cons y r ih =>
    cases n with
    | zero => simp
    | succ n =>
      have hy : y.length = 32 := h32 0 y rfl
      rw [List.take_succ_cons, List.flatten_cons, List.flatten_cons, ih (fun i x hi => h32 (i + 1) x hi) n, List.take_append, hy]
      rw [List.take_of_length_le (l := y) (by omega), show (n + 1) * 32 - 32 = n * 32 by omega]
theorem ow_take {base : Nat} {hs : List (List (BitVec 8))} {A : Option Addr} {C : Nat} {w : World} (h : (Fk.ow base hs).f (.slice A hs.length C) w) (n : Nat) (hn : n ≤ hs.length) : (Fk.ow base (hs.take n)).f (.slice A n C) w := by
  obtain ⟨⟨h1, h2⟩, h3⟩ := h
  have hl : (hs.take n).length = n := by rw [List.length_take]; omega
  have h3' : ∀ (i : Nat) (x : List (BitVec 8)), (hs.take n)[i]? = some x → x.length = 32 := fun i x hi => by
    rw [List.getElem?_take] at hi
    split at hi
    · exact h3 i x hi
    · cases hi
  refine ⟨?_, h3'⟩
  rw [hl, flat_take hs h3, List.map_take]
  refine ⟨?_, ?_⟩
  · rw [List.length_take, h1]
    have : n * 32 ≤ hs.length * 32 := Nat.mul_le_mul_right _ hn
    omega
  · rcases h2 with ⟨e, h0⟩ | ⟨g, cap, cur, e, hbg, hg, hnc, hm, hcs, ht⟩
    · have : n = 0 := by omega
      subst this
      injection e with e1 e2 e3
      subst e1 e3
      exact .inl ⟨rfl, rfl⟩
    · cases e
      refine .inr ⟨g, C, cur, rfl, hbg, hg, by omega, hm, hcs, ?_⟩
      rw [← ht, List.take_take]
      congr 1
      have : n * 32 ≤ hs.length * 32 := Nat.mul_le_mul_right _ hn
      omega
end Go.Proofs.YtfbfngblocfdlaaDoor
