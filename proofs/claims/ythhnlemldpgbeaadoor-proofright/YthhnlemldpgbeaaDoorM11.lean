/- Path. Proof. -/
import Derived.Test.YthhnlemldpgbeaaDoorM6
import Derived.Test.YthhnlemldpgbeaaDoorM10
namespace Go.Proofs.YthhnlemldpgbeaaDoor
set_option maxRecDepth 100000
open Go.RowKit
theorem mpath_len (n : Nat) : ∀ (l : List (List (BitVec 8))) (i : Nat), l.length = n → (mpath l i).length ≤ n := by
  induction n using Nat.strongRecOn with
  | ind n ih =>
    intro l i hn
    by_cases h1 : l.length ≤ 1
    · rw [mpath_one h1]; exact Nat.zero_le _
    · have h2 : 2 ≤ l.length := by omega
      have hs := spl_lt h2
      have hp := spl_pos l.length
      by_cases hi : i < spl l.length
      · have := ih (spl l.length) (by omega) (l.take (spl l.length)) i (by rw [List.length_take]; omega)
        rw [mpath_left h2 hi, List.length_append, List.length_singleton]; omega
      · have := ih (l.length - spl l.length) (by omega) (l.drop (spl l.length)) (i - spl l.length) (by rw [List.length_drop])
        rw [mpath_right h2 hi, List.length_append, List.length_singleton]; omega
theorem msub_len (n : Nat) : ∀ (l : List (List (BitVec 8))) (m : Nat) (b : Bool), l.length = n → (msub l m b).length ≤ n + 1 := by
  induction n using Nat.strongRecOn with
  | ind n ih =>
    intro l m b hn
    by_cases hm : m = l.length
    · rw [msub, if_pos hm]; split <;> simp
    · by_cases h1 : l.length ≤ 1
      · rw [msub, if_neg hm, dif_pos h1]; exact Nat.zero_le _
      · have h2 : 2 ≤ l.length := by omega
        have hs := spl_lt h2
        have hp := spl_pos l.length
        by_cases hi : m ≤ spl l.length
        · have := ih (spl l.length) (by omega) (l.take (spl l.length)) m b (by rw [List.length_take]; omega)
          rw [msub_left h2 hm hi, List.length_append, List.length_singleton]; omega
        · have := ih (l.length - spl l.length) (by omega) (l.drop (spl l.length)) (m - spl l.length) false (by rw [List.length_drop])
          rw [msub_right h2 hm hi, List.length_append, List.length_singleton]; omega
theorem path_in (l : List (List (BitVec 8))) (i : Nat) (hi : i < l.length) : ∀ (w : World) (v : Value), l.length ≤ 1000 → (Fk.hc l).f v w → Tab w →
    Calls Tryd.prog 33 #[v, .int .i64 ((i : Nat) : Int)] w fun e w' => ∃ u, e = .returned u ∧ (Fk.ow w.heap.size (mpath l i)).f u w' ∧ Below w.heap.size w w' := by
  suffices H : ∀ (n : Nat) (l : List (List (BitVec 8))), l.length = n → ∀ (i : Nat), i < l.length → ∀ (w : World) (v : Value), l.length ≤ 1000 → (Fk.hc l).f v w → Tab w →
    Calls Tryd.prog 33 #[v, .int .i64 ((i : Nat) : Int)] w fun e w' => ∃ u, e = .returned u ∧ (Fk.ow w.heap.size (mpath l i)).f u w' ∧ Below w.heap.size w w' from H _ l rfl i hi
  clear hi i l
  intro n
  induction n using Nat.strongRecOn with
  | ind n ih0 =>
  intro l hn i hi w v h1000 hv hK
  have ih : ∀ (l' : List (List (BitVec 8))), l'.length < n → ∀ (i : Nat), i < l'.length → ∀ (w : World) (v : Value), l'.length ≤ 1000 → (Fk.hc l').f v w → Tab w →
    Calls Tryd.prog 33 #[v, .int .i64 ((i : Nat) : Int)] w fun e w' => ∃ u, e = .returned u ∧ (Fk.ow w.heap.size (mpath l' i)).f u w' ∧ Below w.heap.size w w' := fun l' hl' => ih0 _ hl' l' rfl
  clear ih0
  by_cases h1 : l.length = 1
  · skip
    go_enter Tryd.func33, Tryd.ntmps33
    refine code_both (fun f w1 => f.tmps.size = 39 ∧ f.defers = [] ∧ f.eval (.tmp 0) = v ∧ f.eval (.tmp 1) = .int .i64 ((i : Nat) : Int) ∧ Below w.heap.size w (w1)) ⟨rfl, rfl, rfl, rfl, Below.refl _ _⟩ ?_
    rintro f0 w0 ⟨sz, df, x0, x1, bl⟩
    have bl0 := bl
    refine wp_seq ?_
    refine wp_all_seq [.eq (.slice none 0 0)] (by kernel_rfl) (by kernel_rfl) (by rw [sz]; kernel_rfl) (by kernel_rfl) ⟨fun hw ac u K => ?_, trivial⟩ ?_
    · exact st_assign (.const (.slice none 0 0)) rfl rfl
    intro f1 w1 A hb
    replace bl0 := bl
    replace x0 := (A.old 0 rfl).trans x0
    replace x1 := (A.old 1 rfl).trans x1
    have x4 : f1.eval (.tmp 4) = .slice none 0 0 := A.has 0 4 rfl
    replace bl := (bl.trans (Below.mono hb bl.size))
    replace sz := A.size.trans sz
    replace df := A.defs.trans df
    clear A hb
    show Code.wp _ _ _ _ _
    refine wp_seq ?_
    refine wp_seq ?_
    refine wp_all_seq [.eq (v), .eq (.int .i64 (((l).length : Nat) : Int)), .eq (.bool true)] (by kernel_rfl) (by kernel_rfl) (by rw [sz]; kernel_rfl) (by kernel_rfl) ⟨fun hw ac u K => ?_, fun hw ac u K => ?_, fun hw ac u K => ?_, trivial⟩ ?_
    · exact st_move (.tmp 0) rfl ((K.old 0 rfl).trans x0)
    · exact st_lenc (.tmp 6) rfl ((l).length) rfl (fk_val (K.dep 0 6 rfl) (Fk.mono _ _ _ _ hv (bl.trans (Below.mono K.grow bl.size))))
    · exact st_eqi 3 (.tmp 7) (.const (.int .i64 1)) rfl .i64 ((((l).length : Nat) : Int)) (1) (K.dep 1 7 rfl) rfl _ (by rw [eq_comm, decide_eq_true_iff]; omega)
    intro f2 w2 A hb
    replace bl0 := bl
    replace x0 := (A.old 0 rfl).trans x0
    replace x1 := (A.old 1 rfl).trans x1
    replace x4 := (A.old 4 rfl).trans x4
    have x8 : f2.eval (.tmp 8) = .bool true := A.has 2 8 rfl
    replace bl := (bl.trans (Below.mono hb bl.size))
    replace sz := A.size.trans sz
    replace df := A.defs.trans df
    clear A hb
    show Code.wp _ _ _ _ _
    refine wp_cond_true x8 ?_
    refine wp_seq ?_
    refine wp_all_seq [.eq (.slice none 0 0)] (by kernel_rfl) (by kernel_rfl) (by rw [sz]; kernel_rfl) (by kernel_rfl) ⟨fun hw ac u K => ?_, trivial⟩ ?_
    · exact st_assign (.const (.slice none 0 0)) rfl rfl
    intro f3 w3 A hb
    replace bl0 := bl
    replace x0 := (A.old 0 rfl).trans x0
    replace x1 := (A.old 1 rfl).trans x1
    clear x4
    replace x8 := (A.old 8 rfl).trans x8
    have x4 : f3.eval (.tmp 4) = .slice none 0 0 := A.has 0 4 rfl
    replace bl := (bl.trans (Below.mono hb bl.size))
    replace sz := A.size.trans sz
    replace df := A.defs.trans df
    clear A hb
    show Code.wp _ _ _ _ _
    refine wp_ret ?_
    repeat (first | with_reducible refine then_ret ?_ | with_reducible refine block_ret ?_)
    rw [mpath_one (by omega)]
    exact bodyPost_ret (v := .slice none 0 0) (ret_slot rfl f3 _ x4 _ _) df ⟨_, rfl, ow_nil _ _, bl⟩
  · skip
    have h2 : 2 ≤ l.length := by omega
    obtain ⟨k, hk⟩ : ∃ k, spl l.length = k := ⟨_, rfl⟩
    have hk1 : k < l.length := by rw [← hk]; exact spl_lt h2
    have hk2 : 1 ≤ k := by rw [← hk]; exact spl_pos _
    obtain ⟨y1, ey1⟩ : ∃ p, Box (mroot (l.take k) = p) := ⟨_, ⟨rfl⟩⟩
    obtain ⟨y2, ey2⟩ : ∃ p, Box (mroot (l.drop k) = p) := ⟨_, ⟨rfl⟩⟩
    have hy1 : y1.length = 32 := by rw [← ey1.out]; exact mroot_len (fun x hx => hc_len hv x (List.mem_of_mem_take hx))
    have hy2 : y2.length = 32 := by rw [← ey2.out]; exact mroot_len (fun x hx => hc_len hv x (List.mem_of_mem_drop hx))
    go_enter Tryd.func33, Tryd.ntmps33
    refine code_both (fun f w1 => f.tmps.size = 39 ∧ f.defers = [] ∧ f.eval (.tmp 0) = v ∧ f.eval (.tmp 1) = .int .i64 ((i : Nat) : Int) ∧ Below w.heap.size w (w1)) ⟨rfl, rfl, rfl, rfl, Below.refl _ _⟩ ?_
    rintro f0 w0 ⟨sz, df, x0, x1, bl⟩
    have bl0 := bl
    refine wp_seq ?_
    refine wp_all_seq [.eq (.slice none 0 0)] (by kernel_rfl) (by kernel_rfl) (by rw [sz]; kernel_rfl) (by kernel_rfl) ⟨fun hw ac u K => ?_, trivial⟩ ?_
    · exact st_assign (.const (.slice none 0 0)) rfl rfl
    intro f1 w1 A hb
    replace bl0 := bl
    replace x0 := (A.old 0 rfl).trans x0
    replace x1 := (A.old 1 rfl).trans x1
    have x4 : f1.eval (.tmp 4) = .slice none 0 0 := A.has 0 4 rfl
    replace bl := (bl.trans (Below.mono hb bl.size))
    replace sz := A.size.trans sz
    replace df := A.defs.trans df
    clear A hb
    show Code.wp _ _ _ _ _
    refine wp_seq ?_
    refine wp_seq ?_
    refine wp_all_seq [.eq (v), .eq (.int .i64 (((l).length : Nat) : Int)), .eq (.bool false)] (by kernel_rfl) (by kernel_rfl) (by rw [sz]; kernel_rfl) (by kernel_rfl) ⟨fun hw ac u K => ?_, fun hw ac u K => ?_, fun hw ac u K => ?_, trivial⟩ ?_
    · exact st_move (.tmp 0) rfl ((K.old 0 rfl).trans x0)
    · exact st_lenc (.tmp 6) rfl ((l).length) rfl (fk_val (K.dep 0 6 rfl) (Fk.mono _ _ _ _ hv (bl.trans (Below.mono K.grow bl.size))))
    · exact st_eqi 3 (.tmp 7) (.const (.int .i64 1)) rfl .i64 ((((l).length : Nat) : Int)) (1) (K.dep 1 7 rfl) rfl _ (by rw [eq_comm, decide_eq_false_iff_not]; omega)
    intro f2 w2 A hb
    replace bl0 := bl
    replace x0 := (A.old 0 rfl).trans x0
    replace x1 := (A.old 1 rfl).trans x1
    replace x4 := (A.old 4 rfl).trans x4
    have x8 : f2.eval (.tmp 8) = .bool false := A.has 2 8 rfl
    replace bl := (bl.trans (Below.mono hb bl.size))
    replace sz := A.size.trans sz
    replace df := A.defs.trans df
    clear A hb
    show Code.wp _ _ _ _ _
    refine wp_cond_false x8 ?_
    refine wp_skip ?_
    show Code.wp _ _ _ _ _
    refine wp_seq ?_
    refine wp_all_seq [.eq (v), .eq (.int .i64 (((l).length : Nat) : Int)), .eq (.int .i64 ((k : Nat) : Int)), .eq (.int .i64 ((k : Nat) : Int))] (by kernel_rfl) (by kernel_rfl) (by rw [sz]; kernel_rfl) (by kernel_rfl) ⟨fun hw ac u K => ?_, fun hw ac u K => ?_, fun hw ac u K => ?_, fun hw ac u K => ?_, trivial⟩ ?_
    · exact st_move (.tmp 0) rfl ((K.old 0 rfl).trans x0)
    · exact st_lenc (.tmp 9) rfl ((l).length) rfl (fk_val (K.dep 0 9 rfl) (Fk.mono _ _ _ _ hv (bl.trans (Below.mono K.grow bl.size))))
    · exact st_call 32 (.func 32) _ _ #[.int .i64 (((l).length : Nat) : Int)] rfl rfl (one_arg (K.dep 1 10 rfl)) Tryd.enter32 (by rw [← hk]; exact fk_of (split_hi l.length (by omega) (by omega) _))
    · exact st_assign (.tmp 11) rfl (K.dep 2 11 rfl)
    intro f3 w3 A hb
    replace bl0 := bl
    replace x0 := (A.old 0 rfl).trans x0
    replace x1 := (A.old 1 rfl).trans x1
    replace x4 := (A.old 4 rfl).trans x4
    replace x8 := (A.old 8 rfl).trans x8
    have x5 : f3.eval (.tmp 5) = .int .i64 ((k : Nat) : Int) := A.has 3 5 rfl
    replace bl := (bl.trans (Below.mono hb bl.size))
    replace sz := A.size.trans sz
    replace df := A.defs.trans df
    clear A hb
    show Code.wp _ _ _ _ _
    refine wp_seq ?_
    refine wp_seq ?_
    by_cases hik : i < k
    rotate_left
    · skip
      have hl1 := mpath_len _ (l.drop k) (i - k) rfl
      rw [List.length_drop] at hl1
      refine wp_all_seq [.eq (.int .i64 ((i : Nat) : Int)), .eq (.int .i64 ((k : Nat) : Int)), .eq (.bool false)] (by kernel_rfl) (by kernel_rfl) (by rw [sz]; kernel_rfl) (by kernel_rfl) ⟨fun hw ac u K => ?_, fun hw ac u K => ?_, fun hw ac u K => ?_, trivial⟩ ?_
      · exact st_move (.tmp 1) rfl ((K.old 1 rfl).trans x1)
      · exact st_move (.tmp 5) rfl ((K.old 5 rfl).trans x5)
      · exact st_lss 3 (.tmp 12) (.tmp 13) rfl .i64 (((i : Nat) : Int)) (((k : Nat) : Int)) (K.dep 0 12 rfl) (K.dep 1 13 rfl) _ (by first | (simp; done) | (simp; omega))
      intro f4 w4 A hb
      replace bl0 := bl
      replace x0 := (A.old 0 rfl).trans x0
      replace x1 := (A.old 1 rfl).trans x1
      replace x4 := (A.old 4 rfl).trans x4
      replace x8 := (A.old 8 rfl).trans x8
      replace x5 := (A.old 5 rfl).trans x5
      have x14 : f4.eval (.tmp 14) = .bool false := A.has 2 14 rfl
      replace bl := (bl.trans (Below.mono hb bl.size))
      replace sz := A.size.trans sz
      replace df := A.defs.trans df
      clear A hb
      show Code.wp _ _ _ _ _
      refine wp_cond_false x14 ?_
      refine wp_skip ?_
      show Code.wp _ _ _ _ _
      refine wp_seq ?_
      refine wp_region_tail [.eq (v), .eq (.int .i64 ((k : Nat) : Int)), .hc ((l).drop (k)), .eq (.int .i64 ((i : Nat) : Int)), .eq (.int .i64 ((k : Nat) : Int)), .eq (.int .i64 ((i - k : Nat) : Int)), .ow w.heap.size (mpath (l.drop k) (i - k)), .eq (v), .eq (.int .i64 ((k : Nat) : Int)), .hc ((l).take (k)), .eq (.agg ((y1).map V).toArray), .hs ([y1])] [12, 13] Tryd.mixed (by kernel_rfl) (by kernel_rfl) (by kernel_rfl) (by kernel_rfl) (by rw [sz]; kernel_rfl) (by kernel_rfl) ⟨fun hw ac u K => ?_, fun hw ac u K => ?_, fun hw ac u K => ?_, fun hw ac u K => ?_, fun hw ac u K => ?_, fun hw ac u K => ?_, fun hw ac u K => ?_, fun hw ac u K => ?_, fun hw ac u K => ?_, fun hw ac u K => ?_, fun hw ac u K => ?_, fun hw ac u K => ?_, trivial⟩ ?_
      · exact st_move (.tmp 0) rfl ((K.old 0 rfl).trans x0)
      · exact st_move (.tmp 5) rfl ((K.old 5 rfl).trans x5)
      · exact st_restc (.tmp 26) (.tmp 27) rfl (fk_val (K.dep 0 26 rfl) (Fk.mono _ _ _ _ hv (bl.trans (Below.mono K.grow bl.size)))) (k) (K.dep 1 27 rfl) (by omega)
      · exact st_move (.tmp 1) rfl ((K.old 1 rfl).trans x1)
      · exact st_move (.tmp 5) rfl ((K.old 5 rfl).trans x5)
      · exact st_sub (.tmp 29) (.tmp 30) rfl (i) (k) (i - k) (K.dep 3 29 rfl) (K.dep 4 30 rfl) (by omega) (by omega)
      · exact st_call 33 (.func 33) _ _ #[ac.eval (.tmp 28), .int .i64 ((i - k : Nat) : Int)] rfl rfl (arg2 rfl (K.dep 5 31 rfl)) Tryd.enter33 (fk_ow (bl.trans (Below.mono K.grow bl.size)).size (ih (l.drop k) (by rw [List.length_drop]; omega) (i - k) (by rw [List.length_drop]; omega) _ _ (by rw [List.length_drop]; omega) (K.dep 2 28 rfl) (hK.below (bl.trans (Below.mono K.grow bl.size)))))
      · exact st_move (.tmp 0) rfl ((K.old 0 rfl).trans x0)
      · exact st_move (.tmp 5) rfl ((K.old 5 rfl).trans x5)
      · exact st_cuth (.tmp 33) (.tmp 34) rfl (fk_val (K.dep 7 33 rfl) (Fk.mono _ _ _ _ hv (bl.trans (Below.mono K.grow bl.size)))) (k) (K.dep 8 34 rfl) (by omega)
      · exact st_call 18 (.func 18) _ _ #[ac.eval (.tmp 35)] rfl rfl (one_arg rfl) Tryd.enter18 (fk_of (root_any (l.take k) _ _ (by rw [List.length_take]; omega) (K.dep 9 35 rfl) (hK.below (bl.trans (Below.mono K.grow bl.size))) ey1))
      · exact st_bh1 (.tmp 36) rfl hy1 (K.dep 10 36 rfl)
      intro f5 w5 A hb
      replace bl0 := bl
      replace x0 := (A.old 0 rfl).trans x0
      replace x1 := (A.old 1 rfl).trans x1
      replace x4 := (A.old 4 rfl).trans x4
      replace x8 := (A.old 8 rfl).trans x8
      replace x5 := (A.old 5 rfl).trans x5
      replace x14 := (A.old 14 rfl).trans x14
      have x32 : Fk.f (.ow w.heap.size (mpath (l.drop k) (i - k))) (f5.eval (.tmp 32)) w5 := A.has 6 32 rfl
      have x37 : Fk.f (.hs ([y1])) (f5.eval (.tmp 37)) w5 := A.has 11 37 rfl
      replace bl := (bl.trans (Below.mono hb bl.size))
      replace sz := A.size.trans sz
      replace df := A.defs.trans df
      clear A hb
      refine wl_append rfl (.tmp 32) (.tmp 37) rfl 38 rfl (by rw [sz]; decide) x32 x37 bl (by omega) ?_
      intro f6 w6 df2 sz2 old2 new2 bl2
      clear x32
      clear x37
      replace x0 := (old2 0 rfl).trans x0
      replace x1 := (old2 1 rfl).trans x1
      replace x4 := (old2 4 rfl).trans x4
      replace x8 := (old2 8 rfl).trans x8
      replace x5 := (old2 5 rfl).trans x5
      replace x14 := (old2 14 rfl).trans x14
      have x38 : Fk.f (.ow w.heap.size (mpath (l.drop k) (i - k) ++ [y1])) (f6.eval (.tmp 38)) w6 := new2
      replace bl := bl2
      replace bl0 := bl
      replace sz := sz2.trans sz
      replace df := df2.trans df
      clear df2 sz2 old2 new2 bl2
      refine wl_one (.ow w.heap.size (mpath (l.drop k) (i - k) ++ [y1])) rfl 4 rfl (by rw [sz]; decide) (st_assign (.tmp 38) rfl x38) ?_
      intro f7 w7 df2 sz2 old2 new2 hb
      replace bl0 := bl
      replace x0 := (old2 0 rfl).trans x0
      replace x1 := (old2 1 rfl).trans x1
      clear x4
      replace x8 := (old2 8 rfl).trans x8
      replace x5 := (old2 5 rfl).trans x5
      replace x14 := (old2 14 rfl).trans x14
      replace x38 := f_at (old2 38 rfl) (Fk.mono _ _ _ _ x38 hb)
      have x4 : Fk.f (.ow w.heap.size (mpath (l.drop k) (i - k) ++ [y1])) (f7.eval (.tmp 4)) w7 := new2
      replace bl := (bl.trans (Below.mono hb bl.size))
      replace sz := sz2.trans sz
      replace df := df2.trans df
      clear df2 sz2 old2 new2 hb
      refine wpList_nil ?_
      clear x38
      show Code.wp _ _ _ _ _
      refine wp_ret ?_
      repeat (first | with_reducible refine then_ret ?_ | with_reducible refine block_ret ?_)
      rw [mpath_right h2 (by rw [hk]; exact hik), hk, ey1.out]
      exact bodyPost_ret (v := f7.eval (.tmp 4)) (ret_slot rfl f7 _ rfl _ _) df ⟨_, rfl, x4, bl⟩
    have hl1 := mpath_len _ (l.take k) i rfl
    rw [List.length_take] at hl1
    refine wp_all_seq [.eq (.int .i64 ((i : Nat) : Int)), .eq (.int .i64 ((k : Nat) : Int)), .eq (.bool true)] (by kernel_rfl) (by kernel_rfl) (by rw [sz]; kernel_rfl) (by kernel_rfl) ⟨fun hw ac u K => ?_, fun hw ac u K => ?_, fun hw ac u K => ?_, trivial⟩ ?_
    · exact st_move (.tmp 1) rfl ((K.old 1 rfl).trans x1)
    · exact st_move (.tmp 5) rfl ((K.old 5 rfl).trans x5)
    · exact st_lss 3 (.tmp 12) (.tmp 13) rfl .i64 (((i : Nat) : Int)) (((k : Nat) : Int)) (K.dep 0 12 rfl) (K.dep 1 13 rfl) _ (by first | (simp; done) | (simp; omega))
    intro f4 w4 A hb
    replace bl0 := bl
    replace x0 := (A.old 0 rfl).trans x0
    replace x1 := (A.old 1 rfl).trans x1
    replace x4 := (A.old 4 rfl).trans x4
    replace x8 := (A.old 8 rfl).trans x8
    replace x5 := (A.old 5 rfl).trans x5
    have x14 : f4.eval (.tmp 14) = .bool true := A.has 2 14 rfl
    replace bl := (bl.trans (Below.mono hb bl.size))
    replace sz := A.size.trans sz
    replace df := A.defs.trans df
    clear A hb
    show Code.wp _ _ _ _ _
    refine wp_cond_true x14 ?_
    refine wp_seq ?_
    refine wp_region_tail [.eq (v), .eq (.int .i64 ((k : Nat) : Int)), .hc ((l).take (k)), .eq (.int .i64 ((i : Nat) : Int)), .ow w.heap.size (mpath (l.take k) i), .eq (v), .eq (.int .i64 ((k : Nat) : Int)), .hc ((l).drop (k)), .eq (.agg ((y2).map V).toArray), .hs ([y2])] [10, 11] Tryd.mixed (by kernel_rfl) (by kernel_rfl) (by kernel_rfl) (by kernel_rfl) (by rw [sz]; kernel_rfl) (by kernel_rfl) ⟨fun hw ac u K => ?_, fun hw ac u K => ?_, fun hw ac u K => ?_, fun hw ac u K => ?_, fun hw ac u K => ?_, fun hw ac u K => ?_, fun hw ac u K => ?_, fun hw ac u K => ?_, fun hw ac u K => ?_, fun hw ac u K => ?_, trivial⟩ ?_
    · exact st_move (.tmp 0) rfl ((K.old 0 rfl).trans x0)
    · exact st_move (.tmp 5) rfl ((K.old 5 rfl).trans x5)
    · exact st_cuth (.tmp 15) (.tmp 16) rfl (fk_val (K.dep 0 15 rfl) (Fk.mono _ _ _ _ hv (bl.trans (Below.mono K.grow bl.size)))) (k) (K.dep 1 16 rfl) (by omega)
    · exact st_move (.tmp 1) rfl ((K.old 1 rfl).trans x1)
    · exact st_call 33 (.func 33) _ _ #[ac.eval (.tmp 17), .int .i64 ((i : Nat) : Int)] rfl rfl (arg2 rfl (K.dep 3 18 rfl)) Tryd.enter33 (fk_ow (bl.trans (Below.mono K.grow bl.size)).size (ih (l.take k) (by rw [List.length_take]; omega) i (by rw [List.length_take]; omega) _ _ (by rw [List.length_take]; omega) (K.dep 2 17 rfl) (hK.below (bl.trans (Below.mono K.grow bl.size)))))
    · exact st_move (.tmp 0) rfl ((K.old 0 rfl).trans x0)
    · exact st_move (.tmp 5) rfl ((K.old 5 rfl).trans x5)
    · exact st_restc (.tmp 20) (.tmp 21) rfl (fk_val (K.dep 5 20 rfl) (Fk.mono _ _ _ _ hv (bl.trans (Below.mono K.grow bl.size)))) (k) (K.dep 6 21 rfl) (by omega)
    · exact st_call 18 (.func 18) _ _ #[ac.eval (.tmp 22)] rfl rfl (one_arg rfl) Tryd.enter18 (fk_of (root_any (l.drop k) _ _ (by rw [List.length_drop]; omega) (K.dep 7 22 rfl) (hK.below (bl.trans (Below.mono K.grow bl.size))) ey2))
    · exact st_bh1 (.tmp 23) rfl hy2 (K.dep 8 23 rfl)
    intro f5 w5 A hb
    replace bl0 := bl
    replace x0 := (A.old 0 rfl).trans x0
    replace x1 := (A.old 1 rfl).trans x1
    replace x4 := (A.old 4 rfl).trans x4
    replace x8 := (A.old 8 rfl).trans x8
    replace x5 := (A.old 5 rfl).trans x5
    replace x14 := (A.old 14 rfl).trans x14
    have x19 : Fk.f (.ow w.heap.size (mpath (l.take k) i)) (f5.eval (.tmp 19)) w5 := A.has 4 19 rfl
    have x24 : Fk.f (.hs ([y2])) (f5.eval (.tmp 24)) w5 := A.has 9 24 rfl
    replace bl := (bl.trans (Below.mono hb bl.size))
    replace sz := A.size.trans sz
    replace df := A.defs.trans df
    clear A hb
    refine wl_append rfl (.tmp 19) (.tmp 24) rfl 25 rfl (by rw [sz]; decide) x19 x24 bl (by omega) ?_
    intro f6 w6 df2 sz2 old2 new2 bl2
    clear x19
    clear x24
    replace x0 := (old2 0 rfl).trans x0
    replace x1 := (old2 1 rfl).trans x1
    replace x4 := (old2 4 rfl).trans x4
    replace x8 := (old2 8 rfl).trans x8
    replace x5 := (old2 5 rfl).trans x5
    replace x14 := (old2 14 rfl).trans x14
    have x25 : Fk.f (.ow w.heap.size (mpath (l.take k) i ++ [y2])) (f6.eval (.tmp 25)) w6 := new2
    replace bl := bl2
    replace bl0 := bl
    replace sz := sz2.trans sz
    replace df := df2.trans df
    clear df2 sz2 old2 new2 bl2
    refine wl_one (.ow w.heap.size (mpath (l.take k) i ++ [y2])) rfl 4 rfl (by rw [sz]; decide) (st_assign (.tmp 25) rfl x25) ?_
    intro f7 w7 df2 sz2 old2 new2 hb
    replace bl0 := bl
    replace x0 := (old2 0 rfl).trans x0
    replace x1 := (old2 1 rfl).trans x1
    clear x4
    replace x8 := (old2 8 rfl).trans x8
    replace x5 := (old2 5 rfl).trans x5
    replace x14 := (old2 14 rfl).trans x14
    replace x25 := f_at (old2 25 rfl) (Fk.mono _ _ _ _ x25 hb)
    have x4 : Fk.f (.ow w.heap.size (mpath (l.take k) i ++ [y2])) (f7.eval (.tmp 4)) w7 := new2
    replace bl := (bl.trans (Below.mono hb bl.size))
    replace sz := sz2.trans sz
    replace df := df2.trans df
    clear df2 sz2 old2 new2 hb
    refine wpList_nil ?_
    clear x25
    show Code.wp _ _ _ _ _
    refine wp_ret ?_
    repeat (first | with_reducible refine then_ret ?_ | with_reducible refine block_ret ?_)
    rw [mpath_left h2 (by rw [hk]; exact hik), hk, ey2.out]
    exact bodyPost_ret (v := f7.eval (.tmp 4)) (ret_slot rfl f7 _ rfl _ _) df ⟨_, rfl, x4, bl⟩
theorem path_ok {l : List (List (BitVec 8))} {i : Nat} (hi : i < l.length) (h1000 : l.length ≤ 1000) (w : World) {v : Value} (hv : (Fk.hc l).f v w) (hK : Tab w) :
    Calls Tryd.prog 19 #[v, .int .i64 ((i : Nat) : Int)] w fun e w' => ∃ u, e = .returned u ∧ (Fk.t2 (.ow w.heap.size (mpath l i)) (.int .i64 0)).f u w' ∧ Below w.heap.size w w' := by
  go_enter Tryd.func19, Tryd.ntmps19
  refine code_both (fun f w1 => f.tmps.size = 17 ∧ f.defers = [] ∧ f.eval (.tmp 0) = v ∧ f.eval (.tmp 1) = .int .i64 ((i : Nat) : Int) ∧ Below w.heap.size w (w1)) ⟨rfl, rfl, rfl, rfl, Below.refl _ _⟩ ?_
  rintro f0 w0 ⟨sz, df, x0, x1, bl⟩
  have bl0 := bl
  refine wp_seq ?_
  refine wp_region_seq [] (by kernel_rfl) (by kernel_rfl) (by rw [sz]; kernel_rfl) (by kernel_rfl) trivial ?_
  intro f1 w1 A hb
  replace bl0 := bl
  replace x0 := (A.old 0 rfl).trans x0
  replace x1 := (A.old 1 rfl).trans x1
  replace bl := (bl.trans (Below.mono hb bl.size))
  replace sz := A.size.trans sz
  replace df := A.defs.trans df
  clear A hb
  refine wl_one (.eq (.slice none 0 0)) rfl 4 rfl (by rw [sz]; decide) (st_assign (.const (.slice none 0 0)) rfl rfl) ?_
  intro f2 w2 df2 sz2 old2 new2 hb
  replace bl0 := bl
  replace x0 := (old2 0 rfl).trans x0
  replace x1 := (old2 1 rfl).trans x1
  have x4 : f2.eval (.tmp 4) = .slice none 0 0 := new2
  replace bl := (bl.trans (Below.mono hb bl.size))
  replace sz := sz2.trans sz
  replace df := df2.trans df
  clear df2 sz2 old2 new2 hb
  refine wl_one (.eq (.int .i64 0)) rfl 5 rfl (by rw [sz]; decide) (st_assign (.const (.int .i64 0)) rfl rfl) ?_
  intro f3 w3 df2 sz2 old2 new2 hb
  replace bl0 := bl
  replace x0 := (old2 0 rfl).trans x0
  replace x1 := (old2 1 rfl).trans x1
  replace x4 := (old2 4 rfl).trans x4
  have x5 : f3.eval (.tmp 5) = .int .i64 0 := new2
  replace bl := (bl.trans (Below.mono hb bl.size))
  replace sz := sz2.trans sz
  replace df := df2.trans df
  clear df2 sz2 old2 new2 hb
  refine wpList_nil ?_
  show Code.wp _ _ _ _ _
  refine wp_seq ?_
  refine wp_seq ?_
  refine wp_all_seq [.eq (.int .i64 ((i : Nat) : Int)), .eq (.bool false), .eq (.bool false), .eq (.int .i64 ((i : Nat) : Int)), .eq (v), .eq (.int .i64 (((l).length : Nat) : Int)), .eq (.bool false), .eq (.bool false)] (by kernel_rfl) (by kernel_rfl) (by rw [sz]; kernel_rfl) (by kernel_rfl) ⟨fun hw ac u K => ?_, fun hw ac u K => ?_, fun hw ac u K => ?_, fun hw ac u K => ?_, fun hw ac u K => ?_, fun hw ac u K => ?_, fun hw ac u K => ?_, fun hw ac u K => ?_, trivial⟩ ?_
  · exact st_move (.tmp 1) rfl ((K.old 1 rfl).trans x1)
  · exact st_lss 3 (.tmp 6) (.const (.int .i64 0)) rfl .i64 (((i : Nat) : Int)) (0) (K.dep 0 6 rfl) rfl _ (by rw [eq_comm, decide_eq_false_iff_not]; omega)
  · exact st_move (.tmp 7) rfl (K.dep 1 7 rfl)
  · exact st_move (.tmp 1) rfl ((K.old 1 rfl).trans x1)
  · exact st_move (.tmp 0) rfl ((K.old 0 rfl).trans x0)
  · exact st_lenc (.tmp 10) rfl ((l).length) rfl (fk_val (K.dep 4 10 rfl) (Fk.mono _ _ _ _ hv (bl.trans (Below.mono K.grow bl.size))))
  · exact st_geq 3 (.tmp 9) (.tmp 11) rfl .i64 (((i : Nat) : Int)) ((((l).length : Nat) : Int)) (K.dep 3 9 rfl) (K.dep 5 11 rfl) _ (by rw [eq_comm, decide_eq_false_iff_not]; omega)
  · exact st_pick_f' (.tmp 8) (.const (.bool true)) (.tmp 12) rfl (K.dep 2 8 rfl) (K.dep 6 12 rfl)
  intro f4 w4 A hb
  replace bl0 := bl
  replace x0 := (A.old 0 rfl).trans x0
  replace x1 := (A.old 1 rfl).trans x1
  replace x4 := (A.old 4 rfl).trans x4
  replace x5 := (A.old 5 rfl).trans x5
  have x13 : f4.eval (.tmp 13) = .bool false := A.has 7 13 rfl
  replace bl := (bl.trans (Below.mono hb bl.size))
  replace sz := A.size.trans sz
  replace df := A.defs.trans df
  clear A hb
  show Code.wp _ _ _ _ _
  refine wp_cond_false x13 ?_
  refine wp_skip ?_
  show Code.wp _ _ _ _ _
  refine wp_seq ?_
  refine wp_all_seq [.eq (v), .eq (.int .i64 ((i : Nat) : Int)), .ow w.heap.size (mpath l i), .ow w.heap.size (mpath l i), .eq (.int .i64 0)] (by kernel_rfl) (by kernel_rfl) (by rw [sz]; kernel_rfl) (by kernel_rfl) ⟨fun hw ac u K => ?_, fun hw ac u K => ?_, fun hw ac u K => ?_, fun hw ac u K => ?_, fun hw ac u K => ?_, trivial⟩ ?_
  · exact st_move (.tmp 0) rfl ((K.old 0 rfl).trans x0)
  · exact st_move (.tmp 1) rfl ((K.old 1 rfl).trans x1)
  · exact st_call 33 (.func 33) _ _ #[v, .int .i64 ((i : Nat) : Int)] rfl rfl (arg2 (K.dep 0 14 rfl) (K.dep 1 15 rfl)) Tryd.enter33 (fk_ow (bl.trans (Below.mono K.grow bl.size)).size (path_in l i hi _ _ h1000 (Fk.mono _ _ _ _ hv (bl.trans (Below.mono K.grow bl.size))) (hK.below (bl.trans (Below.mono K.grow bl.size)))))
  · exact st_assign (.tmp 16) rfl (K.dep 2 16 rfl)
  · exact st_assign (.const (.int .i64 0)) rfl rfl
  intro f5 w5 A hb
  replace bl0 := bl
  replace x0 := (A.old 0 rfl).trans x0
  replace x1 := (A.old 1 rfl).trans x1
  clear x4
  clear x5
  replace x13 := (A.old 13 rfl).trans x13
  have x4 : Fk.f (.ow w.heap.size (mpath l i)) (f5.eval (.tmp 4)) w5 := A.has 3 4 rfl
  have x5 : f5.eval (.tmp 5) = .int .i64 0 := A.has 4 5 rfl
  replace bl := (bl.trans (Below.mono hb bl.size))
  replace sz := A.size.trans sz
  replace df := A.defs.trans df
  clear A hb
  show Code.wp _ _ _ _ _
  refine wp_ret ?_
  repeat (first | with_reducible refine then_ret ?_ | with_reducible refine block_ret ?_)
  exact bodyPost_ret (v := .tuple #[f5.eval (.tmp 4), .int .i64 0]) (ret_two rfl f5 _ _ rfl x5 _ _) df ⟨_, rfl, ⟨_, rfl, x4⟩, bl⟩
end Go.Proofs.YthhnlemldpgbeaaDoor
namespace Go.Proofs.YthhnlemldpgbeaaDoor
set_option maxRecDepth 100000
open Go.RowKit
theorem own_h1 {w : World} {g base : Nat} {x : List (BitVec 8)} (h : HasV w g 23 x) (hx : x.length = 32) (hb : base ≤ g) : (Fk.ow base [x]).f (.slice (some ⟨g, 0, none⟩) 1 1) w := by
  refine ⟨⟨by simp [hx], .inr ⟨g, 1, (x.map V).toArray, rfl, hb, h, Nat.le_refl _, by unfold maxLen; omega, by simp [hx], ?_⟩⟩, fun i y hi => ?_⟩
  · simp only [List.length_cons, List.length_nil, List.flatten_cons, List.flatten_nil, List.append_nil]
    rw [List.take_of_length_le (by simp [hx])]
  · cases i with
    | zero => obtain rfl : x = y := by simpa using hi
              exact hx
    | succ i => simp at hi
theorem st_bo1 {Q : Exit → Act → World → Prop} {o : Oper} {a : Act} {w : World} (x : Operand) (ho : o.op = .buildSlice 24 1 #[(0, x)]) {hh : List (BitVec 8)} (hl : hh.length = 32) (hx : a.eval x = .agg (hh.map V).toArray) (g0 : Nat) (hg : g0 ≤ w.heap.size) : o.wp Tryd.prog a w (Ends a o.dst w (Fk.ow g0 [hh]).f) Q := by
  refine st_run (v := .slice (some ⟨w.heap.size, 0, none⟩) 1 1) (w' := w.alloc (.cells (hh.map V).toArray 23)) ?_ ((Below.refl _ _).alloc (Nat.le_refl _) _) (own_h1 (heap_alloc_new _ _) hl hg)
  have := Tryd.build24 hh hl w
  unfold execOp
  rw [ho]
  simp [hx, this]
theorem going_any (l : List (List (BitVec 8))) (m : Nat) (b : Bool) (hm1 : 1 ≤ m) (hm : m ≤ l.length) : ∀ (w : World) (v : Value), l.length ≤ 1000 → (Fk.hc l).f v w → Tab w →
    Calls Tryd.prog 34 #[v, .int .i64 ((m : Nat) : Int), .bool b] w fun e w' => ∃ u, e = .returned u ∧ (Fk.ow w.heap.size (msub l m b)).f u w' ∧ Below w.heap.size w w' := by
  suffices H : ∀ (n : Nat) (l : List (List (BitVec 8))), l.length = n → ∀ (m : Nat) (b : Bool), 1 ≤ m → m ≤ l.length → ∀ (w : World) (v : Value), l.length ≤ 1000 → (Fk.hc l).f v w → Tab w →
    Calls Tryd.prog 34 #[v, .int .i64 ((m : Nat) : Int), .bool b] w fun e w' => ∃ u, e = .returned u ∧ (Fk.ow w.heap.size (msub l m b)).f u w' ∧ Below w.heap.size w w' from H _ l rfl m b hm1 hm
  clear hm hm1 m l b
  intro n
  induction n using Nat.strongRecOn with
  | ind n ih0 =>
  intro l hn m b hm1 hm w v h1000 hv hK
  have ih : ∀ (l' : List (List (BitVec 8))), l'.length < n → ∀ (m : Nat) (b : Bool), 1 ≤ m → m ≤ l'.length → ∀ (w : World) (v : Value), l'.length ≤ 1000 → (Fk.hc l').f v w → Tab w →
    Calls Tryd.prog 34 #[v, .int .i64 ((m : Nat) : Int), .bool b] w fun e w' => ∃ u, e = .returned u ∧ (Fk.ow w.heap.size (msub l' m b)).f u w' ∧ Below w.heap.size w w' := fun l' hl' => ih0 _ hl' l' rfl
  clear ih0
  by_cases hml : m = l.length
  · cases b
    · obtain ⟨y, ey⟩ : ∃ p, Box (mroot l = p) := ⟨_, ⟨rfl⟩⟩
      have hy : y.length = 32 := by rw [← ey.out]; exact mroot_len (hc_len hv)
      go_enter Tryd.func34, Tryd.ntmps34
      refine code_both (fun f w1 => f.tmps.size = 53 ∧ f.defers = [] ∧ f.eval (.tmp 0) = v ∧ f.eval (.tmp 1) = .int .i64 ((m : Nat) : Int) ∧ f.eval (.tmp 2) = .bool false ∧ Below w.heap.size w (w1)) ⟨rfl, rfl, rfl, rfl, rfl, Below.refl _ _⟩ ?_
      rintro f0 w0 ⟨sz, df, x0, x1, x2, bl⟩
      have bl0 := bl
      refine wp_seq ?_
      refine wp_all_seq [.eq (.slice none 0 0)] (by kernel_rfl) (by kernel_rfl) (by rw [sz]; kernel_rfl) (by kernel_rfl) ⟨fun hw ac u K => ?_, trivial⟩ ?_
      · exact st_assign (.const (.slice none 0 0)) rfl rfl
      intro f1 w1 A hb
      replace bl0 := bl
      replace x0 := (A.old 0 rfl).trans x0
      replace x1 := (A.old 1 rfl).trans x1
      replace x2 := (A.old 2 rfl).trans x2
      have x6 : f1.eval (.tmp 6) = .slice none 0 0 := A.has 0 6 rfl
      replace bl := (bl.trans (Below.mono hb bl.size))
      replace sz := A.size.trans sz
      replace df := A.defs.trans df
      clear A hb
      show Code.wp _ _ _ _ _
      refine wp_seq ?_
      refine wp_seq ?_
      refine wp_all_seq [.eq (.int .i64 ((m : Nat) : Int)), .eq (v), .eq (.int .i64 (((l).length : Nat) : Int)), .eq (.bool true), .eq (.bool true), .eq (.bool false), .eq (.bool false)] (by kernel_rfl) (by kernel_rfl) (by rw [sz]; kernel_rfl) (by kernel_rfl) ⟨fun hw ac u K => ?_, fun hw ac u K => ?_, fun hw ac u K => ?_, fun hw ac u K => ?_, fun hw ac u K => ?_, fun hw ac u K => ?_, fun hw ac u K => ?_, trivial⟩ ?_
      · exact st_move (.tmp 1) rfl ((K.old 1 rfl).trans x1)
      · exact st_move (.tmp 0) rfl ((K.old 0 rfl).trans x0)
      · exact st_lenc (.tmp 9) rfl ((l).length) rfl (fk_val (K.dep 1 9 rfl) (Fk.mono _ _ _ _ hv (bl.trans (Below.mono K.grow bl.size))))
      · exact st_eqi 3 (.tmp 8) (.tmp 10) rfl .i64 (((m : Nat) : Int)) ((((l).length : Nat) : Int)) (K.dep 0 8 rfl) (K.dep 2 10 rfl) _ (by rw [eq_comm, decide_eq_true_iff]; omega)
      · exact st_move (.tmp 11) rfl (K.dep 3 11 rfl)
      · exact st_move (.tmp 2) rfl ((K.old 2 rfl).trans x2)
      · exact st_pick_t (.tmp 12) (.tmp 13) (.const (.bool false)) rfl (K.dep 4 12 rfl) (K.dep 5 13 rfl)
      intro f2 w2 A hb
      replace bl0 := bl
      replace x0 := (A.old 0 rfl).trans x0
      replace x1 := (A.old 1 rfl).trans x1
      replace x2 := (A.old 2 rfl).trans x2
      replace x6 := (A.old 6 rfl).trans x6
      have x14 : f2.eval (.tmp 14) = .bool false := A.has 6 14 rfl
      replace bl := (bl.trans (Below.mono hb bl.size))
      replace sz := A.size.trans sz
      replace df := A.defs.trans df
      clear A hb
      show Code.wp _ _ _ _ _
      refine wp_cond_false x14 ?_
      refine wp_skip ?_
      show Code.wp _ _ _ _ _
      refine wp_seq ?_
      refine wp_seq ?_
      refine wp_all_seq [.eq (.int .i64 ((m : Nat) : Int)), .eq (v), .eq (.int .i64 (((l).length : Nat) : Int)), .eq (.bool true)] (by kernel_rfl) (by kernel_rfl) (by rw [sz]; kernel_rfl) (by kernel_rfl) ⟨fun hw ac u K => ?_, fun hw ac u K => ?_, fun hw ac u K => ?_, fun hw ac u K => ?_, trivial⟩ ?_
      · exact st_move (.tmp 1) rfl ((K.old 1 rfl).trans x1)
      · exact st_move (.tmp 0) rfl ((K.old 0 rfl).trans x0)
      · exact st_lenc (.tmp 16) rfl ((l).length) rfl (fk_val (K.dep 1 16 rfl) (Fk.mono _ _ _ _ hv (bl.trans (Below.mono K.grow bl.size))))
      · exact st_eqi 3 (.tmp 15) (.tmp 17) rfl .i64 (((m : Nat) : Int)) ((((l).length : Nat) : Int)) (K.dep 0 15 rfl) (K.dep 2 17 rfl) _ (by rw [eq_comm, decide_eq_true_iff]; omega)
      intro f3 w3 A hb
      replace bl0 := bl
      replace x0 := (A.old 0 rfl).trans x0
      replace x1 := (A.old 1 rfl).trans x1
      replace x2 := (A.old 2 rfl).trans x2
      replace x6 := (A.old 6 rfl).trans x6
      replace x14 := (A.old 14 rfl).trans x14
      have x18 : f3.eval (.tmp 18) = .bool true := A.has 3 18 rfl
      replace bl := (bl.trans (Below.mono hb bl.size))
      replace sz := A.size.trans sz
      replace df := A.defs.trans df
      clear A hb
      show Code.wp _ _ _ _ _
      refine wp_cond_true x18 ?_
      refine wp_seq ?_
      refine wp_all_seq [.eq (v), .eq (.agg ((y).map V).toArray), .ow w.heap.size ([y]), .ow w.heap.size ([y])] (by kernel_rfl) (by kernel_rfl) (by rw [sz]; kernel_rfl) (by kernel_rfl) ⟨fun hw ac u K => ?_, fun hw ac u K => ?_, fun hw ac u K => ?_, fun hw ac u K => ?_, trivial⟩ ?_
      · exact st_move (.tmp 0) rfl ((K.old 0 rfl).trans x0)
      · exact st_call 18 (.func 18) _ _ #[v] rfl rfl (one_arg (K.dep 0 19 rfl)) Tryd.enter18 (fk_of (root_any l _ _ h1000 (Fk.mono _ _ _ _ hv (bl.trans (Below.mono K.grow bl.size))) (hK.below (bl.trans (Below.mono K.grow bl.size))) ey))
      · exact st_bo1 (.tmp 20) rfl hy (K.dep 1 20 rfl) _ (bl.trans (Below.mono K.grow bl.size)).size
      · exact st_assign (.tmp 21) rfl (K.dep 2 21 rfl)
      intro f4 w4 A hb
      replace bl0 := bl
      replace x0 := (A.old 0 rfl).trans x0
      replace x1 := (A.old 1 rfl).trans x1
      replace x2 := (A.old 2 rfl).trans x2
      clear x6
      replace x14 := (A.old 14 rfl).trans x14
      replace x18 := (A.old 18 rfl).trans x18
      have x6 : Fk.f (.ow w.heap.size ([y])) (f4.eval (.tmp 6)) w4 := A.has 3 6 rfl
      replace bl := (bl.trans (Below.mono hb bl.size))
      replace sz := A.size.trans sz
      replace df := A.defs.trans df
      clear A hb
      show Code.wp _ _ _ _ _
      refine wp_ret ?_
      repeat (first | with_reducible refine then_ret ?_ | with_reducible refine block_ret ?_)
      rw [hml, msub_part, ey.out]
      exact bodyPost_ret (v := f4.eval (.tmp 6)) (ret_slot rfl f4 _ rfl _ _) df ⟨_, rfl, x6, bl⟩
    · skip
      go_enter Tryd.func34, Tryd.ntmps34
      refine code_both (fun f w1 => f.tmps.size = 53 ∧ f.defers = [] ∧ f.eval (.tmp 0) = v ∧ f.eval (.tmp 1) = .int .i64 ((m : Nat) : Int) ∧ f.eval (.tmp 2) = .bool true ∧ Below w.heap.size w (w1)) ⟨rfl, rfl, rfl, rfl, rfl, Below.refl _ _⟩ ?_
      rintro f0 w0 ⟨sz, df, x0, x1, x2, bl⟩
      have bl0 := bl
      refine wp_seq ?_
      refine wp_all_seq [.eq (.slice none 0 0)] (by kernel_rfl) (by kernel_rfl) (by rw [sz]; kernel_rfl) (by kernel_rfl) ⟨fun hw ac u K => ?_, trivial⟩ ?_
      · exact st_assign (.const (.slice none 0 0)) rfl rfl
      intro f1 w1 A hb
      replace bl0 := bl
      replace x0 := (A.old 0 rfl).trans x0
      replace x1 := (A.old 1 rfl).trans x1
      replace x2 := (A.old 2 rfl).trans x2
      have x6 : f1.eval (.tmp 6) = .slice none 0 0 := A.has 0 6 rfl
      replace bl := (bl.trans (Below.mono hb bl.size))
      replace sz := A.size.trans sz
      replace df := A.defs.trans df
      clear A hb
      show Code.wp _ _ _ _ _
      refine wp_seq ?_
      refine wp_seq ?_
      refine wp_all_seq [.eq (.int .i64 ((m : Nat) : Int)), .eq (v), .eq (.int .i64 (((l).length : Nat) : Int)), .eq (.bool true), .eq (.bool true), .eq (.bool true), .eq (.bool true)] (by kernel_rfl) (by kernel_rfl) (by rw [sz]; kernel_rfl) (by kernel_rfl) ⟨fun hw ac u K => ?_, fun hw ac u K => ?_, fun hw ac u K => ?_, fun hw ac u K => ?_, fun hw ac u K => ?_, fun hw ac u K => ?_, fun hw ac u K => ?_, trivial⟩ ?_
      · exact st_move (.tmp 1) rfl ((K.old 1 rfl).trans x1)
      · exact st_move (.tmp 0) rfl ((K.old 0 rfl).trans x0)
      · exact st_lenc (.tmp 9) rfl ((l).length) rfl (fk_val (K.dep 1 9 rfl) (Fk.mono _ _ _ _ hv (bl.trans (Below.mono K.grow bl.size))))
      · exact st_eqi 3 (.tmp 8) (.tmp 10) rfl .i64 (((m : Nat) : Int)) ((((l).length : Nat) : Int)) (K.dep 0 8 rfl) (K.dep 2 10 rfl) _ (by rw [eq_comm, decide_eq_true_iff]; omega)
      · exact st_move (.tmp 11) rfl (K.dep 3 11 rfl)
      · exact st_move (.tmp 2) rfl ((K.old 2 rfl).trans x2)
      · exact st_pick_t (.tmp 12) (.tmp 13) (.const (.bool false)) rfl (K.dep 4 12 rfl) (K.dep 5 13 rfl)
      intro f2 w2 A hb
      replace bl0 := bl
      replace x0 := (A.old 0 rfl).trans x0
      replace x1 := (A.old 1 rfl).trans x1
      replace x2 := (A.old 2 rfl).trans x2
      replace x6 := (A.old 6 rfl).trans x6
      have x14 : f2.eval (.tmp 14) = .bool true := A.has 6 14 rfl
      replace bl := (bl.trans (Below.mono hb bl.size))
      replace sz := A.size.trans sz
      replace df := A.defs.trans df
      clear A hb
      show Code.wp _ _ _ _ _
      refine wp_cond_true x14 ?_
      refine wp_seq ?_
      refine wp_all_seq [.eq (.slice none 0 0)] (by kernel_rfl) (by kernel_rfl) (by rw [sz]; kernel_rfl) (by kernel_rfl) ⟨fun hw ac u K => ?_, trivial⟩ ?_
      · exact st_assign (.const (.slice none 0 0)) rfl rfl
      intro f3 w3 A hb
      replace bl0 := bl
      replace x0 := (A.old 0 rfl).trans x0
      replace x1 := (A.old 1 rfl).trans x1
      replace x2 := (A.old 2 rfl).trans x2
      clear x6
      replace x14 := (A.old 14 rfl).trans x14
      have x6 : f3.eval (.tmp 6) = .slice none 0 0 := A.has 0 6 rfl
      replace bl := (bl.trans (Below.mono hb bl.size))
      replace sz := A.size.trans sz
      replace df := A.defs.trans df
      clear A hb
      show Code.wp _ _ _ _ _
      refine wp_ret ?_
      repeat (first | with_reducible refine then_ret ?_ | with_reducible refine block_ret ?_)
      rw [hml, msub_all]
      exact bodyPost_ret (v := .slice none 0 0) (ret_slot rfl f3 _ x6 _ _) df ⟨_, rfl, ow_nil _ _, bl⟩
  · skip
    have h2 : 2 ≤ l.length := by omega
    obtain ⟨k, hk⟩ : ∃ k, spl l.length = k := ⟨_, rfl⟩
    have hk1 : k < l.length := by rw [← hk]; exact spl_lt h2
    have hk2 : 1 ≤ k := by rw [← hk]; exact spl_pos _
    obtain ⟨y1, ey1⟩ : ∃ p, Box (mroot (l.take k) = p) := ⟨_, ⟨rfl⟩⟩
    obtain ⟨y2, ey2⟩ : ∃ p, Box (mroot (l.drop k) = p) := ⟨_, ⟨rfl⟩⟩
    have hy1 : y1.length = 32 := by rw [← ey1.out]; exact mroot_len (fun x hx => hc_len hv x (List.mem_of_mem_take hx))
    have hy2 : y2.length = 32 := by rw [← ey2.out]; exact mroot_len (fun x hx => hc_len hv x (List.mem_of_mem_drop hx))
    go_enter Tryd.func34, Tryd.ntmps34
    refine code_both (fun f w1 => f.tmps.size = 53 ∧ f.defers = [] ∧ f.eval (.tmp 0) = v ∧ f.eval (.tmp 1) = .int .i64 ((m : Nat) : Int) ∧ f.eval (.tmp 2) = .bool b ∧ Below w.heap.size w (w1)) ⟨rfl, rfl, rfl, rfl, rfl, Below.refl _ _⟩ ?_
    rintro f0 w0 ⟨sz, df, x0, x1, x2, bl⟩
    have bl0 := bl
    refine wp_seq ?_
    refine wp_all_seq [.eq (.slice none 0 0)] (by kernel_rfl) (by kernel_rfl) (by rw [sz]; kernel_rfl) (by kernel_rfl) ⟨fun hw ac u K => ?_, trivial⟩ ?_
    · exact st_assign (.const (.slice none 0 0)) rfl rfl
    intro f1 w1 A hb
    replace bl0 := bl
    replace x0 := (A.old 0 rfl).trans x0
    replace x1 := (A.old 1 rfl).trans x1
    replace x2 := (A.old 2 rfl).trans x2
    have x6 : f1.eval (.tmp 6) = .slice none 0 0 := A.has 0 6 rfl
    replace bl := (bl.trans (Below.mono hb bl.size))
    replace sz := A.size.trans sz
    replace df := A.defs.trans df
    clear A hb
    show Code.wp _ _ _ _ _
    refine wp_seq ?_
    refine wp_seq ?_
    refine wp_all_seq [.eq (.int .i64 ((m : Nat) : Int)), .eq (v), .eq (.int .i64 (((l).length : Nat) : Int)), .eq (.bool false), .eq (.bool false), .any, .eq (.bool false)] (by kernel_rfl) (by kernel_rfl) (by rw [sz]; kernel_rfl) (by kernel_rfl) ⟨fun hw ac u K => ?_, fun hw ac u K => ?_, fun hw ac u K => ?_, fun hw ac u K => ?_, fun hw ac u K => ?_, fun hw ac u K => ?_, fun hw ac u K => ?_, trivial⟩ ?_
    · exact st_move (.tmp 1) rfl ((K.old 1 rfl).trans x1)
    · exact st_move (.tmp 0) rfl ((K.old 0 rfl).trans x0)
    · exact st_lenc (.tmp 9) rfl ((l).length) rfl (fk_val (K.dep 1 9 rfl) (Fk.mono _ _ _ _ hv (bl.trans (Below.mono K.grow bl.size))))
    · exact st_eqi 3 (.tmp 8) (.tmp 10) rfl .i64 (((m : Nat) : Int)) ((((l).length : Nat) : Int)) (K.dep 0 8 rfl) (K.dep 2 10 rfl) _ (by rw [eq_comm, decide_eq_false_iff_not]; omega)
    · exact st_move (.tmp 11) rfl (K.dep 3 11 rfl)
    · exact (Bool.false_ne_true hw).elim
    · exact st_pick_f' (.tmp 12) (.tmp 13) (.const (.bool false)) rfl (K.dep 4 12 rfl) rfl
    intro f2 w2 A hb
    replace bl0 := bl
    replace x0 := (A.old 0 rfl).trans x0
    replace x1 := (A.old 1 rfl).trans x1
    replace x2 := (A.old 2 rfl).trans x2
    replace x6 := (A.old 6 rfl).trans x6
    have x14 : f2.eval (.tmp 14) = .bool false := A.has 6 14 rfl
    replace bl := (bl.trans (Below.mono hb bl.size))
    replace sz := A.size.trans sz
    replace df := A.defs.trans df
    clear A hb
    show Code.wp _ _ _ _ _
    refine wp_cond_false x14 ?_
    refine wp_skip ?_
    show Code.wp _ _ _ _ _
    refine wp_seq ?_
    refine wp_seq ?_
    refine wp_all_seq [.eq (.int .i64 ((m : Nat) : Int)), .eq (v), .eq (.int .i64 (((l).length : Nat) : Int)), .eq (.bool false)] (by kernel_rfl) (by kernel_rfl) (by rw [sz]; kernel_rfl) (by kernel_rfl) ⟨fun hw ac u K => ?_, fun hw ac u K => ?_, fun hw ac u K => ?_, fun hw ac u K => ?_, trivial⟩ ?_
    · exact st_move (.tmp 1) rfl ((K.old 1 rfl).trans x1)
    · exact st_move (.tmp 0) rfl ((K.old 0 rfl).trans x0)
    · exact st_lenc (.tmp 16) rfl ((l).length) rfl (fk_val (K.dep 1 16 rfl) (Fk.mono _ _ _ _ hv (bl.trans (Below.mono K.grow bl.size))))
    · exact st_eqi 3 (.tmp 15) (.tmp 17) rfl .i64 (((m : Nat) : Int)) ((((l).length : Nat) : Int)) (K.dep 0 15 rfl) (K.dep 2 17 rfl) _ (by rw [eq_comm, decide_eq_false_iff_not]; omega)
    intro f3 w3 A hb
    replace bl0 := bl
    replace x0 := (A.old 0 rfl).trans x0
    replace x1 := (A.old 1 rfl).trans x1
    replace x2 := (A.old 2 rfl).trans x2
    replace x6 := (A.old 6 rfl).trans x6
    replace x14 := (A.old 14 rfl).trans x14
    have x18 : f3.eval (.tmp 18) = .bool false := A.has 3 18 rfl
    replace bl := (bl.trans (Below.mono hb bl.size))
    replace sz := A.size.trans sz
    replace df := A.defs.trans df
    clear A hb
    show Code.wp _ _ _ _ _
    refine wp_cond_false x18 ?_
    refine wp_skip ?_
    show Code.wp _ _ _ _ _
    refine wp_seq ?_
    refine wp_all_seq [.eq (v), .eq (.int .i64 (((l).length : Nat) : Int)), .eq (.int .i64 ((k : Nat) : Int)), .eq (.int .i64 ((k : Nat) : Int))] (by kernel_rfl) (by kernel_rfl) (by rw [sz]; kernel_rfl) (by kernel_rfl) ⟨fun hw ac u K => ?_, fun hw ac u K => ?_, fun hw ac u K => ?_, fun hw ac u K => ?_, trivial⟩ ?_
    · exact st_move (.tmp 0) rfl ((K.old 0 rfl).trans x0)
    · exact st_lenc (.tmp 22) rfl ((l).length) rfl (fk_val (K.dep 0 22 rfl) (Fk.mono _ _ _ _ hv (bl.trans (Below.mono K.grow bl.size))))
    · exact st_call 32 (.func 32) _ _ #[.int .i64 (((l).length : Nat) : Int)] rfl rfl (one_arg (K.dep 1 23 rfl)) Tryd.enter32 (by rw [← hk]; exact fk_of (split_hi l.length (by omega) (by omega) _))
    · exact st_assign (.tmp 24) rfl (K.dep 2 24 rfl)
    intro f4 w4 A hb
    replace bl0 := bl
    replace x0 := (A.old 0 rfl).trans x0
    replace x1 := (A.old 1 rfl).trans x1
    replace x2 := (A.old 2 rfl).trans x2
    replace x6 := (A.old 6 rfl).trans x6
    replace x14 := (A.old 14 rfl).trans x14
    replace x18 := (A.old 18 rfl).trans x18
    have x7 : f4.eval (.tmp 7) = .int .i64 ((k : Nat) : Int) := A.has 3 7 rfl
    replace bl := (bl.trans (Below.mono hb bl.size))
    replace sz := A.size.trans sz
    replace df := A.defs.trans df
    clear A hb
    show Code.wp _ _ _ _ _
    refine wp_seq ?_
    refine wp_seq ?_
    by_cases hik : m ≤ k
    rotate_left
    · skip
      have hl1 := msub_len _ (l.drop k) (m - k) false rfl
      rw [List.length_drop] at hl1
      refine wp_all_seq [.eq (.int .i64 ((m : Nat) : Int)), .eq (.int .i64 ((k : Nat) : Int)), .eq (.bool false)] (by kernel_rfl) (by kernel_rfl) (by rw [sz]; kernel_rfl) (by kernel_rfl) ⟨fun hw ac u K => ?_, fun hw ac u K => ?_, fun hw ac u K => ?_, trivial⟩ ?_
      · exact st_move (.tmp 1) rfl ((K.old 1 rfl).trans x1)
      · exact st_move (.tmp 7) rfl ((K.old 7 rfl).trans x7)
      · exact st_leq 3 (.tmp 25) (.tmp 26) rfl .i64 (((m : Nat) : Int)) (((k : Nat) : Int)) (K.dep 0 25 rfl) (K.dep 1 26 rfl) _ (by first | (simp; done) | (simp; omega))
      intro f5 w5 A hb
      replace bl0 := bl
      replace x0 := (A.old 0 rfl).trans x0
      replace x1 := (A.old 1 rfl).trans x1
      replace x2 := (A.old 2 rfl).trans x2
      replace x6 := (A.old 6 rfl).trans x6
      replace x14 := (A.old 14 rfl).trans x14
      replace x18 := (A.old 18 rfl).trans x18
      replace x7 := (A.old 7 rfl).trans x7
      have x27 : f5.eval (.tmp 27) = .bool false := A.has 2 27 rfl
      replace bl := (bl.trans (Below.mono hb bl.size))
      replace sz := A.size.trans sz
      replace df := A.defs.trans df
      clear A hb
      show Code.wp _ _ _ _ _
      refine wp_cond_false x27 ?_
      refine wp_skip ?_
      show Code.wp _ _ _ _ _
      refine wp_seq ?_
      refine wp_region_tail [.eq (v), .eq (.int .i64 ((k : Nat) : Int)), .hc ((l).drop (k)), .eq (.int .i64 ((m : Nat) : Int)), .eq (.int .i64 ((k : Nat) : Int)), .eq (.int .i64 ((m - k : Nat) : Int)), .ow w.heap.size (msub (l.drop k) (m - k) false), .eq (v), .eq (.int .i64 ((k : Nat) : Int)), .hc ((l).take (k)), .eq (.agg ((y1).map V).toArray), .hs ([y1])] [12, 13] Tryd.mixed (by kernel_rfl) (by kernel_rfl) (by kernel_rfl) (by kernel_rfl) (by rw [sz]; kernel_rfl) (by kernel_rfl) ⟨fun hw ac u K => ?_, fun hw ac u K => ?_, fun hw ac u K => ?_, fun hw ac u K => ?_, fun hw ac u K => ?_, fun hw ac u K => ?_, fun hw ac u K => ?_, fun hw ac u K => ?_, fun hw ac u K => ?_, fun hw ac u K => ?_, fun hw ac u K => ?_, fun hw ac u K => ?_, trivial⟩ ?_
      · exact st_move (.tmp 0) rfl ((K.old 0 rfl).trans x0)
      · exact st_move (.tmp 7) rfl ((K.old 7 rfl).trans x7)
      · exact st_restc (.tmp 40) (.tmp 41) rfl (fk_val (K.dep 0 40 rfl) (Fk.mono _ _ _ _ hv (bl.trans (Below.mono K.grow bl.size)))) (k) (K.dep 1 41 rfl) (by omega)
      · exact st_move (.tmp 1) rfl ((K.old 1 rfl).trans x1)
      · exact st_move (.tmp 7) rfl ((K.old 7 rfl).trans x7)
      · exact st_sub (.tmp 43) (.tmp 44) rfl (m) (k) (m - k) (K.dep 3 43 rfl) (K.dep 4 44 rfl) (by omega) (by omega)
      · exact st_call 34 (.func 34) _ _ #[ac.eval (.tmp 42), .int .i64 ((m - k : Nat) : Int), .bool false] rfl rfl (arg3 rfl (K.dep 5 45 rfl) rfl) Tryd.enter34 (fk_ow (bl.trans (Below.mono K.grow bl.size)).size (ih (l.drop k) (by rw [List.length_drop]; omega) (m - k) false (by omega) (by rw [List.length_drop]; omega) _ _ (by rw [List.length_drop]; omega) (K.dep 2 42 rfl) (hK.below (bl.trans (Below.mono K.grow bl.size)))))
      · exact st_move (.tmp 0) rfl ((K.old 0 rfl).trans x0)
      · exact st_move (.tmp 7) rfl ((K.old 7 rfl).trans x7)
      · exact st_cuth (.tmp 47) (.tmp 48) rfl (fk_val (K.dep 7 47 rfl) (Fk.mono _ _ _ _ hv (bl.trans (Below.mono K.grow bl.size)))) (k) (K.dep 8 48 rfl) (by omega)
      · exact st_call 18 (.func 18) _ _ #[ac.eval (.tmp 49)] rfl rfl (one_arg rfl) Tryd.enter18 (fk_of (root_any (l.take k) _ _ (by rw [List.length_take]; omega) (K.dep 9 49 rfl) (hK.below (bl.trans (Below.mono K.grow bl.size))) ey1))
      · exact st_bh1 (.tmp 50) rfl hy1 (K.dep 10 50 rfl)
      intro f6 w6 A hb
      replace bl0 := bl
      replace x0 := (A.old 0 rfl).trans x0
      replace x1 := (A.old 1 rfl).trans x1
      replace x2 := (A.old 2 rfl).trans x2
      replace x6 := (A.old 6 rfl).trans x6
      replace x14 := (A.old 14 rfl).trans x14
      replace x18 := (A.old 18 rfl).trans x18
      replace x7 := (A.old 7 rfl).trans x7
      replace x27 := (A.old 27 rfl).trans x27
      have x46 : Fk.f (.ow w.heap.size (msub (l.drop k) (m - k) false)) (f6.eval (.tmp 46)) w6 := A.has 6 46 rfl
      have x51 : Fk.f (.hs ([y1])) (f6.eval (.tmp 51)) w6 := A.has 11 51 rfl
      replace bl := (bl.trans (Below.mono hb bl.size))
      replace sz := A.size.trans sz
      replace df := A.defs.trans df
      clear A hb
      refine wl_append rfl (.tmp 46) (.tmp 51) rfl 52 rfl (by rw [sz]; decide) x46 x51 bl (by omega) ?_
      intro f7 w7 df2 sz2 old2 new2 bl2
      clear x46
      clear x51
      replace x0 := (old2 0 rfl).trans x0
      replace x1 := (old2 1 rfl).trans x1
      replace x2 := (old2 2 rfl).trans x2
      replace x6 := (old2 6 rfl).trans x6
      replace x14 := (old2 14 rfl).trans x14
      replace x18 := (old2 18 rfl).trans x18
      replace x7 := (old2 7 rfl).trans x7
      replace x27 := (old2 27 rfl).trans x27
      have x52 : Fk.f (.ow w.heap.size (msub (l.drop k) (m - k) false ++ [y1])) (f7.eval (.tmp 52)) w7 := new2
      replace bl := bl2
      replace bl0 := bl
      replace sz := sz2.trans sz
      replace df := df2.trans df
      clear df2 sz2 old2 new2 bl2
      refine wl_one (.ow w.heap.size (msub (l.drop k) (m - k) false ++ [y1])) rfl 6 rfl (by rw [sz]; decide) (st_assign (.tmp 52) rfl x52) ?_
      intro f8 w8 df2 sz2 old2 new2 hb
      replace bl0 := bl
      replace x0 := (old2 0 rfl).trans x0
      replace x1 := (old2 1 rfl).trans x1
      replace x2 := (old2 2 rfl).trans x2
      clear x6
      replace x14 := (old2 14 rfl).trans x14
      replace x18 := (old2 18 rfl).trans x18
      replace x7 := (old2 7 rfl).trans x7
      replace x27 := (old2 27 rfl).trans x27
      replace x52 := f_at (old2 52 rfl) (Fk.mono _ _ _ _ x52 hb)
      have x6 : Fk.f (.ow w.heap.size (msub (l.drop k) (m - k) false ++ [y1])) (f8.eval (.tmp 6)) w8 := new2
      replace bl := (bl.trans (Below.mono hb bl.size))
      replace sz := sz2.trans sz
      replace df := df2.trans df
      clear df2 sz2 old2 new2 hb
      refine wpList_nil ?_
      clear x52
      show Code.wp _ _ _ _ _
      refine wp_ret ?_
      repeat (first | with_reducible refine then_ret ?_ | with_reducible refine block_ret ?_)
      rw [msub_right h2 hml (by rw [hk]; exact hik), hk, ey1.out]
      exact bodyPost_ret (v := f8.eval (.tmp 6)) (ret_slot rfl f8 _ rfl _ _) df ⟨_, rfl, x6, bl⟩
    have hl1 := msub_len _ (l.take k) m b rfl
    rw [List.length_take] at hl1
    refine wp_all_seq [.eq (.int .i64 ((m : Nat) : Int)), .eq (.int .i64 ((k : Nat) : Int)), .eq (.bool true)] (by kernel_rfl) (by kernel_rfl) (by rw [sz]; kernel_rfl) (by kernel_rfl) ⟨fun hw ac u K => ?_, fun hw ac u K => ?_, fun hw ac u K => ?_, trivial⟩ ?_
    · exact st_move (.tmp 1) rfl ((K.old 1 rfl).trans x1)
    · exact st_move (.tmp 7) rfl ((K.old 7 rfl).trans x7)
    · exact st_leq 3 (.tmp 25) (.tmp 26) rfl .i64 (((m : Nat) : Int)) (((k : Nat) : Int)) (K.dep 0 25 rfl) (K.dep 1 26 rfl) _ (by first | (simp; done) | (simp; omega))
    intro f5 w5 A hb
    replace bl0 := bl
    replace x0 := (A.old 0 rfl).trans x0
    replace x1 := (A.old 1 rfl).trans x1
    replace x2 := (A.old 2 rfl).trans x2
    replace x6 := (A.old 6 rfl).trans x6
    replace x14 := (A.old 14 rfl).trans x14
    replace x18 := (A.old 18 rfl).trans x18
    replace x7 := (A.old 7 rfl).trans x7
    have x27 : f5.eval (.tmp 27) = .bool true := A.has 2 27 rfl
    replace bl := (bl.trans (Below.mono hb bl.size))
    replace sz := A.size.trans sz
    replace df := A.defs.trans df
    clear A hb
    show Code.wp _ _ _ _ _
    refine wp_cond_true x27 ?_
    refine wp_seq ?_
    refine wp_region_tail [.eq (v), .eq (.int .i64 ((k : Nat) : Int)), .hc ((l).take (k)), .eq (.int .i64 ((m : Nat) : Int)), .eq (.bool b), .ow w.heap.size (msub (l.take k) m b), .eq (v), .eq (.int .i64 ((k : Nat) : Int)), .hc ((l).drop (k)), .eq (.agg ((y2).map V).toArray), .hs ([y2])] [11, 12] Tryd.mixed (by kernel_rfl) (by kernel_rfl) (by kernel_rfl) (by kernel_rfl) (by rw [sz]; kernel_rfl) (by kernel_rfl) ⟨fun hw ac u K => ?_, fun hw ac u K => ?_, fun hw ac u K => ?_, fun hw ac u K => ?_, fun hw ac u K => ?_, fun hw ac u K => ?_, fun hw ac u K => ?_, fun hw ac u K => ?_, fun hw ac u K => ?_, fun hw ac u K => ?_, fun hw ac u K => ?_, trivial⟩ ?_
    · exact st_move (.tmp 0) rfl ((K.old 0 rfl).trans x0)
    · exact st_move (.tmp 7) rfl ((K.old 7 rfl).trans x7)
    · exact st_cuth (.tmp 28) (.tmp 29) rfl (fk_val (K.dep 0 28 rfl) (Fk.mono _ _ _ _ hv (bl.trans (Below.mono K.grow bl.size)))) (k) (K.dep 1 29 rfl) (by omega)
    · exact st_move (.tmp 1) rfl ((K.old 1 rfl).trans x1)
    · exact st_move (.tmp 2) rfl ((K.old 2 rfl).trans x2)
    · exact st_call 34 (.func 34) _ _ #[ac.eval (.tmp 30), .int .i64 ((m : Nat) : Int), .bool b] rfl rfl (arg3 rfl (K.dep 3 31 rfl) (K.dep 4 32 rfl)) Tryd.enter34 (fk_ow (bl.trans (Below.mono K.grow bl.size)).size (ih (l.take k) (by rw [List.length_take]; omega) m b hm1 (by rw [List.length_take]; omega) _ _ (by rw [List.length_take]; omega) (K.dep 2 30 rfl) (hK.below (bl.trans (Below.mono K.grow bl.size)))))
    · exact st_move (.tmp 0) rfl ((K.old 0 rfl).trans x0)
    · exact st_move (.tmp 7) rfl ((K.old 7 rfl).trans x7)
    · exact st_restc (.tmp 34) (.tmp 35) rfl (fk_val (K.dep 6 34 rfl) (Fk.mono _ _ _ _ hv (bl.trans (Below.mono K.grow bl.size)))) (k) (K.dep 7 35 rfl) (by omega)
    · exact st_call 18 (.func 18) _ _ #[ac.eval (.tmp 36)] rfl rfl (one_arg rfl) Tryd.enter18 (fk_of (root_any (l.drop k) _ _ (by rw [List.length_drop]; omega) (K.dep 8 36 rfl) (hK.below (bl.trans (Below.mono K.grow bl.size))) ey2))
    · exact st_bh1 (.tmp 37) rfl hy2 (K.dep 9 37 rfl)
    intro f6 w6 A hb
    replace bl0 := bl
    replace x0 := (A.old 0 rfl).trans x0
    replace x1 := (A.old 1 rfl).trans x1
    replace x2 := (A.old 2 rfl).trans x2
    replace x6 := (A.old 6 rfl).trans x6
    replace x14 := (A.old 14 rfl).trans x14
    replace x18 := (A.old 18 rfl).trans x18
    replace x7 := (A.old 7 rfl).trans x7
    replace x27 := (A.old 27 rfl).trans x27
    have x33 : Fk.f (.ow w.heap.size (msub (l.take k) m b)) (f6.eval (.tmp 33)) w6 := A.has 5 33 rfl
    have x38 : Fk.f (.hs ([y2])) (f6.eval (.tmp 38)) w6 := A.has 10 38 rfl
    replace bl := (bl.trans (Below.mono hb bl.size))
    replace sz := A.size.trans sz
    replace df := A.defs.trans df
    clear A hb
    refine wl_append rfl (.tmp 33) (.tmp 38) rfl 39 rfl (by rw [sz]; decide) x33 x38 bl (by omega) ?_
    intro f7 w7 df2 sz2 old2 new2 bl2
    clear x33
    clear x38
    replace x0 := (old2 0 rfl).trans x0
    replace x1 := (old2 1 rfl).trans x1
    replace x2 := (old2 2 rfl).trans x2
    replace x6 := (old2 6 rfl).trans x6
    replace x14 := (old2 14 rfl).trans x14
    replace x18 := (old2 18 rfl).trans x18
    replace x7 := (old2 7 rfl).trans x7
    replace x27 := (old2 27 rfl).trans x27
    have x39 : Fk.f (.ow w.heap.size (msub (l.take k) m b ++ [y2])) (f7.eval (.tmp 39)) w7 := new2
    replace bl := bl2
    replace bl0 := bl
    replace sz := sz2.trans sz
    replace df := df2.trans df
    clear df2 sz2 old2 new2 bl2
    refine wl_one (.ow w.heap.size (msub (l.take k) m b ++ [y2])) rfl 6 rfl (by rw [sz]; decide) (st_assign (.tmp 39) rfl x39) ?_
    intro f8 w8 df2 sz2 old2 new2 hb
    replace bl0 := bl
    replace x0 := (old2 0 rfl).trans x0
    replace x1 := (old2 1 rfl).trans x1
    replace x2 := (old2 2 rfl).trans x2
    clear x6
    replace x14 := (old2 14 rfl).trans x14
    replace x18 := (old2 18 rfl).trans x18
    replace x7 := (old2 7 rfl).trans x7
    replace x27 := (old2 27 rfl).trans x27
    replace x39 := f_at (old2 39 rfl) (Fk.mono _ _ _ _ x39 hb)
    have x6 : Fk.f (.ow w.heap.size (msub (l.take k) m b ++ [y2])) (f8.eval (.tmp 6)) w8 := new2
    replace bl := (bl.trans (Below.mono hb bl.size))
    replace sz := sz2.trans sz
    replace df := df2.trans df
    clear df2 sz2 old2 new2 hb
    refine wpList_nil ?_
    clear x39
    show Code.wp _ _ _ _ _
    refine wp_ret ?_
    repeat (first | with_reducible refine then_ret ?_ | with_reducible refine block_ret ?_)
    rw [msub_left h2 hml (by rw [hk]; exact hik), hk, ey2.out]
    exact bodyPost_ret (v := f8.eval (.tmp 6)) (ret_slot rfl f8 _ rfl _ _) df ⟨_, rfl, x6, bl⟩
theorem proof_zero {l : List (List (BitVec 8))} (w : World) {v : Value} (hv : (Fk.hc l).f v w) :
    Calls Tryd.prog 20 #[v, .int .i64 0] w fun e w' => e = .returned (.tuple #[.slice none 0 0, .int .i64 0]) ∧ Below w.heap.size w w' := by
  go_enter Tryd.func20, Tryd.ntmps20
  refine code_both (fun f w1 => f.tmps.size = 19 ∧ f.defers = [] ∧ f.eval (.tmp 0) = v ∧ f.eval (.tmp 1) = .int .i64 0 ∧ Below w.heap.size w (w1)) ⟨rfl, rfl, rfl, rfl, Below.refl _ _⟩ ?_
  rintro f0 w0 ⟨sz, df, x0, x1, bl⟩
  have bl0 := bl
  refine wp_seq ?_
  refine wp_region_seq [] (by kernel_rfl) (by kernel_rfl) (by rw [sz]; kernel_rfl) (by kernel_rfl) trivial ?_
  intro f1 w1 A hb
  replace bl0 := bl
  replace x0 := (A.old 0 rfl).trans x0
  replace x1 := (A.old 1 rfl).trans x1
  replace bl := (bl.trans (Below.mono hb bl.size))
  replace sz := A.size.trans sz
  replace df := A.defs.trans df
  clear A hb
  refine wl_one (.eq (.slice none 0 0)) rfl 4 rfl (by rw [sz]; decide) (st_assign (.const (.slice none 0 0)) rfl rfl) ?_
  intro f2 w2 df2 sz2 old2 new2 hb
  replace bl0 := bl
  replace x0 := (old2 0 rfl).trans x0
  replace x1 := (old2 1 rfl).trans x1
  have x4 : f2.eval (.tmp 4) = .slice none 0 0 := new2
  replace bl := (bl.trans (Below.mono hb bl.size))
  replace sz := sz2.trans sz
  replace df := df2.trans df
  clear df2 sz2 old2 new2 hb
  refine wl_one (.eq (.int .i64 0)) rfl 5 rfl (by rw [sz]; decide) (st_assign (.const (.int .i64 0)) rfl rfl) ?_
  intro f3 w3 df2 sz2 old2 new2 hb
  replace bl0 := bl
  replace x0 := (old2 0 rfl).trans x0
  replace x1 := (old2 1 rfl).trans x1
  replace x4 := (old2 4 rfl).trans x4
  have x5 : f3.eval (.tmp 5) = .int .i64 0 := new2
  replace bl := (bl.trans (Below.mono hb bl.size))
  replace sz := sz2.trans sz
  replace df := df2.trans df
  clear df2 sz2 old2 new2 hb
  refine wpList_nil ?_
  show Code.wp _ _ _ _ _
  refine wp_seq ?_
  refine wp_seq ?_
  refine wp_all_seq [.eq (.int .i64 0), .eq (.bool false), .eq (.bool false), .eq (.int .i64 0), .eq (v), .eq (.int .i64 (((l).length : Nat) : Int)), .eq (.bool false), .eq (.bool false)] (by kernel_rfl) (by kernel_rfl) (by rw [sz]; kernel_rfl) (by kernel_rfl) ⟨fun hw ac u K => ?_, fun hw ac u K => ?_, fun hw ac u K => ?_, fun hw ac u K => ?_, fun hw ac u K => ?_, fun hw ac u K => ?_, fun hw ac u K => ?_, fun hw ac u K => ?_, trivial⟩ ?_
  · exact st_move (.tmp 1) rfl ((K.old 1 rfl).trans x1)
  · exact st_lss 3 (.tmp 6) (.const (.int .i64 0)) rfl .i64 (0) (0) (K.dep 0 6 rfl) rfl _ (by rw [eq_comm, decide_eq_false_iff_not]; omega)
  · exact st_move (.tmp 7) rfl (K.dep 1 7 rfl)
  · exact st_move (.tmp 1) rfl ((K.old 1 rfl).trans x1)
  · exact st_move (.tmp 0) rfl ((K.old 0 rfl).trans x0)
  · exact st_lenc (.tmp 10) rfl ((l).length) rfl (fk_val (K.dep 4 10 rfl) (Fk.mono _ _ _ _ hv (bl.trans (Below.mono K.grow bl.size))))
  · exact st_gtr 3 (.tmp 9) (.tmp 11) rfl .i64 (0) ((((l).length : Nat) : Int)) (K.dep 3 9 rfl) (K.dep 5 11 rfl) _ (by rw [eq_comm, decide_eq_false_iff_not]; omega)
  · exact st_pick_f' (.tmp 8) (.const (.bool true)) (.tmp 12) rfl (K.dep 2 8 rfl) (K.dep 6 12 rfl)
  intro f4 w4 A hb
  replace bl0 := bl
  replace x0 := (A.old 0 rfl).trans x0
  replace x1 := (A.old 1 rfl).trans x1
  replace x4 := (A.old 4 rfl).trans x4
  replace x5 := (A.old 5 rfl).trans x5
  have x13 : f4.eval (.tmp 13) = .bool false := A.has 7 13 rfl
  replace bl := (bl.trans (Below.mono hb bl.size))
  replace sz := A.size.trans sz
  replace df := A.defs.trans df
  clear A hb
  show Code.wp _ _ _ _ _
  refine wp_cond_false x13 ?_
  refine wp_skip ?_
  show Code.wp _ _ _ _ _
  refine wp_seq ?_
  refine wp_seq ?_
  refine wp_all_seq [.eq (.int .i64 0), .eq (.bool true)] (by kernel_rfl) (by kernel_rfl) (by rw [sz]; kernel_rfl) (by kernel_rfl) ⟨fun hw ac u K => ?_, fun hw ac u K => ?_, trivial⟩ ?_
  · exact st_move (.tmp 1) rfl ((K.old 1 rfl).trans x1)
  · exact st_eqi 3 (.tmp 14) (.const (.int .i64 0)) rfl .i64 (0) (0) (K.dep 0 14 rfl) rfl _ (by simp)
  intro f5 w5 A hb
  replace bl0 := bl
  replace x0 := (A.old 0 rfl).trans x0
  replace x1 := (A.old 1 rfl).trans x1
  replace x4 := (A.old 4 rfl).trans x4
  replace x5 := (A.old 5 rfl).trans x5
  replace x13 := (A.old 13 rfl).trans x13
  have x15 : f5.eval (.tmp 15) = .bool true := A.has 1 15 rfl
  replace bl := (bl.trans (Below.mono hb bl.size))
  replace sz := A.size.trans sz
  replace df := A.defs.trans df
  clear A hb
  show Code.wp _ _ _ _ _
  refine wp_cond_true x15 ?_
  refine wp_seq ?_
  refine wp_all_seq [.eq (.slice none 0 0), .eq (.int .i64 0)] (by kernel_rfl) (by kernel_rfl) (by rw [sz]; kernel_rfl) (by kernel_rfl) ⟨fun hw ac u K => ?_, fun hw ac u K => ?_, trivial⟩ ?_
  · exact st_assign (.const (.slice none 0 0)) rfl rfl
  · exact st_assign (.const (.int .i64 0)) rfl rfl
  intro f6 w6 A hb
  replace bl0 := bl
  replace x0 := (A.old 0 rfl).trans x0
  replace x1 := (A.old 1 rfl).trans x1
  clear x4
  clear x5
  replace x13 := (A.old 13 rfl).trans x13
  replace x15 := (A.old 15 rfl).trans x15
  have x4 : f6.eval (.tmp 4) = .slice none 0 0 := A.has 0 4 rfl
  have x5 : f6.eval (.tmp 5) = .int .i64 0 := A.has 1 5 rfl
  replace bl := (bl.trans (Below.mono hb bl.size))
  replace sz := A.size.trans sz
  replace df := A.defs.trans df
  clear A hb
  show Code.wp _ _ _ _ _
  refine wp_ret ?_
  repeat (first | with_reducible refine then_ret ?_ | with_reducible refine block_ret ?_)
  exact bodyPost_ret (v := .tuple #[.slice none 0 0, .int .i64 0]) (ret_two rfl f6 _ _ x4 x5 _ _) df ⟨rfl, bl⟩
theorem proof_ok {l : List (List (BitVec 8))} {m : Nat} (hm1 : 1 ≤ m) (hm : m ≤ l.length) (h1000 : l.length ≤ 1000) (w : World) {v : Value} (hv : (Fk.hc l).f v w) (hK : Tab w) :
    Calls Tryd.prog 20 #[v, .int .i64 ((m : Nat) : Int)] w fun e w' => ∃ u, e = .returned u ∧ (Fk.t2 (.ow w.heap.size (msub l m true)) (.int .i64 0)).f u w' ∧ Below w.heap.size w w' := by
  go_enter Tryd.func20, Tryd.ntmps20
  refine code_both (fun f w1 => f.tmps.size = 19 ∧ f.defers = [] ∧ f.eval (.tmp 0) = v ∧ f.eval (.tmp 1) = .int .i64 ((m : Nat) : Int) ∧ Below w.heap.size w (w1)) ⟨rfl, rfl, rfl, rfl, Below.refl _ _⟩ ?_
  rintro f0 w0 ⟨sz, df, x0, x1, bl⟩
  have bl0 := bl
  refine wp_seq ?_
  refine wp_region_seq [] (by kernel_rfl) (by kernel_rfl) (by rw [sz]; kernel_rfl) (by kernel_rfl) trivial ?_
  intro f1 w1 A hb
  replace bl0 := bl
  replace x0 := (A.old 0 rfl).trans x0
  replace x1 := (A.old 1 rfl).trans x1
  replace bl := (bl.trans (Below.mono hb bl.size))
  replace sz := A.size.trans sz
  replace df := A.defs.trans df
  clear A hb
  refine wl_one (.eq (.slice none 0 0)) rfl 4 rfl (by rw [sz]; decide) (st_assign (.const (.slice none 0 0)) rfl rfl) ?_
  intro f2 w2 df2 sz2 old2 new2 hb
  replace bl0 := bl
  replace x0 := (old2 0 rfl).trans x0
  replace x1 := (old2 1 rfl).trans x1
  have x4 : f2.eval (.tmp 4) = .slice none 0 0 := new2
  replace bl := (bl.trans (Below.mono hb bl.size))
  replace sz := sz2.trans sz
  replace df := df2.trans df
  clear df2 sz2 old2 new2 hb
  refine wl_one (.eq (.int .i64 0)) rfl 5 rfl (by rw [sz]; decide) (st_assign (.const (.int .i64 0)) rfl rfl) ?_
  intro f3 w3 df2 sz2 old2 new2 hb
  replace bl0 := bl
  replace x0 := (old2 0 rfl).trans x0
  replace x1 := (old2 1 rfl).trans x1
  replace x4 := (old2 4 rfl).trans x4
  have x5 : f3.eval (.tmp 5) = .int .i64 0 := new2
  replace bl := (bl.trans (Below.mono hb bl.size))
  replace sz := sz2.trans sz
  replace df := df2.trans df
  clear df2 sz2 old2 new2 hb
  refine wpList_nil ?_
  show Code.wp _ _ _ _ _
  refine wp_seq ?_
  refine wp_seq ?_
  refine wp_all_seq [.eq (.int .i64 ((m : Nat) : Int)), .eq (.bool false), .eq (.bool false), .eq (.int .i64 ((m : Nat) : Int)), .eq (v), .eq (.int .i64 (((l).length : Nat) : Int)), .eq (.bool false), .eq (.bool false)] (by kernel_rfl) (by kernel_rfl) (by rw [sz]; kernel_rfl) (by kernel_rfl) ⟨fun hw ac u K => ?_, fun hw ac u K => ?_, fun hw ac u K => ?_, fun hw ac u K => ?_, fun hw ac u K => ?_, fun hw ac u K => ?_, fun hw ac u K => ?_, fun hw ac u K => ?_, trivial⟩ ?_
  · exact st_move (.tmp 1) rfl ((K.old 1 rfl).trans x1)
  · exact st_lss 3 (.tmp 6) (.const (.int .i64 0)) rfl .i64 (((m : Nat) : Int)) (0) (K.dep 0 6 rfl) rfl _ (by rw [eq_comm, decide_eq_false_iff_not]; omega)
  · exact st_move (.tmp 7) rfl (K.dep 1 7 rfl)
  · exact st_move (.tmp 1) rfl ((K.old 1 rfl).trans x1)
  · exact st_move (.tmp 0) rfl ((K.old 0 rfl).trans x0)
  · exact st_lenc (.tmp 10) rfl ((l).length) rfl (fk_val (K.dep 4 10 rfl) (Fk.mono _ _ _ _ hv (bl.trans (Below.mono K.grow bl.size))))
  · exact st_gtr 3 (.tmp 9) (.tmp 11) rfl .i64 (((m : Nat) : Int)) ((((l).length : Nat) : Int)) (K.dep 3 9 rfl) (K.dep 5 11 rfl) _ (by rw [eq_comm, decide_eq_false_iff_not]; omega)
  · exact st_pick_f' (.tmp 8) (.const (.bool true)) (.tmp 12) rfl (K.dep 2 8 rfl) (K.dep 6 12 rfl)
  intro f4 w4 A hb
  replace bl0 := bl
  replace x0 := (A.old 0 rfl).trans x0
  replace x1 := (A.old 1 rfl).trans x1
  replace x4 := (A.old 4 rfl).trans x4
  replace x5 := (A.old 5 rfl).trans x5
  have x13 : f4.eval (.tmp 13) = .bool false := A.has 7 13 rfl
  replace bl := (bl.trans (Below.mono hb bl.size))
  replace sz := A.size.trans sz
  replace df := A.defs.trans df
  clear A hb
  show Code.wp _ _ _ _ _
  refine wp_cond_false x13 ?_
  refine wp_skip ?_
  show Code.wp _ _ _ _ _
  refine wp_seq ?_
  refine wp_seq ?_
  refine wp_all_seq [.eq (.int .i64 ((m : Nat) : Int)), .eq (.bool false)] (by kernel_rfl) (by kernel_rfl) (by rw [sz]; kernel_rfl) (by kernel_rfl) ⟨fun hw ac u K => ?_, fun hw ac u K => ?_, trivial⟩ ?_
  · exact st_move (.tmp 1) rfl ((K.old 1 rfl).trans x1)
  · exact st_eqi 3 (.tmp 14) (.const (.int .i64 0)) rfl .i64 (((m : Nat) : Int)) (0) (K.dep 0 14 rfl) rfl _ (by rw [eq_comm, decide_eq_false_iff_not]; omega)
  intro f5 w5 A hb
  replace bl0 := bl
  replace x0 := (A.old 0 rfl).trans x0
  replace x1 := (A.old 1 rfl).trans x1
  replace x4 := (A.old 4 rfl).trans x4
  replace x5 := (A.old 5 rfl).trans x5
  replace x13 := (A.old 13 rfl).trans x13
  have x15 : f5.eval (.tmp 15) = .bool false := A.has 1 15 rfl
  replace bl := (bl.trans (Below.mono hb bl.size))
  replace sz := A.size.trans sz
  replace df := A.defs.trans df
  clear A hb
  show Code.wp _ _ _ _ _
  refine wp_cond_false x15 ?_
  refine wp_skip ?_
  show Code.wp _ _ _ _ _
  refine wp_seq ?_
  refine wp_all_seq [.eq (v), .eq (.int .i64 ((m : Nat) : Int)), .ow w.heap.size (msub l m true), .ow w.heap.size (msub l m true), .eq (.int .i64 0)] (by kernel_rfl) (by kernel_rfl) (by rw [sz]; kernel_rfl) (by kernel_rfl) ⟨fun hw ac u K => ?_, fun hw ac u K => ?_, fun hw ac u K => ?_, fun hw ac u K => ?_, fun hw ac u K => ?_, trivial⟩ ?_
  · exact st_move (.tmp 0) rfl ((K.old 0 rfl).trans x0)
  · exact st_move (.tmp 1) rfl ((K.old 1 rfl).trans x1)
  · exact st_call 34 (.func 34) _ _ #[v, .int .i64 ((m : Nat) : Int), .bool true] rfl rfl (arg3 (K.dep 0 16 rfl) (K.dep 1 17 rfl) rfl) Tryd.enter34 (fk_ow (bl.trans (Below.mono K.grow bl.size)).size (going_any l m true hm1 hm _ _ h1000 (Fk.mono _ _ _ _ hv (bl.trans (Below.mono K.grow bl.size))) (hK.below (bl.trans (Below.mono K.grow bl.size)))))
  · exact st_assign (.tmp 18) rfl (K.dep 2 18 rfl)
  · exact st_assign (.const (.int .i64 0)) rfl rfl
  intro f6 w6 A hb
  replace bl0 := bl
  replace x0 := (A.old 0 rfl).trans x0
  replace x1 := (A.old 1 rfl).trans x1
  clear x4
  clear x5
  replace x13 := (A.old 13 rfl).trans x13
  replace x15 := (A.old 15 rfl).trans x15
  have x4 : Fk.f (.ow w.heap.size (msub l m true)) (f6.eval (.tmp 4)) w6 := A.has 3 4 rfl
  have x5 : f6.eval (.tmp 5) = .int .i64 0 := A.has 4 5 rfl
  replace bl := (bl.trans (Below.mono hb bl.size))
  replace sz := A.size.trans sz
  replace df := A.defs.trans df
  clear A hb
  show Code.wp _ _ _ _ _
  refine wp_ret ?_
  repeat (first | with_reducible refine then_ret ?_ | with_reducible refine block_ret ?_)
  exact bodyPost_ret (v := .tuple #[f6.eval (.tmp 4), .int .i64 0]) (ret_two rfl f6 _ _ rfl x5 _ _) df ⟨_, rfl, ⟨_, rfl, x4⟩, bl⟩
end Go.Proofs.YthhnlemldpgbeaaDoor
