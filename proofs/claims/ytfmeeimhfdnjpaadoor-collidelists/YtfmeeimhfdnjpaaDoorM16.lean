/- Path. Lists. grown. -/
import Derived.Test.YtfmeeimhfdnjpaaDoorM5
import Derived.Test.YtfmeeimhfdnjpaaDoorM15
namespace Go.Proofs.YtfmeeimhfdnjpaaDoor
set_option maxRecDepth 100000
open Go.RowKit
theorem mpath_len (n : Nat) : ∀ (l : List (List (BitVec 8))) (i : Nat), l.length = n → (mpath l i).length ≤ n := by
  induction n using Nat.strongRecOn with
  | ind n ih =>
    intro l i hn
    by_cases h1 : l.length ≤ 1
    · rw [mpath_one h1]; exact Nat.zero_le _
    · have h2 : 2 ≤ l.length := by omega
      have hs := spl_lt h2
      have hp := spl_pos l.length
      by_cases hi : i < spl l.length
      · have := ih (spl l.length) (by omega) (l.take (spl l.length)) i (by rw [List.length_take]; omega)
        rw [mpath_left h2 hi, List.length_append, List.length_singleton]; omega
      · have := ih (l.length - spl l.length) (by omega) (l.drop (spl l.length)) (i - spl l.length) (by rw [List.length_drop])
        rw [mpath_right h2 hi, List.length_append, List.length_singleton]; omega
theorem path_in (l : List (List (BitVec 8))) (i : Nat) (hi : i < l.length) : ∀ (w : World) (v : Value), l.length ≤ 1000 → (Fk.hc l).f v w → Tab w →
    Calls Tryd.prog 39 #[v, .int .i64 ((i : Nat) : Int)] w fun e w' => ∃ u, e = .returned u ∧ (Fk.ow w.heap.size (mpath l i)).f u w' ∧ Below w.heap.size w w' := by
  suffices H : ∀ (n : Nat) (l : List (List (BitVec 8))), l.length = n → ∀ (i : Nat), i < l.length → ∀ (w : World) (v : Value), l.length ≤ 1000 → (Fk.hc l).f v w → Tab w →
    Calls Tryd.prog 39 #[v, .int .i64 ((i : Nat) : Int)] w fun e w' => ∃ u, e = .returned u ∧ (Fk.ow w.heap.size (mpath l i)).f u w' ∧ Below w.heap.size w w' from H _ l rfl i hi
  clear hi i l
  intro n
  induction n using Nat.strongRecOn with
  | ind n ih0 =>
  intro l hn i hi w v h1000 hv hK
  have ih : ∀ (l' : List (List (BitVec 8))), l'.length < n → ∀ (i : Nat), i < l'.length → ∀ (w : World) (v : Value), l'.length ≤ 1000 → (Fk.hc l').f v w → Tab w →
    Calls Tryd.prog 39 #[v, .int .i64 ((i : Nat) : Int)] w fun e w' => ∃ u, e = .returned u ∧ (Fk.ow w.heap.size (mpath l' i)).f u w' ∧ Below w.heap.size w w' := fun l' hl' => ih0 _ hl' l' rfl
  clear ih0
  by_cases h1 : l.length = 1
  · skip
    go_enter Tryd.func39, Tryd.ntmps39
    refine code_both (fun f w1 => f.tmps.size = 39 ∧ f.defers = [] ∧ f.eval (.tmp 0) = v ∧ f.eval (.tmp 1) = .int .i64 ((i : Nat) : Int) ∧ Below w.heap.size w (w1)) ⟨rfl, rfl, rfl, rfl, Below.refl _ _⟩ ?_
    rintro f0 w0 ⟨sz, df, x0, x1, bl⟩
    have bl0 := bl
    refine wp_seq ?_
    refine wp_all_seq [.eq (.slice none 0 0)] (by kernel_rfl) (by kernel_rfl) (by rw [sz]; kernel_rfl) (by kernel_rfl) ⟨fun hw ac u K => ?_, trivial⟩ ?_
    · exact st_assign (.const (.slice none 0 0)) rfl rfl
    intro f1 w1 A hb
    replace bl0 := bl
    replace x0 := (A.old 0 rfl).trans x0
    replace x1 := (A.old 1 rfl).trans x1
    have x4 : f1.eval (.tmp 4) = .slice none 0 0 := A.has 0 4 rfl
    replace bl := (bl.trans (Below.mono hb bl.size))
    replace sz := A.size.trans sz
    replace df := A.defs.trans df
    clear A hb
    show Code.wp _ _ _ _ _
    refine wp_seq ?_
    refine wp_seq ?_
    refine wp_all_seq [.eq (v), .eq (.int .i64 (((l).length : Nat) : Int)), .eq (.bool true)] (by kernel_rfl) (by kernel_rfl) (by rw [sz]; kernel_rfl) (by kernel_rfl) ⟨fun hw ac u K => ?_, fun hw ac u K => ?_, fun hw ac u K => ?_, trivial⟩ ?_
    · exact st_move (.tmp 0) rfl ((K.old 0 rfl).trans x0)
    · exact st_lenc (.tmp 6) rfl ((l).length) rfl (fk_val (K.dep 0 6 rfl) (Fk.mono _ _ _ _ hv (bl.trans (Below.mono K.grow bl.size))))
    · exact st_eqi 3 (.tmp 7) (.const (.int .i64 1)) rfl .i64 ((((l).length : Nat) : Int)) (1) (K.dep 1 7 rfl) rfl _ (by rw [eq_comm, decide_eq_true_iff]; omega)
    intro f2 w2 A hb
    replace bl0 := bl
    replace x0 := (A.old 0 rfl).trans x0
    replace x1 := (A.old 1 rfl).trans x1
    replace x4 := (A.old 4 rfl).trans x4
    have x8 : f2.eval (.tmp 8) = .bool true := A.has 2 8 rfl
    replace bl := (bl.trans (Below.mono hb bl.size))
    replace sz := A.size.trans sz
    replace df := A.defs.trans df
    clear A hb
    show Code.wp _ _ _ _ _
    refine wp_cond_true x8 ?_
    refine wp_seq ?_
    refine wp_all_seq [.eq (.slice none 0 0)] (by kernel_rfl) (by kernel_rfl) (by rw [sz]; kernel_rfl) (by kernel_rfl) ⟨fun hw ac u K => ?_, trivial⟩ ?_
    · exact st_assign (.const (.slice none 0 0)) rfl rfl
    intro f3 w3 A hb
    replace bl0 := bl
    replace x0 := (A.old 0 rfl).trans x0
    replace x1 := (A.old 1 rfl).trans x1
    clear x4
    replace x8 := (A.old 8 rfl).trans x8
    have x4 : f3.eval (.tmp 4) = .slice none 0 0 := A.has 0 4 rfl
    replace bl := (bl.trans (Below.mono hb bl.size))
    replace sz := A.size.trans sz
    replace df := A.defs.trans df
    clear A hb
    show Code.wp _ _ _ _ _
    refine wp_ret ?_
    repeat (first | with_reducible refine then_ret ?_ | with_reducible refine block_ret ?_)
    rw [mpath_one (by omega)]
    exact bodyPost_ret (v := .slice none 0 0) (ret_slot rfl f3 _ x4 _ _) df ⟨_, rfl, ow_nil _ _, bl⟩
  · skip
    have h2 : 2 ≤ l.length := by omega
    obtain ⟨k, hk⟩ : ∃ k, spl l.length = k := ⟨_, rfl⟩
    have hk1 : k < l.length := by rw [← hk]; exact spl_lt h2
    have hk2 : 1 ≤ k := by rw [← hk]; exact spl_pos _
    obtain ⟨y1, ey1⟩ : ∃ p, Box (mroot (l.take k) = p) := ⟨_, ⟨rfl⟩⟩
    obtain ⟨y2, ey2⟩ : ∃ p, Box (mroot (l.drop k) = p) := ⟨_, ⟨rfl⟩⟩
    have hy1 : y1.length = 32 := by rw [← ey1.out]; exact mroot_len (fun x hx => hc_len hv x (List.mem_of_mem_take hx))
    have hy2 : y2.length = 32 := by rw [← ey2.out]; exact mroot_len (fun x hx => hc_len hv x (List.mem_of_mem_drop hx))
    go_enter Tryd.func39, Tryd.ntmps39
    refine code_both (fun f w1 => f.tmps.size = 39 ∧ f.defers = [] ∧ f.eval (.tmp 0) = v ∧ f.eval (.tmp 1) = .int .i64 ((i : Nat) : Int) ∧ Below w.heap.size w (w1)) ⟨rfl, rfl, rfl, rfl, Below.refl _ _⟩ ?_
    rintro f0 w0 ⟨sz, df, x0, x1, bl⟩
    have bl0 := bl
    refine wp_seq ?_
    refine wp_all_seq [.eq (.slice none 0 0)] (by kernel_rfl) (by kernel_rfl) (by rw [sz]; kernel_rfl) (by kernel_rfl) ⟨fun hw ac u K => ?_, trivial⟩ ?_
    · exact st_assign (.const (.slice none 0 0)) rfl rfl
    intro f1 w1 A hb
    replace bl0 := bl
    replace x0 := (A.old 0 rfl).trans x0
    replace x1 := (A.old 1 rfl).trans x1
    have x4 : f1.eval (.tmp 4) = .slice none 0 0 := A.has 0 4 rfl
    replace bl := (bl.trans (Below.mono hb bl.size))
    replace sz := A.size.trans sz
    replace df := A.defs.trans df
    clear A hb
    show Code.wp _ _ _ _ _
    refine wp_seq ?_
    refine wp_seq ?_
    refine wp_all_seq [.eq (v), .eq (.int .i64 (((l).length : Nat) : Int)), .eq (.bool false)] (by kernel_rfl) (by kernel_rfl) (by rw [sz]; kernel_rfl) (by kernel_rfl) ⟨fun hw ac u K => ?_, fun hw ac u K => ?_, fun hw ac u K => ?_, trivial⟩ ?_
    · exact st_move (.tmp 0) rfl ((K.old 0 rfl).trans x0)
    · exact st_lenc (.tmp 6) rfl ((l).length) rfl (fk_val (K.dep 0 6 rfl) (Fk.mono _ _ _ _ hv (bl.trans (Below.mono K.grow bl.size))))
    · exact st_eqi 3 (.tmp 7) (.const (.int .i64 1)) rfl .i64 ((((l).length : Nat) : Int)) (1) (K.dep 1 7 rfl) rfl _ (by rw [eq_comm, decide_eq_false_iff_not]; omega)
    intro f2 w2 A hb
    replace bl0 := bl
    replace x0 := (A.old 0 rfl).trans x0
    replace x1 := (A.old 1 rfl).trans x1
    replace x4 := (A.old 4 rfl).trans x4
    have x8 : f2.eval (.tmp 8) = .bool false := A.has 2 8 rfl
    replace bl := (bl.trans (Below.mono hb bl.size))
    replace sz := A.size.trans sz
    replace df := A.defs.trans df
    clear A hb
    show Code.wp _ _ _ _ _
    refine wp_cond_false x8 ?_
    refine wp_skip ?_
    show Code.wp _ _ _ _ _
    refine wp_seq ?_
    refine wp_all_seq [.eq (v), .eq (.int .i64 (((l).length : Nat) : Int)), .eq (.int .i64 ((k : Nat) : Int)), .eq (.int .i64 ((k : Nat) : Int))] (by kernel_rfl) (by kernel_rfl) (by rw [sz]; kernel_rfl) (by kernel_rfl) ⟨fun hw ac u K => ?_, fun hw ac u K => ?_, fun hw ac u K => ?_, fun hw ac u K => ?_, trivial⟩ ?_
    · exact st_move (.tmp 0) rfl ((K.old 0 rfl).trans x0)
    · exact st_lenc (.tmp 9) rfl ((l).length) rfl (fk_val (K.dep 0 9 rfl) (Fk.mono _ _ _ _ hv (bl.trans (Below.mono K.grow bl.size))))
    · exact st_call 35 (.func 35) _ _ #[.int .i64 (((l).length : Nat) : Int)] rfl rfl (one_arg (K.dep 1 10 rfl)) Tryd.enter35 (by rw [← hk]; exact fk_of (split_hi l.length (by omega) (by omega) _))
    · exact st_assign (.tmp 11) rfl (K.dep 2 11 rfl)
    intro f3 w3 A hb
    replace bl0 := bl
    replace x0 := (A.old 0 rfl).trans x0
    replace x1 := (A.old 1 rfl).trans x1
    replace x4 := (A.old 4 rfl).trans x4
    replace x8 := (A.old 8 rfl).trans x8
    have x5 : f3.eval (.tmp 5) = .int .i64 ((k : Nat) : Int) := A.has 3 5 rfl
    replace bl := (bl.trans (Below.mono hb bl.size))
    replace sz := A.size.trans sz
    replace df := A.defs.trans df
    clear A hb
    show Code.wp _ _ _ _ _
    refine wp_seq ?_
    refine wp_seq ?_
    by_cases hik : i < k
    rotate_left
    · skip
      have hl1 := mpath_len _ (l.drop k) (i - k) rfl
      rw [List.length_drop] at hl1
      refine wp_all_seq [.eq (.int .i64 ((i : Nat) : Int)), .eq (.int .i64 ((k : Nat) : Int)), .eq (.bool false)] (by kernel_rfl) (by kernel_rfl) (by rw [sz]; kernel_rfl) (by kernel_rfl) ⟨fun hw ac u K => ?_, fun hw ac u K => ?_, fun hw ac u K => ?_, trivial⟩ ?_
      · exact st_move (.tmp 1) rfl ((K.old 1 rfl).trans x1)
      · exact st_move (.tmp 5) rfl ((K.old 5 rfl).trans x5)
      · exact st_lss 3 (.tmp 12) (.tmp 13) rfl .i64 (((i : Nat) : Int)) (((k : Nat) : Int)) (K.dep 0 12 rfl) (K.dep 1 13 rfl) _ (by first | (simp; done) | (simp; omega))
      intro f4 w4 A hb
      replace bl0 := bl
      replace x0 := (A.old 0 rfl).trans x0
      replace x1 := (A.old 1 rfl).trans x1
      replace x4 := (A.old 4 rfl).trans x4
      replace x8 := (A.old 8 rfl).trans x8
      replace x5 := (A.old 5 rfl).trans x5
      have x14 : f4.eval (.tmp 14) = .bool false := A.has 2 14 rfl
      replace bl := (bl.trans (Below.mono hb bl.size))
      replace sz := A.size.trans sz
      replace df := A.defs.trans df
      clear A hb
      show Code.wp _ _ _ _ _
      refine wp_cond_false x14 ?_
      refine wp_skip ?_
      show Code.wp _ _ _ _ _
      refine wp_seq ?_
      refine wp_region_tail [.eq (v), .eq (.int .i64 ((k : Nat) : Int)), .hc ((l).drop (k)), .eq (.int .i64 ((i : Nat) : Int)), .eq (.int .i64 ((k : Nat) : Int)), .eq (.int .i64 ((i - k : Nat) : Int)), .ow w.heap.size (mpath (l.drop k) (i - k)), .eq (v), .eq (.int .i64 ((k : Nat) : Int)), .hc ((l).take (k)), .eq (.agg ((y1).map V).toArray), .hs ([y1])] [12, 13] Tryd.mixed (by kernel_rfl) (by kernel_rfl) (by kernel_rfl) (by kernel_rfl) (by rw [sz]; kernel_rfl) (by kernel_rfl) ⟨fun hw ac u K => ?_, fun hw ac u K => ?_, fun hw ac u K => ?_, fun hw ac u K => ?_, fun hw ac u K => ?_, fun hw ac u K => ?_, fun hw ac u K => ?_, fun hw ac u K => ?_, fun hw ac u K => ?_, fun hw ac u K => ?_, fun hw ac u K => ?_, fun hw ac u K => ?_, trivial⟩ ?_
      · exact st_move (.tmp 0) rfl ((K.old 0 rfl).trans x0)
      · exact st_move (.tmp 5) rfl ((K.old 5 rfl).trans x5)
      · exact st_restc (.tmp 26) (.tmp 27) rfl (fk_val (K.dep 0 26 rfl) (Fk.mono _ _ _ _ hv (bl.trans (Below.mono K.grow bl.size)))) (k) (K.dep 1 27 rfl) (by omega)
      · exact st_move (.tmp 1) rfl ((K.old 1 rfl).trans x1)
      · exact st_move (.tmp 5) rfl ((K.old 5 rfl).trans x5)
      · exact st_sub (.tmp 29) (.tmp 30) rfl (i) (k) (i - k) (K.dep 3 29 rfl) (K.dep 4 30 rfl) (by omega) (by omega)
      · exact st_call 39 (.func 39) _ _ #[ac.eval (.tmp 28), .int .i64 ((i - k : Nat) : Int)] rfl rfl (arg2 rfl (K.dep 5 31 rfl)) Tryd.enter39 (fk_ow (bl.trans (Below.mono K.grow bl.size)).size (ih (l.drop k) (by rw [List.length_drop]; omega) (i - k) (by rw [List.length_drop]; omega) _ _ (by rw [List.length_drop]; omega) (K.dep 2 28 rfl) (hK.below (bl.trans (Below.mono K.grow bl.size)))))
      · exact st_move (.tmp 0) rfl ((K.old 0 rfl).trans x0)
      · exact st_move (.tmp 5) rfl ((K.old 5 rfl).trans x5)
      · exact st_cuth (.tmp 33) (.tmp 34) rfl (fk_val (K.dep 7 33 rfl) (Fk.mono _ _ _ _ hv (bl.trans (Below.mono K.grow bl.size)))) (k) (K.dep 8 34 rfl) (by omega)
      · exact st_call 19 (.func 19) _ _ #[ac.eval (.tmp 35)] rfl rfl (one_arg rfl) Tryd.enter19 (fk_of (root_any (l.take k) _ _ (by rw [List.length_take]; omega) (K.dep 9 35 rfl) (hK.below (bl.trans (Below.mono K.grow bl.size))) ey1))
      · exact st_bh1 (.tmp 36) rfl hy1 (K.dep 10 36 rfl)
      intro f5 w5 A hb
      replace bl0 := bl
      replace x0 := (A.old 0 rfl).trans x0
      replace x1 := (A.old 1 rfl).trans x1
      replace x4 := (A.old 4 rfl).trans x4
      replace x8 := (A.old 8 rfl).trans x8
      replace x5 := (A.old 5 rfl).trans x5
      replace x14 := (A.old 14 rfl).trans x14
      have x32 : Fk.f (.ow w.heap.size (mpath (l.drop k) (i - k))) (f5.eval (.tmp 32)) w5 := A.has 6 32 rfl
      have x37 : Fk.f (.hs ([y1])) (f5.eval (.tmp 37)) w5 := A.has 11 37 rfl
      replace bl := (bl.trans (Below.mono hb bl.size))
      replace sz := A.size.trans sz
      replace df := A.defs.trans df
      clear A hb
      refine wl_append rfl (.tmp 32) (.tmp 37) rfl 38 rfl (by rw [sz]; decide) x32 x37 bl (by omega) ?_
      intro f6 w6 df2 sz2 old2 new2 bl2
      clear x32
      clear x37
      replace x0 := (old2 0 rfl).trans x0
      replace x1 := (old2 1 rfl).trans x1
      replace x4 := (old2 4 rfl).trans x4
      replace x8 := (old2 8 rfl).trans x8
      replace x5 := (old2 5 rfl).trans x5
      replace x14 := (old2 14 rfl).trans x14
      have x38 : Fk.f (.ow w.heap.size (mpath (l.drop k) (i - k) ++ [y1])) (f6.eval (.tmp 38)) w6 := new2
      replace bl := bl2
      replace bl0 := bl
      replace sz := sz2.trans sz
      replace df := df2.trans df
      clear df2 sz2 old2 new2 bl2
      refine wl_one (.ow w.heap.size (mpath (l.drop k) (i - k) ++ [y1])) rfl 4 rfl (by rw [sz]; decide) (st_assign (.tmp 38) rfl x38) ?_
      intro f7 w7 df2 sz2 old2 new2 hb
      replace bl0 := bl
      replace x0 := (old2 0 rfl).trans x0
      replace x1 := (old2 1 rfl).trans x1
      clear x4
      replace x8 := (old2 8 rfl).trans x8
      replace x5 := (old2 5 rfl).trans x5
      replace x14 := (old2 14 rfl).trans x14
      replace x38 := f_at (old2 38 rfl) (Fk.mono _ _ _ _ x38 hb)
      have x4 : Fk.f (.ow w.heap.size (mpath (l.drop k) (i - k) ++ [y1])) (f7.eval (.tmp 4)) w7 := new2
      replace bl := (bl.trans (Below.mono hb bl.size))
      replace sz := sz2.trans sz
      replace df := df2.trans df
      clear df2 sz2 old2 new2 hb
      refine wpList_nil ?_
      clear x38
      show Code.wp _ _ _ _ _
      refine wp_ret ?_
      repeat (first | with_reducible refine then_ret ?_ | with_reducible refine block_ret ?_)
      rw [mpath_right h2 (by rw [hk]; exact hik), hk, ey1.out]
      exact bodyPost_ret (v := f7.eval (.tmp 4)) (ret_slot rfl f7 _ rfl _ _) df ⟨_, rfl, x4, bl⟩
    have hl1 := mpath_len _ (l.take k) i rfl
    rw [List.length_take] at hl1
    refine wp_all_seq [.eq (.int .i64 ((i : Nat) : Int)), .eq (.int .i64 ((k : Nat) : Int)), .eq (.bool true)] (by kernel_rfl) (by kernel_rfl) (by rw [sz]; kernel_rfl) (by kernel_rfl) ⟨fun hw ac u K => ?_, fun hw ac u K => ?_, fun hw ac u K => ?_, trivial⟩ ?_
    · exact st_move (.tmp 1) rfl ((K.old 1 rfl).trans x1)
    · exact st_move (.tmp 5) rfl ((K.old 5 rfl).trans x5)
    · exact st_lss 3 (.tmp 12) (.tmp 13) rfl .i64 (((i : Nat) : Int)) (((k : Nat) : Int)) (K.dep 0 12 rfl) (K.dep 1 13 rfl) _ (by first | (simp; done) | (simp; omega))
    intro f4 w4 A hb
    replace bl0 := bl
    replace x0 := (A.old 0 rfl).trans x0
    replace x1 := (A.old 1 rfl).trans x1
    replace x4 := (A.old 4 rfl).trans x4
    replace x8 := (A.old 8 rfl).trans x8
    replace x5 := (A.old 5 rfl).trans x5
    have x14 : f4.eval (.tmp 14) = .bool true := A.has 2 14 rfl
    replace bl := (bl.trans (Below.mono hb bl.size))
    replace sz := A.size.trans sz
    replace df := A.defs.trans df
    clear A hb
    show Code.wp _ _ _ _ _
    refine wp_cond_true x14 ?_
    refine wp_seq ?_
    refine wp_region_tail [.eq (v), .eq (.int .i64 ((k : Nat) : Int)), .hc ((l).take (k)), .eq (.int .i64 ((i : Nat) : Int)), .ow w.heap.size (mpath (l.take k) i), .eq (v), .eq (.int .i64 ((k : Nat) : Int)), .hc ((l).drop (k)), .eq (.agg ((y2).map V).toArray), .hs ([y2])] [10, 11] Tryd.mixed (by kernel_rfl) (by kernel_rfl) (by kernel_rfl) (by kernel_rfl) (by rw [sz]; kernel_rfl) (by kernel_rfl) ⟨fun hw ac u K => ?_, fun hw ac u K => ?_, fun hw ac u K => ?_, fun hw ac u K => ?_, fun hw ac u K => ?_, fun hw ac u K => ?_, fun hw ac u K => ?_, fun hw ac u K => ?_, fun hw ac u K => ?_, fun hw ac u K => ?_, trivial⟩ ?_
    · exact st_move (.tmp 0) rfl ((K.old 0 rfl).trans x0)
    · exact st_move (.tmp 5) rfl ((K.old 5 rfl).trans x5)
    · exact st_cuth (.tmp 15) (.tmp 16) rfl (fk_val (K.dep 0 15 rfl) (Fk.mono _ _ _ _ hv (bl.trans (Below.mono K.grow bl.size)))) (k) (K.dep 1 16 rfl) (by omega)
    · exact st_move (.tmp 1) rfl ((K.old 1 rfl).trans x1)
    · exact st_call 39 (.func 39) _ _ #[ac.eval (.tmp 17), .int .i64 ((i : Nat) : Int)] rfl rfl (arg2 rfl (K.dep 3 18 rfl)) Tryd.enter39 (fk_ow (bl.trans (Below.mono K.grow bl.size)).size (ih (l.take k) (by rw [List.length_take]; omega) i (by rw [List.length_take]; omega) _ _ (by rw [List.length_take]; omega) (K.dep 2 17 rfl) (hK.below (bl.trans (Below.mono K.grow bl.size)))))
    · exact st_move (.tmp 0) rfl ((K.old 0 rfl).trans x0)
    · exact st_move (.tmp 5) rfl ((K.old 5 rfl).trans x5)
    · exact st_restc (.tmp 20) (.tmp 21) rfl (fk_val (K.dep 5 20 rfl) (Fk.mono _ _ _ _ hv (bl.trans (Below.mono K.grow bl.size)))) (k) (K.dep 6 21 rfl) (by omega)
    · exact st_call 19 (.func 19) _ _ #[ac.eval (.tmp 22)] rfl rfl (one_arg rfl) Tryd.enter19 (fk_of (root_any (l.drop k) _ _ (by rw [List.length_drop]; omega) (K.dep 7 22 rfl) (hK.below (bl.trans (Below.mono K.grow bl.size))) ey2))
    · exact st_bh1 (.tmp 23) rfl hy2 (K.dep 8 23 rfl)
    intro f5 w5 A hb
    replace bl0 := bl
    replace x0 := (A.old 0 rfl).trans x0
    replace x1 := (A.old 1 rfl).trans x1
    replace x4 := (A.old 4 rfl).trans x4
    replace x8 := (A.old 8 rfl).trans x8
    replace x5 := (A.old 5 rfl).trans x5
    replace x14 := (A.old 14 rfl).trans x14
    have x19 : Fk.f (.ow w.heap.size (mpath (l.take k) i)) (f5.eval (.tmp 19)) w5 := A.has 4 19 rfl
    have x24 : Fk.f (.hs ([y2])) (f5.eval (.tmp 24)) w5 := A.has 9 24 rfl
    replace bl := (bl.trans (Below.mono hb bl.size))
    replace sz := A.size.trans sz
    replace df := A.defs.trans df
    clear A hb
    refine wl_append rfl (.tmp 19) (.tmp 24) rfl 25 rfl (by rw [sz]; decide) x19 x24 bl (by omega) ?_
    intro f6 w6 df2 sz2 old2 new2 bl2
    clear x19
    clear x24
    replace x0 := (old2 0 rfl).trans x0
    replace x1 := (old2 1 rfl).trans x1
    replace x4 := (old2 4 rfl).trans x4
    replace x8 := (old2 8 rfl).trans x8
    replace x5 := (old2 5 rfl).trans x5
    replace x14 := (old2 14 rfl).trans x14
    have x25 : Fk.f (.ow w.heap.size (mpath (l.take k) i ++ [y2])) (f6.eval (.tmp 25)) w6 := new2
    replace bl := bl2
    replace bl0 := bl
    replace sz := sz2.trans sz
    replace df := df2.trans df
    clear df2 sz2 old2 new2 bl2
    refine wl_one (.ow w.heap.size (mpath (l.take k) i ++ [y2])) rfl 4 rfl (by rw [sz]; decide) (st_assign (.tmp 25) rfl x25) ?_
    intro f7 w7 df2 sz2 old2 new2 hb
    replace bl0 := bl
    replace x0 := (old2 0 rfl).trans x0
    replace x1 := (old2 1 rfl).trans x1
    clear x4
    replace x8 := (old2 8 rfl).trans x8
    replace x5 := (old2 5 rfl).trans x5
    replace x14 := (old2 14 rfl).trans x14
    replace x25 := f_at (old2 25 rfl) (Fk.mono _ _ _ _ x25 hb)
    have x4 : Fk.f (.ow w.heap.size (mpath (l.take k) i ++ [y2])) (f7.eval (.tmp 4)) w7 := new2
    replace bl := (bl.trans (Below.mono hb bl.size))
    replace sz := sz2.trans sz
    replace df := df2.trans df
    clear df2 sz2 old2 new2 hb
    refine wpList_nil ?_
    clear x25
    show Code.wp _ _ _ _ _
    refine wp_ret ?_
    repeat (first | with_reducible refine then_ret ?_ | with_reducible refine block_ret ?_)
    rw [mpath_left h2 (by rw [hk]; exact hik), hk, ey2.out]
    exact bodyPost_ret (v := f7.eval (.tmp 4)) (ret_slot rfl f7 _ rfl _ _) df ⟨_, rfl, x4, bl⟩
theorem path_ok {l : List (List (BitVec 8))} {i : Nat} (hi : i < l.length) (h1000 : l.length ≤ 1000) (w : World) {v : Value} (hv : (Fk.hc l).f v w) (hK : Tab w) :
    Calls Tryd.prog 23 #[v, .int .i64 ((i : Nat) : Int)] w fun e w' => ∃ u, e = .returned u ∧ (Fk.t2 (.ow w.heap.size (mpath l i)) (.int .i64 0)).f u w' ∧ Below w.heap.size w w' := by
  go_enter Tryd.func23, Tryd.ntmps23
  refine code_both (fun f w1 => f.tmps.size = 17 ∧ f.defers = [] ∧ f.eval (.tmp 0) = v ∧ f.eval (.tmp 1) = .int .i64 ((i : Nat) : Int) ∧ Below w.heap.size w (w1)) ⟨rfl, rfl, rfl, rfl, Below.refl _ _⟩ ?_
  rintro f0 w0 ⟨sz, df, x0, x1, bl⟩
  have bl0 := bl
  refine wp_seq ?_
  refine wp_region_seq [] (by kernel_rfl) (by kernel_rfl) (by rw [sz]; kernel_rfl) (by kernel_rfl) trivial ?_
  intro f1 w1 A hb
  replace bl0 := bl
  replace x0 := (A.old 0 rfl).trans x0
  replace x1 := (A.old 1 rfl).trans x1
  replace bl := (bl.trans (Below.mono hb bl.size))
  replace sz := A.size.trans sz
  replace df := A.defs.trans df
  clear A hb
  refine wl_one (.eq (.slice none 0 0)) rfl 4 rfl (by rw [sz]; decide) (st_assign (.const (.slice none 0 0)) rfl rfl) ?_
  intro f2 w2 df2 sz2 old2 new2 hb
  replace bl0 := bl
  replace x0 := (old2 0 rfl).trans x0
  replace x1 := (old2 1 rfl).trans x1
  have x4 : f2.eval (.tmp 4) = .slice none 0 0 := new2
  replace bl := (bl.trans (Below.mono hb bl.size))
  replace sz := sz2.trans sz
  replace df := df2.trans df
  clear df2 sz2 old2 new2 hb
  refine wl_one (.eq (.int .i64 0)) rfl 5 rfl (by rw [sz]; decide) (st_assign (.const (.int .i64 0)) rfl rfl) ?_
  intro f3 w3 df2 sz2 old2 new2 hb
  replace bl0 := bl
  replace x0 := (old2 0 rfl).trans x0
  replace x1 := (old2 1 rfl).trans x1
  replace x4 := (old2 4 rfl).trans x4
  have x5 : f3.eval (.tmp 5) = .int .i64 0 := new2
  replace bl := (bl.trans (Below.mono hb bl.size))
  replace sz := sz2.trans sz
  replace df := df2.trans df
  clear df2 sz2 old2 new2 hb
  refine wpList_nil ?_
  show Code.wp _ _ _ _ _
  refine wp_seq ?_
  refine wp_seq ?_
  refine wp_all_seq [.eq (.int .i64 ((i : Nat) : Int)), .eq (.bool false), .eq (.bool false), .eq (.int .i64 ((i : Nat) : Int)), .eq (v), .eq (.int .i64 (((l).length : Nat) : Int)), .eq (.bool false), .eq (.bool false)] (by kernel_rfl) (by kernel_rfl) (by rw [sz]; kernel_rfl) (by kernel_rfl) ⟨fun hw ac u K => ?_, fun hw ac u K => ?_, fun hw ac u K => ?_, fun hw ac u K => ?_, fun hw ac u K => ?_, fun hw ac u K => ?_, fun hw ac u K => ?_, fun hw ac u K => ?_, trivial⟩ ?_
  · exact st_move (.tmp 1) rfl ((K.old 1 rfl).trans x1)
  · exact st_lss 3 (.tmp 6) (.const (.int .i64 0)) rfl .i64 (((i : Nat) : Int)) (0) (K.dep 0 6 rfl) rfl _ (by rw [eq_comm, decide_eq_false_iff_not]; omega)
  · exact st_move (.tmp 7) rfl (K.dep 1 7 rfl)
  · exact st_move (.tmp 1) rfl ((K.old 1 rfl).trans x1)
  · exact st_move (.tmp 0) rfl ((K.old 0 rfl).trans x0)
  · exact st_lenc (.tmp 10) rfl ((l).length) rfl (fk_val (K.dep 4 10 rfl) (Fk.mono _ _ _ _ hv (bl.trans (Below.mono K.grow bl.size))))
  · exact st_geq 3 (.tmp 9) (.tmp 11) rfl .i64 (((i : Nat) : Int)) ((((l).length : Nat) : Int)) (K.dep 3 9 rfl) (K.dep 5 11 rfl) _ (by rw [eq_comm, decide_eq_false_iff_not]; omega)
  · exact st_pick_f' (.tmp 8) (.const (.bool true)) (.tmp 12) rfl (K.dep 2 8 rfl) (K.dep 6 12 rfl)
  intro f4 w4 A hb
  replace bl0 := bl
  replace x0 := (A.old 0 rfl).trans x0
  replace x1 := (A.old 1 rfl).trans x1
  replace x4 := (A.old 4 rfl).trans x4
  replace x5 := (A.old 5 rfl).trans x5
  have x13 : f4.eval (.tmp 13) = .bool false := A.has 7 13 rfl
  replace bl := (bl.trans (Below.mono hb bl.size))
  replace sz := A.size.trans sz
  replace df := A.defs.trans df
  clear A hb
  show Code.wp _ _ _ _ _
  refine wp_cond_false x13 ?_
  refine wp_skip ?_
  show Code.wp _ _ _ _ _
  refine wp_seq ?_
  refine wp_all_seq [.eq (v), .eq (.int .i64 ((i : Nat) : Int)), .ow w.heap.size (mpath l i), .ow w.heap.size (mpath l i), .eq (.int .i64 0)] (by kernel_rfl) (by kernel_rfl) (by rw [sz]; kernel_rfl) (by kernel_rfl) ⟨fun hw ac u K => ?_, fun hw ac u K => ?_, fun hw ac u K => ?_, fun hw ac u K => ?_, fun hw ac u K => ?_, trivial⟩ ?_
  · exact st_move (.tmp 0) rfl ((K.old 0 rfl).trans x0)
  · exact st_move (.tmp 1) rfl ((K.old 1 rfl).trans x1)
  · exact st_call 39 (.func 39) _ _ #[v, .int .i64 ((i : Nat) : Int)] rfl rfl (arg2 (K.dep 0 14 rfl) (K.dep 1 15 rfl)) Tryd.enter39 (fk_ow (bl.trans (Below.mono K.grow bl.size)).size (path_in l i hi _ _ h1000 (Fk.mono _ _ _ _ hv (bl.trans (Below.mono K.grow bl.size))) (hK.below (bl.trans (Below.mono K.grow bl.size)))))
  · exact st_assign (.tmp 16) rfl (K.dep 2 16 rfl)
  · exact st_assign (.const (.int .i64 0)) rfl rfl
  intro f5 w5 A hb
  replace bl0 := bl
  replace x0 := (A.old 0 rfl).trans x0
  replace x1 := (A.old 1 rfl).trans x1
  clear x4
  clear x5
  replace x13 := (A.old 13 rfl).trans x13
  have x4 : Fk.f (.ow w.heap.size (mpath l i)) (f5.eval (.tmp 4)) w5 := A.has 3 4 rfl
  have x5 : f5.eval (.tmp 5) = .int .i64 0 := A.has 4 5 rfl
  replace bl := (bl.trans (Below.mono hb bl.size))
  replace sz := A.size.trans sz
  replace df := A.defs.trans df
  clear A hb
  show Code.wp _ _ _ _ _
  refine wp_ret ?_
  repeat (first | with_reducible refine then_ret ?_ | with_reducible refine block_ret ?_)
  exact bodyPost_ret (v := .tuple #[f5.eval (.tmp 4), .int .i64 0]) (ret_two rfl f5 _ _ rfl x5 _ _) df ⟨_, rfl, ⟨_, rfl, x4⟩, bl⟩
end Go.Proofs.YtfmeeimhfdnjpaaDoor
namespace Go.Proofs.YtfmeeimhfdnjpaaDoor
set_option maxRecDepth 100000
open Go.RowKit
theorem fk_pathx {l : List (List (BitVec 8))} {i : Nat} (hi : i < l.length) (h1000 : l.length ≤ 1000) (w : World) {v : Value} (hv : (Fk.hc l).f v w) (hK : Tab w) :
    Calls Tryd.prog 23 #[v, .int .i64 ((i : Nat) : Int)] w fun e w' => ∃ u, e = .returned u ∧ (Fk.t2 (.hc (mpath l i)) (.int .i64 0)).f u w' ∧ Below w.heap.size w w' := by
  refine (path_ok hi h1000 w hv hK).mono ?_
  rintro e w' ⟨u, rfl, ⟨v2, e2, h2⟩, hb⟩
  exact ⟨u, rfl, ⟨v2, e2, ow_hc h2⟩, hb⟩
theorem lists_len {pa pb : List Pt} (hsa : smallP pa) (hsb : smallP pb) {w : World} {va vb : Value} (ha : (Fk.mc pa).f va w) (hb : (Fk.mc pb).f vb w) (_hK : Tab w) (hlen : pa.length ≠ pb.length) :
    Calls Tryd.prog 12 #[va, vb] w fun e w' => ∃ u, e = .returned u ∧ (Fk.c2 false).f u w' ∧ Below w.heap.size w w' := by
  have ham := ha.1
  have hbm := hb.1
  have h40 := hsa.2
  have h41 := hsb.2
  go_enter Tryd.func12, Tryd.ntmps12
  refine code_both (fun f w1 => f.tmps.size = 49 ∧ f.defers = [] ∧ f.eval (.tmp 0) = va ∧ f.eval (.tmp 1) = vb ∧ Below w.heap.size w (w1)) ⟨rfl, rfl, rfl, rfl, Below.refl _ _⟩ ?_
  rintro f0 w0 ⟨sz, df, x0, x1, bl⟩
  have bl0 := bl
  refine wp_seq ?_
  refine wp_region_seq [] (by kernel_rfl) (by kernel_rfl) (by rw [sz]; kernel_rfl) (by kernel_rfl) trivial ?_
  intro f1 w1 A hb
  replace bl0 := bl
  replace x0 := (A.old 0 rfl).trans x0
  replace x1 := (A.old 1 rfl).trans x1
  replace bl := (bl.trans (Below.mono hb bl.size))
  replace sz := A.size.trans sz
  replace df := A.defs.trans df
  clear A hb
  refine wl_one (.nw w1.heap.size 25 [.slice none 0 0, .slice none 0 0]) rfl 4 rfl (by rw [sz]; decide) (st_alloc 25 rfl _ _ (by kernel_rfl) (Nat.le_refl _)) ?_
  intro f2 w2 df2 sz2 old2 new2 hb
  replace bl0 := bl
  replace x0 := (old2 0 rfl).trans x0
  replace x1 := (old2 1 rfl).trans x1
  have x4 : Fk.f (.nw w1.heap.size 25 [.slice none 0 0, .slice none 0 0]) (f2.eval (.tmp 4)) w2 := new2
  replace bl := (bl.trans (Below.mono hb bl.size))
  replace sz := sz2.trans sz
  replace df := df2.trans df
  clear df2 sz2 old2 new2 hb
  obtain ⟨g4, hg4, e4, m4⟩ := x4
  have x4 := e4
  clear e4
  have hw4 : w.heap.size ≤ g4 := Nat.le_trans bl0.size hg4
  refine wl_one (.eq (.bool false)) rfl 5 rfl (by rw [sz]; decide) (st_assign (.const (.bool false)) rfl rfl) ?_
  intro f3 w3 df2 sz2 old2 new2 hb
  replace bl0 := bl
  replace x0 := (old2 0 rfl).trans x0
  replace x1 := (old2 1 rfl).trans x1
  replace x4 := (old2 4 rfl).trans x4
  have x5 : f3.eval (.tmp 5) = .bool false := new2
  have lt_m4 := Ob.lt m4
  replace m4 := Ob.below m4 hb
  replace bl := (bl.trans (Below.mono hb bl.size))
  replace sz := sz2.trans sz
  replace df := df2.trans df
  clear df2 sz2 old2 new2 hb
  refine wpList_nil ?_
  show Code.wp _ _ _ _ _
  refine wp_seq ?_
  refine wp_seq ?_
  refine wp_all_seq [.eq (va), .eq (.int .i64 (((pa).length : Nat) : Int)), .eq (vb), .eq (.int .i64 (((pb).length : Nat) : Int)), .eq (.bool true)] (by kernel_rfl) (by kernel_rfl) (by rw [sz]; kernel_rfl) (by kernel_rfl) ⟨fun hw ac u K => ?_, fun hw ac u K => ?_, fun hw ac u K => ?_, fun hw ac u K => ?_, fun hw ac u K => ?_, trivial⟩ ?_
  · exact st_move (.tmp 0) rfl ((K.old 0 rfl).trans x0)
  · exact st_lenm (.tmp 10) rfl (fk_val (K.dep 0 10 rfl) (Fk.mono _ _ _ _ ham (bl.trans (Below.mono K.grow bl.size))))
  · exact st_move (.tmp 1) rfl ((K.old 1 rfl).trans x1)
  · exact st_lenm (.tmp 12) rfl (fk_val (K.dep 2 12 rfl) (Fk.mono _ _ _ _ hbm (bl.trans (Below.mono K.grow bl.size))))
  · exact st_neqi 3 (.tmp 11) (.tmp 13) rfl .i64 ((((pa).length : Nat) : Int)) ((((pb).length : Nat) : Int)) (K.dep 1 11 rfl) (K.dep 3 13 rfl) _ (by symm; rw [decide_eq_true_iff]; exact (by omega))
  intro f4 w4 A hb
  replace bl0 := bl
  replace x0 := (A.old 0 rfl).trans x0
  replace x1 := (A.old 1 rfl).trans x1
  replace x4 := (A.old 4 rfl).trans x4
  replace x5 := (A.old 5 rfl).trans x5
  have x14 : f4.eval (.tmp 14) = .bool true := A.has 4 14 rfl
  have lt_m4 := Ob.lt m4
  replace m4 := Ob.below m4 hb
  replace bl := (bl.trans (Below.mono hb bl.size))
  replace sz := A.size.trans sz
  replace df := A.defs.trans df
  clear A hb
  show Code.wp _ _ _ _ _
  refine wp_cond_true x14 ?_
  refine wp_seq ?_
  refine wp_region_seq [.eq (.agg ([.slice none 0 0, .slice none 0 0] : List Value).toArray)] (by kernel_rfl) (by kernel_rfl) (by rw [sz]; kernel_rfl) (by kernel_rfl) ⟨fun hw ac u K => ?_, trivial⟩ ?_
  · exact st_build 25 _ rfl (by kernel_rfl)
  intro f5 w5 A hb
  replace bl0 := bl
  replace x0 := (A.old 0 rfl).trans x0
  replace x1 := (A.old 1 rfl).trans x1
  replace x4 := (A.old 4 rfl).trans x4
  replace x5 := (A.old 5 rfl).trans x5
  replace x14 := (A.old 14 rfl).trans x14
  have x15 : f5.eval (.tmp 15) = .agg ([.slice none 0 0, .slice none 0 0] : List Value).toArray := A.has 0 15 rfl
  have lt_m4 := Ob.lt m4
  replace m4 := Ob.below m4 hb
  replace bl := (bl.trans (Below.mono hb bl.size))
  replace sz := A.size.trans sz
  replace df := A.defs.trans df
  clear A hb
  refine wl_str rfl 25 (.tmp 4) (.tmp 15) rfl rfl (g4) ([.slice none 0 0, .slice none 0 0] : List Value).toArray x4 x15 25 _ m4 (by kernel_rfl) (by kernel_rfl) (by kernel_rfl) ?_
  replace m4 : Ob (w5.setRow g4 ([.slice none 0 0, .slice none 0 0] : List Value).toArray) (g4) 25 ([.slice none 0 0, .slice none 0 0]) := Ob.setRow m4 ([.slice none 0 0, .slice none 0 0])
  replace bl : Below w.heap.size w (w5.setRow g4 ([.slice none 0 0, .slice none 0 0] : List Value).toArray) := bl.trans (below_setRow _ _ _ _ hw4)
  generalize w5.setRow g4 ([.slice none 0 0, .slice none 0 0] : List Value).toArray = w6b at bl m4 ⊢
  clear x15
  refine wl_one (.eq (.bool false)) rfl 5 rfl (by rw [sz]; decide) (st_assign (.const (.bool false)) rfl rfl) ?_
  intro f7 w7 df2 sz2 old2 new2 hb
  replace bl0 := bl
  replace x0 := (old2 0 rfl).trans x0
  replace x1 := (old2 1 rfl).trans x1
  replace x4 := (old2 4 rfl).trans x4
  clear x5
  replace x14 := (old2 14 rfl).trans x14
  have x5 : f7.eval (.tmp 5) = .bool false := new2
  have lt_m4 := Ob.lt m4
  replace m4 := Ob.below m4 hb
  replace bl := (bl.trans (Below.mono hb bl.size))
  replace sz := sz2.trans sz
  replace df := df2.trans df
  clear df2 sz2 old2 new2 hb
  refine wpList_nil ?_
  show Code.wp _ _ _ _ _
  refine wp_ret ?_
  repeat (first | with_reducible refine then_ret ?_ | with_reducible refine block_ret ?_)
  exact bodyPost_ret (v := .tuple #[.agg ([.slice none 0 0, .slice none 0 0] : List Value).toArray, .bool false]) (ret_c2 rfl f7 _ g4 _ _ _ x4 m4 x5) df ⟨_, rfl, c2_none _, bl⟩
theorem lists_same {pa pb : List Pt} (hsa : smallP pa) (hsb : smallP pb) {w : World} {va vb : Value} (ha : (Fk.mc pa).f va w) (hb : (Fk.mc pb).f vb w) (_hK : Tab w) (hlen : pa.length = pb.length) (hall : (bys pa).take pa.length = (bys pb).take pa.length) :
    Calls Tryd.prog 12 #[va, vb] w fun e w' => ∃ u, e = .returned u ∧ (Fk.c2 false).f u w' ∧ Below w.heap.size w w' := by
  have ham := ha.1
  have hbm := hb.1
  have h40 := hsa.2
  have h41 := hsb.2
  go_enter Tryd.func12, Tryd.ntmps12
  refine code_both (fun f w1 => f.tmps.size = 49 ∧ f.defers = [] ∧ f.eval (.tmp 0) = va ∧ f.eval (.tmp 1) = vb ∧ Below w.heap.size w (w1)) ⟨rfl, rfl, rfl, rfl, Below.refl _ _⟩ ?_
  rintro f0 w0 ⟨sz, df, x0, x1, bl⟩
  have bl0 := bl
  refine wp_seq ?_
  refine wp_region_seq [] (by kernel_rfl) (by kernel_rfl) (by rw [sz]; kernel_rfl) (by kernel_rfl) trivial ?_
  intro f1 w1 A hb
  replace bl0 := bl
  replace x0 := (A.old 0 rfl).trans x0
  replace x1 := (A.old 1 rfl).trans x1
  replace bl := (bl.trans (Below.mono hb bl.size))
  replace sz := A.size.trans sz
  replace df := A.defs.trans df
  clear A hb
  refine wl_one (.nw w1.heap.size 25 [.slice none 0 0, .slice none 0 0]) rfl 4 rfl (by rw [sz]; decide) (st_alloc 25 rfl _ _ (by kernel_rfl) (Nat.le_refl _)) ?_
  intro f2 w2 df2 sz2 old2 new2 hb
  replace bl0 := bl
  replace x0 := (old2 0 rfl).trans x0
  replace x1 := (old2 1 rfl).trans x1
  have x4 : Fk.f (.nw w1.heap.size 25 [.slice none 0 0, .slice none 0 0]) (f2.eval (.tmp 4)) w2 := new2
  replace bl := (bl.trans (Below.mono hb bl.size))
  replace sz := sz2.trans sz
  replace df := df2.trans df
  clear df2 sz2 old2 new2 hb
  obtain ⟨g4, hg4, e4, m4⟩ := x4
  have x4 := e4
  clear e4
  have hw4 : w.heap.size ≤ g4 := Nat.le_trans bl0.size hg4
  refine wl_one (.eq (.bool false)) rfl 5 rfl (by rw [sz]; decide) (st_assign (.const (.bool false)) rfl rfl) ?_
  intro f3 w3 df2 sz2 old2 new2 hb
  replace bl0 := bl
  replace x0 := (old2 0 rfl).trans x0
  replace x1 := (old2 1 rfl).trans x1
  replace x4 := (old2 4 rfl).trans x4
  have x5 : f3.eval (.tmp 5) = .bool false := new2
  have lt_m4 := Ob.lt m4
  replace m4 := Ob.below m4 hb
  replace bl := (bl.trans (Below.mono hb bl.size))
  replace sz := sz2.trans sz
  replace df := df2.trans df
  clear df2 sz2 old2 new2 hb
  refine wpList_nil ?_
  show Code.wp _ _ _ _ _
  refine wp_seq ?_
  refine wp_seq ?_
  refine wp_all_seq [.eq (va), .eq (.int .i64 (((pa).length : Nat) : Int)), .eq (vb), .eq (.int .i64 (((pb).length : Nat) : Int)), .eq (.bool false)] (by kernel_rfl) (by kernel_rfl) (by rw [sz]; kernel_rfl) (by kernel_rfl) ⟨fun hw ac u K => ?_, fun hw ac u K => ?_, fun hw ac u K => ?_, fun hw ac u K => ?_, fun hw ac u K => ?_, trivial⟩ ?_
  · exact st_move (.tmp 0) rfl ((K.old 0 rfl).trans x0)
  · exact st_lenm (.tmp 10) rfl (fk_val (K.dep 0 10 rfl) (Fk.mono _ _ _ _ ham (bl.trans (Below.mono K.grow bl.size))))
  · exact st_move (.tmp 1) rfl ((K.old 1 rfl).trans x1)
  · exact st_lenm (.tmp 12) rfl (fk_val (K.dep 2 12 rfl) (Fk.mono _ _ _ _ hbm (bl.trans (Below.mono K.grow bl.size))))
  · exact st_neqi 3 (.tmp 11) (.tmp 13) rfl .i64 ((((pa).length : Nat) : Int)) ((((pb).length : Nat) : Int)) (K.dep 1 11 rfl) (K.dep 3 13 rfl) _ (by symm; rw [decide_eq_false_iff_not]; exact (by omega))
  intro f4 w4 A hb
  replace bl0 := bl
  replace x0 := (A.old 0 rfl).trans x0
  replace x1 := (A.old 1 rfl).trans x1
  replace x4 := (A.old 4 rfl).trans x4
  replace x5 := (A.old 5 rfl).trans x5
  have x14 : f4.eval (.tmp 14) = .bool false := A.has 4 14 rfl
  have lt_m4 := Ob.lt m4
  replace m4 := Ob.below m4 hb
  replace bl := (bl.trans (Below.mono hb bl.size))
  replace sz := A.size.trans sz
  replace df := A.defs.trans df
  clear A hb
  show Code.wp _ _ _ _ _
  refine wp_cond_false x14 ?_
  refine wp_skip ?_
  show Code.wp _ _ _ _ _
  refine wp_seq ?_
  refine wp_all_seq [.eq (va), .eq (vb), .eq (.tuple #[.int .i64 0, .bool false]), .eq (.tuple #[.int .i64 0, .bool false]), .eq (.int .i64 0), .eq (.bool false), .eq (.int .i64 0), .eq (.bool false)] (by kernel_rfl) (by kernel_rfl) (by rw [sz]; kernel_rfl) (by kernel_rfl) ⟨fun hw ac u K => ?_, fun hw ac u K => ?_, fun hw ac u K => ?_, fun hw ac u K => ?_, fun hw ac u K => ?_, fun hw ac u K => ?_, fun hw ac u K => ?_, fun hw ac u K => ?_, trivial⟩ ?_
  · exact st_move (.tmp 0) rfl ((K.old 0 rfl).trans x0)
  · exact st_move (.tmp 1) rfl ((K.old 1 rfl).trans x1)
  · exact st_call 27 (.func 27) _ _ #[va, vb] rfl rfl (arg2 (K.dep 0 17 rfl) (K.dep 1 18 rfl)) Tryd.enter27 (fk_of (parting_same (by omega) (by omega) (Fk.mono _ _ _ _ ham (bl.trans (Below.mono K.grow bl.size))) (Fk.mono _ _ _ _ hbm (bl.trans (Below.mono K.grow bl.size))) hall))
  · exact st_move (.tmp 19) rfl (K.dep 2 19 rfl)
  · exact st_tup (.tmp 16) rfl (K.dep 3 16 rfl) (by rfl)
  · exact st_tup (.tmp 16) rfl (K.dep 3 16 rfl) (by rfl)
  · exact st_assign (.tmp 20) rfl (K.dep 4 20 rfl)
  · exact st_assign (.tmp 21) rfl (K.dep 5 21 rfl)
  intro f5 w5 A hb
  replace bl0 := bl
  replace x0 := (A.old 0 rfl).trans x0
  replace x1 := (A.old 1 rfl).trans x1
  replace x4 := (A.old 4 rfl).trans x4
  replace x5 := (A.old 5 rfl).trans x5
  replace x14 := (A.old 14 rfl).trans x14
  have x6 : f5.eval (.tmp 6) = .int .i64 0 := A.has 6 6 rfl
  have x7 : f5.eval (.tmp 7) = .bool false := A.has 7 7 rfl
  have lt_m4 := Ob.lt m4
  replace m4 := Ob.below m4 hb
  replace bl := (bl.trans (Below.mono hb bl.size))
  replace sz := A.size.trans sz
  replace df := A.defs.trans df
  clear A hb
  show Code.wp _ _ _ _ _
  refine wp_seq ?_
  refine wp_seq ?_
  refine wp_all_seq [.eq (.bool false), .eq (.bool true)] (by kernel_rfl) (by kernel_rfl) (by rw [sz]; kernel_rfl) (by kernel_rfl) ⟨fun hw ac u K => ?_, fun hw ac u K => ?_, trivial⟩ ?_
  · exact st_move (.tmp 7) rfl ((K.old 7 rfl).trans x7)
  · exact st_not (.tmp 22) rfl false (K.dep 0 22 rfl)
  intro f6 w6 A hb
  replace bl0 := bl
  replace x0 := (A.old 0 rfl).trans x0
  replace x1 := (A.old 1 rfl).trans x1
  replace x4 := (A.old 4 rfl).trans x4
  replace x5 := (A.old 5 rfl).trans x5
  replace x14 := (A.old 14 rfl).trans x14
  replace x6 := (A.old 6 rfl).trans x6
  replace x7 := (A.old 7 rfl).trans x7
  have x23 : f6.eval (.tmp 23) = .bool true := A.has 1 23 rfl
  have lt_m4 := Ob.lt m4
  replace m4 := Ob.below m4 hb
  replace bl := (bl.trans (Below.mono hb bl.size))
  replace sz := A.size.trans sz
  replace df := A.defs.trans df
  clear A hb
  clear x7
  show Code.wp _ _ _ _ _
  refine wp_cond_true x23 ?_
  refine wp_seq ?_
  refine wp_region_seq [.eq (.agg ([.slice none 0 0, .slice none 0 0] : List Value).toArray)] (by kernel_rfl) (by kernel_rfl) (by rw [sz]; kernel_rfl) (by kernel_rfl) ⟨fun hw ac u K => ?_, trivial⟩ ?_
  · exact st_build 25 _ rfl (by kernel_rfl)
  intro f7 w7 A hb
  replace bl0 := bl
  replace x0 := (A.old 0 rfl).trans x0
  replace x1 := (A.old 1 rfl).trans x1
  replace x4 := (A.old 4 rfl).trans x4
  replace x5 := (A.old 5 rfl).trans x5
  replace x14 := (A.old 14 rfl).trans x14
  replace x6 := (A.old 6 rfl).trans x6
  replace x23 := (A.old 23 rfl).trans x23
  have x24 : f7.eval (.tmp 24) = .agg ([.slice none 0 0, .slice none 0 0] : List Value).toArray := A.has 0 24 rfl
  have lt_m4 := Ob.lt m4
  replace m4 := Ob.below m4 hb
  replace bl := (bl.trans (Below.mono hb bl.size))
  replace sz := A.size.trans sz
  replace df := A.defs.trans df
  clear A hb
  refine wl_str rfl 25 (.tmp 4) (.tmp 24) rfl rfl (g4) ([.slice none 0 0, .slice none 0 0] : List Value).toArray x4 x24 25 _ m4 (by kernel_rfl) (by kernel_rfl) (by kernel_rfl) ?_
  replace m4 : Ob (w7.setRow g4 ([.slice none 0 0, .slice none 0 0] : List Value).toArray) (g4) 25 ([.slice none 0 0, .slice none 0 0]) := Ob.setRow m4 ([.slice none 0 0, .slice none 0 0])
  replace bl : Below w.heap.size w (w7.setRow g4 ([.slice none 0 0, .slice none 0 0] : List Value).toArray) := bl.trans (below_setRow _ _ _ _ hw4)
  generalize w7.setRow g4 ([.slice none 0 0, .slice none 0 0] : List Value).toArray = w8b at bl m4 ⊢
  clear x24
  refine wl_one (.eq (.bool false)) rfl 5 rfl (by rw [sz]; decide) (st_assign (.const (.bool false)) rfl rfl) ?_
  intro f9 w9 df2 sz2 old2 new2 hb
  replace bl0 := bl
  replace x0 := (old2 0 rfl).trans x0
  replace x1 := (old2 1 rfl).trans x1
  replace x4 := (old2 4 rfl).trans x4
  clear x5
  replace x14 := (old2 14 rfl).trans x14
  replace x6 := (old2 6 rfl).trans x6
  replace x23 := (old2 23 rfl).trans x23
  have x5 : f9.eval (.tmp 5) = .bool false := new2
  have lt_m4 := Ob.lt m4
  replace m4 := Ob.below m4 hb
  replace bl := (bl.trans (Below.mono hb bl.size))
  replace sz := sz2.trans sz
  replace df := df2.trans df
  clear df2 sz2 old2 new2 hb
  refine wpList_nil ?_
  show Code.wp _ _ _ _ _
  refine wp_ret ?_
  repeat (first | with_reducible refine then_ret ?_ | with_reducible refine block_ret ?_)
  exact bodyPost_ret (v := .tuple #[.agg ([.slice none 0 0, .slice none 0 0] : List Value).toArray, .bool false]) (ret_c2 rfl f9 _ g4 _ _ _ x4 m4 x5) df ⟨_, rfl, c2_none _, bl⟩
set_option maxHeartbeats 1000000 in
theorem lists_other {pa pb : List Pt} (hsa : smallP pa) (hsb : smallP pb) {w : World} {va vb : Value} (ha : (Fk.mc pa).f va w) (hb : (Fk.mc pb).f vb w) (hK : Tab w) (hlen : pa.length = pb.length) {i : Nat} {p0 q0 : Pt} (hp0 : pa[i]? = some p0) (hq0 : pb[i]? = some q0) (hne : p0.bs ≠ q0.bs) (hall : (bys pa).take i = (bys pb).take i) (hrt : mroot (lhs pa) ≠ mroot (lhs pb)) :
    Calls Tryd.prog 12 #[va, vb] w fun e w' => ∃ u, e = .returned u ∧ (Fk.c2 false).f u w' ∧ Below w.heap.size w w' := by
  have ham := ha.1
  have hbm := hb.1
  have h40 := hsa.2
  have h41 := hsb.2
  have hil : i < pa.length := (List.getElem?_eq_some_iff.1 hp0).1
  have hslq : (Fk.sl q0.bs).f (.slice q0.sp q0.m q0.c) w := ⟨_, _, _, _, _, rfl, mg_ok hbm hq0⟩
  have hql : q0.bs.length ≤ 300 := Nat.le_trans (pt_small hsb hq0) (by decide)
  have hPl : (mpath (lhs pb) i).length ≤ 50 := by have := mpath_len _ (lhs pb) i rfl; rw [lhs_len] at this; omega
  obtain ⟨hd1, hd3⟩ := path_sides pb.length (lhs pb) i (lhs_len pb) (by omega)
  have hd2 := hd3 _ (lhs_at hq0)
  rw [← hlen] at hd1 hd2
  have hd : ¬ ((mpath (lhs pb) i).length = (sds i pa.length).length ∧ ldt (lf q0.bs) (mpath (lhs pb) i) (sds i pa.length) = mroot (lhs pa)) := fun h => hrt (h.2.symm.trans hd2)
  go_enter Tryd.func12, Tryd.ntmps12
  refine code_both (fun f w1 => f.tmps.size = 49 ∧ f.defers = [] ∧ f.eval (.tmp 0) = va ∧ f.eval (.tmp 1) = vb ∧ Below w.heap.size w (w1)) ⟨rfl, rfl, rfl, rfl, Below.refl _ _⟩ ?_
  rintro f0 w0 ⟨sz, df, x0, x1, bl⟩
  have bl0 := bl
  refine wp_seq ?_
  refine wp_region_seq [] (by kernel_rfl) (by kernel_rfl) (by rw [sz]; kernel_rfl) (by kernel_rfl) trivial ?_
  intro f1 w1 A hb
  replace bl0 := bl
  replace x0 := (A.old 0 rfl).trans x0
  replace x1 := (A.old 1 rfl).trans x1
  replace bl := (bl.trans (Below.mono hb bl.size))
  replace sz := A.size.trans sz
  replace df := A.defs.trans df
  clear A hb
  refine wl_one (.nw w1.heap.size 25 [.slice none 0 0, .slice none 0 0]) rfl 4 rfl (by rw [sz]; decide) (st_alloc 25 rfl _ _ (by kernel_rfl) (Nat.le_refl _)) ?_
  intro f2 w2 df2 sz2 old2 new2 hb
  replace bl0 := bl
  replace x0 := (old2 0 rfl).trans x0
  replace x1 := (old2 1 rfl).trans x1
  have x4 : Fk.f (.nw w1.heap.size 25 [.slice none 0 0, .slice none 0 0]) (f2.eval (.tmp 4)) w2 := new2
  replace bl := (bl.trans (Below.mono hb bl.size))
  replace sz := sz2.trans sz
  replace df := df2.trans df
  clear df2 sz2 old2 new2 hb
  obtain ⟨g4, hg4, e4, m4⟩ := x4
  have x4 := e4
  clear e4
  have hw4 : w.heap.size ≤ g4 := Nat.le_trans bl0.size hg4
  refine wl_one (.eq (.bool false)) rfl 5 rfl (by rw [sz]; decide) (st_assign (.const (.bool false)) rfl rfl) ?_
  intro f3 w3 df2 sz2 old2 new2 hb
  replace bl0 := bl
  replace x0 := (old2 0 rfl).trans x0
  replace x1 := (old2 1 rfl).trans x1
  replace x4 := (old2 4 rfl).trans x4
  have x5 : f3.eval (.tmp 5) = .bool false := new2
  have lt_m4 := Ob.lt m4
  replace m4 := Ob.below m4 hb
  replace bl := (bl.trans (Below.mono hb bl.size))
  replace sz := sz2.trans sz
  replace df := df2.trans df
  clear df2 sz2 old2 new2 hb
  refine wpList_nil ?_
  show Code.wp _ _ _ _ _
  refine wp_seq ?_
  refine wp_seq ?_
  refine wp_all_seq [.eq (va), .eq (.int .i64 (((pa).length : Nat) : Int)), .eq (vb), .eq (.int .i64 (((pb).length : Nat) : Int)), .eq (.bool false)] (by kernel_rfl) (by kernel_rfl) (by rw [sz]; kernel_rfl) (by kernel_rfl) ⟨fun hw ac u K => ?_, fun hw ac u K => ?_, fun hw ac u K => ?_, fun hw ac u K => ?_, fun hw ac u K => ?_, trivial⟩ ?_
  · exact st_move (.tmp 0) rfl ((K.old 0 rfl).trans x0)
  · exact st_lenm (.tmp 10) rfl (fk_val (K.dep 0 10 rfl) (Fk.mono _ _ _ _ ham (bl.trans (Below.mono K.grow bl.size))))
  · exact st_move (.tmp 1) rfl ((K.old 1 rfl).trans x1)
  · exact st_lenm (.tmp 12) rfl (fk_val (K.dep 2 12 rfl) (Fk.mono _ _ _ _ hbm (bl.trans (Below.mono K.grow bl.size))))
  · exact st_neqi 3 (.tmp 11) (.tmp 13) rfl .i64 ((((pa).length : Nat) : Int)) ((((pb).length : Nat) : Int)) (K.dep 1 11 rfl) (K.dep 3 13 rfl) _ (by symm; rw [decide_eq_false_iff_not]; exact (by omega))
  intro f4 w4 A hb
  replace bl0 := bl
  replace x0 := (A.old 0 rfl).trans x0
  replace x1 := (A.old 1 rfl).trans x1
  replace x4 := (A.old 4 rfl).trans x4
  replace x5 := (A.old 5 rfl).trans x5
  have x14 : f4.eval (.tmp 14) = .bool false := A.has 4 14 rfl
  have lt_m4 := Ob.lt m4
  replace m4 := Ob.below m4 hb
  replace bl := (bl.trans (Below.mono hb bl.size))
  replace sz := A.size.trans sz
  replace df := A.defs.trans df
  clear A hb
  show Code.wp _ _ _ _ _
  refine wp_cond_false x14 ?_
  refine wp_skip ?_
  show Code.wp _ _ _ _ _
  refine wp_seq ?_
  refine wp_all_seq [.eq (va), .eq (vb), .eq (.tuple #[.int .i64 ((i : Nat) : Int), .bool true]), .eq (.tuple #[.int .i64 ((i : Nat) : Int), .bool true]), .eq (.int .i64 ((i : Nat) : Int)), .eq (.bool true), .eq (.int .i64 ((i : Nat) : Int)), .eq (.bool true)] (by kernel_rfl) (by kernel_rfl) (by rw [sz]; kernel_rfl) (by kernel_rfl) ⟨fun hw ac u K => ?_, fun hw ac u K => ?_, fun hw ac u K => ?_, fun hw ac u K => ?_, fun hw ac u K => ?_, fun hw ac u K => ?_, fun hw ac u K => ?_, fun hw ac u K => ?_, trivial⟩ ?_
  · exact st_move (.tmp 0) rfl ((K.old 0 rfl).trans x0)
  · exact st_move (.tmp 1) rfl ((K.old 1 rfl).trans x1)
  · exact st_call 27 (.func 27) _ _ #[va, vb] rfl rfl (arg2 (K.dep 0 17 rfl) (K.dep 1 18 rfl)) Tryd.enter27 (fk_of (parting_diff (by omega) (by omega) (Fk.mono _ _ _ _ ham (bl.trans (Below.mono K.grow bl.size))) (Fk.mono _ _ _ _ hbm (bl.trans (Below.mono K.grow bl.size))) hp0 hq0 hne hall))
  · exact st_move (.tmp 19) rfl (K.dep 2 19 rfl)
  · exact st_tup (.tmp 16) rfl (K.dep 3 16 rfl) (by rfl)
  · exact st_tup (.tmp 16) rfl (K.dep 3 16 rfl) (by rfl)
  · exact st_assign (.tmp 20) rfl (K.dep 4 20 rfl)
  · exact st_assign (.tmp 21) rfl (K.dep 5 21 rfl)
  intro f5 w5 A hb
  replace bl0 := bl
  replace x0 := (A.old 0 rfl).trans x0
  replace x1 := (A.old 1 rfl).trans x1
  replace x4 := (A.old 4 rfl).trans x4
  replace x5 := (A.old 5 rfl).trans x5
  replace x14 := (A.old 14 rfl).trans x14
  have x6 : f5.eval (.tmp 6) = .int .i64 ((i : Nat) : Int) := A.has 6 6 rfl
  have x7 : f5.eval (.tmp 7) = .bool true := A.has 7 7 rfl
  have lt_m4 := Ob.lt m4
  replace m4 := Ob.below m4 hb
  replace bl := (bl.trans (Below.mono hb bl.size))
  replace sz := A.size.trans sz
  replace df := A.defs.trans df
  clear A hb
  show Code.wp _ _ _ _ _
  refine wp_seq ?_
  refine wp_seq ?_
  refine wp_all_seq [.eq (.bool true), .eq (.bool false)] (by kernel_rfl) (by kernel_rfl) (by rw [sz]; kernel_rfl) (by kernel_rfl) ⟨fun hw ac u K => ?_, fun hw ac u K => ?_, trivial⟩ ?_
  · exact st_move (.tmp 7) rfl ((K.old 7 rfl).trans x7)
  · exact st_not (.tmp 22) rfl true (K.dep 0 22 rfl)
  intro f6 w6 A hb
  replace bl0 := bl
  replace x0 := (A.old 0 rfl).trans x0
  replace x1 := (A.old 1 rfl).trans x1
  replace x4 := (A.old 4 rfl).trans x4
  replace x5 := (A.old 5 rfl).trans x5
  replace x14 := (A.old 14 rfl).trans x14
  replace x6 := (A.old 6 rfl).trans x6
  replace x7 := (A.old 7 rfl).trans x7
  have x23 : f6.eval (.tmp 23) = .bool false := A.has 1 23 rfl
  have lt_m4 := Ob.lt m4
  replace m4 := Ob.below m4 hb
  replace bl := (bl.trans (Below.mono hb bl.size))
  replace sz := A.size.trans sz
  replace df := A.defs.trans df
  clear A hb
  clear x7
  show Code.wp _ _ _ _ _
  refine wp_cond_false x23 ?_
  refine wp_skip ?_
  show Code.wp _ _ _ _ _
  refine wp_seq ?_
  refine wp_all_seq [.eq (vb), .hc (lhs pb), .eq (.int .i64 ((i : Nat) : Int)), .t2 (.hc (mpath (lhs pb) i)) (.int .i64 0), .t2 (.hc (mpath (lhs pb) i)) (.int .i64 0), .hc (mpath (lhs pb) i), .eq (.int .i64 0), .hc (mpath (lhs pb) i), .eq (.int .i64 0)] (by kernel_rfl) (by kernel_rfl) (by rw [sz]; kernel_rfl) (by kernel_rfl) ⟨fun hw ac u K => ?_, fun hw ac u K => ?_, fun hw ac u K => ?_, fun hw ac u K => ?_, fun hw ac u K => ?_, fun hw ac u K => ?_, fun hw ac u K => ?_, fun hw ac u K => ?_, fun hw ac u K => ?_, trivial⟩ ?_
  · exact st_move (.tmp 1) rfl ((K.old 1 rfl).trans x1)
  · exact st_call 28 (.func 28) _ _ #[vb] rfl rfl (one_arg (K.dep 0 26 rfl)) Tryd.enter28 (leaves_any (by omega) (smallP_mx hsb) _ (Fk.mono _ _ _ _ hbm (bl.trans (Below.mono K.grow bl.size))) (hK.below (bl.trans (Below.mono K.grow bl.size))) ⟨lvs_lhs pb⟩)
  · exact st_move (.tmp 6) rfl ((K.old 6 rfl).trans x6)
  · exact st_call 23 (.func 23) _ _ #[ac.eval (.tmp 27), .int .i64 ((i : Nat) : Int)] rfl rfl (arg2 rfl (K.dep 2 28 rfl)) Tryd.enter23 (fk_pathx (by rw [lhs_len]; omega) (by rw [lhs_len]; omega) _ (K.dep 1 27 rfl) (hK.below (bl.trans (Below.mono K.grow bl.size))))
  · exact st_move (.tmp 29) rfl (K.dep 3 29 rfl)
  · exact st_t2a (.tmp 25) rfl (K.dep 4 25 rfl)
  · exact st_t2b (.tmp 25) rfl (K.dep 4 25 rfl)
  · exact st_assign (.tmp 30) rfl (K.dep 5 30 rfl)
  · exact st_assign (.tmp 31) rfl (K.dep 6 31 rfl)
  intro f7 w7 A hb
  replace bl0 := bl
  replace x0 := (A.old 0 rfl).trans x0
  replace x1 := (A.old 1 rfl).trans x1
  replace x4 := (A.old 4 rfl).trans x4
  replace x5 := (A.old 5 rfl).trans x5
  replace x14 := (A.old 14 rfl).trans x14
  replace x6 := (A.old 6 rfl).trans x6
  replace x23 := (A.old 23 rfl).trans x23
  have x8 : Fk.f (.hc (mpath (lhs pb) i)) (f7.eval (.tmp 8)) w7 := A.has 7 8 rfl
  have lt_m4 := Ob.lt m4
  replace m4 := Ob.below m4 hb
  replace bl := (bl.trans (Below.mono hb bl.size))
  replace sz := A.size.trans sz
  replace df := A.defs.trans df
  clear A hb
  obtain ⟨aP, cP, e8, _, hP8⟩ := hc_val x8
  replace x8 := e8
  clear e8
  show Code.wp _ _ _ _ _
  refine wp_seq ?_
  refine wp_region_seq [.eq (va), .eq (.int .i64 ((i : Nat) : Int)), .eq (vb), .eq (.int .i64 ((pa.length : Nat) : Int)), .eq (vb), .eq (.int .i64 ((i : Nat) : Int)), .pv (.slice q0.sp q0.m q0.c), .eq (.slice q0.sp q0.m q0.c), .eq (.slice aP (mpath (lhs pb) i).length cP), .eq (.agg ([.int .i64 ((i : Nat) : Int), .int .i64 ((pa.length : Nat) : Int), .slice q0.sp q0.m q0.c, .slice aP (mpath (lhs pb) i).length cP] : List Value).toArray), .c3 false 22, .c3 false 22, .cv false, .eq (.bool false), .eq (.int .i64 22)] (by kernel_rfl) (by kernel_rfl) (by rw [sz]; kernel_rfl) (by kernel_rfl) ⟨fun hw ac u K => ?_, fun hw ac u K => ?_, fun hw ac u K => ?_, fun hw ac u K => ?_, fun hw ac u K => ?_, fun hw ac u K => ?_, fun hw ac u K => ?_, fun hw ac u K => ?_, fun hw ac u K => ?_, fun hw ac u K => ?_, fun hw ac u K => ?_, fun hw ac u K => ?_, fun hw ac u K => ?_, fun hw ac u K => ?_, fun hw ac u K => ?_, trivial⟩ ?_
  · exact st_move (.tmp 0) rfl ((K.old 0 rfl).trans x0)
  · exact st_move (.tmp 6) rfl ((K.old 6 rfl).trans x6)
  · exact st_move (.tmp 1) rfl ((K.old 1 rfl).trans x1)
  · exact by rw [hlen]; exact st_lenm (.tmp 35) rfl (fk_val (K.dep 2 35 rfl) (Fk.mono _ _ _ _ hbm (bl.trans (Below.mono K.grow bl.size))))
  · exact st_move (.tmp 1) rfl ((K.old 1 rfl).trans x1)
  · exact st_move (.tmp 6) rfl ((K.old 6 rfl).trans x6)
  · exact st_idxm (.tmp 37) (.tmp 38) rfl (fk_val (K.dep 4 37 rfl) (Fk.mono _ _ _ _ hbm (bl.trans (Below.mono K.grow bl.size)))) i q0 (K.dep 5 38 rfl) hq0
  · exact st_loadsl (.tmp 39) rfl (K.dep 6 39 rfl)
  · exact st_move (.tmp 8) rfl ((K.old 8 rfl).trans x8)
  · exact st_build 39 _ rfl (by simp only [List.map_toArray, List.map_cons, List.map_nil, show ac.eval (.tmp 34) = _ from (K.dep 1 34 rfl), show ac.eval (.tmp 36) = _ from (K.dep 3 36 rfl), show ac.eval (.tmp 40) = _ from (K.dep 7 40 rfl), show ac.eval (.tmp 41) = _ from (K.dep 8 41 rfl)]; kernel_rfl)
  · exact st_call 16 (.func 16) _ _ #[va, .agg ([.int .i64 ((i : Nat) : Int), .int .i64 ((pa.length : Nat) : Int), .slice q0.sp q0.m q0.c, .slice aP (mpath (lhs pb) i).length cP] : List Value).toArray] rfl rfl (arg2 (K.dep 0 33 rfl) (K.dep 9 42 rfl)) Tryd.enter16 (fk_cin_bad hsa hql hPl (Fk.mono _ _ _ _ ha (bl.trans (Below.mono K.grow bl.size))) (Fk.mono _ _ _ _ hslq (bl.trans (Below.mono K.grow bl.size))) (Fk.mono _ _ _ _ hP8 K.grow) (hK.below (bl.trans (Below.mono K.grow bl.size))) hil hd)
  · exact st_move (.tmp 43) rfl (K.dep 10 43 rfl)
  · exact st_c3a (.tmp 32) rfl (K.dep 11 32 rfl)
  · exact st_c3b (.tmp 32) rfl (K.dep 11 32 rfl)
  · exact st_c3c (.tmp 32) rfl (K.dep 11 32 rfl)
  intro f8 w8 A hb
  replace bl0 := bl
  replace x0 := (A.old 0 rfl).trans x0
  replace x1 := (A.old 1 rfl).trans x1
  replace x4 := (A.old 4 rfl).trans x4
  replace x5 := (A.old 5 rfl).trans x5
  replace x14 := (A.old 14 rfl).trans x14
  replace x6 := (A.old 6 rfl).trans x6
  replace x23 := (A.old 23 rfl).trans x23
  replace x8 := (A.old 8 rfl).trans x8
  have x44 : Fk.f (.cv false) (f8.eval (.tmp 44)) w8 := A.has 12 44 rfl
  have x45 : f8.eval (.tmp 45) = .bool false := A.has 13 45 rfl
  have lt_m4 := Ob.lt m4
  replace m4 := Ob.below m4 hb
  replace hP8 := Fk.mono _ _ _ _ hP8 hb
  replace bl := (bl.trans (Below.mono hb bl.size))
  replace sz := A.size.trans sz
  replace df := A.defs.trans df
  clear A hb
  clear x8
  clear hP8
  obtain ⟨Az, Bz, uz, vz, ez, hAz, hBz, lAz, lBz, hrz⟩ := x44
  obtain ⟨pAz, mAz, cAz, _, _, rfl, _⟩ := id hAz
  obtain ⟨pBz, mBz, cBz, _, _, rfl, _⟩ := id hBz
  have x44 := ez
  clear ez
  refine wl_str rfl 25 (.tmp 4) (.tmp 44) rfl rfl (g4) ([.slice pAz mAz cAz, .slice pBz mBz cBz] : List Value).toArray x4 x44 25 _ m4 (by kernel_rfl) (by kernel_rfl) (by kernel_rfl) ?_
  replace hAz := sl_setRow (ds := ([.slice pAz mAz cAz, .slice pBz mBz cBz] : List Value).toArray) hAz m4
  replace hBz := sl_setRow (ds := ([.slice pAz mAz cAz, .slice pBz mBz cBz] : List Value).toArray) hBz m4
  replace m4 : Ob (w8.setRow g4 ([.slice pAz mAz cAz, .slice pBz mBz cBz] : List Value).toArray) (g4) 25 ([.slice pAz mAz cAz, .slice pBz mBz cBz]) := Ob.setRow m4 ([.slice pAz mAz cAz, .slice pBz mBz cBz])
  replace bl : Below w.heap.size w (w8.setRow g4 ([.slice pAz mAz cAz, .slice pBz mBz cBz] : List Value).toArray) := bl.trans (below_setRow _ _ _ _ hw4)
  generalize w8.setRow g4 ([.slice pAz mAz cAz, .slice pBz mBz cBz] : List Value).toArray = w9b at bl m4 hAz hBz ⊢
  clear x44
  refine wl_one (.eq (.bool false)) rfl 5 rfl (by rw [sz]; decide) (st_assign (.tmp 45) rfl x45) ?_
  intro f10 w10 df2 sz2 old2 new2 hb
  replace bl0 := bl
  replace x0 := (old2 0 rfl).trans x0
  replace x1 := (old2 1 rfl).trans x1
  replace x4 := (old2 4 rfl).trans x4
  clear x5
  replace x14 := (old2 14 rfl).trans x14
  replace x6 := (old2 6 rfl).trans x6
  replace x23 := (old2 23 rfl).trans x23
  replace x45 := (old2 45 rfl).trans x45
  have x5 : f10.eval (.tmp 5) = .bool false := new2
  have lt_m4 := Ob.lt m4
  replace m4 := Ob.below m4 hb
  replace hAz := Fk.mono _ _ _ _ hAz hb
  replace hBz := Fk.mono _ _ _ _ hBz hb
  replace bl := (bl.trans (Below.mono hb bl.size))
  replace sz := sz2.trans sz
  replace df := df2.trans df
  clear df2 sz2 old2 new2 hb
  refine wpList_nil ?_
  clear x45
  show Code.wp _ _ _ _ _
  refine wp_seq ?_
  refine wp_region_seq [.eq (.agg ([.slice pAz mAz cAz, .slice pBz mBz cBz] : List Value).toArray), .eq (.bool false)] (by kernel_rfl) (by kernel_rfl) (by rw [sz]; kernel_rfl) (by kernel_rfl) ⟨fun hw ac u K => ?_, fun hw ac u K => ?_, trivial⟩ ?_
  · exact st_loadz 25 (.tmp 4) rfl (g4) 0 [.slice pAz mAz cAz, .slice pBz mBz cBz] (by kernel_rfl) (by kernel_rfl) ((K.old 4 rfl).trans x4) (Ob.range (Ob.below m4 K.grow) 0 _ (fun j v hj => by simpa using hj))
  · exact st_move (.tmp 5) rfl ((K.old 5 rfl).trans x5)
  intro f11 w11 A hb
  replace bl0 := bl
  replace x0 := (A.old 0 rfl).trans x0
  replace x1 := (A.old 1 rfl).trans x1
  replace x4 := (A.old 4 rfl).trans x4
  replace x14 := (A.old 14 rfl).trans x14
  replace x6 := (A.old 6 rfl).trans x6
  replace x23 := (A.old 23 rfl).trans x23
  replace x5 := (A.old 5 rfl).trans x5
  have x47 : f11.eval (.tmp 47) = .agg ([.slice pAz mAz cAz, .slice pBz mBz cBz] : List Value).toArray := A.has 0 47 rfl
  have x48 : f11.eval (.tmp 48) = .bool false := A.has 1 48 rfl
  have lt_m4 := Ob.lt m4
  replace m4 := Ob.below m4 hb
  replace hAz := Fk.mono _ _ _ _ hAz hb
  replace hBz := Fk.mono _ _ _ _ hBz hb
  replace bl := (bl.trans (Below.mono hb bl.size))
  replace sz := A.size.trans sz
  replace df := A.defs.trans df
  clear A hb
  refine wl_str rfl 25 (.tmp 4) (.tmp 47) rfl rfl (g4) ([.slice pAz mAz cAz, .slice pBz mBz cBz] : List Value).toArray x4 x47 25 _ m4 (by kernel_rfl) (by kernel_rfl) (by kernel_rfl) ?_
  replace hAz := sl_setRow (ds := ([.slice pAz mAz cAz, .slice pBz mBz cBz] : List Value).toArray) hAz m4
  replace hBz := sl_setRow (ds := ([.slice pAz mAz cAz, .slice pBz mBz cBz] : List Value).toArray) hBz m4
  replace m4 : Ob (w11.setRow g4 ([.slice pAz mAz cAz, .slice pBz mBz cBz] : List Value).toArray) (g4) 25 ([.slice pAz mAz cAz, .slice pBz mBz cBz]) := Ob.setRow m4 ([.slice pAz mAz cAz, .slice pBz mBz cBz])
  replace bl : Below w.heap.size w (w11.setRow g4 ([.slice pAz mAz cAz, .slice pBz mBz cBz] : List Value).toArray) := bl.trans (below_setRow _ _ _ _ hw4)
  generalize w11.setRow g4 ([.slice pAz mAz cAz, .slice pBz mBz cBz] : List Value).toArray = w12b at bl m4 hAz hBz ⊢
  clear x47
  refine wl_one (.eq (.bool false)) rfl 5 rfl (by rw [sz]; decide) (st_assign (.tmp 48) rfl x48) ?_
  intro f13 w13 df2 sz2 old2 new2 hb
  replace bl0 := bl
  replace x0 := (old2 0 rfl).trans x0
  replace x1 := (old2 1 rfl).trans x1
  replace x4 := (old2 4 rfl).trans x4
  replace x14 := (old2 14 rfl).trans x14
  replace x6 := (old2 6 rfl).trans x6
  replace x23 := (old2 23 rfl).trans x23
  clear x5
  replace x48 := (old2 48 rfl).trans x48
  have x5 : f13.eval (.tmp 5) = .bool false := new2
  have lt_m4 := Ob.lt m4
  replace m4 := Ob.below m4 hb
  replace hAz := Fk.mono _ _ _ _ hAz hb
  replace hBz := Fk.mono _ _ _ _ hBz hb
  replace bl := (bl.trans (Below.mono hb bl.size))
  replace sz := sz2.trans sz
  replace df := df2.trans df
  clear df2 sz2 old2 new2 hb
  refine wpList_nil ?_
  clear x48
  show Code.wp _ _ _ _ _
  refine wp_ret ?_
  repeat (first | with_reducible refine then_ret ?_ | with_reducible refine block_ret ?_)
  exact bodyPost_ret (v := .tuple #[.agg ([.slice pAz mAz cAz, .slice pBz mBz cBz] : List Value).toArray, .bool false]) (ret_c2 rfl f13 _ g4 _ _ _ x4 m4 x5) df ⟨_, rfl, ⟨Az, Bz, _, _, rfl, hAz, hBz, lAz, lBz, hrz⟩, bl⟩
set_option maxHeartbeats 1000000 in
theorem lists_coll {pa pb : List Pt} (hsa : smallP pa) (hsb : smallP pb) {w : World} {va vb : Value} (ha : (Fk.mc pa).f va w) (hb : (Fk.mc pb).f vb w) (hK : Tab w) (hlen : pa.length = pb.length) {i : Nat} {p0 q0 : Pt} (hp0 : pa[i]? = some p0) (hq0 : pb[i]? = some q0) (hne : p0.bs ≠ q0.bs) (hall : (bys pa).take i = (bys pb).take i) (hrt : mroot (lhs pa) = mroot (lhs pb)) :
    Calls Tryd.prog 12 #[va, vb] w fun e w' => ∃ u, e = .returned u ∧ (Fk.c2 true).f u w' ∧ Below w.heap.size w w' := by
  have ham := ha.1
  have hbm := hb.1
  have h40 := hsa.2
  have h41 := hsb.2
  have hil : i < pa.length := (List.getElem?_eq_some_iff.1 hp0).1
  have hslq : (Fk.sl q0.bs).f (.slice q0.sp q0.m q0.c) w := ⟨_, _, _, _, _, rfl, mg_ok hbm hq0⟩
  have hql : q0.bs.length ≤ 300 := Nat.le_trans (pt_small hsb hq0) (by decide)
  have hPl : (mpath (lhs pb) i).length ≤ 50 := by have := mpath_len _ (lhs pb) i rfl; rw [lhs_len] at this; omega
  obtain ⟨hd1, hd3⟩ := path_sides pb.length (lhs pb) i (lhs_len pb) (by omega)
  have hd2 := hd3 _ (lhs_at hq0)
  rw [← hlen] at hd1 hd2
  rw [← hrt] at hd2
  go_enter Tryd.func12, Tryd.ntmps12
  refine code_both (fun f w1 => f.tmps.size = 49 ∧ f.defers = [] ∧ f.eval (.tmp 0) = va ∧ f.eval (.tmp 1) = vb ∧ Below w.heap.size w (w1)) ⟨rfl, rfl, rfl, rfl, Below.refl _ _⟩ ?_
  rintro f0 w0 ⟨sz, df, x0, x1, bl⟩
  have bl0 := bl
  refine wp_seq ?_
  refine wp_region_seq [] (by kernel_rfl) (by kernel_rfl) (by rw [sz]; kernel_rfl) (by kernel_rfl) trivial ?_
  intro f1 w1 A hb
  replace bl0 := bl
  replace x0 := (A.old 0 rfl).trans x0
  replace x1 := (A.old 1 rfl).trans x1
  replace bl := (bl.trans (Below.mono hb bl.size))
  replace sz := A.size.trans sz
  replace df := A.defs.trans df
  clear A hb
  refine wl_one (.nw w1.heap.size 25 [.slice none 0 0, .slice none 0 0]) rfl 4 rfl (by rw [sz]; decide) (st_alloc 25 rfl _ _ (by kernel_rfl) (Nat.le_refl _)) ?_
  intro f2 w2 df2 sz2 old2 new2 hb
  replace bl0 := bl
  replace x0 := (old2 0 rfl).trans x0
  replace x1 := (old2 1 rfl).trans x1
  have x4 : Fk.f (.nw w1.heap.size 25 [.slice none 0 0, .slice none 0 0]) (f2.eval (.tmp 4)) w2 := new2
  replace bl := (bl.trans (Below.mono hb bl.size))
  replace sz := sz2.trans sz
  replace df := df2.trans df
  clear df2 sz2 old2 new2 hb
  obtain ⟨g4, hg4, e4, m4⟩ := x4
  have x4 := e4
  clear e4
  have hw4 : w.heap.size ≤ g4 := Nat.le_trans bl0.size hg4
  refine wl_one (.eq (.bool false)) rfl 5 rfl (by rw [sz]; decide) (st_assign (.const (.bool false)) rfl rfl) ?_
  intro f3 w3 df2 sz2 old2 new2 hb
  replace bl0 := bl
  replace x0 := (old2 0 rfl).trans x0
  replace x1 := (old2 1 rfl).trans x1
  replace x4 := (old2 4 rfl).trans x4
  have x5 : f3.eval (.tmp 5) = .bool false := new2
  have lt_m4 := Ob.lt m4
  replace m4 := Ob.below m4 hb
  replace bl := (bl.trans (Below.mono hb bl.size))
  replace sz := sz2.trans sz
  replace df := df2.trans df
  clear df2 sz2 old2 new2 hb
  refine wpList_nil ?_
  show Code.wp _ _ _ _ _
  refine wp_seq ?_
  refine wp_seq ?_
  refine wp_all_seq [.eq (va), .eq (.int .i64 (((pa).length : Nat) : Int)), .eq (vb), .eq (.int .i64 (((pb).length : Nat) : Int)), .eq (.bool false)] (by kernel_rfl) (by kernel_rfl) (by rw [sz]; kernel_rfl) (by kernel_rfl) ⟨fun hw ac u K => ?_, fun hw ac u K => ?_, fun hw ac u K => ?_, fun hw ac u K => ?_, fun hw ac u K => ?_, trivial⟩ ?_
  · exact st_move (.tmp 0) rfl ((K.old 0 rfl).trans x0)
  · exact st_lenm (.tmp 10) rfl (fk_val (K.dep 0 10 rfl) (Fk.mono _ _ _ _ ham (bl.trans (Below.mono K.grow bl.size))))
  · exact st_move (.tmp 1) rfl ((K.old 1 rfl).trans x1)
  · exact st_lenm (.tmp 12) rfl (fk_val (K.dep 2 12 rfl) (Fk.mono _ _ _ _ hbm (bl.trans (Below.mono K.grow bl.size))))
  · exact st_neqi 3 (.tmp 11) (.tmp 13) rfl .i64 ((((pa).length : Nat) : Int)) ((((pb).length : Nat) : Int)) (K.dep 1 11 rfl) (K.dep 3 13 rfl) _ (by symm; rw [decide_eq_false_iff_not]; exact (by omega))
  intro f4 w4 A hb
  replace bl0 := bl
  replace x0 := (A.old 0 rfl).trans x0
  replace x1 := (A.old 1 rfl).trans x1
  replace x4 := (A.old 4 rfl).trans x4
  replace x5 := (A.old 5 rfl).trans x5
  have x14 : f4.eval (.tmp 14) = .bool false := A.has 4 14 rfl
  have lt_m4 := Ob.lt m4
  replace m4 := Ob.below m4 hb
  replace bl := (bl.trans (Below.mono hb bl.size))
  replace sz := A.size.trans sz
  replace df := A.defs.trans df
  clear A hb
  show Code.wp _ _ _ _ _
  refine wp_cond_false x14 ?_
  refine wp_skip ?_
  show Code.wp _ _ _ _ _
  refine wp_seq ?_
  refine wp_all_seq [.eq (va), .eq (vb), .eq (.tuple #[.int .i64 ((i : Nat) : Int), .bool true]), .eq (.tuple #[.int .i64 ((i : Nat) : Int), .bool true]), .eq (.int .i64 ((i : Nat) : Int)), .eq (.bool true), .eq (.int .i64 ((i : Nat) : Int)), .eq (.bool true)] (by kernel_rfl) (by kernel_rfl) (by rw [sz]; kernel_rfl) (by kernel_rfl) ⟨fun hw ac u K => ?_, fun hw ac u K => ?_, fun hw ac u K => ?_, fun hw ac u K => ?_, fun hw ac u K => ?_, fun hw ac u K => ?_, fun hw ac u K => ?_, fun hw ac u K => ?_, trivial⟩ ?_
  · exact st_move (.tmp 0) rfl ((K.old 0 rfl).trans x0)
  · exact st_move (.tmp 1) rfl ((K.old 1 rfl).trans x1)
  · exact st_call 27 (.func 27) _ _ #[va, vb] rfl rfl (arg2 (K.dep 0 17 rfl) (K.dep 1 18 rfl)) Tryd.enter27 (fk_of (parting_diff (by omega) (by omega) (Fk.mono _ _ _ _ ham (bl.trans (Below.mono K.grow bl.size))) (Fk.mono _ _ _ _ hbm (bl.trans (Below.mono K.grow bl.size))) hp0 hq0 hne hall))
  · exact st_move (.tmp 19) rfl (K.dep 2 19 rfl)
  · exact st_tup (.tmp 16) rfl (K.dep 3 16 rfl) (by rfl)
  · exact st_tup (.tmp 16) rfl (K.dep 3 16 rfl) (by rfl)
  · exact st_assign (.tmp 20) rfl (K.dep 4 20 rfl)
  · exact st_assign (.tmp 21) rfl (K.dep 5 21 rfl)
  intro f5 w5 A hb
  replace bl0 := bl
  replace x0 := (A.old 0 rfl).trans x0
  replace x1 := (A.old 1 rfl).trans x1
  replace x4 := (A.old 4 rfl).trans x4
  replace x5 := (A.old 5 rfl).trans x5
  replace x14 := (A.old 14 rfl).trans x14
  have x6 : f5.eval (.tmp 6) = .int .i64 ((i : Nat) : Int) := A.has 6 6 rfl
  have x7 : f5.eval (.tmp 7) = .bool true := A.has 7 7 rfl
  have lt_m4 := Ob.lt m4
  replace m4 := Ob.below m4 hb
  replace bl := (bl.trans (Below.mono hb bl.size))
  replace sz := A.size.trans sz
  replace df := A.defs.trans df
  clear A hb
  show Code.wp _ _ _ _ _
  refine wp_seq ?_
  refine wp_seq ?_
  refine wp_all_seq [.eq (.bool true), .eq (.bool false)] (by kernel_rfl) (by kernel_rfl) (by rw [sz]; kernel_rfl) (by kernel_rfl) ⟨fun hw ac u K => ?_, fun hw ac u K => ?_, trivial⟩ ?_
  · exact st_move (.tmp 7) rfl ((K.old 7 rfl).trans x7)
  · exact st_not (.tmp 22) rfl true (K.dep 0 22 rfl)
  intro f6 w6 A hb
  replace bl0 := bl
  replace x0 := (A.old 0 rfl).trans x0
  replace x1 := (A.old 1 rfl).trans x1
  replace x4 := (A.old 4 rfl).trans x4
  replace x5 := (A.old 5 rfl).trans x5
  replace x14 := (A.old 14 rfl).trans x14
  replace x6 := (A.old 6 rfl).trans x6
  replace x7 := (A.old 7 rfl).trans x7
  have x23 : f6.eval (.tmp 23) = .bool false := A.has 1 23 rfl
  have lt_m4 := Ob.lt m4
  replace m4 := Ob.below m4 hb
  replace bl := (bl.trans (Below.mono hb bl.size))
  replace sz := A.size.trans sz
  replace df := A.defs.trans df
  clear A hb
  clear x7
  show Code.wp _ _ _ _ _
  refine wp_cond_false x23 ?_
  refine wp_skip ?_
  show Code.wp _ _ _ _ _
  refine wp_seq ?_
  refine wp_all_seq [.eq (vb), .hc (lhs pb), .eq (.int .i64 ((i : Nat) : Int)), .t2 (.hc (mpath (lhs pb) i)) (.int .i64 0), .t2 (.hc (mpath (lhs pb) i)) (.int .i64 0), .hc (mpath (lhs pb) i), .eq (.int .i64 0), .hc (mpath (lhs pb) i), .eq (.int .i64 0)] (by kernel_rfl) (by kernel_rfl) (by rw [sz]; kernel_rfl) (by kernel_rfl) ⟨fun hw ac u K => ?_, fun hw ac u K => ?_, fun hw ac u K => ?_, fun hw ac u K => ?_, fun hw ac u K => ?_, fun hw ac u K => ?_, fun hw ac u K => ?_, fun hw ac u K => ?_, fun hw ac u K => ?_, trivial⟩ ?_
  · exact st_move (.tmp 1) rfl ((K.old 1 rfl).trans x1)
  · exact st_call 28 (.func 28) _ _ #[vb] rfl rfl (one_arg (K.dep 0 26 rfl)) Tryd.enter28 (leaves_any (by omega) (smallP_mx hsb) _ (Fk.mono _ _ _ _ hbm (bl.trans (Below.mono K.grow bl.size))) (hK.below (bl.trans (Below.mono K.grow bl.size))) ⟨lvs_lhs pb⟩)
  · exact st_move (.tmp 6) rfl ((K.old 6 rfl).trans x6)
  · exact st_call 23 (.func 23) _ _ #[ac.eval (.tmp 27), .int .i64 ((i : Nat) : Int)] rfl rfl (arg2 rfl (K.dep 2 28 rfl)) Tryd.enter23 (fk_pathx (by rw [lhs_len]; omega) (by rw [lhs_len]; omega) _ (K.dep 1 27 rfl) (hK.below (bl.trans (Below.mono K.grow bl.size))))
  · exact st_move (.tmp 29) rfl (K.dep 3 29 rfl)
  · exact st_t2a (.tmp 25) rfl (K.dep 4 25 rfl)
  · exact st_t2b (.tmp 25) rfl (K.dep 4 25 rfl)
  · exact st_assign (.tmp 30) rfl (K.dep 5 30 rfl)
  · exact st_assign (.tmp 31) rfl (K.dep 6 31 rfl)
  intro f7 w7 A hb
  replace bl0 := bl
  replace x0 := (A.old 0 rfl).trans x0
  replace x1 := (A.old 1 rfl).trans x1
  replace x4 := (A.old 4 rfl).trans x4
  replace x5 := (A.old 5 rfl).trans x5
  replace x14 := (A.old 14 rfl).trans x14
  replace x6 := (A.old 6 rfl).trans x6
  replace x23 := (A.old 23 rfl).trans x23
  have x8 : Fk.f (.hc (mpath (lhs pb) i)) (f7.eval (.tmp 8)) w7 := A.has 7 8 rfl
  have lt_m4 := Ob.lt m4
  replace m4 := Ob.below m4 hb
  replace bl := (bl.trans (Below.mono hb bl.size))
  replace sz := A.size.trans sz
  replace df := A.defs.trans df
  clear A hb
  obtain ⟨aP, cP, e8, _, hP8⟩ := hc_val x8
  replace x8 := e8
  clear e8
  show Code.wp _ _ _ _ _
  refine wp_seq ?_
  refine wp_region_seq [.eq (va), .eq (.int .i64 ((i : Nat) : Int)), .eq (vb), .eq (.int .i64 ((pa.length : Nat) : Int)), .eq (vb), .eq (.int .i64 ((i : Nat) : Int)), .pv (.slice q0.sp q0.m q0.c), .eq (.slice q0.sp q0.m q0.c), .eq (.slice aP (mpath (lhs pb) i).length cP), .eq (.agg ([.int .i64 ((i : Nat) : Int), .int .i64 ((pa.length : Nat) : Int), .slice q0.sp q0.m q0.c, .slice aP (mpath (lhs pb) i).length cP] : List Value).toArray), .c3 true 0, .c3 true 0, .cv true, .eq (.bool true), .eq (.int .i64 0)] (by kernel_rfl) (by kernel_rfl) (by rw [sz]; kernel_rfl) (by kernel_rfl) ⟨fun hw ac u K => ?_, fun hw ac u K => ?_, fun hw ac u K => ?_, fun hw ac u K => ?_, fun hw ac u K => ?_, fun hw ac u K => ?_, fun hw ac u K => ?_, fun hw ac u K => ?_, fun hw ac u K => ?_, fun hw ac u K => ?_, fun hw ac u K => ?_, fun hw ac u K => ?_, fun hw ac u K => ?_, fun hw ac u K => ?_, fun hw ac u K => ?_, trivial⟩ ?_
  · exact st_move (.tmp 0) rfl ((K.old 0 rfl).trans x0)
  · exact st_move (.tmp 6) rfl ((K.old 6 rfl).trans x6)
  · exact st_move (.tmp 1) rfl ((K.old 1 rfl).trans x1)
  · exact by rw [hlen]; exact st_lenm (.tmp 35) rfl (fk_val (K.dep 2 35 rfl) (Fk.mono _ _ _ _ hbm (bl.trans (Below.mono K.grow bl.size))))
  · exact st_move (.tmp 1) rfl ((K.old 1 rfl).trans x1)
  · exact st_move (.tmp 6) rfl ((K.old 6 rfl).trans x6)
  · exact st_idxm (.tmp 37) (.tmp 38) rfl (fk_val (K.dep 4 37 rfl) (Fk.mono _ _ _ _ hbm (bl.trans (Below.mono K.grow bl.size)))) i q0 (K.dep 5 38 rfl) hq0
  · exact st_loadsl (.tmp 39) rfl (K.dep 6 39 rfl)
  · exact st_move (.tmp 8) rfl ((K.old 8 rfl).trans x8)
  · exact st_build 39 _ rfl (by simp only [List.map_toArray, List.map_cons, List.map_nil, show ac.eval (.tmp 34) = _ from (K.dep 1 34 rfl), show ac.eval (.tmp 36) = _ from (K.dep 3 36 rfl), show ac.eval (.tmp 40) = _ from (K.dep 7 40 rfl), show ac.eval (.tmp 41) = _ from (K.dep 8 41 rfl)]; kernel_rfl)
  · exact st_call 16 (.func 16) _ _ #[va, .agg ([.int .i64 ((i : Nat) : Int), .int .i64 ((pa.length : Nat) : Int), .slice q0.sp q0.m q0.c, .slice aP (mpath (lhs pb) i).length cP] : List Value).toArray] rfl rfl (arg2 (K.dep 0 33 rfl) (K.dep 9 42 rfl)) Tryd.enter16 (fk_cin_ok hsa hql hPl (Fk.mono _ _ _ _ ha (bl.trans (Below.mono K.grow bl.size))) (Fk.mono _ _ _ _ hslq (bl.trans (Below.mono K.grow bl.size))) (Fk.mono _ _ _ _ hP8 K.grow) (hK.below (bl.trans (Below.mono K.grow bl.size))) hp0 hd1 hd2 (f := true) (by simp; exact fun e => hne e.symm))
  · exact st_move (.tmp 43) rfl (K.dep 10 43 rfl)
  · exact st_c3a (.tmp 32) rfl (K.dep 11 32 rfl)
  · exact st_c3b (.tmp 32) rfl (K.dep 11 32 rfl)
  · exact st_c3c (.tmp 32) rfl (K.dep 11 32 rfl)
  intro f8 w8 A hb
  replace bl0 := bl
  replace x0 := (A.old 0 rfl).trans x0
  replace x1 := (A.old 1 rfl).trans x1
  replace x4 := (A.old 4 rfl).trans x4
  replace x5 := (A.old 5 rfl).trans x5
  replace x14 := (A.old 14 rfl).trans x14
  replace x6 := (A.old 6 rfl).trans x6
  replace x23 := (A.old 23 rfl).trans x23
  replace x8 := (A.old 8 rfl).trans x8
  have x44 : Fk.f (.cv true) (f8.eval (.tmp 44)) w8 := A.has 12 44 rfl
  have x45 : f8.eval (.tmp 45) = .bool true := A.has 13 45 rfl
  have lt_m4 := Ob.lt m4
  replace m4 := Ob.below m4 hb
  replace hP8 := Fk.mono _ _ _ _ hP8 hb
  replace bl := (bl.trans (Below.mono hb bl.size))
  replace sz := A.size.trans sz
  replace df := A.defs.trans df
  clear A hb
  clear x8
  clear hP8
  obtain ⟨Az, Bz, uz, vz, ez, hAz, hBz, lAz, lBz, hrz⟩ := x44
  obtain ⟨pAz, mAz, cAz, _, _, rfl, _⟩ := id hAz
  obtain ⟨pBz, mBz, cBz, _, _, rfl, _⟩ := id hBz
  have x44 := ez
  clear ez
  refine wl_str rfl 25 (.tmp 4) (.tmp 44) rfl rfl (g4) ([.slice pAz mAz cAz, .slice pBz mBz cBz] : List Value).toArray x4 x44 25 _ m4 (by kernel_rfl) (by kernel_rfl) (by kernel_rfl) ?_
  replace hAz := sl_setRow (ds := ([.slice pAz mAz cAz, .slice pBz mBz cBz] : List Value).toArray) hAz m4
  replace hBz := sl_setRow (ds := ([.slice pAz mAz cAz, .slice pBz mBz cBz] : List Value).toArray) hBz m4
  replace m4 : Ob (w8.setRow g4 ([.slice pAz mAz cAz, .slice pBz mBz cBz] : List Value).toArray) (g4) 25 ([.slice pAz mAz cAz, .slice pBz mBz cBz]) := Ob.setRow m4 ([.slice pAz mAz cAz, .slice pBz mBz cBz])
  replace bl : Below w.heap.size w (w8.setRow g4 ([.slice pAz mAz cAz, .slice pBz mBz cBz] : List Value).toArray) := bl.trans (below_setRow _ _ _ _ hw4)
  generalize w8.setRow g4 ([.slice pAz mAz cAz, .slice pBz mBz cBz] : List Value).toArray = w9b at bl m4 hAz hBz ⊢
  clear x44
  refine wl_one (.eq (.bool true)) rfl 5 rfl (by rw [sz]; decide) (st_assign (.tmp 45) rfl x45) ?_
  intro f10 w10 df2 sz2 old2 new2 hb
  replace bl0 := bl
  replace x0 := (old2 0 rfl).trans x0
  replace x1 := (old2 1 rfl).trans x1
  replace x4 := (old2 4 rfl).trans x4
  clear x5
  replace x14 := (old2 14 rfl).trans x14
  replace x6 := (old2 6 rfl).trans x6
  replace x23 := (old2 23 rfl).trans x23
  replace x45 := (old2 45 rfl).trans x45
  have x5 : f10.eval (.tmp 5) = .bool true := new2
  have lt_m4 := Ob.lt m4
  replace m4 := Ob.below m4 hb
  replace hAz := Fk.mono _ _ _ _ hAz hb
  replace hBz := Fk.mono _ _ _ _ hBz hb
  replace bl := (bl.trans (Below.mono hb bl.size))
  replace sz := sz2.trans sz
  replace df := df2.trans df
  clear df2 sz2 old2 new2 hb
  refine wpList_nil ?_
  clear x45
  show Code.wp _ _ _ _ _
  refine wp_seq ?_
  refine wp_region_seq [.eq (.agg ([.slice pAz mAz cAz, .slice pBz mBz cBz] : List Value).toArray), .eq (.bool true)] (by kernel_rfl) (by kernel_rfl) (by rw [sz]; kernel_rfl) (by kernel_rfl) ⟨fun hw ac u K => ?_, fun hw ac u K => ?_, trivial⟩ ?_
  · exact st_loadz 25 (.tmp 4) rfl (g4) 0 [.slice pAz mAz cAz, .slice pBz mBz cBz] (by kernel_rfl) (by kernel_rfl) ((K.old 4 rfl).trans x4) (Ob.range (Ob.below m4 K.grow) 0 _ (fun j v hj => by simpa using hj))
  · exact st_move (.tmp 5) rfl ((K.old 5 rfl).trans x5)
  intro f11 w11 A hb
  replace bl0 := bl
  replace x0 := (A.old 0 rfl).trans x0
  replace x1 := (A.old 1 rfl).trans x1
  replace x4 := (A.old 4 rfl).trans x4
  replace x14 := (A.old 14 rfl).trans x14
  replace x6 := (A.old 6 rfl).trans x6
  replace x23 := (A.old 23 rfl).trans x23
  replace x5 := (A.old 5 rfl).trans x5
  have x47 : f11.eval (.tmp 47) = .agg ([.slice pAz mAz cAz, .slice pBz mBz cBz] : List Value).toArray := A.has 0 47 rfl
  have x48 : f11.eval (.tmp 48) = .bool true := A.has 1 48 rfl
  have lt_m4 := Ob.lt m4
  replace m4 := Ob.below m4 hb
  replace hAz := Fk.mono _ _ _ _ hAz hb
  replace hBz := Fk.mono _ _ _ _ hBz hb
  replace bl := (bl.trans (Below.mono hb bl.size))
  replace sz := A.size.trans sz
  replace df := A.defs.trans df
  clear A hb
  refine wl_str rfl 25 (.tmp 4) (.tmp 47) rfl rfl (g4) ([.slice pAz mAz cAz, .slice pBz mBz cBz] : List Value).toArray x4 x47 25 _ m4 (by kernel_rfl) (by kernel_rfl) (by kernel_rfl) ?_
  replace hAz := sl_setRow (ds := ([.slice pAz mAz cAz, .slice pBz mBz cBz] : List Value).toArray) hAz m4
  replace hBz := sl_setRow (ds := ([.slice pAz mAz cAz, .slice pBz mBz cBz] : List Value).toArray) hBz m4
  replace m4 : Ob (w11.setRow g4 ([.slice pAz mAz cAz, .slice pBz mBz cBz] : List Value).toArray) (g4) 25 ([.slice pAz mAz cAz, .slice pBz mBz cBz]) := Ob.setRow m4 ([.slice pAz mAz cAz, .slice pBz mBz cBz])
  replace bl : Below w.heap.size w (w11.setRow g4 ([.slice pAz mAz cAz, .slice pBz mBz cBz] : List Value).toArray) := bl.trans (below_setRow _ _ _ _ hw4)
  generalize w11.setRow g4 ([.slice pAz mAz cAz, .slice pBz mBz cBz] : List Value).toArray = w12b at bl m4 hAz hBz ⊢
  clear x47
  refine wl_one (.eq (.bool true)) rfl 5 rfl (by rw [sz]; decide) (st_assign (.tmp 48) rfl x48) ?_
  intro f13 w13 df2 sz2 old2 new2 hb
  replace bl0 := bl
  replace x0 := (old2 0 rfl).trans x0
  replace x1 := (old2 1 rfl).trans x1
  replace x4 := (old2 4 rfl).trans x4
  replace x14 := (old2 14 rfl).trans x14
  replace x6 := (old2 6 rfl).trans x6
  replace x23 := (old2 23 rfl).trans x23
  clear x5
  replace x48 := (old2 48 rfl).trans x48
  have x5 : f13.eval (.tmp 5) = .bool true := new2
  have lt_m4 := Ob.lt m4
  replace m4 := Ob.below m4 hb
  replace hAz := Fk.mono _ _ _ _ hAz hb
  replace hBz := Fk.mono _ _ _ _ hBz hb
  replace bl := (bl.trans (Below.mono hb bl.size))
  replace sz := sz2.trans sz
  replace df := df2.trans df
  clear df2 sz2 old2 new2 hb
  refine wpList_nil ?_
  clear x48
  show Code.wp _ _ _ _ _
  refine wp_ret ?_
  repeat (first | with_reducible refine then_ret ?_ | with_reducible refine block_ret ?_)
  exact bodyPost_ret (v := .tuple #[.agg ([.slice pAz mAz cAz, .slice pBz mBz cBz] : List Value).toArray, .bool true]) (ret_c2 rfl f13 _ g4 _ _ _ x4 m4 x5) df ⟨_, rfl, ⟨Az, Bz, _, _, rfl, hAz, hBz, lAz, lBz, hrz⟩, bl⟩
theorem fk_lists {pa pb : List Pt} (hsa : smallP pa) (hsb : smallP pb) {w : World} {va vb : Value} (ha : (Fk.mc pa).f va w) (hb : (Fk.mc pb).f vb w) (hK : Tab w) {f : Bool} (hf : f = decide (pa.length = pb.length ∧ mroot (lhs pa) = mroot (lhs pb) ∧ bys pa ≠ bys pb)) :
    Calls Tryd.prog 12 #[va, vb] w fun e w' => ∃ u, e = .returned u ∧ (Fk.c2 f).f u w' ∧ Below w.heap.size w w' := by
  by_cases hlen : pa.length = pb.length
  · by_cases hy : bys pa = bys pb
    · obtain rfl : f = false := by rw [hf]; simp [hy]
      exact lists_same hsa hsb ha hb hK hlen (by rw [hy])
    · have hne : bys pa ≠ (bys pb).take pa.length := by rw [List.take_of_length_le (by rw [bys_len]; omega)]; exact hy
      obtain ⟨i, p0, q0, hp0, hq0, hpq, hall⟩ := parts_at (by omega) hne
      by_cases hrt : mroot (lhs pa) = mroot (lhs pb)
      · obtain rfl : f = true := by rw [hf]; simp only [decide_eq_true_eq]; exact ⟨hlen, hrt, hy⟩
        exact lists_coll hsa hsb ha hb hK hlen hp0 hq0 hpq hall hrt
      · obtain rfl : f = false := by rw [hf]; simp only [decide_eq_false_iff_not]; exact fun h => hrt h.2.1
        exact lists_other hsa hsb ha hb hK hlen hp0 hq0 hpq hall hrt
  · obtain rfl : f = false := by rw [hf]; simp only [decide_eq_false_iff_not]; exact fun h => hlen h.1
    exact lists_len hsa hsb ha hb hK hlen
end Go.Proofs.YtfmeeimhfdnjpaaDoor
namespace Go.Proofs.YtfmeeimhfdnjpaaDoor
set_option maxRecDepth 100000
open Go.RowKit
end Go.Proofs.YtfmeeimhfdnjpaaDoor
