/- The law's small. -/
import Derived.Test.YtakdpkoigijonaaM7
import Derived.Test.YtakdpkoigijonaaM3
namespace Go.Proofs.Ytakdpkoigijonaa
set_option maxRecDepth 100000
open Go.RowKit
/-- A list of calls that the laws go through. -/
def smallW (l : List Op12) (n : Int) : Prop := (∀ o ∈ l, (o.cs.length ≤ 20 ∧ o.ls.length ≤ 40) ∧ ∀ c ∈ o.cs, c.bs.length ≤ 200) ∧ (l.length : Int) ≤ n
instance (l : List Op12) (n : Int) : Decidable (smallW l n) := by unfold smallW; infer_instance
theorem fk_smallw {l : List Op12} (hln : l.length ≤ maxLen) {n : Int} {w : World} {v : Value} (hv : (Fk.sr RO l).f v w) {b : Bool} (hb : b = decide (smallW l n)) :
    Calls Try.prog 6 #[v, .int .i64 n] w fun e w' => ∃ u, e = .returned u ∧ (Fk.eq (.bool b)).f u w' ∧ Below w.heap.size w w' := by
  unfold maxLen at hln
  go_enter Try.func6, Try.ntmps6
  refine code_both (fun f w1 => f.tmps.size = 42 ∧ f.defers = [] ∧ f.eval (.tmp 0) = v ∧ f.eval (.tmp 1) = .int .i64 n ∧ Below w.heap.size w (w1)) ⟨rfl, rfl, rfl, rfl, Below.refl _ _⟩ ?_
  rintro f0 w0 ⟨sz, df, x0, x1, bl⟩
  have sd := And.intro sz df
  clear sz df
  have bl0 := bl
  refine wp_seq ?_
  refine wr_a [.eq (.bool false)] (by rw [sd.1]; kernel_rfl) ⟨fun hw ac u K => ?_, trivial⟩ ?_
  · exact st_assign (.const (.bool false)) rfl rfl
  intro f1 w1 A hb
  replace x0 := A.t x0 rfl
  replace x1 := A.t x1 rfl
  replace bl := bgo bl hb
  replace sd := A.sd sd
  clear A hb
  show Code.wp _ _ _ _ _
  refine wp_seq ?_
  refine wp_seq ?_
  refine wr_a [.eq (v), .eq (.int .i64 (((l).length : Nat) : Int)), .eq (.int .i64 0)] (by rw [sd.1]; kernel_rfl) ⟨fun hw ac u K => ?_, fun hw ac u K => ?_, fun hw ac u K => ?_, trivial⟩ ?_
  · exact st_move (.tmp 0) rfl (K.t x0 rfl)
  · exact st_lenso (.tmp 9) rfl (fk_val (K.dep 0 9 rfl) (Fk.mono _ _ _ _ hv (bgo bl K.grow)))
  · exact st_move (.const (.int .i64 0)) rfl rfl
  intro f2 w2 A hb
  replace x0 := A.t x0 rfl
  replace x1 := A.t x1 rfl
  have x9 := A.e 0 9 rfl rfl
  have x10 := A.e 1 10 rfl rfl
  have x11 := A.e 2 11 rfl rfl
  replace bl := bgo bl hb
  replace sd := A.sd sd
  clear A hb
  show Code.wp _ _ _ _ _
  refine wp_block ?_
  refine wp_loop (fun f v1 => ∃ k : Nat, k ≤ l.length ∧ (∀ o ∈ l.take k, (o.cs.length ≤ 20 ∧ o.ls.length ≤ 40) ∧ ∀ c ∈ o.cs, c.bs.length ≤ 200) ∧ f.tmps.size = 42 ∧ f.defers = [] ∧ f.eval (.tmp 0) = v ∧ f.eval (.tmp 1) = .int .i64 n ∧ f.eval (.tmp 9) = v ∧ f.eval (.tmp 10) = .int .i64 (((l).length : Nat) : Int) ∧ f.eval (.tmp 11) = .int .i64 (k : Int) ∧ Below w.heap.size w (v1)) (fun f _ => l.length - (intOf (f.eval (.tmp 11))).toNat) ⟨0, Nat.zero_le _, (by simp), sd.1, sd.2, x0, x1, x9, x10, x11, bl⟩ ?_
  intro f3 w3 hI
  clear sd bl bl0 x0 x1 x9 x10 x11
  obtain ⟨k, hk8, hall, sz, df, x0, x1, x9, x10, x11, bl⟩ := hI
  have sd := And.intro sz df
  clear sz df
  have bl0 := bl
  have hcnt := x11
  refine wp_seq ?_
  by_cases hlt : k < l.length
  rotate_left
  · skip
    refine wr_a [.eq (.bool false)] (by rw [sd.1]; kernel_rfl) ⟨fun hw ac u K => ?_, trivial⟩ ?_
    · exact st_lss 3 (.tmp 11) (.tmp 10) rfl .i64 ((k : Int)) ((((l).length : Nat) : Int)) (K.t x11 rfl) (K.t x10 rfl) _ (by rw [eq_comm, decide_eq_false_iff_not]; exact fun h => hlt (Int.ofNat_lt.1 h))
    intro f4 w4 A hb
    replace x0 := A.t x0 rfl
    replace x1 := A.t x1 rfl
    replace x9 := A.t x9 rfl
    replace x10 := A.t x10 rfl
    replace x11 := A.t x11 rfl
    have x12 := A.e 0 12 rfl rfl
    replace bl := bgo bl hb
    replace sd := A.sd sd
    clear A hb
    show Code.wp _ _ _ _ _
    refine wp_seq ?_
    refine wp_cond_false x12 ?_
    refine wp_exit ?_
    show Code.wp _ _ _ _ _
    refine wp_seq ?_
    rw [List.take_of_length_le (by omega)] at hall
    by_cases h40 : (l.length : Int) ≤ n
    rotate_left
    · skip
      have hbf : false = b := by rw [hb]; symm; rw [decide_eq_false_iff_not]; exact fun h => h40 h.2
      refine wr_a [.eq (v), .eq (.int .i64 (((l).length : Nat) : Int)), .eq (.int .i64 n), .eq (.bool false), .eq (.bool false)] (by rw [sd.1]; kernel_rfl) ⟨fun hw ac u K => ?_, fun hw ac u K => ?_, fun hw ac u K => ?_, fun hw ac u K => ?_, fun hw ac u K => ?_, trivial⟩ ?_
      · exact st_move (.tmp 0) rfl (K.t x0 rfl)
      · exact st_lenso (.tmp 38) rfl (fk_val (K.dep 0 38 rfl) (Fk.mono _ _ _ _ hv (bgo bl K.grow)))
      · exact st_move (.tmp 1) rfl (K.t x1 rfl)
      · exact st_leq 3 (.tmp 39) (.tmp 40) rfl .i64 ((((l).length : Nat) : Int)) (n) (K.dep 1 39 rfl) (K.dep 2 40 rfl) _ (by rw [eq_comm, decide_eq_false_iff_not]; exact h40)
      · exact st_assign (.tmp 41) rfl (K.dep 3 41 rfl)
      intro f5 w5 A hb
      replace x0 := A.t x0 rfl
      replace x1 := A.t x1 rfl
      replace x9 := A.t x9 rfl
      replace x10 := A.t x10 rfl
      replace x11 := A.t x11 rfl
      replace x12 := A.t x12 rfl
      have x4 := A.e 4 4 rfl rfl
      replace bl := bgo bl hb
      replace sd := A.sd sd
      clear A hb
      clear x12
      show Code.wp _ _ _ _ _
      refine wp_ret ?_
      repeat (first | with_reducible refine then_ret ?_ | with_reducible refine block_ret ?_)
      exact bodyPost_ret (v := .bool false) (ret_slot rfl f5 _ x4 _ _) sd.2 ⟨_, rfl, by rw [← hbf]; rfl, bl⟩
    have hbf : true = b := by rw [hb]; symm; rw [decide_eq_true_iff]; exact ⟨hall, h40⟩
    refine wr_a [.eq (v), .eq (.int .i64 (((l).length : Nat) : Int)), .eq (.int .i64 n), .eq (.bool true), .eq (.bool true)] (by rw [sd.1]; kernel_rfl) ⟨fun hw ac u K => ?_, fun hw ac u K => ?_, fun hw ac u K => ?_, fun hw ac u K => ?_, fun hw ac u K => ?_, trivial⟩ ?_
    · exact st_move (.tmp 0) rfl (K.t x0 rfl)
    · exact st_lenso (.tmp 38) rfl (fk_val (K.dep 0 38 rfl) (Fk.mono _ _ _ _ hv (bgo bl K.grow)))
    · exact st_move (.tmp 1) rfl (K.t x1 rfl)
    · exact st_leq 3 (.tmp 39) (.tmp 40) rfl .i64 ((((l).length : Nat) : Int)) (n) (K.dep 1 39 rfl) (K.dep 2 40 rfl) _ (by rw [eq_comm, decide_eq_true_iff]; exact h40)
    · exact st_assign (.tmp 41) rfl (K.dep 3 41 rfl)
    intro f5 w5 A hb
    replace x0 := A.t x0 rfl
    replace x1 := A.t x1 rfl
    replace x9 := A.t x9 rfl
    replace x10 := A.t x10 rfl
    replace x11 := A.t x11 rfl
    replace x12 := A.t x12 rfl
    have x4 := A.e 4 4 rfl rfl
    replace bl := bgo bl hb
    replace sd := A.sd sd
    clear A hb
    clear x12
    show Code.wp _ _ _ _ _
    refine wp_ret ?_
    repeat (first | with_reducible refine then_ret ?_ | with_reducible refine block_ret ?_)
    exact bodyPost_ret (v := .bool true) (ret_slot rfl f5 _ x4 _ _) sd.2 ⟨_, rfl, by rw [← hbf]; rfl, bl⟩
  obtain ⟨oo, hook⟩ : ∃ p, l[k]? = some p := ⟨_, List.getElem?_eq_getElem hlt⟩
  have hok := sr_ok hv hook
  have hcoo : (Fk.sr RC oo.cs).f oo.vc w := hok.1
  have hloo : (Fk.is oo.ls).f oo.vl w := hok.2.1
  have hlco : oo.cs.length ≤ maxLen := hok.2.2.2.2
  refine wr_a [.eq (.bool true)] (by rw [sd.1]; kernel_rfl) ⟨fun hw ac u K => ?_, trivial⟩ ?_
  · exact st_lss 3 (.tmp 11) (.tmp 10) rfl .i64 ((k : Int)) ((((l).length : Nat) : Int)) (K.t x11 rfl) (K.t x10 rfl) _ (by rw [eq_comm, decide_eq_true_iff]; exact Int.ofNat_lt.2 hlt)
  intro f4 w4 A hb
  replace x0 := A.t x0 rfl
  replace x1 := A.t x1 rfl
  replace x9 := A.t x9 rfl
  replace x10 := A.t x10 rfl
  replace x11 := A.t x11 rfl
  have x12 := A.e 0 12 rfl rfl
  replace bl := bgo bl hb
  replace sd := A.sd sd
  clear A hb
  show Code.wp _ _ _ _ _
  refine wp_seq ?_
  refine wp_cond_true x12 ?_
  refine wp_skip ?_
  show Code.wp _ _ _ _ _
  refine wp_seq ?_
  refine wp_block ?_
  refine wp_seq ?_
  refine wr_s [.sq RO oo, .eq (.agg ([.int .i64 oo.k, .int .i64 oo.n, oo.vc, oo.vl] : List Value).toArray), .nw w4.heap.size 39 [.int .i64 0, .int .i64 0, .slice none 0 0, .slice none 0 0]] (by rw [sd.1]; kernel_rfl) ⟨fun hw ac u K => ?_, fun hw ac u K => ?_, fun hw ac u K => ?_, trivial⟩ ?_
  · exact st_idxso (.tmp 9) (.tmp 11) rfl (fk_val (K.t x9 rfl) (Fk.mono _ _ _ _ hv (bgo bl K.grow))) k oo (K.t x11 rfl) hook
  · exact st_loadso (.tmp 13) rfl (K.dep 0 13 rfl)
  · exact st_alloc 39 rfl _ _ (by kernel_rfl) K.grow.size
  intro f5 w5 A hb
  replace bl0 := bl
  replace x0 := A.t x0 rfl
  replace x1 := A.t x1 rfl
  replace x9 := A.t x9 rfl
  replace x10 := A.t x10 rfl
  replace x11 := A.t x11 rfl
  replace x12 := A.t x12 rfl
  have x6 : Fk.f (.nw w4.heap.size 39 [.int .i64 0, .int .i64 0, .slice none 0 0, .slice none 0 0]) (f5.eval (.tmp 6)) w5 := A.has 2 6 rfl
  have x14 := A.e 1 14 rfl rfl
  replace bl := bgo bl hb
  replace sd := A.sd sd
  clear A hb
  clear x12
  obtain ⟨g6, hg6, e6, m6⟩ := x6
  have x6 := e6
  clear e6
  have hw6 : w.heap.size ≤ g6 := Nat.le_trans bl0.size hg6
  refine wl_str rfl 39 (.tmp 6) (.tmp 14) rfl rfl (g6) ([.int .i64 oo.k, .int .i64 oo.n, oo.vc, oo.vl] : List Value).toArray x6 x14 39 _ m6 (by kernel_rfl) (by kernel_rfl) (by kernel_rfl) ?_
  replace m6 : Ob (w5.setRow g6 ([.int .i64 oo.k, .int .i64 oo.n, oo.vc, oo.vl] : List Value).toArray) (g6) 39 ([.int .i64 oo.k, .int .i64 oo.n, oo.vc, oo.vl]) := Ob.setRow m6 ([.int .i64 oo.k, .int .i64 oo.n, oo.vc, oo.vl])
  replace bl : Below w.heap.size w (w5.setRow g6 ([.int .i64 oo.k, .int .i64 oo.n, oo.vc, oo.vl] : List Value).toArray) := bl.trans (below_setRow _ _ _ _ hw6)
  generalize w5.setRow g6 ([.int .i64 oo.k, .int .i64 oo.n, oo.vc, oo.vl] : List Value).toArray = w6b at bl m6 ⊢
  refine wpList_nil ?_
  clear x14
  show Code.wp _ _ _ _ _
  refine wp_seq ?_
  refine wp_seq ?_
  have h3 : 20 < oo.cs.length ∨ (oo.cs.length ≤ 20 ∧ 40 < oo.ls.length) ∨ (oo.cs.length ≤ 20 ∧ oo.ls.length ≤ 40) := by omega
  rcases h3 with h3 | h3 | h3
  · skip
    have hbf : false = b := by rw [hb]; symm; rw [decide_eq_false_iff_not]; exact fun h => by have := h.1 oo (List.mem_of_getElem? hook); omega
    refine wr_a [.eq (.pointer (some ⟨g6, 2, none⟩)), .eq (oo.vc), .eq (.int .i64 (((oo.cs).length : Nat) : Int)), .eq (.bool true), .eq (.bool true), .any, .any, .any, .any, .eq (.bool true)] (by rw [sd.1]; kernel_rfl) ⟨fun hw ac u K => ?_, fun hw ac u K => ?_, fun hw ac u K => ?_, fun hw ac u K => ?_, fun hw ac u K => ?_, fun hw ac u K => ?_, fun hw ac u K => ?_, fun hw ac u K => ?_, fun hw ac u K => ?_, fun hw ac u K => ?_, trivial⟩ ?_
    · exact st_field 39 2 (.tmp 6) rfl (K.t x6 rfl) (by kernel_rfl)
    · exact st_loadc 36 (.tmp 15) rfl (by kernel_rfl) (K.dep 0 15 rfl) (Ob.cell (Ob.below m6 K.grow) 2 rfl)
    · exact st_lensc (.tmp 16) rfl (fk_val (K.dep 1 16 rfl) (Fk.mono _ _ _ _ hcoo (bgo bl K.grow)))
    · exact st_gtr 3 (.tmp 17) (.const (.int .i64 20)) rfl .i64 ((((oo.cs).length : Nat) : Int)) (20) (K.dep 2 17 rfl) rfl _ (by rw [eq_comm, decide_eq_true_iff]; omega)
    · exact st_move (.tmp 18) rfl (K.dep 3 18 rfl)
    · exact (Bool.false_ne_true hw).elim
    · exact (Bool.false_ne_true hw).elim
    · exact (Bool.false_ne_true hw).elim
    · exact (Bool.false_ne_true hw).elim
    · exact st_pick_t (.tmp 19) (.const (.bool true)) (.tmp 23) rfl (K.dep 4 19 rfl) rfl
    intro f7 w7 A hb
    replace x0 := A.t x0 rfl
    replace x1 := A.t x1 rfl
    replace x9 := A.t x9 rfl
    replace x10 := A.t x10 rfl
    replace x11 := A.t x11 rfl
    replace x6 := A.t x6 rfl
    have x24 := A.e 9 24 rfl rfl
    replace m6 := Ob.below m6 hb
    replace bl := bgo bl hb
    replace sd := A.sd sd
    clear A hb
    show Code.wp _ _ _ _ _
    refine wp_cond_true x24 ?_
    refine wp_seq ?_
    refine wr_a [.eq (.bool false)] (by rw [sd.1]; kernel_rfl) ⟨fun hw ac u K => ?_, trivial⟩ ?_
    · exact st_assign (.const (.bool false)) rfl rfl
    intro f8 w8 A hb
    replace x0 := A.t x0 rfl
    replace x1 := A.t x1 rfl
    replace x9 := A.t x9 rfl
    replace x10 := A.t x10 rfl
    replace x11 := A.t x11 rfl
    replace x6 := A.t x6 rfl
    replace x24 := A.t x24 rfl
    have x4 := A.e 0 4 rfl rfl
    replace m6 := Ob.below m6 hb
    replace bl := bgo bl hb
    replace sd := A.sd sd
    clear A hb
    clear x6
    clear x24
    clear m6
    show Code.wp _ _ _ _ _
    refine wp_ret ?_
    repeat (first | with_reducible refine then_ret ?_ | with_reducible refine block_ret ?_)
    exact bodyPost_ret (v := .bool false) (ret_slot rfl f8 _ x4 _ _) sd.2 ⟨_, rfl, by rw [← hbf]; rfl, bl⟩
  · skip
    have hbf : false = b := by rw [hb]; symm; rw [decide_eq_false_iff_not]; exact fun h => by have := h.1 oo (List.mem_of_getElem? hook); omega
    refine wr_a [.eq (.pointer (some ⟨g6, 2, none⟩)), .eq (oo.vc), .eq (.int .i64 (((oo.cs).length : Nat) : Int)), .eq (.bool false), .eq (.bool false), .eq (.pointer (some ⟨g6, 3, none⟩)), .eq (oo.vl), .eq (.int .i64 (((oo.ls).length : Nat) : Int)), .eq (.bool true), .eq (.bool true)] (by rw [sd.1]; kernel_rfl) ⟨fun hw ac u K => ?_, fun hw ac u K => ?_, fun hw ac u K => ?_, fun hw ac u K => ?_, fun hw ac u K => ?_, fun hw ac u K => ?_, fun hw ac u K => ?_, fun hw ac u K => ?_, fun hw ac u K => ?_, fun hw ac u K => ?_, trivial⟩ ?_
    · exact st_field 39 2 (.tmp 6) rfl (K.t x6 rfl) (by kernel_rfl)
    · exact st_loadc 36 (.tmp 15) rfl (by kernel_rfl) (K.dep 0 15 rfl) (Ob.cell (Ob.below m6 K.grow) 2 rfl)
    · exact st_lensc (.tmp 16) rfl (fk_val (K.dep 1 16 rfl) (Fk.mono _ _ _ _ hcoo (bgo bl K.grow)))
    · exact st_gtr 3 (.tmp 17) (.const (.int .i64 20)) rfl .i64 ((((oo.cs).length : Nat) : Int)) (20) (K.dep 2 17 rfl) rfl _ (by rw [eq_comm, decide_eq_false_iff_not]; omega)
    · exact st_move (.tmp 18) rfl (K.dep 3 18 rfl)
    · exact st_field 39 3 (.tmp 6) rfl (K.t x6 rfl) (by kernel_rfl)
    · exact st_loadc 37 (.tmp 20) rfl (by kernel_rfl) (K.dep 5 20 rfl) (Ob.cell (Ob.below m6 K.grow) 3 rfl)
    · exact st_lenis (.tmp 21) rfl (fk_val (K.dep 6 21 rfl) (Fk.mono _ _ _ _ hloo (bgo bl K.grow)))
    · exact st_gtr 3 (.tmp 22) (.const (.int .i64 40)) rfl .i64 ((((oo.ls).length : Nat) : Int)) (40) (K.dep 7 22 rfl) rfl _ (by rw [eq_comm, decide_eq_true_iff]; omega)
    · exact st_pick_f' (.tmp 19) (.const (.bool true)) (.tmp 23) rfl (K.dep 4 19 rfl) (K.dep 8 23 rfl)
    intro f7 w7 A hb
    replace x0 := A.t x0 rfl
    replace x1 := A.t x1 rfl
    replace x9 := A.t x9 rfl
    replace x10 := A.t x10 rfl
    replace x11 := A.t x11 rfl
    replace x6 := A.t x6 rfl
    have x24 := A.e 9 24 rfl rfl
    replace m6 := Ob.below m6 hb
    replace bl := bgo bl hb
    replace sd := A.sd sd
    clear A hb
    show Code.wp _ _ _ _ _
    refine wp_cond_true x24 ?_
    refine wp_seq ?_
    refine wr_a [.eq (.bool false)] (by rw [sd.1]; kernel_rfl) ⟨fun hw ac u K => ?_, trivial⟩ ?_
    · exact st_assign (.const (.bool false)) rfl rfl
    intro f8 w8 A hb
    replace x0 := A.t x0 rfl
    replace x1 := A.t x1 rfl
    replace x9 := A.t x9 rfl
    replace x10 := A.t x10 rfl
    replace x11 := A.t x11 rfl
    replace x6 := A.t x6 rfl
    replace x24 := A.t x24 rfl
    have x4 := A.e 0 4 rfl rfl
    replace m6 := Ob.below m6 hb
    replace bl := bgo bl hb
    replace sd := A.sd sd
    clear A hb
    clear x6
    clear x24
    clear m6
    show Code.wp _ _ _ _ _
    refine wp_ret ?_
    repeat (first | with_reducible refine then_ret ?_ | with_reducible refine block_ret ?_)
    exact bodyPost_ret (v := .bool false) (ret_slot rfl f8 _ x4 _ _) sd.2 ⟨_, rfl, by rw [← hbf]; rfl, bl⟩
  refine wr_a [.eq (.pointer (some ⟨g6, 2, none⟩)), .eq (oo.vc), .eq (.int .i64 (((oo.cs).length : Nat) : Int)), .eq (.bool false), .eq (.bool false), .eq (.pointer (some ⟨g6, 3, none⟩)), .eq (oo.vl), .eq (.int .i64 (((oo.ls).length : Nat) : Int)), .eq (.bool false), .eq (.bool false)] (by rw [sd.1]; kernel_rfl) ⟨fun hw ac u K => ?_, fun hw ac u K => ?_, fun hw ac u K => ?_, fun hw ac u K => ?_, fun hw ac u K => ?_, fun hw ac u K => ?_, fun hw ac u K => ?_, fun hw ac u K => ?_, fun hw ac u K => ?_, fun hw ac u K => ?_, trivial⟩ ?_
  · exact st_field 39 2 (.tmp 6) rfl (K.t x6 rfl) (by kernel_rfl)
  · exact st_loadc 36 (.tmp 15) rfl (by kernel_rfl) (K.dep 0 15 rfl) (Ob.cell (Ob.below m6 K.grow) 2 rfl)
  · exact st_lensc (.tmp 16) rfl (fk_val (K.dep 1 16 rfl) (Fk.mono _ _ _ _ hcoo (bgo bl K.grow)))
  · exact st_gtr 3 (.tmp 17) (.const (.int .i64 20)) rfl .i64 ((((oo.cs).length : Nat) : Int)) (20) (K.dep 2 17 rfl) rfl _ (by rw [eq_comm, decide_eq_false_iff_not]; omega)
  · exact st_move (.tmp 18) rfl (K.dep 3 18 rfl)
  · exact st_field 39 3 (.tmp 6) rfl (K.t x6 rfl) (by kernel_rfl)
  · exact st_loadc 37 (.tmp 20) rfl (by kernel_rfl) (K.dep 5 20 rfl) (Ob.cell (Ob.below m6 K.grow) 3 rfl)
  · exact st_lenis (.tmp 21) rfl (fk_val (K.dep 6 21 rfl) (Fk.mono _ _ _ _ hloo (bgo bl K.grow)))
  · exact st_gtr 3 (.tmp 22) (.const (.int .i64 40)) rfl .i64 ((((oo.ls).length : Nat) : Int)) (40) (K.dep 7 22 rfl) rfl _ (by rw [eq_comm, decide_eq_false_iff_not]; omega)
  · exact st_pick_f' (.tmp 19) (.const (.bool true)) (.tmp 23) rfl (K.dep 4 19 rfl) (K.dep 8 23 rfl)
  intro f7 w7 A hb
  replace x0 := A.t x0 rfl
  replace x1 := A.t x1 rfl
  replace x9 := A.t x9 rfl
  replace x10 := A.t x10 rfl
  replace x11 := A.t x11 rfl
  replace x6 := A.t x6 rfl
  have x24 := A.e 9 24 rfl rfl
  replace m6 := Ob.below m6 hb
  replace bl := bgo bl hb
  replace sd := A.sd sd
  clear A hb
  show Code.wp _ _ _ _ _
  refine wp_cond_false x24 ?_
  refine wp_skip ?_
  show Code.wp _ _ _ _ _
  refine wp_seq ?_
  refine wr_a [.eq (.pointer (some ⟨g6, 2, none⟩)), .eq (oo.vc), .eq (.int .i64 (((oo.cs).length : Nat) : Int)), .eq (.int .i64 0)] (by rw [sd.1]; kernel_rfl) ⟨fun hw ac u K => ?_, fun hw ac u K => ?_, fun hw ac u K => ?_, fun hw ac u K => ?_, trivial⟩ ?_
  · exact st_field 39 2 (.tmp 6) rfl (K.t x6 rfl) (by kernel_rfl)
  · exact st_loadc 36 (.tmp 25) rfl (by kernel_rfl) (K.dep 0 25 rfl) (Ob.cell (Ob.below m6 K.grow) 2 rfl)
  · exact st_lensc (.tmp 26) rfl (fk_val (K.dep 1 26 rfl) (Fk.mono _ _ _ _ hcoo (bgo bl K.grow)))
  · exact st_move (.const (.int .i64 0)) rfl rfl
  intro f8 w8 A hb
  replace x0 := A.t x0 rfl
  replace x1 := A.t x1 rfl
  replace x9 := A.t x9 rfl
  replace x10 := A.t x10 rfl
  replace x11 := A.t x11 rfl
  replace x6 := A.t x6 rfl
  replace x24 := A.t x24 rfl
  have x26 := A.e 1 26 rfl rfl
  have x27 := A.e 2 27 rfl rfl
  have x28 := A.e 3 28 rfl rfl
  replace m6 := Ob.below m6 hb
  replace bl := bgo bl hb
  replace sd := A.sd sd
  clear A hb
  clear x6
  clear x24
  clear m6
  show Code.wp _ _ _ _ _
  refine wp_block ?_
  refine wp_loop (fun f v1 => ∃ m : Nat, m ≤ oo.cs.length ∧ (∀ c ∈ oo.cs.take m, c.bs.length ≤ 200) ∧ f.tmps.size = 42 ∧ f.defers = [] ∧ f.eval (.tmp 0) = v ∧ f.eval (.tmp 1) = .int .i64 n ∧ f.eval (.tmp 9) = v ∧ f.eval (.tmp 10) = .int .i64 (((l).length : Nat) : Int) ∧ f.eval (.tmp 11) = .int .i64 (k : Int) ∧ f.eval (.tmp 26) = oo.vc ∧ f.eval (.tmp 27) = .int .i64 (((oo.cs).length : Nat) : Int) ∧ f.eval (.tmp 28) = .int .i64 (m : Int) ∧ Below w.heap.size w (v1)) (fun f _ => oo.cs.length - (intOf (f.eval (.tmp 28))).toNat) ⟨0, Nat.zero_le _, (by simp), sd.1, sd.2, x0, x1, x9, x10, x11, x26, x27, x28, bl⟩ ?_
  intro f9 w9 hI
  clear sd bl bl0 x0 x1 x9 x10 x11 x26 x27 x28
  obtain ⟨m, hm8, hin, sz, df, x0, x1, x9, x10, x11, x26, x27, x28, bl⟩ := hI
  have sd := And.intro sz df
  clear sz df
  have bl0 := bl
  have hcnt2 := x28
  refine wp_seq ?_
  by_cases hmt : m < oo.cs.length
  rotate_left
  · skip
    rw [List.take_of_length_le (by omega)] at hin
    refine wr_a [.eq (.bool false)] (by rw [sd.1]; kernel_rfl) ⟨fun hw ac u K => ?_, trivial⟩ ?_
    · exact st_lss 3 (.tmp 28) (.tmp 27) rfl .i64 ((m : Int)) ((((oo.cs).length : Nat) : Int)) (K.t x28 rfl) (K.t x27 rfl) _ (by rw [eq_comm, decide_eq_false_iff_not]; exact fun h => hmt (Int.ofNat_lt.1 h))
    intro f10 w10 A hb
    replace x0 := A.t x0 rfl
    replace x1 := A.t x1 rfl
    replace x9 := A.t x9 rfl
    replace x10 := A.t x10 rfl
    replace x11 := A.t x11 rfl
    replace x26 := A.t x26 rfl
    replace x27 := A.t x27 rfl
    replace x28 := A.t x28 rfl
    have x29 := A.e 0 29 rfl rfl
    replace bl := bgo bl hb
    replace sd := A.sd sd
    clear A hb
    show Code.wp _ _ _ _ _
    refine wp_seq ?_
    refine wp_cond_false x29 ?_
    refine wp_exit ?_
    show Code.wp _ _ _ _ _
    refine wr_s [.eq (.int .i64 ((k + 1 : Nat) : Int))] (by rw [sd.1]; kernel_rfl) ⟨fun hw ac u K => ?_, trivial⟩ ?_
    · exact st_addz (.tmp 11) (.const (.int .i64 1)) rfl _ _ _ (K.t x11 rfl) rfl (by omega) (by omega) (by omega)
    intro f11 w11 A hb
    replace x0 := A.t x0 rfl
    replace x1 := A.t x1 rfl
    replace x9 := A.t x9 rfl
    replace x10 := A.t x10 rfl
    replace x11 := A.t x11 rfl
    replace x26 := A.t x26 rfl
    replace x27 := A.t x27 rfl
    replace x28 := A.t x28 rfl
    replace x29 := A.t x29 rfl
    have x37 := A.e 0 37 rfl rfl
    replace bl := bgo bl hb
    replace sd := A.sd sd
    clear A hb
    clear x29
    refine wl_one (.eq (.int .i64 ((k + 1 : Nat) : Int))) rfl 11 rfl (by rw [sd.1]; decide) (st_move (.tmp 37) rfl x37) ?_
    intro f12 w12 df2 sz2 old2 new2 hb
    replace x0 := tr old2 x0 rfl
    replace x1 := tr old2 x1 rfl
    replace x9 := tr old2 x9 rfl
    replace x10 := tr old2 x10 rfl
    clear x11
    replace x26 := tr old2 x26 rfl
    replace x27 := tr old2 x27 rfl
    replace x28 := tr old2 x28 rfl
    replace x37 := tr old2 x37 rfl
    have x11 := Fk.e new2
    replace bl := bgo bl hb
    replace sd := sd2 sz2 df2 sd
    clear df2 sz2 old2 new2 hb
    refine wpList_nil ?_
    clear x37
    show (∃ _, _) ∧ _
    refine ⟨⟨k + 1, by omega, (by rw [take_one12 hook]; intro q hq; rcases List.mem_append.1 hq with hq | hq; exact hall q hq; obtain rfl := List.mem_singleton.1 hq; exact ⟨h3, hin⟩), sd.1, sd.2, x0, x1, x9, x10, x11, bl⟩, ?_⟩
    rw [show f12.eval (.tmp 11) = _ from x11, show _ = _ from hcnt]
    first | (simp [intOf]; done) | (simp [intOf]; omega)
  obtain ⟨cc, hcck⟩ : ∃ p, oo.cs[m]? = some p := ⟨_, List.getElem?_eq_getElem hmt⟩
  have hbcc : (Fk.sl cc.bs).f cc.vb w := (sr_ok hcoo hcck).1
  refine wr_a [.eq (.bool true)] (by rw [sd.1]; kernel_rfl) ⟨fun hw ac u K => ?_, trivial⟩ ?_
  · exact st_lss 3 (.tmp 28) (.tmp 27) rfl .i64 ((m : Int)) ((((oo.cs).length : Nat) : Int)) (K.t x28 rfl) (K.t x27 rfl) _ (by rw [eq_comm, decide_eq_true_iff]; exact Int.ofNat_lt.2 hmt)
  intro f10 w10 A hb
  replace x0 := A.t x0 rfl
  replace x1 := A.t x1 rfl
  replace x9 := A.t x9 rfl
  replace x10 := A.t x10 rfl
  replace x11 := A.t x11 rfl
  replace x26 := A.t x26 rfl
  replace x27 := A.t x27 rfl
  replace x28 := A.t x28 rfl
  have x29 := A.e 0 29 rfl rfl
  replace bl := bgo bl hb
  replace sd := A.sd sd
  clear A hb
  show Code.wp _ _ _ _ _
  refine wp_seq ?_
  refine wp_cond_true x29 ?_
  refine wp_skip ?_
  show Code.wp _ _ _ _ _
  refine wp_seq ?_
  refine wp_block ?_
  refine wp_seq ?_
  refine wr_s [.sq RC cc, .eq (.agg ([.int .i64 cc.p, cc.vb] : List Value).toArray), .nw w10.heap.size 55 [.int .i64 0, .slice none 0 0]] (by rw [sd.1]; kernel_rfl) ⟨fun hw ac u K => ?_, fun hw ac u K => ?_, fun hw ac u K => ?_, trivial⟩ ?_
  · exact st_idxsc (.tmp 26) (.tmp 28) rfl (fk_val (K.t x26 rfl) (Fk.mono _ _ _ _ hcoo (bgo bl K.grow))) m cc (K.t x28 rfl) hcck
  · exact st_loadsc (.tmp 30) rfl (K.dep 0 30 rfl)
  · exact st_alloc 55 rfl _ _ (by kernel_rfl) K.grow.size
  intro f11 w11 A hb
  replace bl0 := bl
  replace x0 := A.t x0 rfl
  replace x1 := A.t x1 rfl
  replace x9 := A.t x9 rfl
  replace x10 := A.t x10 rfl
  replace x11 := A.t x11 rfl
  replace x26 := A.t x26 rfl
  replace x27 := A.t x27 rfl
  replace x28 := A.t x28 rfl
  replace x29 := A.t x29 rfl
  have x8 : Fk.f (.nw w10.heap.size 55 [.int .i64 0, .slice none 0 0]) (f11.eval (.tmp 8)) w11 := A.has 2 8 rfl
  have x31 := A.e 1 31 rfl rfl
  replace bl := bgo bl hb
  replace sd := A.sd sd
  clear A hb
  clear x29
  obtain ⟨g8, hg8, e8, m8⟩ := x8
  have x8 := e8
  clear e8
  have hw8 : w.heap.size ≤ g8 := Nat.le_trans bl0.size hg8
  refine wl_str rfl 55 (.tmp 8) (.tmp 31) rfl rfl (g8) ([.int .i64 cc.p, cc.vb] : List Value).toArray x8 x31 55 _ m8 (by kernel_rfl) (by kernel_rfl) (by kernel_rfl) ?_
  replace m8 : Ob (w11.setRow g8 ([.int .i64 cc.p, cc.vb] : List Value).toArray) (g8) 55 ([.int .i64 cc.p, cc.vb]) := Ob.setRow m8 ([.int .i64 cc.p, cc.vb])
  replace bl : Below w.heap.size w (w11.setRow g8 ([.int .i64 cc.p, cc.vb] : List Value).toArray) := bl.trans (below_setRow _ _ _ _ hw8)
  generalize w11.setRow g8 ([.int .i64 cc.p, cc.vb] : List Value).toArray = w12b at bl m8 ⊢
  refine wpList_nil ?_
  clear x31
  show Code.wp _ _ _ _ _
  refine wp_seq ?_
  by_cases h200 : 200 < cc.bs.length
  rotate_left
  · skip
    refine wr_a [.eq (.pointer (some ⟨g8, 1, none⟩)), .eq (cc.vb), .eq (.int .i64 (((cc.bs).length : Nat) : Int)), .eq (.bool false)] (by rw [sd.1]; kernel_rfl) ⟨fun hw ac u K => ?_, fun hw ac u K => ?_, fun hw ac u K => ?_, fun hw ac u K => ?_, trivial⟩ ?_
    · exact st_field 55 1 (.tmp 8) rfl (K.t x8 rfl) (by kernel_rfl)
    · exact st_loadc 35 (.tmp 32) rfl (by kernel_rfl) (K.dep 0 32 rfl) (Ob.cell (Ob.below m8 K.grow) 1 rfl)
    · exact st_lenb (.tmp 33) rfl (fk_val (K.dep 1 33 rfl) (Fk.mono _ _ _ _ hbcc (bgo bl K.grow)))
    · exact st_gtr 3 (.tmp 34) (.const (.int .i64 200)) rfl .i64 ((((cc.bs).length : Nat) : Int)) (200) (K.dep 2 34 rfl) rfl _ (by rw [eq_comm, decide_eq_false_iff_not]; omega)
    intro f13 w13 A hb
    replace x0 := A.t x0 rfl
    replace x1 := A.t x1 rfl
    replace x9 := A.t x9 rfl
    replace x10 := A.t x10 rfl
    replace x11 := A.t x11 rfl
    replace x26 := A.t x26 rfl
    replace x27 := A.t x27 rfl
    replace x28 := A.t x28 rfl
    replace x8 := A.t x8 rfl
    have x35 := A.e 3 35 rfl rfl
    replace m8 := Ob.below m8 hb
    replace bl := bgo bl hb
    replace sd := A.sd sd
    clear A hb
    clear x8
    clear m8
    show Code.wp _ _ _ _ _
    refine wp_cond_false x35 ?_
    refine wp_skip ?_
    show Code.wp _ _ _ _ _
    refine wr_s [.eq (.int .i64 ((m + 1 : Nat) : Int))] (by rw [sd.1]; kernel_rfl) ⟨fun hw ac u K => ?_, trivial⟩ ?_
    · exact st_addz (.tmp 28) (.const (.int .i64 1)) rfl _ _ _ (K.t x28 rfl) rfl (by omega) (by omega) (by omega)
    intro f14 w14 A hb
    replace x0 := A.t x0 rfl
    replace x1 := A.t x1 rfl
    replace x9 := A.t x9 rfl
    replace x10 := A.t x10 rfl
    replace x11 := A.t x11 rfl
    replace x26 := A.t x26 rfl
    replace x27 := A.t x27 rfl
    replace x28 := A.t x28 rfl
    replace x35 := A.t x35 rfl
    have x36 := A.e 0 36 rfl rfl
    replace bl := bgo bl hb
    replace sd := A.sd sd
    clear A hb
    clear x35
    refine wl_one (.eq (.int .i64 ((m + 1 : Nat) : Int))) rfl 28 rfl (by rw [sd.1]; decide) (st_move (.tmp 36) rfl x36) ?_
    intro f15 w15 df2 sz2 old2 new2 hb
    replace x0 := tr old2 x0 rfl
    replace x1 := tr old2 x1 rfl
    replace x9 := tr old2 x9 rfl
    replace x10 := tr old2 x10 rfl
    replace x11 := tr old2 x11 rfl
    replace x26 := tr old2 x26 rfl
    replace x27 := tr old2 x27 rfl
    clear x28
    replace x36 := tr old2 x36 rfl
    have x28 := Fk.e new2
    replace bl := bgo bl hb
    replace sd := sd2 sz2 df2 sd
    clear df2 sz2 old2 new2 hb
    refine wpList_nil ?_
    clear x36
    show (∃ _, _) ∧ _
    refine ⟨⟨m + 1, by omega, (by rw [take_one12 hcck]; intro q hq; rcases List.mem_append.1 hq with hq | hq; exact hin q hq; obtain rfl := List.mem_singleton.1 hq; omega), sd.1, sd.2, x0, x1, x9, x10, x11, x26, x27, x28, bl⟩, ?_⟩
    rw [show f15.eval (.tmp 28) = _ from x28, show _ = _ from hcnt2]
    first | (simp [intOf]; done) | (simp [intOf]; omega)
  have hbf : false = b := by rw [hb]; symm; rw [decide_eq_false_iff_not]; exact fun h => by have := h.1 oo (List.mem_of_getElem? hook); have := this.2 cc (List.mem_of_getElem? hcck); omega
  refine wr_a [.eq (.pointer (some ⟨g8, 1, none⟩)), .eq (cc.vb), .eq (.int .i64 (((cc.bs).length : Nat) : Int)), .eq (.bool true)] (by rw [sd.1]; kernel_rfl) ⟨fun hw ac u K => ?_, fun hw ac u K => ?_, fun hw ac u K => ?_, fun hw ac u K => ?_, trivial⟩ ?_
  · exact st_field 55 1 (.tmp 8) rfl (K.t x8 rfl) (by kernel_rfl)
  · exact st_loadc 35 (.tmp 32) rfl (by kernel_rfl) (K.dep 0 32 rfl) (Ob.cell (Ob.below m8 K.grow) 1 rfl)
  · exact st_lenb (.tmp 33) rfl (fk_val (K.dep 1 33 rfl) (Fk.mono _ _ _ _ hbcc (bgo bl K.grow)))
  · exact st_gtr 3 (.tmp 34) (.const (.int .i64 200)) rfl .i64 ((((cc.bs).length : Nat) : Int)) (200) (K.dep 2 34 rfl) rfl _ (by rw [eq_comm, decide_eq_true_iff]; omega)
  intro f13 w13 A hb
  replace x0 := A.t x0 rfl
  replace x1 := A.t x1 rfl
  replace x9 := A.t x9 rfl
  replace x10 := A.t x10 rfl
  replace x11 := A.t x11 rfl
  replace x26 := A.t x26 rfl
  replace x27 := A.t x27 rfl
  replace x28 := A.t x28 rfl
  replace x8 := A.t x8 rfl
  have x35 := A.e 3 35 rfl rfl
  replace m8 := Ob.below m8 hb
  replace bl := bgo bl hb
  replace sd := A.sd sd
  clear A hb
  clear x8
  clear m8
  show Code.wp _ _ _ _ _
  refine wp_cond_true x35 ?_
  refine wp_seq ?_
  refine wr_a [.eq (.bool false)] (by rw [sd.1]; kernel_rfl) ⟨fun hw ac u K => ?_, trivial⟩ ?_
  · exact st_assign (.const (.bool false)) rfl rfl
  intro f14 w14 A hb
  replace x0 := A.t x0 rfl
  replace x1 := A.t x1 rfl
  replace x9 := A.t x9 rfl
  replace x10 := A.t x10 rfl
  replace x11 := A.t x11 rfl
  replace x26 := A.t x26 rfl
  replace x27 := A.t x27 rfl
  replace x28 := A.t x28 rfl
  replace x35 := A.t x35 rfl
  have x4 := A.e 0 4 rfl rfl
  replace bl := bgo bl hb
  replace sd := A.sd sd
  clear A hb
  clear x35
  show Code.wp _ _ _ _ _
  refine wp_ret ?_
  repeat (first | with_reducible refine then_ret ?_ | with_reducible refine block_ret ?_)
  exact bodyPost_ret (v := .bool false) (ret_slot rfl f14 _ x4 _ _) sd.2 ⟨_, rfl, by rw [← hbf]; rfl, bl⟩
end Go.Proofs.Ytakdpkoigijonaa
