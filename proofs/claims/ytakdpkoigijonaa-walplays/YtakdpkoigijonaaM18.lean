/- WalPlays. -/
import Derived.Test.YtakdpkoigijonaaM17
namespace Go.Proofs.Ytakdpkoigijonaa
set_option maxRecDepth 100000
open Go.RowKit
/-- A row of texts that is being filled: the first ones are sectors of noughts, the others nothing. -/
def rz (h z k : Nat) : List Byt := List.replicate k (zs z) ++ List.replicate (h - k) []
theorem rz_zero (h z : Nat) : rz h z 0 = List.replicate h [] := by unfold rz; simp
theorem rz_all (h z : Nat) : rz h z h = List.replicate h (zs z) := by unfold rz; simp
theorem rz_len {h z k : Nat} (hk : k ≤ h) : (rz h z k).length = h := by
  unfold rz
  rw [List.length_append, List.length_replicate, List.length_replicate]
  omega
theorem rz_set {h z k : Nat} (hk : k < h) : (rz h z k).set k (zs z) = rz h z (k + 1) := by
  unfold rz
  rw [List.set_append_right _ _ (by rw [List.length_replicate]; omega), List.length_replicate, Nat.sub_self]
  obtain ⟨m, hm⟩ : ∃ m, h - k = m + 1 := ⟨h - k - 1, by omega⟩
  rw [hm, show h - (k + 1) = m by omega, List.replicate_succ, List.set_cons_zero, List.replicate_succ', List.append_assoc]
  rfl
section
variable {Q : Exit → Act → World → Prop} {o : Oper} {a : Act} {w : World} {ops : Array Oper} {rest : List Oper}
theorem wl_makeS (hgd : o.guard = none) (x y : Operand) (ho : o.op = .makeSlice 34 x y) (d : Nat) (hd : o.dst = some d) (hsz : d < a.tmps.size) (n : Nat) (hn : n ≤ 100000) (hx : a.eval x = .int .i64 (n : Int)) (hy : a.eval y = .int .i64 (n : Int))
    (h : ∀ a2 w2 g, a2.defers = a.defers → a2.tmps.size = a.tmps.size → (∀ t, (t == d) = false → a2.eval (.tmp t) = a.eval (.tmp t)) → a2.eval (.tmp d) = .slice (some ⟨g, 0, none⟩) n n → w.heap.size ≤ g → Rs w2 g (List.replicate n []) → Below w.heap.size w w2 → wpList Try.prog ops Q rest a2 w2) : wpList Try.prog ops Q (o :: rest) a w := by
  have hr : (Instr.makeSlice 34 (.int .i64 (n : Int)) (.int .i64 (n : Int))).run Try.prog w = .ok (.slice (some ⟨w.heap.size, 0, none⟩) n n) (w.alloc (.cells (madeCells (Value.string ByteArray.empty).cells n) 9)) := by
    obtain ⟨i0, hi, hz0, hz1, hz2⟩ := info_parts Try.info9s
    have := run_make (P := Try.prog) w 34 9 i0 (.string ByteArray.empty) Try.under34s hi hz0 .i64 .i64 (n : Int) (n : Int) (by omega) (by omega) (by rw [hz2]; omega) (by omega)
    rw [hz1, Int.toNat_natCast, Nat.mul_one] at this
    exact this
  unfold wpList
  rw [if_pos (by unfold Region.wanted; rw [hgd])]
  refine .inl ?_
  unfold Oper.wp execOp
  simp only [ho, Sem.run_bind, Sem.run_pure, Result.andThen_ok, hx, hy, hr]
  refine h _ _ w.heap.size (put_def _ _ _) (put_size _ _ _) (fun t ht => ?_) ?_ (Nat.le_refl _) ⟨_, heap_alloc_new _ _, fun i x hi => ?_⟩ ((Below.refl _ _).alloc (Nat.le_refl _) _)
  · rw [hd]
    exact put_eval_other _ _ _ _ (fun e => by subst e; simp at ht)
  · rw [hd, put_eval_same _ _ _ hsz]
  · rw [List.getElem?_replicate] at hi
    split at hi
    · rename_i hin
      cases hi
      have hs : i < (madeCells (Value.string ByteArray.empty).cells n).size := by rw [size_madeCells]; exact hin
      rw [Array.getElem?_eq_getElem hs]
      simp only [madeCells, Array.getElem_map, Array.getElem_range]
      show some ((#[Value.string ByteArray.empty] : Array Value)[i % 1]!) = _
      rw [Nat.mod_one]
      rfl
    · cases hi
end
set_option maxHeartbeats 4000000 in
theorem plays_law {a b : Int} {l : List Op12} {v : Value} (hln : l.length ≤ maxLen) (w : World) (hv : (Fk.sr RO l).f v w) :
    Calls Try.prog 3 #[.int .i64 a, .int .i64 b, v] w fun e w' => e = .returned (.bool true) ∧ Below w.heap.size w w' := by
  go_enter Try.func3, Try.ntmps3
  refine code_both (fun f w1 => f.tmps.size = 160 ∧ f.defers = [] ∧ f.eval (.tmp 0) = .int .i64 a ∧ f.eval (.tmp 1) = .int .i64 b ∧ f.eval (.tmp 2) = v ∧ Below w.heap.size w (w1)) ⟨rfl, rfl, rfl, rfl, rfl, Below.refl _ _⟩ ?_
  rintro f0 w0 ⟨sz, df, x0, x1, x2, bl⟩
  have sd := And.intro sz df
  clear sz df
  have bl0 := bl
  refine wp_seq ?_
  refine wr_a [.eq (.bool false)] (by rw [sd.1]; kernel_rfl) ⟨fun hwt ac u K => ?_, trivial⟩ ?_
  · exact st_assign (.const (.bool false)) rfl rfl
  intro f1 w1 A hb
  replace x0 := A.t x0 rfl
  replace x1 := A.t x1 rfl
  replace x2 := A.t x2 rfl
  replace bl := bgo bl hb
  replace sd := A.sd sd
  clear A hb
  show Code.wp _ _ _ _ _
  refine wp_seq ?_
  refine wp_seq ?_
  rcases (by omega : a < 3 ∨ (3 ≤ a ∧ 40 < a) ∨ (3 ≤ a ∧ a ≤ 40 ∧ b < 32) ∨ (3 ≤ a ∧ a ≤ 40 ∧ 32 ≤ b ∧ 200 < b) ∨ (3 ≤ a ∧ a ≤ 40 ∧ 32 ≤ b ∧ b ≤ 200)) with hab | hab | hab | hab | hab
  · skip
    refine wr_a [.eq (.int .i64 a), .eq (.bool true), .eq (.bool true), .any, .any, .eq (.bool true), .eq (.bool true), .any, .any, .eq (.bool true), .eq (.bool true), .any, .any, .eq (.bool true), .eq (.bool true), .any, .any, .any, .eq (.bool true)] (by rw [sd.1]; kernel_rfl) ⟨fun hwt ac u K => ?_, fun hwt ac u K => ?_, fun hwt ac u K => ?_, fun hwt ac u K => ?_, fun hwt ac u K => ?_, fun hwt ac u K => ?_, fun hwt ac u K => ?_, fun hwt ac u K => ?_, fun hwt ac u K => ?_, fun hwt ac u K => ?_, fun hwt ac u K => ?_, fun hwt ac u K => ?_, fun hwt ac u K => ?_, fun hwt ac u K => ?_, fun hwt ac u K => ?_, fun hwt ac u K => ?_, fun hwt ac u K => ?_, fun hwt ac u K => ?_, fun hwt ac u K => ?_, trivial⟩ ?_
    · exact st_move (.tmp 0) rfl (K.t x0 rfl)
    · exact st_lss 3 (.tmp 22) (.const (.int .i64 3)) rfl .i64 (a) (3) (K.dep 0 22 rfl) rfl _ (by rw [eq_comm, decide_eq_true_iff]; omega)
    · exact st_move (.tmp 23) rfl (K.dep 1 23 rfl)
    · exact (Bool.false_ne_true hwt).elim
    · exact (Bool.false_ne_true hwt).elim
    · exact st_pick_t (.tmp 24) (.const (.bool true)) (.tmp 26) rfl (K.dep 2 24 rfl) rfl
    · exact st_move (.tmp 27) rfl (K.dep 5 27 rfl)
    · exact (Bool.false_ne_true hwt).elim
    · exact (Bool.false_ne_true hwt).elim
    · exact st_pick_t (.tmp 28) (.const (.bool true)) (.tmp 30) rfl (K.dep 6 28 rfl) rfl
    · exact st_move (.tmp 31) rfl (K.dep 9 31 rfl)
    · exact (Bool.false_ne_true hwt).elim
    · exact (Bool.false_ne_true hwt).elim
    · exact st_pick_t (.tmp 32) (.const (.bool true)) (.tmp 34) rfl (K.dep 10 32 rfl) rfl
    · exact st_move (.tmp 35) rfl (K.dep 13 35 rfl)
    · exact (Bool.false_ne_true hwt).elim
    · exact (Bool.false_ne_true hwt).elim
    · exact (Bool.false_ne_true hwt).elim
    · exact st_pick_t (.tmp 36) (.const (.bool true)) (.tmp 39) rfl (K.dep 14 36 rfl) rfl
    intro f2 w2 A hb
    replace x0 := A.t x0 rfl
    replace x1 := A.t x1 rfl
    replace x2 := A.t x2 rfl
    have x40 := A.e 18 40 rfl rfl
    replace bl := bgo bl hb
    replace sd := A.sd sd
    clear A hb
    show Code.wp _ _ _ _ _
    refine wp_cond_true x40 ?_
    refine wp_seq ?_
    refine wr_a [.eq (.bool true), .eq (.bool true)] (by rw [sd.1]; kernel_rfl) ⟨fun hwt ac u K => ?_, fun hwt ac u K => ?_, trivial⟩ ?_
    · exact st_call 7 (.func 7) _ _ _ rfl rfl rfl Try.enter7 (awake12 _)
    · exact st_assign (.tmp 41) rfl (K.dep 0 41 rfl)
    intro f3 w3 A hb
    replace x0 := A.t x0 rfl
    replace x1 := A.t x1 rfl
    replace x2 := A.t x2 rfl
    replace x40 := A.t x40 rfl
    have x6 := A.e 1 6 rfl rfl
    replace bl := bgo bl hb
    replace sd := A.sd sd
    clear A hb
    clear x0
    clear x1
    clear x2
    clear x40
    show Code.wp _ _ _ _ _
    refine wp_ret ?_
    repeat (first | with_reducible refine then_ret ?_ | with_reducible refine block_ret ?_)
    exact bodyPost_ret (v := .bool true) (ret_slot rfl f3 _ x6 _ _) sd.2 ⟨rfl, bl⟩
  · skip
    refine wr_a [.eq (.int .i64 a), .eq (.bool false), .eq (.bool false), .eq (.int .i64 a), .eq (.bool true), .eq (.bool true), .eq (.bool true), .any, .any, .eq (.bool true), .eq (.bool true), .any, .any, .eq (.bool true), .eq (.bool true), .any, .any, .any, .eq (.bool true)] (by rw [sd.1]; kernel_rfl) ⟨fun hwt ac u K => ?_, fun hwt ac u K => ?_, fun hwt ac u K => ?_, fun hwt ac u K => ?_, fun hwt ac u K => ?_, fun hwt ac u K => ?_, fun hwt ac u K => ?_, fun hwt ac u K => ?_, fun hwt ac u K => ?_, fun hwt ac u K => ?_, fun hwt ac u K => ?_, fun hwt ac u K => ?_, fun hwt ac u K => ?_, fun hwt ac u K => ?_, fun hwt ac u K => ?_, fun hwt ac u K => ?_, fun hwt ac u K => ?_, fun hwt ac u K => ?_, fun hwt ac u K => ?_, trivial⟩ ?_
    · exact st_move (.tmp 0) rfl (K.t x0 rfl)
    · exact st_lss 3 (.tmp 22) (.const (.int .i64 3)) rfl .i64 (a) (3) (K.dep 0 22 rfl) rfl _ (by rw [eq_comm, decide_eq_false_iff_not]; omega)
    · exact st_move (.tmp 23) rfl (K.dep 1 23 rfl)
    · exact st_move (.tmp 0) rfl (K.t x0 rfl)
    · exact st_gtr 3 (.tmp 25) (.const (.int .i64 40)) rfl .i64 (a) (40) (K.dep 3 25 rfl) rfl _ (by rw [eq_comm, decide_eq_true_iff]; omega)
    · exact st_pick_f' (.tmp 24) (.const (.bool true)) (.tmp 26) rfl (K.dep 2 24 rfl) (K.dep 4 26 rfl)
    · exact st_move (.tmp 27) rfl (K.dep 5 27 rfl)
    · exact (Bool.false_ne_true hwt).elim
    · exact (Bool.false_ne_true hwt).elim
    · exact st_pick_t (.tmp 28) (.const (.bool true)) (.tmp 30) rfl (K.dep 6 28 rfl) rfl
    · exact st_move (.tmp 31) rfl (K.dep 9 31 rfl)
    · exact (Bool.false_ne_true hwt).elim
    · exact (Bool.false_ne_true hwt).elim
    · exact st_pick_t (.tmp 32) (.const (.bool true)) (.tmp 34) rfl (K.dep 10 32 rfl) rfl
    · exact st_move (.tmp 35) rfl (K.dep 13 35 rfl)
    · exact (Bool.false_ne_true hwt).elim
    · exact (Bool.false_ne_true hwt).elim
    · exact (Bool.false_ne_true hwt).elim
    · exact st_pick_t (.tmp 36) (.const (.bool true)) (.tmp 39) rfl (K.dep 14 36 rfl) rfl
    intro f2 w2 A hb
    replace x0 := A.t x0 rfl
    replace x1 := A.t x1 rfl
    replace x2 := A.t x2 rfl
    have x40 := A.e 18 40 rfl rfl
    replace bl := bgo bl hb
    replace sd := A.sd sd
    clear A hb
    show Code.wp _ _ _ _ _
    refine wp_cond_true x40 ?_
    refine wp_seq ?_
    refine wr_a [.eq (.bool true), .eq (.bool true)] (by rw [sd.1]; kernel_rfl) ⟨fun hwt ac u K => ?_, fun hwt ac u K => ?_, trivial⟩ ?_
    · exact st_call 7 (.func 7) _ _ _ rfl rfl rfl Try.enter7 (awake12 _)
    · exact st_assign (.tmp 41) rfl (K.dep 0 41 rfl)
    intro f3 w3 A hb
    replace x0 := A.t x0 rfl
    replace x1 := A.t x1 rfl
    replace x2 := A.t x2 rfl
    replace x40 := A.t x40 rfl
    have x6 := A.e 1 6 rfl rfl
    replace bl := bgo bl hb
    replace sd := A.sd sd
    clear A hb
    clear x0
    clear x1
    clear x2
    clear x40
    show Code.wp _ _ _ _ _
    refine wp_ret ?_
    repeat (first | with_reducible refine then_ret ?_ | with_reducible refine block_ret ?_)
    exact bodyPost_ret (v := .bool true) (ret_slot rfl f3 _ x6 _ _) sd.2 ⟨rfl, bl⟩
  · skip
    refine wr_a [.eq (.int .i64 a), .eq (.bool false), .eq (.bool false), .eq (.int .i64 a), .eq (.bool false), .eq (.bool false), .eq (.bool false), .eq (.int .i64 b), .eq (.bool true), .eq (.bool true), .eq (.bool true), .any, .any, .eq (.bool true), .eq (.bool true), .any, .any, .any, .eq (.bool true)] (by rw [sd.1]; kernel_rfl) ⟨fun hwt ac u K => ?_, fun hwt ac u K => ?_, fun hwt ac u K => ?_, fun hwt ac u K => ?_, fun hwt ac u K => ?_, fun hwt ac u K => ?_, fun hwt ac u K => ?_, fun hwt ac u K => ?_, fun hwt ac u K => ?_, fun hwt ac u K => ?_, fun hwt ac u K => ?_, fun hwt ac u K => ?_, fun hwt ac u K => ?_, fun hwt ac u K => ?_, fun hwt ac u K => ?_, fun hwt ac u K => ?_, fun hwt ac u K => ?_, fun hwt ac u K => ?_, fun hwt ac u K => ?_, trivial⟩ ?_
    · exact st_move (.tmp 0) rfl (K.t x0 rfl)
    · exact st_lss 3 (.tmp 22) (.const (.int .i64 3)) rfl .i64 (a) (3) (K.dep 0 22 rfl) rfl _ (by rw [eq_comm, decide_eq_false_iff_not]; omega)
    · exact st_move (.tmp 23) rfl (K.dep 1 23 rfl)
    · exact st_move (.tmp 0) rfl (K.t x0 rfl)
    · exact st_gtr 3 (.tmp 25) (.const (.int .i64 40)) rfl .i64 (a) (40) (K.dep 3 25 rfl) rfl _ (by rw [eq_comm, decide_eq_false_iff_not]; omega)
    · exact st_pick_f' (.tmp 24) (.const (.bool true)) (.tmp 26) rfl (K.dep 2 24 rfl) (K.dep 4 26 rfl)
    · exact st_move (.tmp 27) rfl (K.dep 5 27 rfl)
    · exact st_move (.tmp 1) rfl (K.t x1 rfl)
    · exact st_lss 3 (.tmp 29) (.const (.int .i64 32)) rfl .i64 (b) (32) (K.dep 7 29 rfl) rfl _ (by rw [eq_comm, decide_eq_true_iff]; omega)
    · exact st_pick_f' (.tmp 28) (.const (.bool true)) (.tmp 30) rfl (K.dep 6 28 rfl) (K.dep 8 30 rfl)
    · exact st_move (.tmp 31) rfl (K.dep 9 31 rfl)
    · exact (Bool.false_ne_true hwt).elim
    · exact (Bool.false_ne_true hwt).elim
    · exact st_pick_t (.tmp 32) (.const (.bool true)) (.tmp 34) rfl (K.dep 10 32 rfl) rfl
    · exact st_move (.tmp 35) rfl (K.dep 13 35 rfl)
    · exact (Bool.false_ne_true hwt).elim
    · exact (Bool.false_ne_true hwt).elim
    · exact (Bool.false_ne_true hwt).elim
    · exact st_pick_t (.tmp 36) (.const (.bool true)) (.tmp 39) rfl (K.dep 14 36 rfl) rfl
    intro f2 w2 A hb
    replace x0 := A.t x0 rfl
    replace x1 := A.t x1 rfl
    replace x2 := A.t x2 rfl
    have x40 := A.e 18 40 rfl rfl
    replace bl := bgo bl hb
    replace sd := A.sd sd
    clear A hb
    show Code.wp _ _ _ _ _
    refine wp_cond_true x40 ?_
    refine wp_seq ?_
    refine wr_a [.eq (.bool true), .eq (.bool true)] (by rw [sd.1]; kernel_rfl) ⟨fun hwt ac u K => ?_, fun hwt ac u K => ?_, trivial⟩ ?_
    · exact st_call 7 (.func 7) _ _ _ rfl rfl rfl Try.enter7 (awake12 _)
    · exact st_assign (.tmp 41) rfl (K.dep 0 41 rfl)
    intro f3 w3 A hb
    replace x0 := A.t x0 rfl
    replace x1 := A.t x1 rfl
    replace x2 := A.t x2 rfl
    replace x40 := A.t x40 rfl
    have x6 := A.e 1 6 rfl rfl
    replace bl := bgo bl hb
    replace sd := A.sd sd
    clear A hb
    clear x0
    clear x1
    clear x2
    clear x40
    show Code.wp _ _ _ _ _
    refine wp_ret ?_
    repeat (first | with_reducible refine then_ret ?_ | with_reducible refine block_ret ?_)
    exact bodyPost_ret (v := .bool true) (ret_slot rfl f3 _ x6 _ _) sd.2 ⟨rfl, bl⟩
  · skip
    refine wr_a [.eq (.int .i64 a), .eq (.bool false), .eq (.bool false), .eq (.int .i64 a), .eq (.bool false), .eq (.bool false), .eq (.bool false), .eq (.int .i64 b), .eq (.bool false), .eq (.bool false), .eq (.bool false), .eq (.int .i64 b), .eq (.bool true), .eq (.bool true), .eq (.bool true), .any, .any, .any, .eq (.bool true)] (by rw [sd.1]; kernel_rfl) ⟨fun hwt ac u K => ?_, fun hwt ac u K => ?_, fun hwt ac u K => ?_, fun hwt ac u K => ?_, fun hwt ac u K => ?_, fun hwt ac u K => ?_, fun hwt ac u K => ?_, fun hwt ac u K => ?_, fun hwt ac u K => ?_, fun hwt ac u K => ?_, fun hwt ac u K => ?_, fun hwt ac u K => ?_, fun hwt ac u K => ?_, fun hwt ac u K => ?_, fun hwt ac u K => ?_, fun hwt ac u K => ?_, fun hwt ac u K => ?_, fun hwt ac u K => ?_, fun hwt ac u K => ?_, trivial⟩ ?_
    · exact st_move (.tmp 0) rfl (K.t x0 rfl)
    · exact st_lss 3 (.tmp 22) (.const (.int .i64 3)) rfl .i64 (a) (3) (K.dep 0 22 rfl) rfl _ (by rw [eq_comm, decide_eq_false_iff_not]; omega)
    · exact st_move (.tmp 23) rfl (K.dep 1 23 rfl)
    · exact st_move (.tmp 0) rfl (K.t x0 rfl)
    · exact st_gtr 3 (.tmp 25) (.const (.int .i64 40)) rfl .i64 (a) (40) (K.dep 3 25 rfl) rfl _ (by rw [eq_comm, decide_eq_false_iff_not]; omega)
    · exact st_pick_f' (.tmp 24) (.const (.bool true)) (.tmp 26) rfl (K.dep 2 24 rfl) (K.dep 4 26 rfl)
    · exact st_move (.tmp 27) rfl (K.dep 5 27 rfl)
    · exact st_move (.tmp 1) rfl (K.t x1 rfl)
    · exact st_lss 3 (.tmp 29) (.const (.int .i64 32)) rfl .i64 (b) (32) (K.dep 7 29 rfl) rfl _ (by rw [eq_comm, decide_eq_false_iff_not]; omega)
    · exact st_pick_f' (.tmp 28) (.const (.bool true)) (.tmp 30) rfl (K.dep 6 28 rfl) (K.dep 8 30 rfl)
    · exact st_move (.tmp 31) rfl (K.dep 9 31 rfl)
    · exact st_move (.tmp 1) rfl (K.t x1 rfl)
    · exact st_gtr 3 (.tmp 33) (.const (.int .i64 200)) rfl .i64 (b) (200) (K.dep 11 33 rfl) rfl _ (by rw [eq_comm, decide_eq_true_iff]; omega)
    · exact st_pick_f' (.tmp 32) (.const (.bool true)) (.tmp 34) rfl (K.dep 10 32 rfl) (K.dep 12 34 rfl)
    · exact st_move (.tmp 35) rfl (K.dep 13 35 rfl)
    · exact (Bool.false_ne_true hwt).elim
    · exact (Bool.false_ne_true hwt).elim
    · exact (Bool.false_ne_true hwt).elim
    · exact st_pick_t (.tmp 36) (.const (.bool true)) (.tmp 39) rfl (K.dep 14 36 rfl) rfl
    intro f2 w2 A hb
    replace x0 := A.t x0 rfl
    replace x1 := A.t x1 rfl
    replace x2 := A.t x2 rfl
    have x40 := A.e 18 40 rfl rfl
    replace bl := bgo bl hb
    replace sd := A.sd sd
    clear A hb
    show Code.wp _ _ _ _ _
    refine wp_cond_true x40 ?_
    refine wp_seq ?_
    refine wr_a [.eq (.bool true), .eq (.bool true)] (by rw [sd.1]; kernel_rfl) ⟨fun hwt ac u K => ?_, fun hwt ac u K => ?_, trivial⟩ ?_
    · exact st_call 7 (.func 7) _ _ _ rfl rfl rfl Try.enter7 (awake12 _)
    · exact st_assign (.tmp 41) rfl (K.dep 0 41 rfl)
    intro f3 w3 A hb
    replace x0 := A.t x0 rfl
    replace x1 := A.t x1 rfl
    replace x2 := A.t x2 rfl
    replace x40 := A.t x40 rfl
    have x6 := A.e 1 6 rfl rfl
    replace bl := bgo bl hb
    replace sd := A.sd sd
    clear A hb
    clear x0
    clear x1
    clear x2
    clear x40
    show Code.wp _ _ _ _ _
    refine wp_ret ?_
    repeat (first | with_reducible refine then_ret ?_ | with_reducible refine block_ret ?_)
    exact bodyPost_ret (v := .bool true) (ret_slot rfl f3 _ x6 _ _) sd.2 ⟨rfl, bl⟩
  by_cases hsmall : smallW l 20
  rotate_left
  · skip
    refine wr_a [.eq (.int .i64 a), .eq (.bool false), .eq (.bool false), .eq (.int .i64 a), .eq (.bool false), .eq (.bool false), .eq (.bool false), .eq (.int .i64 b), .eq (.bool false), .eq (.bool false), .eq (.bool false), .eq (.int .i64 b), .eq (.bool false), .eq (.bool false), .eq (.bool false), .eq (v), .eq (.bool false), .eq (.bool true), .eq (.bool true)] (by rw [sd.1]; kernel_rfl) ⟨fun hwt ac u K => ?_, fun hwt ac u K => ?_, fun hwt ac u K => ?_, fun hwt ac u K => ?_, fun hwt ac u K => ?_, fun hwt ac u K => ?_, fun hwt ac u K => ?_, fun hwt ac u K => ?_, fun hwt ac u K => ?_, fun hwt ac u K => ?_, fun hwt ac u K => ?_, fun hwt ac u K => ?_, fun hwt ac u K => ?_, fun hwt ac u K => ?_, fun hwt ac u K => ?_, fun hwt ac u K => ?_, fun hwt ac u K => ?_, fun hwt ac u K => ?_, fun hwt ac u K => ?_, trivial⟩ ?_
    · exact st_move (.tmp 0) rfl (K.t x0 rfl)
    · exact st_lss 3 (.tmp 22) (.const (.int .i64 3)) rfl .i64 (a) (3) (K.dep 0 22 rfl) rfl _ (by rw [eq_comm, decide_eq_false_iff_not]; omega)
    · exact st_move (.tmp 23) rfl (K.dep 1 23 rfl)
    · exact st_move (.tmp 0) rfl (K.t x0 rfl)
    · exact st_gtr 3 (.tmp 25) (.const (.int .i64 40)) rfl .i64 (a) (40) (K.dep 3 25 rfl) rfl _ (by rw [eq_comm, decide_eq_false_iff_not]; omega)
    · exact st_pick_f' (.tmp 24) (.const (.bool true)) (.tmp 26) rfl (K.dep 2 24 rfl) (K.dep 4 26 rfl)
    · exact st_move (.tmp 27) rfl (K.dep 5 27 rfl)
    · exact st_move (.tmp 1) rfl (K.t x1 rfl)
    · exact st_lss 3 (.tmp 29) (.const (.int .i64 32)) rfl .i64 (b) (32) (K.dep 7 29 rfl) rfl _ (by rw [eq_comm, decide_eq_false_iff_not]; omega)
    · exact st_pick_f' (.tmp 28) (.const (.bool true)) (.tmp 30) rfl (K.dep 6 28 rfl) (K.dep 8 30 rfl)
    · exact st_move (.tmp 31) rfl (K.dep 9 31 rfl)
    · exact st_move (.tmp 1) rfl (K.t x1 rfl)
    · exact st_gtr 3 (.tmp 33) (.const (.int .i64 200)) rfl .i64 (b) (200) (K.dep 11 33 rfl) rfl _ (by rw [eq_comm, decide_eq_false_iff_not]; omega)
    · exact st_pick_f' (.tmp 32) (.const (.bool true)) (.tmp 34) rfl (K.dep 10 32 rfl) (K.dep 12 34 rfl)
    · exact st_move (.tmp 35) rfl (K.dep 13 35 rfl)
    · exact st_move (.tmp 2) rfl (K.t x2 rfl)
    · exact st_call 6 (.func 6) _ _ _ rfl rfl (arg2 (K.dep 15 37 rfl) rfl) Try.enter6 (fk_smallw hln (Fk.mono _ _ _ _ hv (bgo bl K.grow)) (by symm; rw [decide_eq_false_iff_not]; exact hsmall))
    · exact st_not (.tmp 38) rfl false (K.dep 16 38 rfl)
    · exact st_pick_f' (.tmp 36) (.const (.bool true)) (.tmp 39) rfl (K.dep 14 36 rfl) (K.dep 17 39 rfl)
    intro f2 w2 A hb
    replace x0 := A.t x0 rfl
    replace x1 := A.t x1 rfl
    replace x2 := A.t x2 rfl
    have x40 := A.e 18 40 rfl rfl
    replace bl := bgo bl hb
    replace sd := A.sd sd
    clear A hb
    show Code.wp _ _ _ _ _
    refine wp_cond_true x40 ?_
    refine wp_seq ?_
    refine wr_a [.eq (.bool true), .eq (.bool true)] (by rw [sd.1]; kernel_rfl) ⟨fun hwt ac u K => ?_, fun hwt ac u K => ?_, trivial⟩ ?_
    · exact st_call 7 (.func 7) _ _ _ rfl rfl rfl Try.enter7 (awake12 _)
    · exact st_assign (.tmp 41) rfl (K.dep 0 41 rfl)
    intro f3 w3 A hb
    replace x0 := A.t x0 rfl
    replace x1 := A.t x1 rfl
    replace x2 := A.t x2 rfl
    replace x40 := A.t x40 rfl
    have x6 := A.e 1 6 rfl rfl
    replace bl := bgo bl hb
    replace sd := A.sd sd
    clear A hb
    clear x0
    clear x1
    clear x2
    clear x40
    show Code.wp _ _ _ _ _
    refine wp_ret ?_
    repeat (first | with_reducible refine then_ret ?_ | with_reducible refine block_ret ?_)
    exact bodyPost_ret (v := .bool true) (ret_slot rfl f3 _ x6 _ _) sd.2 ⟨rfl, bl⟩
  obtain ⟨n, rfl⟩ : ∃ n : Nat, a = (n : Int) := ⟨a.toNat, by omega⟩
  obtain ⟨z, rfl⟩ : ∃ z : Nat, b = (z : Int) := ⟨b.toNat, by omega⟩
  refine wr_a [.eq (.int .i64 (n : Int)), .eq (.bool false), .eq (.bool false), .eq (.int .i64 (n : Int)), .eq (.bool false), .eq (.bool false), .eq (.bool false), .eq (.int .i64 (z : Int)), .eq (.bool false), .eq (.bool false), .eq (.bool false), .eq (.int .i64 (z : Int)), .eq (.bool false), .eq (.bool false), .eq (.bool false), .eq (v), .eq (.bool true), .eq (.bool false), .eq (.bool false)] (by rw [sd.1]; kernel_rfl) ⟨fun hwt ac u K => ?_, fun hwt ac u K => ?_, fun hwt ac u K => ?_, fun hwt ac u K => ?_, fun hwt ac u K => ?_, fun hwt ac u K => ?_, fun hwt ac u K => ?_, fun hwt ac u K => ?_, fun hwt ac u K => ?_, fun hwt ac u K => ?_, fun hwt ac u K => ?_, fun hwt ac u K => ?_, fun hwt ac u K => ?_, fun hwt ac u K => ?_, fun hwt ac u K => ?_, fun hwt ac u K => ?_, fun hwt ac u K => ?_, fun hwt ac u K => ?_, fun hwt ac u K => ?_, trivial⟩ ?_
  · exact st_move (.tmp 0) rfl (K.t x0 rfl)
  · exact st_lss 3 (.tmp 22) (.const (.int .i64 3)) rfl .i64 ((n : Int)) (3) (K.dep 0 22 rfl) rfl _ (by rw [eq_comm, decide_eq_false_iff_not]; omega)
  · exact st_move (.tmp 23) rfl (K.dep 1 23 rfl)
  · exact st_move (.tmp 0) rfl (K.t x0 rfl)
  · exact st_gtr 3 (.tmp 25) (.const (.int .i64 40)) rfl .i64 ((n : Int)) (40) (K.dep 3 25 rfl) rfl _ (by rw [eq_comm, decide_eq_false_iff_not]; omega)
  · exact st_pick_f' (.tmp 24) (.const (.bool true)) (.tmp 26) rfl (K.dep 2 24 rfl) (K.dep 4 26 rfl)
  · exact st_move (.tmp 27) rfl (K.dep 5 27 rfl)
  · exact st_move (.tmp 1) rfl (K.t x1 rfl)
  · exact st_lss 3 (.tmp 29) (.const (.int .i64 32)) rfl .i64 ((z : Int)) (32) (K.dep 7 29 rfl) rfl _ (by rw [eq_comm, decide_eq_false_iff_not]; omega)
  · exact st_pick_f' (.tmp 28) (.const (.bool true)) (.tmp 30) rfl (K.dep 6 28 rfl) (K.dep 8 30 rfl)
  · exact st_move (.tmp 31) rfl (K.dep 9 31 rfl)
  · exact st_move (.tmp 1) rfl (K.t x1 rfl)
  · exact st_gtr 3 (.tmp 33) (.const (.int .i64 200)) rfl .i64 ((z : Int)) (200) (K.dep 11 33 rfl) rfl _ (by rw [eq_comm, decide_eq_false_iff_not]; omega)
  · exact st_pick_f' (.tmp 32) (.const (.bool true)) (.tmp 34) rfl (K.dep 10 32 rfl) (K.dep 12 34 rfl)
  · exact st_move (.tmp 35) rfl (K.dep 13 35 rfl)
  · exact st_move (.tmp 2) rfl (K.t x2 rfl)
  · exact st_call 6 (.func 6) _ _ _ rfl rfl (arg2 (K.dep 15 37 rfl) rfl) Try.enter6 (fk_smallw hln (Fk.mono _ _ _ _ hv (bgo bl K.grow)) (by symm; rw [decide_eq_true_iff]; exact hsmall))
  · exact st_not (.tmp 38) rfl true (K.dep 16 38 rfl)
  · exact st_pick_f' (.tmp 36) (.const (.bool true)) (.tmp 39) rfl (K.dep 14 36 rfl) (K.dep 17 39 rfl)
  intro f2 w2 A hb
  replace x0 := A.t x0 rfl
  replace x1 := A.t x1 rfl
  replace x2 := A.t x2 rfl
  have x40 := A.e 18 40 rfl rfl
  replace bl := bgo bl hb
  replace sd := A.sd sd
  clear A hb
  show Code.wp _ _ _ _ _
  refine wp_cond_false x40 ?_
  refine wp_skip ?_
  show Code.wp _ _ _ _ _
  refine wp_seq ?_
  refine wr_s [.eq (.int .i64 (n : Int)), .eq (.int .i64 (z : Int))] (by rw [sd.1]; kernel_rfl) ⟨fun hwt ac u K => ?_, fun hwt ac u K => ?_, trivial⟩ ?_
  · exact st_move (.tmp 0) rfl (K.t x0 rfl)
  · exact st_move (.tmp 1) rfl (K.t x1 rfl)
  intro f3 w3 A hb
  replace x0 := A.t x0 rfl
  replace x1 := A.t x1 rfl
  replace x2 := A.t x2 rfl
  replace x40 := A.t x40 rfl
  have x42 := A.e 0 42 rfl rfl
  have x43 := A.e 1 43 rfl rfl
  replace bl := bgo bl hb
  replace sd := A.sd sd
  clear A hb
  clear x40
  refine wl_call 8 (.func 8) _ _ #[.int .i64 (n : Int), .int .i64 (z : Int)] rfl 44 rfl (by rw [sd.1]; decide) rfl rfl (two_arg x42 x43) Try.enter8 (fun u W' => ∃ (gd : Nat) (M D : Nat → Prop), u = .pointer (some ⟨gd, 0, none⟩) ∧ HD W' gd M D (newd (n) (z)) ∧ (∀ j, D j → w3.heap.size ≤ j) ∧ Below w3.heap.size w3 W') ((fk_dnew (N := n) (Z := z) (by omega) (by omega) (by omega) (by omega) w3).mono (by rintro e w' ⟨gd, M, D, rfl, q⟩; exact ⟨_, rfl, gd, M, D, rfl, q⟩)) ?_
  rintro f4 w4 df2 sz2 old2 ⟨gd, M, DD, x44, hd, hD0, hb⟩
  have hDD : ∀ j, DD j → w.heap.size ≤ j := fun j q => Nat.le_trans bl.size (hD0 j q)
  clear hD0
  replace bl0 := bl
  replace x0 := tr old2 x0 rfl
  replace x1 := tr old2 x1 rfl
  replace x2 := tr old2 x2 rfl
  replace x42 := tr old2 x42 rfl
  replace x43 := tr old2 x43 rfl
  replace bl := bgo bl hb
  replace sd := sd2 sz2 df2 sd
  clear df2 sz2 old2 hb
  clear x42
  clear x43
  refine wl_one (.eq (.pointer (some ⟨gd, 0, none⟩))) rfl 7 rfl (by rw [sd.1]; decide) (st_assign (.tmp 44) rfl x44) ?_
  intro f5 w5 df2 sz2 old2 new2 hb
  replace x0 := tr old2 x0 rfl
  replace x1 := tr old2 x1 rfl
  replace x2 := tr old2 x2 rfl
  replace x44 := tr old2 x44 rfl
  have x7 := Fk.e new2
  replace hd := HD.below hd hb
  replace bl := bgo bl hb
  replace sd := sd2 sz2 df2 sd
  clear df2 sz2 old2 new2 hb
  refine wpList_nil ?_
  clear x44
  show Code.wp _ _ _ _ _
  refine wp_seq ?_
  refine wp_seq ?_
  refine wr_a [.eq (.pointer (some ⟨gd, 0, none⟩)), .eq (.bool false)] (by rw [sd.1]; kernel_rfl) ⟨fun hwt ac u K => ?_, fun hwt ac u K => ?_, trivial⟩ ?_
  · exact st_move (.tmp 7) rfl (K.t x7 rfl)
  · exact st_bin .eql 25 25 (.tmp 45) _ rfl (K.dep 0 45 rfl) rfl (by kernel_rfl)
  intro f6 w6 A hb
  replace x0 := A.t x0 rfl
  replace x1 := A.t x1 rfl
  replace x2 := A.t x2 rfl
  replace x7 := A.t x7 rfl
  have x46 := A.e 1 46 rfl rfl
  replace hd := HD.below hd hb
  replace bl := bgo bl hb
  replace sd := A.sd sd
  clear A hb
  show Code.wp _ _ _ _ _
  refine wp_cond_false x46 ?_
  refine wp_skip ?_
  show Code.wp _ _ _ _ _
  refine wp_seq ?_
  obtain ⟨s0, hs0⟩ : ∃ s, s = newd n z := ⟨_, rfl⟩
  rw [← hs0] at hd
  have h3 : 3 ≤ n := by omega
  have h32 : 32 ≤ z := by omega
  have hnM : n ≤ 100000 := by omega
  have hh1 : 1 ≤ homN n := by unfold homN; omega
  have hh9 : homN n ≤ 39 := by unfold homN; omega
  have gs : Gd s0 n z 0 := by rw [hs0]; exact gd_new n z
  have hgw : Gw s0 n z := by rw [hs0]; exact gw_newd (by omega)
  have hq : Quiet n z (homN n) (prsP n) false s0 (List.replicate (homN n) (zs z)) := by rw [hs0]; exact quiet_newd h3 (by omega)
  have hop : wopn (homN n) (prsP n) (hdz z) s0 = (0, s0) := wopn_quiet h3 h32 hq
  clear hs0
  have hll : l.length ≤ 20 := by have := hsmall.2; omega
  refine wr_s [.eq (.pointer (some ⟨gd, 0, none⟩))] (by rw [sd.1]; kernel_rfl) ⟨fun hwt ac u K => ?_, trivial⟩ ?_
  · exact st_move (.tmp 7) rfl (K.t x7 rfl)
  intro f7 w7 A hb
  replace x0 := A.t x0 rfl
  replace x1 := A.t x1 rfl
  replace x2 := A.t x2 rfl
  replace x7 := A.t x7 rfl
  replace x46 := A.t x46 rfl
  have x48 := A.e 0 48 rfl rfl
  replace hd := HD.below hd hb
  replace bl := bgo bl hb
  replace sd := A.sd sd
  clear A hb
  clear x7
  clear x46
  refine wl_call 9 (.func 9) _ _ #[.pointer (some ⟨gd, 0, none⟩)] rfl 49 rfl (by rw [sd.1]; decide) rfl rfl (one_arg x48) Try.enter9 (fun u W' => ∃ (D2 : Nat → Prop) (gw : Nat) (VV : Nat → Prop), u = .tuple #[.pointer (some ⟨gw, 0, none⟩), .int .i64 0] ∧ HD W' gd M D2 (s0) ∧ Gd (s0) n z (0 + 4 * (n + 2)) ∧ HW W' gw gd VV n z false ∧ (∀ j, VV j → w7.heap.size ≤ j ∧ ¬ D2 j) ∧ (∀ j, D2 j → DD j ∨ w7.heap.size ≤ j) ∧ Fr M w7 W') (open_ok12 hd gs hgw (by omega) hop) ?_
  rintro f8 w8 df2 sz2 old2 ⟨D2, gw, VV, x49, hd2, gs2, hw, hVN, hD2, O⟩
  have hVw : ∀ j, VV j → w.heap.size ≤ j := fun j q => Nat.le_trans bl.size (hVN j q).1
  have hVD : ∀ j, VV j → ¬ D2 j := fun j q => (hVN j q).2
  have bl9 := bl.trans (O.below bl.size (fun j q => hDD j (hd.sub j q)))
  replace hDD : ∀ j, D2 j → w.heap.size ≤ j := fun j q => (hD2 j q).elim (hDD j) (fun q => by have := bl.size; omega)
  replace bl := bl9
  replace bl0 := bl
  clear bl9
  replace hd := hd2
  replace gs := gs2
  clear gs2 hVN
  clear hd2 hD2 O
  clear DD
  obtain ⟨DD, rfl⟩ : ∃ E, E = D2 := ⟨_, rfl⟩
  replace x0 := tr old2 x0 rfl
  replace x1 := tr old2 x1 rfl
  replace x2 := tr old2 x2 rfl
  replace x48 := tr old2 x48 rfl
  replace sd := sd2 sz2 df2 sd
  clear df2 sz2 old2
  clear x48
  refine wl_one (.eq (.tuple #[.pointer (some ⟨gw, 0, none⟩), .int .i64 0])) rfl 47 rfl (by rw [sd.1]; decide) (st_move (.tmp 49) rfl x49) ?_
  intro f9 w9 df2 sz2 old2 new2 hb
  replace x0 := tr old2 x0 rfl
  replace x1 := tr old2 x1 rfl
  replace x2 := tr old2 x2 rfl
  replace x49 := tr old2 x49 rfl
  have x47 := Fk.e new2
  replace hd := HD.below hd hb
  replace hw := HW.below hw hb
  replace bl := bgo bl hb
  replace sd := sd2 sz2 df2 sd
  clear df2 sz2 old2 new2 hb
  clear x49
  refine wl_one (.eq (.pointer (some ⟨gw, 0, none⟩))) rfl 50 rfl (by rw [sd.1]; decide) (st_extv (.tmp 47) 0 rfl x47 rfl) ?_
  intro f10 w10 df2 sz2 old2 new2 hb
  replace x0 := tr old2 x0 rfl
  replace x1 := tr old2 x1 rfl
  replace x2 := tr old2 x2 rfl
  replace x47 := tr old2 x47 rfl
  have x50 := Fk.e new2
  replace hd := HD.below hd hb
  replace hw := HW.below hw hb
  replace bl := bgo bl hb
  replace sd := sd2 sz2 df2 sd
  clear df2 sz2 old2 new2 hb
  refine wl_one (.eq (.int .i64 0)) rfl 51 rfl (by rw [sd.1]; decide) (st_extv (.tmp 47) 1 rfl x47 rfl) ?_
  intro f11 w11 df2 sz2 old2 new2 hb
  replace x0 := tr old2 x0 rfl
  replace x1 := tr old2 x1 rfl
  replace x2 := tr old2 x2 rfl
  replace x47 := tr old2 x47 rfl
  replace x50 := tr old2 x50 rfl
  have x51 := Fk.e new2
  replace hd := HD.below hd hb
  replace hw := HW.below hw hb
  replace bl := bgo bl hb
  replace sd := sd2 sz2 df2 sd
  clear df2 sz2 old2 new2 hb
  clear x47
  refine wl_one (.eq (.pointer (some ⟨gw, 0, none⟩))) rfl 8 rfl (by rw [sd.1]; decide) (st_assign (.tmp 50) rfl x50) ?_
  intro f12 w12 df2 sz2 old2 new2 hb
  replace x0 := tr old2 x0 rfl
  replace x1 := tr old2 x1 rfl
  replace x2 := tr old2 x2 rfl
  replace x50 := tr old2 x50 rfl
  replace x51 := tr old2 x51 rfl
  have x8 := Fk.e new2
  replace hd := HD.below hd hb
  replace hw := HW.below hw hb
  replace bl := bgo bl hb
  replace sd := sd2 sz2 df2 sd
  clear df2 sz2 old2 new2 hb
  clear x50
  refine wl_one (.eq (.int .i64 0)) rfl 9 rfl (by rw [sd.1]; decide) (st_assign (.tmp 51) rfl x51) ?_
  intro f13 w13 df2 sz2 old2 new2 hb
  replace x0 := tr old2 x0 rfl
  replace x1 := tr old2 x1 rfl
  replace x2 := tr old2 x2 rfl
  replace x51 := tr old2 x51 rfl
  replace x8 := tr old2 x8 rfl
  have x9 := Fk.e new2
  replace hd := HD.below hd hb
  replace hw := HW.below hw hb
  replace bl := bgo bl hb
  replace sd := sd2 sz2 df2 sd
  clear df2 sz2 old2 new2 hb
  refine wpList_nil ?_
  clear x51
  show Code.wp _ _ _ _ _
  refine wp_seq ?_
  refine wr_a [.eq (.int .i64 (n : Int)), .eq (.int .i64 ((homN n : Nat) : Int)), .eq (.int .i64 ((homN n : Nat) : Int))] (by rw [sd.1]; kernel_rfl) ⟨fun hwt ac u K => ?_, fun hwt ac u K => ?_, fun hwt ac u K => ?_, trivial⟩ ?_
  · exact st_move (.tmp 0) rfl (K.t x0 rfl)
  · exact st_call 10 (.func 10) _ _ _ rfl rfl (one_arg (K.dep 0 52 rfl)) Try.enter10 (fk_home (by omega) (by omega) _)
  · exact st_assign (.tmp 53) rfl (K.dep 1 53 rfl)
  intro f14 w14 A hb
  replace x0 := A.t x0 rfl
  replace x1 := A.t x1 rfl
  replace x2 := A.t x2 rfl
  replace x8 := A.t x8 rfl
  replace x9 := A.t x9 rfl
  have x10 := A.e 2 10 rfl rfl
  replace hd := HD.below hd hb
  replace hw := HW.below hw hb
  replace bl := bgo bl hb
  replace sd := A.sd sd
  clear A hb
  show Code.wp _ _ _ _ _
  refine wp_seq ?_
  refine wp_seq ?_
  refine wr_s [] (by rw [sd.1]; kernel_rfl) trivial ?_
  intro f15 w15 A hb
  replace x0 := A.t x0 rfl
  replace x1 := A.t x1 rfl
  replace x2 := A.t x2 rfl
  replace x8 := A.t x8 rfl
  replace x9 := A.t x9 rfl
  replace x10 := A.t x10 rfl
  replace hd := HD.below hd hb
  replace hw := HW.below hw hb
  replace bl := bgo bl hb
  replace sd := A.sd sd
  clear A hb
  refine wl_one (.eq (.int .i64 0)) rfl 54 rfl (by rw [sd.1]; decide) (st_move (.tmp 9) rfl x9) ?_
  intro f16 w16 df2 sz2 old2 new2 hb
  replace x0 := tr old2 x0 rfl
  replace x1 := tr old2 x1 rfl
  replace x2 := tr old2 x2 rfl
  replace x8 := tr old2 x8 rfl
  replace x9 := tr old2 x9 rfl
  replace x10 := tr old2 x10 rfl
  have x54 := Fk.e new2
  replace hd := HD.below hd hb
  replace hw := HW.below hw hb
  replace bl := bgo bl hb
  replace sd := sd2 sz2 df2 sd
  clear df2 sz2 old2 new2 hb
  clear x9
  refine wl_one (.eq (.bool false)) rfl 55 rfl (by rw [sd.1]; decide) (st_neqi 28 (.tmp 54) (.const (.int .i64 0)) rfl .i64 (0) (0) x54 rfl _ (by rfl)) ?_
  intro f17 w17 df2 sz2 old2 new2 hb
  replace x0 := tr old2 x0 rfl
  replace x1 := tr old2 x1 rfl
  replace x2 := tr old2 x2 rfl
  replace x8 := tr old2 x8 rfl
  replace x10 := tr old2 x10 rfl
  replace x54 := tr old2 x54 rfl
  have x55 := Fk.e new2
  replace hd := HD.below hd hb
  replace hw := HW.below hw hb
  replace bl := bgo bl hb
  replace sd := sd2 sz2 df2 sd
  clear df2 sz2 old2 new2 hb
  clear x54
  refine wl_one (.eq (.bool false)) rfl 56 rfl (by rw [sd.1]; decide) (st_move (.tmp 55) rfl x55) ?_
  intro f18 w18 df2 sz2 old2 new2 hb
  replace x0 := tr old2 x0 rfl
  replace x1 := tr old2 x1 rfl
  replace x2 := tr old2 x2 rfl
  replace x8 := tr old2 x8 rfl
  replace x10 := tr old2 x10 rfl
  replace x55 := tr old2 x55 rfl
  have x56 := Fk.e new2
  replace hd := HD.below hd hb
  replace hw := HW.below hw hb
  replace bl := bgo bl hb
  replace sd := sd2 sz2 df2 sd
  clear df2 sz2 old2 new2 hb
  clear x55
  refine wl_onew (.eq (.pointer (some ⟨gw, 0, none⟩))) (want_of rfl rfl x56) 57 rfl (by rw [sd.1]; decide) (st_move (.tmp 8) rfl x8) ?_
  intro f19 w19 df2 sz2 old2 new2 hb
  replace bl0 := bl
  replace x0 := tr old2 x0 rfl
  replace x1 := tr old2 x1 rfl
  replace x2 := tr old2 x2 rfl
  replace x8 := tr old2 x8 rfl
  replace x10 := tr old2 x10 rfl
  replace x56 := tr old2 x56 rfl
  have x57 := Fk.e new2
  replace hd := HD.below hd hb
  replace hw := HW.below hw hb
  replace bl := bgo bl hb
  replace sd := sd2 sz2 df2 sd
  clear df2 sz2 old2 new2 hb
  refine wl_onew (.eq (.bool false)) (want_of rfl rfl x56) 58 rfl (by rw [sd.1]; decide) (st_bin .eql 27 27 (.tmp 57) _ rfl x57 rfl (by kernel_rfl)) ?_
  intro f20 w20 df2 sz2 old2 new2 hb
  replace bl0 := bl
  replace x0 := tr old2 x0 rfl
  replace x1 := tr old2 x1 rfl
  replace x2 := tr old2 x2 rfl
  replace x8 := tr old2 x8 rfl
  replace x10 := tr old2 x10 rfl
  replace x56 := tr old2 x56 rfl
  replace x57 := tr old2 x57 rfl
  have x58 := Fk.e new2
  replace hd := HD.below hd hb
  replace hw := HW.below hw hb
  replace bl := bgo bl hb
  replace sd := sd2 sz2 df2 sd
  clear df2 sz2 old2 new2 hb
  clear x57
  refine wl_one (.eq (.bool false)) rfl 59 rfl (by rw [sd.1]; decide) (st_pick_f' (.tmp 56) (.const (.bool true)) (.tmp 58) rfl x56 x58) ?_
  intro f21 w21 df2 sz2 old2 new2 hb
  replace x0 := tr old2 x0 rfl
  replace x1 := tr old2 x1 rfl
  replace x2 := tr old2 x2 rfl
  replace x8 := tr old2 x8 rfl
  replace x10 := tr old2 x10 rfl
  replace x56 := tr old2 x56 rfl
  replace x58 := tr old2 x58 rfl
  have x59 := Fk.e new2
  replace hd := HD.below hd hb
  replace hw := HW.below hw hb
  replace bl := bgo bl hb
  replace sd := sd2 sz2 df2 sd
  clear df2 sz2 old2 new2 hb
  clear x56
  clear x58
  refine wl_one (.eq (.bool false)) rfl 60 rfl (by rw [sd.1]; decide) (st_move (.tmp 59) rfl x59) ?_
  intro f22 w22 df2 sz2 old2 new2 hb
  replace x0 := tr old2 x0 rfl
  replace x1 := tr old2 x1 rfl
  replace x2 := tr old2 x2 rfl
  replace x8 := tr old2 x8 rfl
  replace x10 := tr old2 x10 rfl
  replace x59 := tr old2 x59 rfl
  have x60 := Fk.e new2
  replace hd := HD.below hd hb
  replace hw := HW.below hw hb
  replace bl := bgo bl hb
  replace sd := sd2 sz2 df2 sd
  clear df2 sz2 old2 new2 hb
  clear x59
  refine wl_onew (.eq (.pointer (some ⟨gw, 0, none⟩))) (want_of rfl rfl x60) 61 rfl (by rw [sd.1]; decide) (st_move (.tmp 8) rfl x8) ?_
  intro f23 w23 df2 sz2 old2 new2 hb
  replace bl0 := bl
  replace x0 := tr old2 x0 rfl
  replace x1 := tr old2 x1 rfl
  replace x2 := tr old2 x2 rfl
  replace x8 := tr old2 x8 rfl
  replace x10 := tr old2 x10 rfl
  replace x60 := tr old2 x60 rfl
  have x61 := Fk.e new2
  replace hd := HD.below hd hb
  replace hw := HW.below hw hb
  replace bl := bgo bl hb
  replace sd := sd2 sz2 df2 sd
  clear df2 sz2 old2 new2 hb
  refine wl_onew (.eq (.int .i64 ((homN n : Nat) : Int))) (want_of rfl rfl x60) 62 rfl (by rw [sd.1]; decide) (st_call 11 (.func 11) _ _ #[.pointer (some ⟨gw, 0, none⟩)] rfl rfl (one_arg x61) Try.enter11 (fk_whomeN hw hd gs)) ?_
  intro f24 w24 df2 sz2 old2 new2 hb
  replace bl0 := bl
  replace x0 := tr old2 x0 rfl
  replace x1 := tr old2 x1 rfl
  replace x2 := tr old2 x2 rfl
  replace x8 := tr old2 x8 rfl
  replace x10 := tr old2 x10 rfl
  replace x60 := tr old2 x60 rfl
  replace x61 := tr old2 x61 rfl
  have x62 := Fk.e new2
  replace hd := HD.below hd hb
  replace hw := HW.below hw hb
  replace bl := bgo bl hb
  replace sd := sd2 sz2 df2 sd
  clear df2 sz2 old2 new2 hb
  clear x61
  refine wl_onew (.eq (.int .i64 ((homN n : Nat) : Int))) (want_of rfl rfl x60) 63 rfl (by rw [sd.1]; decide) (st_move (.tmp 10) rfl x10) ?_
  intro f25 w25 df2 sz2 old2 new2 hb
  replace bl0 := bl
  replace x0 := tr old2 x0 rfl
  replace x1 := tr old2 x1 rfl
  replace x2 := tr old2 x2 rfl
  replace x8 := tr old2 x8 rfl
  replace x10 := tr old2 x10 rfl
  replace x60 := tr old2 x60 rfl
  replace x62 := tr old2 x62 rfl
  have x63 := Fk.e new2
  replace hd := HD.below hd hb
  replace hw := HW.below hw hb
  replace bl := bgo bl hb
  replace sd := sd2 sz2 df2 sd
  clear df2 sz2 old2 new2 hb
  refine wl_onew (.eq (.bool false)) (want_of rfl rfl x60) 64 rfl (by rw [sd.1]; decide) (st_neqi 3 (.tmp 62) (.tmp 63) rfl .i64 (((homN n : Nat) : Int)) (((homN n : Nat) : Int)) x62 x63 _ (by simp)) ?_
  intro f26 w26 df2 sz2 old2 new2 hb
  replace bl0 := bl
  replace x0 := tr old2 x0 rfl
  replace x1 := tr old2 x1 rfl
  replace x2 := tr old2 x2 rfl
  replace x8 := tr old2 x8 rfl
  replace x10 := tr old2 x10 rfl
  replace x60 := tr old2 x60 rfl
  replace x62 := tr old2 x62 rfl
  replace x63 := tr old2 x63 rfl
  have x64 := Fk.e new2
  replace hd := HD.below hd hb
  replace hw := HW.below hw hb
  replace bl := bgo bl hb
  replace sd := sd2 sz2 df2 sd
  clear df2 sz2 old2 new2 hb
  clear x62
  clear x63
  refine wl_one (.eq (.bool false)) rfl 65 rfl (by rw [sd.1]; decide) (st_pick_f' (.tmp 60) (.const (.bool true)) (.tmp 64) rfl x60 x64) ?_
  intro f27 w27 df2 sz2 old2 new2 hb
  replace x0 := tr old2 x0 rfl
  replace x1 := tr old2 x1 rfl
  replace x2 := tr old2 x2 rfl
  replace x8 := tr old2 x8 rfl
  replace x10 := tr old2 x10 rfl
  replace x60 := tr old2 x60 rfl
  replace x64 := tr old2 x64 rfl
  have x65 := Fk.e new2
  replace hd := HD.below hd hb
  replace hw := HW.below hw hb
  replace bl := bgo bl hb
  replace sd := sd2 sz2 df2 sd
  clear df2 sz2 old2 new2 hb
  clear x60
  clear x64
  refine wl_one (.eq (.bool false)) rfl 66 rfl (by rw [sd.1]; decide) (st_move (.tmp 65) rfl x65) ?_
  intro f28 w28 df2 sz2 old2 new2 hb
  replace x0 := tr old2 x0 rfl
  replace x1 := tr old2 x1 rfl
  replace x2 := tr old2 x2 rfl
  replace x8 := tr old2 x8 rfl
  replace x10 := tr old2 x10 rfl
  replace x65 := tr old2 x65 rfl
  have x66 := Fk.e new2
  replace hd := HD.below hd hb
  replace hw := HW.below hw hb
  replace bl := bgo bl hb
  replace sd := sd2 sz2 df2 sd
  clear df2 sz2 old2 new2 hb
  clear x65
  refine wl_onew (.eq (.pointer (some ⟨gw, 0, none⟩))) (want_of rfl rfl x66) 67 rfl (by rw [sd.1]; decide) (st_move (.tmp 8) rfl x8) ?_
  intro f29 w29 df2 sz2 old2 new2 hb
  replace bl0 := bl
  replace x0 := tr old2 x0 rfl
  replace x1 := tr old2 x1 rfl
  replace x2 := tr old2 x2 rfl
  replace x8 := tr old2 x8 rfl
  replace x10 := tr old2 x10 rfl
  replace x66 := tr old2 x66 rfl
  have x67 := Fk.e new2
  replace hd := HD.below hd hb
  replace hw := HW.below hw hb
  replace bl := bgo bl hb
  replace sd := sd2 sz2 df2 sd
  clear df2 sz2 old2 new2 hb
  refine wl_onew (.eq (.int .i64 ((roomN n z : Nat) : Int))) (want_of rfl rfl x66) 68 rfl (by rw [sd.1]; decide) (st_call 12 (.func 12) _ _ #[.pointer (some ⟨gw, 0, none⟩)] rfl rfl (one_arg x67) Try.enter12 (fk_wroomN hw hd gs (by omega))) ?_
  intro f30 w30 df2 sz2 old2 new2 hb
  replace bl0 := bl
  replace x0 := tr old2 x0 rfl
  replace x1 := tr old2 x1 rfl
  replace x2 := tr old2 x2 rfl
  replace x8 := tr old2 x8 rfl
  replace x10 := tr old2 x10 rfl
  replace x66 := tr old2 x66 rfl
  replace x67 := tr old2 x67 rfl
  have x68 := Fk.e new2
  replace hd := HD.below hd hb
  replace hw := HW.below hw hb
  replace bl := bgo bl hb
  replace sd := sd2 sz2 df2 sd
  clear df2 sz2 old2 new2 hb
  clear x67
  refine wl_onew (.eq (.int .i64 (n : Int))) (want_of rfl rfl x66) 69 rfl (by rw [sd.1]; decide) (st_move (.tmp 0) rfl x0) ?_
  intro f31 w31 df2 sz2 old2 new2 hb
  replace bl0 := bl
  replace x0 := tr old2 x0 rfl
  replace x1 := tr old2 x1 rfl
  replace x2 := tr old2 x2 rfl
  replace x8 := tr old2 x8 rfl
  replace x10 := tr old2 x10 rfl
  replace x66 := tr old2 x66 rfl
  replace x68 := tr old2 x68 rfl
  have x69 := Fk.e new2
  replace hd := HD.below hd hb
  replace hw := HW.below hw hb
  replace bl := bgo bl hb
  replace sd := sd2 sz2 df2 sd
  clear df2 sz2 old2 new2 hb
  refine wl_onew (.eq (.int .i64 (z : Int))) (want_of rfl rfl x66) 70 rfl (by rw [sd.1]; decide) (st_move (.tmp 1) rfl x1) ?_
  intro f32 w32 df2 sz2 old2 new2 hb
  replace bl0 := bl
  replace x0 := tr old2 x0 rfl
  replace x1 := tr old2 x1 rfl
  replace x2 := tr old2 x2 rfl
  replace x8 := tr old2 x8 rfl
  replace x10 := tr old2 x10 rfl
  replace x66 := tr old2 x66 rfl
  replace x68 := tr old2 x68 rfl
  replace x69 := tr old2 x69 rfl
  have x70 := Fk.e new2
  replace hd := HD.below hd hb
  replace hw := HW.below hw hb
  replace bl := bgo bl hb
  replace sd := sd2 sz2 df2 sd
  clear df2 sz2 old2 new2 hb
  refine wl_onew (.eq (.int .i64 ((roomN n z : Nat) : Int))) (want_of rfl rfl x66) 71 rfl (by rw [sd.1]; decide) (st_call 13 (.func 13) _ _ #[.int .i64 (n : Int), .int .i64 (z : Int)] rfl rfl (arg2 x69 x70) Try.enter13 (fk_room (by omega) (by omega) _)) ?_
  intro f33 w33 df2 sz2 old2 new2 hb
  replace bl0 := bl
  replace x0 := tr old2 x0 rfl
  replace x1 := tr old2 x1 rfl
  replace x2 := tr old2 x2 rfl
  replace x8 := tr old2 x8 rfl
  replace x10 := tr old2 x10 rfl
  replace x66 := tr old2 x66 rfl
  replace x68 := tr old2 x68 rfl
  replace x69 := tr old2 x69 rfl
  replace x70 := tr old2 x70 rfl
  have x71 := Fk.e new2
  replace hd := HD.below hd hb
  replace hw := HW.below hw hb
  replace bl := bgo bl hb
  replace sd := sd2 sz2 df2 sd
  clear df2 sz2 old2 new2 hb
  clear x69
  clear x70
  refine wl_onew (.eq (.bool false)) (want_of rfl rfl x66) 72 rfl (by rw [sd.1]; decide) (st_neqi 3 (.tmp 68) (.tmp 71) rfl .i64 (((roomN n z : Nat) : Int)) (((roomN n z : Nat) : Int)) x68 x71 _ (by simp)) ?_
  intro f34 w34 df2 sz2 old2 new2 hb
  replace bl0 := bl
  replace x0 := tr old2 x0 rfl
  replace x1 := tr old2 x1 rfl
  replace x2 := tr old2 x2 rfl
  replace x8 := tr old2 x8 rfl
  replace x10 := tr old2 x10 rfl
  replace x66 := tr old2 x66 rfl
  replace x68 := tr old2 x68 rfl
  replace x71 := tr old2 x71 rfl
  have x72 := Fk.e new2
  replace hd := HD.below hd hb
  replace hw := HW.below hw hb
  replace bl := bgo bl hb
  replace sd := sd2 sz2 df2 sd
  clear df2 sz2 old2 new2 hb
  clear x68
  clear x71
  refine wl_one (.eq (.bool false)) rfl 73 rfl (by rw [sd.1]; decide) (st_pick_f' (.tmp 66) (.const (.bool true)) (.tmp 72) rfl x66 x72) ?_
  intro f35 w35 df2 sz2 old2 new2 hb
  replace x0 := tr old2 x0 rfl
  replace x1 := tr old2 x1 rfl
  replace x2 := tr old2 x2 rfl
  replace x8 := tr old2 x8 rfl
  replace x10 := tr old2 x10 rfl
  replace x66 := tr old2 x66 rfl
  replace x72 := tr old2 x72 rfl
  have x73 := Fk.e new2
  replace hd := HD.below hd hb
  replace hw := HW.below hw hb
  replace bl := bgo bl hb
  replace sd := sd2 sz2 df2 sd
  clear df2 sz2 old2 new2 hb
  clear x66
  clear x72
  refine wl_one (.eq (.bool false)) rfl 74 rfl (by rw [sd.1]; decide) (st_move (.tmp 73) rfl x73) ?_
  intro f36 w36 df2 sz2 old2 new2 hb
  replace x0 := tr old2 x0 rfl
  replace x1 := tr old2 x1 rfl
  replace x2 := tr old2 x2 rfl
  replace x8 := tr old2 x8 rfl
  replace x10 := tr old2 x10 rfl
  replace x73 := tr old2 x73 rfl
  have x74 := Fk.e new2
  replace hd := HD.below hd hb
  replace hw := HW.below hw hb
  replace bl := bgo bl hb
  replace sd := sd2 sz2 df2 sd
  clear df2 sz2 old2 new2 hb
  clear x73
  refine wl_onew (.eq (.pointer (some ⟨gw, 0, none⟩))) (want_of rfl rfl x74) 75 rfl (by rw [sd.1]; decide) (st_move (.tmp 8) rfl x8) ?_
  intro f37 w37 df2 sz2 old2 new2 hb
  replace bl0 := bl
  replace x0 := tr old2 x0 rfl
  replace x1 := tr old2 x1 rfl
  replace x2 := tr old2 x2 rfl
  replace x8 := tr old2 x8 rfl
  replace x10 := tr old2 x10 rfl
  replace x74 := tr old2 x74 rfl
  have x75 := Fk.e new2
  replace hd := HD.below hd hb
  replace hw := HW.below hw hb
  replace bl := bgo bl hb
  replace sd := sd2 sz2 df2 sd
  clear df2 sz2 old2 new2 hb
  refine wl_onew (.eq (.int .i64 (z : Int))) (want_of rfl rfl x74) 76 rfl (by rw [sd.1]; decide) (st_call 14 (.func 14) _ _ #[.pointer (some ⟨gw, 0, none⟩)] rfl rfl (one_arg x75) Try.enter14 (fk_wsizeN hw hd gs)) ?_
  intro f38 w38 df2 sz2 old2 new2 hb
  replace bl0 := bl
  replace x0 := tr old2 x0 rfl
  replace x1 := tr old2 x1 rfl
  replace x2 := tr old2 x2 rfl
  replace x8 := tr old2 x8 rfl
  replace x10 := tr old2 x10 rfl
  replace x74 := tr old2 x74 rfl
  replace x75 := tr old2 x75 rfl
  have x76 := Fk.e new2
  replace hd := HD.below hd hb
  replace hw := HW.below hw hb
  replace bl := bgo bl hb
  replace sd := sd2 sz2 df2 sd
  clear df2 sz2 old2 new2 hb
  clear x75
  refine wl_onew (.eq (.int .i64 (z : Int))) (want_of rfl rfl x74) 77 rfl (by rw [sd.1]; decide) (st_move (.tmp 1) rfl x1) ?_
  intro f39 w39 df2 sz2 old2 new2 hb
  replace bl0 := bl
  replace x0 := tr old2 x0 rfl
  replace x1 := tr old2 x1 rfl
  replace x2 := tr old2 x2 rfl
  replace x8 := tr old2 x8 rfl
  replace x10 := tr old2 x10 rfl
  replace x74 := tr old2 x74 rfl
  replace x76 := tr old2 x76 rfl
  have x77 := Fk.e new2
  replace hd := HD.below hd hb
  replace hw := HW.below hw hb
  replace bl := bgo bl hb
  replace sd := sd2 sz2 df2 sd
  clear df2 sz2 old2 new2 hb
  refine wl_onew (.eq (.bool false)) (want_of rfl rfl x74) 78 rfl (by rw [sd.1]; decide) (st_neqi 3 (.tmp 76) (.tmp 77) rfl .i64 ((z : Int)) ((z : Int)) x76 x77 _ (by simp)) ?_
  intro f40 w40 df2 sz2 old2 new2 hb
  replace bl0 := bl
  replace x0 := tr old2 x0 rfl
  replace x1 := tr old2 x1 rfl
  replace x2 := tr old2 x2 rfl
  replace x8 := tr old2 x8 rfl
  replace x10 := tr old2 x10 rfl
  replace x74 := tr old2 x74 rfl
  replace x76 := tr old2 x76 rfl
  replace x77 := tr old2 x77 rfl
  have x78 := Fk.e new2
  replace hd := HD.below hd hb
  replace hw := HW.below hw hb
  replace bl := bgo bl hb
  replace sd := sd2 sz2 df2 sd
  clear df2 sz2 old2 new2 hb
  clear x76
  clear x77
  refine wl_one (.eq (.bool false)) rfl 79 rfl (by rw [sd.1]; decide) (st_pick_f' (.tmp 74) (.const (.bool true)) (.tmp 78) rfl x74 x78) ?_
  intro f41 w41 df2 sz2 old2 new2 hb
  replace x0 := tr old2 x0 rfl
  replace x1 := tr old2 x1 rfl
  replace x2 := tr old2 x2 rfl
  replace x8 := tr old2 x8 rfl
  replace x10 := tr old2 x10 rfl
  replace x74 := tr old2 x74 rfl
  replace x78 := tr old2 x78 rfl
  have x79 := Fk.e new2
  replace hd := HD.below hd hb
  replace hw := HW.below hw hb
  replace bl := bgo bl hb
  replace sd := sd2 sz2 df2 sd
  clear df2 sz2 old2 new2 hb
  refine wpList_nil ?_
  clear x74
  clear x78
  show Code.wp _ _ _ _ _
  refine wp_cond_false x79 ?_
  refine wp_skip ?_
  show Code.wp _ _ _ _ _
  refine wp_seq ?_
  refine wr_s [.eq (.int .i64 ((homN n : Nat) : Int))] (by rw [sd.1]; kernel_rfl) ⟨fun hwt ac u K => ?_, trivial⟩ ?_
  · exact st_move (.tmp 10) rfl (K.t x10 rfl)
  intro f42 w42 A hb
  replace x0 := A.t x0 rfl
  replace x1 := A.t x1 rfl
  replace x2 := A.t x2 rfl
  replace x8 := A.t x8 rfl
  replace x10 := A.t x10 rfl
  replace x79 := A.t x79 rfl
  have x80 := A.e 0 80 rfl rfl
  replace hd := HD.below hd hb
  replace hw := HW.below hw hb
  replace bl := bgo bl hb
  replace sd := A.sd sd
  clear A hb
  clear x79
  refine wl_makeS rfl (.tmp 80) (.tmp 80) rfl 81 rfl (by rw [sd.1]; decide) (homN n) (by omega) x80 x80 ?_
  intro f43 w43 gS df2 sz2 old2 x81 hwgS hS hb
  have hgDS : ¬ DD gS := fun q => by have := hd.lt _ q; omega
  have hgVS : ¬ VV gS := fun q => by have := hw.lt _ q; omega
  replace hwgS : w.heap.size ≤ gS := Nat.le_trans bl.size hwgS
  replace bl0 := bl
  replace x0 := tr old2 x0 rfl
  replace x1 := tr old2 x1 rfl
  replace x2 := tr old2 x2 rfl
  replace x8 := tr old2 x8 rfl
  replace x10 := tr old2 x10 rfl
  replace x80 := tr old2 x80 rfl
  replace hd := HD.below hd hb
  replace hw := HW.below hw hb
  replace bl := bgo bl hb
  replace sd := sd2 sz2 df2 sd
  clear df2 sz2 old2 hb
  clear x80
  refine wl_one (.eq (.slice (some ⟨gS, 0, none⟩) (homN n) (homN n))) rfl 11 rfl (by rw [sd.1]; decide) (st_assign (.tmp 81) rfl x81) ?_
  intro f44 w44 df2 sz2 old2 new2 hb
  replace x0 := tr old2 x0 rfl
  replace x1 := tr old2 x1 rfl
  replace x2 := tr old2 x2 rfl
  replace x8 := tr old2 x8 rfl
  replace x10 := tr old2 x10 rfl
  replace x81 := tr old2 x81 rfl
  have x11 := Fk.e new2
  replace hd := HD.below hd hb
  replace hw := HW.below hw hb
  replace hS := Rs.below hS hb
  replace bl := bgo bl hb
  replace sd := sd2 sz2 df2 sd
  clear df2 sz2 old2 new2 hb
  refine wpList_nil ?_
  clear x81
  show Code.wp _ _ _ _ _
  refine wp_seq ?_
  refine wp_seq ?_
  rw [← rz_zero (homN n) z] at hS
  clear hop hgw
  refine wr_a [.eq (.slice (some ⟨gS, 0, none⟩) (homN n) (homN n)), .eq (.int .i64 ((homN n : Nat) : Int)), .eq (.int .i64 0)] (by rw [sd.1]; kernel_rfl) ⟨fun hwt ac u K => ?_, fun hwt ac u K => ?_, fun hwt ac u K => ?_, trivial⟩ ?_
  · exact st_move (.tmp 11) rfl (K.t x11 rfl)
  · exact st_lens (.tmp 82) rfl (K.dep 0 82 rfl)
  · exact st_move (.const (.int .i64 0)) rfl rfl
  intro f45 w45 A hb
  replace x0 := A.t x0 rfl
  replace x1 := A.t x1 rfl
  replace x2 := A.t x2 rfl
  replace x8 := A.t x8 rfl
  replace x10 := A.t x10 rfl
  replace x11 := A.t x11 rfl
  have x83 := A.e 1 83 rfl rfl
  have x84 := A.e 2 84 rfl rfl
  replace hd := HD.below hd hb
  replace hw := HW.below hw hb
  replace hS := Rs.below hS hb
  replace bl := bgo bl hb
  replace sd := A.sd sd
  clear A hb
  show Code.wp _ _ _ _ _
  refine wp_block ?_
  refine wp_loop (fun f v1 => ∃ k : Nat, k ≤ homN n ∧ f.tmps.size = 160 ∧ f.defers = [] ∧ f.eval (.tmp 0) = .int .i64 (n : Int) ∧ f.eval (.tmp 1) = .int .i64 (z : Int) ∧ f.eval (.tmp 2) = v ∧ f.eval (.tmp 8) = .pointer (some ⟨gw, 0, none⟩) ∧ f.eval (.tmp 10) = .int .i64 ((homN n : Nat) : Int) ∧ f.eval (.tmp 11) = .slice (some ⟨gS, 0, none⟩) (homN n) (homN n) ∧ f.eval (.tmp 83) = .int .i64 ((homN n : Nat) : Int) ∧ f.eval (.tmp 84) = .int .i64 (k : Int) ∧ HD v1 gd M DD s0 ∧ HW v1 gw gd VV n z false ∧ Rs v1 gS (rz (homN n) z k) ∧ Below w.heap.size w (v1)) (fun f _ => homN n - (intOf (f.eval (.tmp 84))).toNat) ⟨0, Nat.zero_le _, sd.1, sd.2, x0, x1, x2, x8, x10, x11, x83, x84, hd, hw, hS, bl⟩ ?_
  intro f46 w46 hI
  clear sd bl bl0 x0 x1 x2 x8 x10 x11 x83 x84 hd hw hS
  obtain ⟨k, hk8, sz, df, x0, x1, x2, x8, x10, x11, x83, x84, hd, hw, hS, bl⟩ := hI
  have sd := And.intro sz df
  clear sz df
  have bl0 := bl
  have hcnt := x84
  refine wp_seq ?_
  by_cases hlt : k < homN n
  rotate_left
  · skip
    refine wr_a [.eq (.bool false)] (by rw [sd.1]; kernel_rfl) ⟨fun hwt ac u K => ?_, trivial⟩ ?_
    · exact st_lss 3 (.tmp 84) (.tmp 83) rfl .i64 ((k : Int)) (((homN n : Nat) : Int)) (K.t x84 rfl) (K.t x83 rfl) _ (by rw [eq_comm, decide_eq_false_iff_not]; exact fun h => hlt (Int.ofNat_lt.1 h))
    intro f47 w47 A hb
    replace x0 := A.t x0 rfl
    replace x1 := A.t x1 rfl
    replace x2 := A.t x2 rfl
    replace x8 := A.t x8 rfl
    replace x10 := A.t x10 rfl
    replace x11 := A.t x11 rfl
    replace x83 := A.t x83 rfl
    replace x84 := A.t x84 rfl
    have x85 := A.e 0 85 rfl rfl
    replace hd := HD.below hd hb
    replace hw := HW.below hw hb
    replace hS := Rs.below hS hb
    replace bl := bgo bl hb
    replace sd := A.sd sd
    clear A hb
    show Code.wp _ _ _ _ _
    refine wp_seq ?_
    refine wp_cond_false x85 ?_
    refine wp_exit ?_
    show Code.wp _ _ _ _ _
    refine wp_seq ?_
    refine wp_seq ?_
    obtain rfl : k = homN n := by omega
    rw [rz_all] at hS
    obtain ⟨vN, hvN⟩ : ∃ v : Value, v = .slice (some ⟨gS, 0, none⟩) (homN n) (homN n) := ⟨_, rfl⟩
    rw [← hvN] at x11
    have hN : MBs w47 DD VV (homN n) (.some (List.replicate (homN n) (zs z))) vN := hvN ▸ .inr ⟨_, gS, homN n, rfl, rfl, List.length_replicate, hS, hgDS, hgVS⟩
    clear hvN hS hgDS hgVS hwgS
    clear x83
    clear x84
    refine wr_a [.eq (v), .eq (.int .i64 (((l).length : Nat) : Int)), .eq (.int .i64 0)] (by rw [sd.1]; kernel_rfl) ⟨fun hwt ac u K => ?_, fun hwt ac u K => ?_, fun hwt ac u K => ?_, trivial⟩ ?_
    · exact st_move (.tmp 2) rfl (K.t x2 rfl)
    · exact st_lenso (.tmp 94) rfl (fk_val (K.dep 0 94 rfl) (Fk.mono _ _ _ _ hv (bgo bl K.grow)))
    · exact st_move (.const (.int .i64 0)) rfl rfl
    intro f48 w48 A hb
    replace x0 := A.t x0 rfl
    replace x1 := A.t x1 rfl
    replace x2 := A.t x2 rfl
    replace x8 := A.t x8 rfl
    replace x10 := A.t x10 rfl
    replace x11 := A.t x11 rfl
    replace x85 := A.t x85 rfl
    have x94 := A.e 0 94 rfl rfl
    have x95 := A.e 1 95 rfl rfl
    have x96 := A.e 2 96 rfl rfl
    replace hd := HD.below hd hb
    replace hw := HW.below hw hb
    replace hN := MBs.below hN hb
    replace bl := bgo bl hb
    replace sd := A.sd sd
    clear A hb
    clear x85
    show Code.wp _ _ _ _ _
    refine wp_block ?_
    refine wp_loop (fun f v1 => ∃ (k : Nat) (s : Dst) (DD : Nat → Prop) (now : List Byt) (vN : Value), k ≤ l.length ∧ Gd s n z (1000 * (k + 1)) ∧ Quiet n z (homN n) (prsP n) false s now ∧ (∀ j, DD j → w.heap.size ≤ j) ∧ (∀ j, VV j → ¬ DD j) ∧ f.tmps.size = 160 ∧ f.defers = [] ∧ f.eval (.tmp 0) = .int .i64 (n : Int) ∧ f.eval (.tmp 1) = .int .i64 (z : Int) ∧ f.eval (.tmp 2) = v ∧ f.eval (.tmp 8) = .pointer (some ⟨gw, 0, none⟩) ∧ f.eval (.tmp 10) = .int .i64 ((homN n : Nat) : Int) ∧ f.eval (.tmp 94) = v ∧ f.eval (.tmp 95) = .int .i64 (((l).length : Nat) : Int) ∧ f.eval (.tmp 96) = .int .i64 (k : Int) ∧ f.eval (.tmp 11) = vN ∧ HD v1 gd M DD s ∧ HW v1 gw gd VV n z false ∧ MBs v1 DD VV (homN n) (.some now) vN ∧ Below w.heap.size w (v1)) (fun f _ => l.length - (intOf (f.eval (.tmp 96))).toNat) ⟨0, s0, DD, List.replicate (homN n) (zs z), vN, Nat.zero_le _, gs.le (by omega), hq, hDD, hVD, sd.1, sd.2, x0, x1, x2, x8, x10, x94, x95, x96, x11, hd, hw, hN, bl⟩ ?_
    intro f49 w49 hI
    clear sd bl bl0 x0 x1 x2 x8 x10 x11 x94 x95 x96 hd hw hN
    obtain ⟨k, s, DD, now, vN, hk8, gs, hq, hDD, hVD, sz, df, x0, x1, x2, x8, x10, x94, x95, x96, x11, hd, hw, hN, bl⟩ := hI
    have sd := And.intro sz df
    clear sz df
    have bl0 := bl
    have hcnt := x96
    refine wp_seq ?_
    by_cases hlt : k < l.length
    rotate_left
    · skip
      refine wr_a [.eq (.bool false)] (by rw [sd.1]; kernel_rfl) ⟨fun hwt ac u K => ?_, trivial⟩ ?_
      · exact st_lss 3 (.tmp 96) (.tmp 95) rfl .i64 ((k : Int)) ((((l).length : Nat) : Int)) (K.t x96 rfl) (K.t x95 rfl) _ (by rw [eq_comm, decide_eq_false_iff_not]; exact fun h => hlt (Int.ofNat_lt.1 h))
      intro f50 w50 A hb
      replace x0 := A.t x0 rfl
      replace x1 := A.t x1 rfl
      replace x2 := A.t x2 rfl
      replace x8 := A.t x8 rfl
      replace x10 := A.t x10 rfl
      replace x11 := A.t x11 rfl
      replace x94 := A.t x94 rfl
      replace x95 := A.t x95 rfl
      replace x96 := A.t x96 rfl
      have x97 := A.e 0 97 rfl rfl
      replace hd := HD.below hd hb
      replace hw := HW.below hw hb
      replace hN := MBs.below hN hb
      replace bl := bgo bl hb
      replace sd := A.sd sd
      clear A hb
      show Code.wp _ _ _ _ _
      refine wp_seq ?_
      refine wp_cond_false x97 ?_
      refine wp_exit ?_
      show Code.wp _ _ _ _ _
      refine wp_seq ?_
      clear hN
      refine wr_s [.eq (.pointer (some ⟨gw, 0, none⟩))] (by rw [sd.1]; kernel_rfl) ⟨fun hwt ac u K => ?_, trivial⟩ ?_
      · exact st_move (.tmp 8) rfl (K.t x8 rfl)
      intro f51 w51 A hb
      replace x0 := A.t x0 rfl
      replace x1 := A.t x1 rfl
      replace x2 := A.t x2 rfl
      replace x8 := A.t x8 rfl
      replace x10 := A.t x10 rfl
      replace x11 := A.t x11 rfl
      replace x94 := A.t x94 rfl
      replace x95 := A.t x95 rfl
      replace x96 := A.t x96 rfl
      replace x97 := A.t x97 rfl
      have x136 := A.e 0 136 rfl rfl
      replace hd := HD.below hd hb
      replace hw := HW.below hw hb
      replace bl := bgo bl hb
      replace sd := A.sd sd
      clear A hb
      clear x97
      refine wl_call 20 (.func 20) _ _ #[.pointer (some ⟨gw, 0, none⟩), .int .i64 (-1)] rfl 137 rfl (by rw [sd.1]; decide) rfl rfl (two_arg x136 rfl) Try.enter20 (fun u W' => ∃ (D2 : Nat → Prop) (A : Option Addr) (C : Nat), u = .tuple #[.slice A (([] : Byt)).length C, .int .i64 11] ∧ (Fk.sl (([] : Byt))).f (.slice A (([] : Byt)).length C) W' ∧ HD W' gd M D2 (s) ∧ HW W' gw gd VV (n) z false ∧ (∀ j, D2 j → DD j ∨ w51.heap.size ≤ j) ∧ Fr M w51 W') ((fk_wread hw hd gs hVD hq.up.2.2 (-1)).mono (by
        rintro e w' ⟨D', A, b, C, rfl, hb, q1, q2, q3, q4, q5⟩
        rw [if_neg (by decide), if_pos (by omega)] at hb ⊢
        subst hb
        exact ⟨_, rfl, D', A, C, rfl, q1, q2, q3, q4, q5⟩)) ?_
      rintro f52 w52 df2 sz2 old2 ⟨D2, A1, C1, x137, hv1, hd2, hw2, hD2, O⟩
      have hVlt := hw.lt
      replace hVD : ∀ j, VV j → ¬ D2 j := fun j q m => (hD2 j m).elim (hVD j q) (fun m => by have := hVlt j q; omega)
      clear hVlt
      have bl9 := bl.trans (O.below bl.size (fun j q => hDD j (hd.sub j q)))
      replace hDD : ∀ j, D2 j → w.heap.size ≤ j := fun j q => (hD2 j q).elim (hDD j) (fun q => by have := bl.size; omega)
      replace bl := bl9
      replace bl0 := bl
      clear bl9
      replace hd := hd2
      replace hw := hw2
      clear hd2 hw2 hD2 O
      clear DD
      obtain ⟨DD, rfl⟩ : ∃ E, E = D2 := ⟨_, rfl⟩
      replace x0 := tr old2 x0 rfl
      replace x1 := tr old2 x1 rfl
      replace x2 := tr old2 x2 rfl
      replace x8 := tr old2 x8 rfl
      replace x10 := tr old2 x10 rfl
      replace x11 := tr old2 x11 rfl
      replace x94 := tr old2 x94 rfl
      replace x95 := tr old2 x95 rfl
      replace x96 := tr old2 x96 rfl
      replace x136 := tr old2 x136 rfl
      replace sd := sd2 sz2 df2 sd
      clear df2 sz2 old2
      clear x136
      refine wl_one (.eq (.tuple #[.slice A1 (([] : Byt)).length C1, .int .i64 11])) rfl 135 rfl (by rw [sd.1]; decide) (st_move (.tmp 137) rfl x137) ?_
      intro f53 w53 df2 sz2 old2 new2 hb
      replace x0 := tr old2 x0 rfl
      replace x1 := tr old2 x1 rfl
      replace x2 := tr old2 x2 rfl
      replace x8 := tr old2 x8 rfl
      replace x10 := tr old2 x10 rfl
      replace x11 := tr old2 x11 rfl
      replace x94 := tr old2 x94 rfl
      replace x95 := tr old2 x95 rfl
      replace x96 := tr old2 x96 rfl
      replace x137 := tr old2 x137 rfl
      have x135 := Fk.e new2
      replace hv1 := Fk.mono _ _ _ _ hv1 hb
      replace hd := HD.below hd hb
      replace hw := HW.below hw hb
      replace bl := bgo bl hb
      replace sd := sd2 sz2 df2 sd
      clear df2 sz2 old2 new2 hb
      clear x137
      refine wl_one (.eq (.slice A1 (([] : Byt)).length C1)) rfl 138 rfl (by rw [sd.1]; decide) (st_extv (.tmp 135) 0 rfl x135 rfl) ?_
      intro f54 w54 df2 sz2 old2 new2 hb
      replace x0 := tr old2 x0 rfl
      replace x1 := tr old2 x1 rfl
      replace x2 := tr old2 x2 rfl
      replace x8 := tr old2 x8 rfl
      replace x10 := tr old2 x10 rfl
      replace x11 := tr old2 x11 rfl
      replace x94 := tr old2 x94 rfl
      replace x95 := tr old2 x95 rfl
      replace x96 := tr old2 x96 rfl
      replace x135 := tr old2 x135 rfl
      have x138 := Fk.e new2
      replace hv1 := Fk.mono _ _ _ _ hv1 hb
      replace hd := HD.below hd hb
      replace hw := HW.below hw hb
      replace bl := bgo bl hb
      replace sd := sd2 sz2 df2 sd
      clear df2 sz2 old2 new2 hb
      refine wl_one (.eq (.int .i64 11)) rfl 139 rfl (by rw [sd.1]; decide) (st_extv (.tmp 135) 1 rfl x135 rfl) ?_
      intro f55 w55 df2 sz2 old2 new2 hb
      replace x0 := tr old2 x0 rfl
      replace x1 := tr old2 x1 rfl
      replace x2 := tr old2 x2 rfl
      replace x8 := tr old2 x8 rfl
      replace x10 := tr old2 x10 rfl
      replace x11 := tr old2 x11 rfl
      replace x94 := tr old2 x94 rfl
      replace x95 := tr old2 x95 rfl
      replace x96 := tr old2 x96 rfl
      replace x135 := tr old2 x135 rfl
      replace x138 := tr old2 x138 rfl
      have x139 := Fk.e new2
      replace hv1 := Fk.mono _ _ _ _ hv1 hb
      replace hd := HD.below hd hb
      replace hw := HW.below hw hb
      replace bl := bgo bl hb
      replace sd := sd2 sz2 df2 sd
      clear df2 sz2 old2 new2 hb
      clear x135
      refine wl_one (.eq (.slice A1 (([] : Byt)).length C1)) rfl 18 rfl (by rw [sd.1]; decide) (st_assign (.tmp 138) rfl x138) ?_
      intro f56 w56 df2 sz2 old2 new2 hb
      replace x0 := tr old2 x0 rfl
      replace x1 := tr old2 x1 rfl
      replace x2 := tr old2 x2 rfl
      replace x8 := tr old2 x8 rfl
      replace x10 := tr old2 x10 rfl
      replace x11 := tr old2 x11 rfl
      replace x94 := tr old2 x94 rfl
      replace x95 := tr old2 x95 rfl
      replace x96 := tr old2 x96 rfl
      replace x138 := tr old2 x138 rfl
      replace x139 := tr old2 x139 rfl
      have x18 := Fk.e new2
      replace hv1 := Fk.mono _ _ _ _ hv1 hb
      replace hd := HD.below hd hb
      replace hw := HW.below hw hb
      replace bl := bgo bl hb
      replace sd := sd2 sz2 df2 sd
      clear df2 sz2 old2 new2 hb
      clear x138
      clear x18
      refine wl_one (.eq (.int .i64 11)) rfl 19 rfl (by rw [sd.1]; decide) (st_assign (.tmp 139) rfl x139) ?_
      intro f57 w57 df2 sz2 old2 new2 hb
      replace x0 := tr old2 x0 rfl
      replace x1 := tr old2 x1 rfl
      replace x2 := tr old2 x2 rfl
      replace x8 := tr old2 x8 rfl
      replace x10 := tr old2 x10 rfl
      replace x11 := tr old2 x11 rfl
      replace x94 := tr old2 x94 rfl
      replace x95 := tr old2 x95 rfl
      replace x96 := tr old2 x96 rfl
      replace x139 := tr old2 x139 rfl
      have x19 := Fk.e new2
      replace hv1 := Fk.mono _ _ _ _ hv1 hb
      replace hd := HD.below hd hb
      replace hw := HW.below hw hb
      replace bl := bgo bl hb
      replace sd := sd2 sz2 df2 sd
      clear df2 sz2 old2 new2 hb
      refine wpList_nil ?_
      clear x139
      show Code.wp _ _ _ _ _
      refine wp_seq ?_
      clear hv1
      refine wr_s [.eq (.pointer (some ⟨gw, 0, none⟩)), .eq (.int .i64 ((homN n : Nat) : Int))] (by rw [sd.1]; kernel_rfl) ⟨fun hwt ac u K => ?_, fun hwt ac u K => ?_, trivial⟩ ?_
      · exact st_move (.tmp 8) rfl (K.t x8 rfl)
      · exact st_move (.tmp 10) rfl (K.t x10 rfl)
      intro f58 w58 A hb
      replace x0 := A.t x0 rfl
      replace x1 := A.t x1 rfl
      replace x2 := A.t x2 rfl
      replace x8 := A.t x8 rfl
      replace x10 := A.t x10 rfl
      replace x11 := A.t x11 rfl
      replace x94 := A.t x94 rfl
      replace x95 := A.t x95 rfl
      replace x96 := A.t x96 rfl
      replace x19 := A.t x19 rfl
      have x141 := A.e 0 141 rfl rfl
      have x142 := A.e 1 142 rfl rfl
      replace hd := HD.below hd hb
      replace hw := HW.below hw hb
      replace bl := bgo bl hb
      replace sd := A.sd sd
      clear A hb
      refine wl_call 20 (.func 20) _ _ #[.pointer (some ⟨gw, 0, none⟩), .int .i64 (((homN n : Nat) : Int))] rfl 143 rfl (by rw [sd.1]; decide) rfl rfl (two_arg x141 x142) Try.enter20 (fun u W' => ∃ (D2 : Nat → Prop) (A : Option Addr) (C : Nat), u = .tuple #[.slice A (([] : Byt)).length C, .int .i64 11] ∧ (Fk.sl (([] : Byt))).f (.slice A (([] : Byt)).length C) W' ∧ HD W' gd M D2 (s) ∧ HW W' gw gd VV (n) z false ∧ (∀ j, D2 j → DD j ∨ w58.heap.size ≤ j) ∧ Fr M w58 W') ((fk_wread hw hd gs hVD hq.up.2.2 (((homN n : Nat) : Int))).mono (by
        rintro e w' ⟨D', A, b, C, rfl, hb, q1, q2, q3, q4, q5⟩
        rw [if_neg (by decide), if_pos (by omega)] at hb ⊢
        subst hb
        exact ⟨_, rfl, D', A, C, rfl, q1, q2, q3, q4, q5⟩)) ?_
      rintro f59 w59 df2 sz2 old2 ⟨D2, A2, C2, x143, hv2, hd2, hw2, hD2, O⟩
      have hVlt := hw.lt
      replace hVD : ∀ j, VV j → ¬ D2 j := fun j q m => (hD2 j m).elim (hVD j q) (fun m => by have := hVlt j q; omega)
      clear hVlt
      have bl9 := bl.trans (O.below bl.size (fun j q => hDD j (hd.sub j q)))
      replace hDD : ∀ j, D2 j → w.heap.size ≤ j := fun j q => (hD2 j q).elim (hDD j) (fun q => by have := bl.size; omega)
      replace bl := bl9
      replace bl0 := bl
      clear bl9
      replace hd := hd2
      replace hw := hw2
      clear hd2 hw2 hD2 O
      clear DD
      obtain ⟨DD, rfl⟩ : ∃ E, E = D2 := ⟨_, rfl⟩
      replace x0 := tr old2 x0 rfl
      replace x1 := tr old2 x1 rfl
      replace x2 := tr old2 x2 rfl
      replace x8 := tr old2 x8 rfl
      replace x10 := tr old2 x10 rfl
      replace x11 := tr old2 x11 rfl
      replace x94 := tr old2 x94 rfl
      replace x95 := tr old2 x95 rfl
      replace x96 := tr old2 x96 rfl
      replace x19 := tr old2 x19 rfl
      replace x141 := tr old2 x141 rfl
      replace x142 := tr old2 x142 rfl
      replace sd := sd2 sz2 df2 sd
      clear df2 sz2 old2
      clear x141
      clear x142
      refine wl_one (.eq (.tuple #[.slice A2 (([] : Byt)).length C2, .int .i64 11])) rfl 140 rfl (by rw [sd.1]; decide) (st_move (.tmp 143) rfl x143) ?_
      intro f60 w60 df2 sz2 old2 new2 hb
      replace x0 := tr old2 x0 rfl
      replace x1 := tr old2 x1 rfl
      replace x2 := tr old2 x2 rfl
      replace x8 := tr old2 x8 rfl
      replace x10 := tr old2 x10 rfl
      replace x11 := tr old2 x11 rfl
      replace x94 := tr old2 x94 rfl
      replace x95 := tr old2 x95 rfl
      replace x96 := tr old2 x96 rfl
      replace x19 := tr old2 x19 rfl
      replace x143 := tr old2 x143 rfl
      have x140 := Fk.e new2
      replace hv2 := Fk.mono _ _ _ _ hv2 hb
      replace hd := HD.below hd hb
      replace hw := HW.below hw hb
      replace bl := bgo bl hb
      replace sd := sd2 sz2 df2 sd
      clear df2 sz2 old2 new2 hb
      clear x143
      refine wl_one (.eq (.slice A2 (([] : Byt)).length C2)) rfl 144 rfl (by rw [sd.1]; decide) (st_extv (.tmp 140) 0 rfl x140 rfl) ?_
      intro f61 w61 df2 sz2 old2 new2 hb
      replace x0 := tr old2 x0 rfl
      replace x1 := tr old2 x1 rfl
      replace x2 := tr old2 x2 rfl
      replace x8 := tr old2 x8 rfl
      replace x10 := tr old2 x10 rfl
      replace x11 := tr old2 x11 rfl
      replace x94 := tr old2 x94 rfl
      replace x95 := tr old2 x95 rfl
      replace x96 := tr old2 x96 rfl
      replace x19 := tr old2 x19 rfl
      replace x140 := tr old2 x140 rfl
      have x144 := Fk.e new2
      replace hv2 := Fk.mono _ _ _ _ hv2 hb
      replace hd := HD.below hd hb
      replace hw := HW.below hw hb
      replace bl := bgo bl hb
      replace sd := sd2 sz2 df2 sd
      clear df2 sz2 old2 new2 hb
      refine wl_one (.eq (.int .i64 11)) rfl 145 rfl (by rw [sd.1]; decide) (st_extv (.tmp 140) 1 rfl x140 rfl) ?_
      intro f62 w62 df2 sz2 old2 new2 hb
      replace x0 := tr old2 x0 rfl
      replace x1 := tr old2 x1 rfl
      replace x2 := tr old2 x2 rfl
      replace x8 := tr old2 x8 rfl
      replace x10 := tr old2 x10 rfl
      replace x11 := tr old2 x11 rfl
      replace x94 := tr old2 x94 rfl
      replace x95 := tr old2 x95 rfl
      replace x96 := tr old2 x96 rfl
      replace x19 := tr old2 x19 rfl
      replace x140 := tr old2 x140 rfl
      replace x144 := tr old2 x144 rfl
      have x145 := Fk.e new2
      replace hv2 := Fk.mono _ _ _ _ hv2 hb
      replace hd := HD.below hd hb
      replace hw := HW.below hw hb
      replace bl := bgo bl hb
      replace sd := sd2 sz2 df2 sd
      clear df2 sz2 old2 new2 hb
      clear x140
      refine wl_one (.eq (.slice A2 (([] : Byt)).length C2)) rfl 20 rfl (by rw [sd.1]; decide) (st_assign (.tmp 144) rfl x144) ?_
      intro f63 w63 df2 sz2 old2 new2 hb
      replace x0 := tr old2 x0 rfl
      replace x1 := tr old2 x1 rfl
      replace x2 := tr old2 x2 rfl
      replace x8 := tr old2 x8 rfl
      replace x10 := tr old2 x10 rfl
      replace x11 := tr old2 x11 rfl
      replace x94 := tr old2 x94 rfl
      replace x95 := tr old2 x95 rfl
      replace x96 := tr old2 x96 rfl
      replace x19 := tr old2 x19 rfl
      replace x144 := tr old2 x144 rfl
      replace x145 := tr old2 x145 rfl
      have x20 := Fk.e new2
      replace hv2 := Fk.mono _ _ _ _ hv2 hb
      replace hd := HD.below hd hb
      replace hw := HW.below hw hb
      replace bl := bgo bl hb
      replace sd := sd2 sz2 df2 sd
      clear df2 sz2 old2 new2 hb
      clear x144
      clear x20
      refine wl_one (.eq (.int .i64 11)) rfl 21 rfl (by rw [sd.1]; decide) (st_assign (.tmp 145) rfl x145) ?_
      intro f64 w64 df2 sz2 old2 new2 hb
      replace x0 := tr old2 x0 rfl
      replace x1 := tr old2 x1 rfl
      replace x2 := tr old2 x2 rfl
      replace x8 := tr old2 x8 rfl
      replace x10 := tr old2 x10 rfl
      replace x11 := tr old2 x11 rfl
      replace x94 := tr old2 x94 rfl
      replace x95 := tr old2 x95 rfl
      replace x96 := tr old2 x96 rfl
      replace x19 := tr old2 x19 rfl
      replace x145 := tr old2 x145 rfl
      have x21 := Fk.e new2
      replace hv2 := Fk.mono _ _ _ _ hv2 hb
      replace hd := HD.below hd hb
      replace hw := HW.below hw hb
      replace bl := bgo bl hb
      replace sd := sd2 sz2 df2 sd
      clear df2 sz2 old2 new2 hb
      refine wpList_nil ?_
      clear x145
      show Code.wp _ _ _ _ _
      refine wp_seq ?_
      clear hv2
      refine wr_s [] (by rw [sd.1]; kernel_rfl) trivial ?_
      intro f65 w65 A hb
      replace x0 := A.t x0 rfl
      replace x1 := A.t x1 rfl
      replace x2 := A.t x2 rfl
      replace x8 := A.t x8 rfl
      replace x10 := A.t x10 rfl
      replace x11 := A.t x11 rfl
      replace x94 := A.t x94 rfl
      replace x95 := A.t x95 rfl
      replace x96 := A.t x96 rfl
      replace x19 := A.t x19 rfl
      replace x21 := A.t x21 rfl
      replace hd := HD.below hd hb
      replace hw := HW.below hw hb
      replace bl := bgo bl hb
      replace sd := A.sd sd
      clear A hb
      refine wl_one (.eq (.int .i64 11)) rfl 146 rfl (by rw [sd.1]; decide) (st_move (.tmp 19) rfl x19) ?_
      intro f66 w66 df2 sz2 old2 new2 hb
      replace x0 := tr old2 x0 rfl
      replace x1 := tr old2 x1 rfl
      replace x2 := tr old2 x2 rfl
      replace x8 := tr old2 x8 rfl
      replace x10 := tr old2 x10 rfl
      replace x11 := tr old2 x11 rfl
      replace x94 := tr old2 x94 rfl
      replace x95 := tr old2 x95 rfl
      replace x96 := tr old2 x96 rfl
      replace x19 := tr old2 x19 rfl
      replace x21 := tr old2 x21 rfl
      have x146 := Fk.e new2
      replace hd := HD.below hd hb
      replace hw := HW.below hw hb
      replace bl := bgo bl hb
      replace sd := sd2 sz2 df2 sd
      clear df2 sz2 old2 new2 hb
      clear x19
      refine wl_one (.eq (.bool true)) rfl 147 rfl (by rw [sd.1]; decide) (st_eqi 28 (.tmp 146) (.const (.int .i64 11)) rfl .i64 (11) (11) x146 rfl _ (by rfl)) ?_
      intro f67 w67 df2 sz2 old2 new2 hb
      replace x0 := tr old2 x0 rfl
      replace x1 := tr old2 x1 rfl
      replace x2 := tr old2 x2 rfl
      replace x8 := tr old2 x8 rfl
      replace x10 := tr old2 x10 rfl
      replace x11 := tr old2 x11 rfl
      replace x94 := tr old2 x94 rfl
      replace x95 := tr old2 x95 rfl
      replace x96 := tr old2 x96 rfl
      replace x21 := tr old2 x21 rfl
      replace x146 := tr old2 x146 rfl
      have x147 := Fk.e new2
      replace hd := HD.below hd hb
      replace hw := HW.below hw hb
      replace bl := bgo bl hb
      replace sd := sd2 sz2 df2 sd
      clear df2 sz2 old2 new2 hb
      clear x146
      refine wl_one (.eq (.bool true)) rfl 148 rfl (by rw [sd.1]; decide) (st_move (.tmp 147) rfl x147) ?_
      intro f68 w68 df2 sz2 old2 new2 hb
      replace x0 := tr old2 x0 rfl
      replace x1 := tr old2 x1 rfl
      replace x2 := tr old2 x2 rfl
      replace x8 := tr old2 x8 rfl
      replace x10 := tr old2 x10 rfl
      replace x11 := tr old2 x11 rfl
      replace x94 := tr old2 x94 rfl
      replace x95 := tr old2 x95 rfl
      replace x96 := tr old2 x96 rfl
      replace x21 := tr old2 x21 rfl
      replace x147 := tr old2 x147 rfl
      have x148 := Fk.e new2
      replace hd := HD.below hd hb
      replace hw := HW.below hw hb
      replace bl := bgo bl hb
      replace sd := sd2 sz2 df2 sd
      clear df2 sz2 old2 new2 hb
      clear x147
      refine wl_onew (.eq (.int .i64 11)) (want_of rfl rfl x148) 149 rfl (by rw [sd.1]; decide) (st_move (.tmp 21) rfl x21) ?_
      intro f69 w69 df2 sz2 old2 new2 hb
      replace bl0 := bl
      replace x0 := tr old2 x0 rfl
      replace x1 := tr old2 x1 rfl
      replace x2 := tr old2 x2 rfl
      replace x8 := tr old2 x8 rfl
      replace x10 := tr old2 x10 rfl
      replace x11 := tr old2 x11 rfl
      replace x94 := tr old2 x94 rfl
      replace x95 := tr old2 x95 rfl
      replace x96 := tr old2 x96 rfl
      replace x21 := tr old2 x21 rfl
      replace x148 := tr old2 x148 rfl
      have x149 := Fk.e new2
      replace hd := HD.below hd hb
      replace hw := HW.below hw hb
      replace bl := bgo bl hb
      replace sd := sd2 sz2 df2 sd
      clear df2 sz2 old2 new2 hb
      clear x21
      refine wl_onew (.eq (.bool true)) (want_of rfl rfl x148) 150 rfl (by rw [sd.1]; decide) (st_eqi 28 (.tmp 149) (.const (.int .i64 11)) rfl .i64 (11) (11) x149 rfl _ (by rfl)) ?_
      intro f70 w70 df2 sz2 old2 new2 hb
      replace bl0 := bl
      replace x0 := tr old2 x0 rfl
      replace x1 := tr old2 x1 rfl
      replace x2 := tr old2 x2 rfl
      replace x8 := tr old2 x8 rfl
      replace x10 := tr old2 x10 rfl
      replace x11 := tr old2 x11 rfl
      replace x94 := tr old2 x94 rfl
      replace x95 := tr old2 x95 rfl
      replace x96 := tr old2 x96 rfl
      replace x148 := tr old2 x148 rfl
      replace x149 := tr old2 x149 rfl
      have x150 := Fk.e new2
      replace hd := HD.below hd hb
      replace hw := HW.below hw hb
      replace bl := bgo bl hb
      replace sd := sd2 sz2 df2 sd
      clear df2 sz2 old2 new2 hb
      clear x149
      refine wl_one (.eq (.bool true)) rfl 151 rfl (by rw [sd.1]; decide) (st_pick_t (.tmp 148) (.tmp 150) (.const (.bool false)) rfl x148 x150) ?_
      intro f71 w71 df2 sz2 old2 new2 hb
      replace x0 := tr old2 x0 rfl
      replace x1 := tr old2 x1 rfl
      replace x2 := tr old2 x2 rfl
      replace x8 := tr old2 x8 rfl
      replace x10 := tr old2 x10 rfl
      replace x11 := tr old2 x11 rfl
      replace x94 := tr old2 x94 rfl
      replace x95 := tr old2 x95 rfl
      replace x96 := tr old2 x96 rfl
      replace x148 := tr old2 x148 rfl
      replace x150 := tr old2 x150 rfl
      have x151 := Fk.e new2
      replace hd := HD.below hd hb
      replace hw := HW.below hw hb
      replace bl := bgo bl hb
      replace sd := sd2 sz2 df2 sd
      clear df2 sz2 old2 new2 hb
      clear x148
      clear x150
      refine wl_one (.eq (.bool true)) rfl 152 rfl (by rw [sd.1]; decide) (st_move (.tmp 151) rfl x151) ?_
      intro f72 w72 df2 sz2 old2 new2 hb
      replace x0 := tr old2 x0 rfl
      replace x1 := tr old2 x1 rfl
      replace x2 := tr old2 x2 rfl
      replace x8 := tr old2 x8 rfl
      replace x10 := tr old2 x10 rfl
      replace x11 := tr old2 x11 rfl
      replace x94 := tr old2 x94 rfl
      replace x95 := tr old2 x95 rfl
      replace x96 := tr old2 x96 rfl
      replace x151 := tr old2 x151 rfl
      have x152 := Fk.e new2
      replace hd := HD.below hd hb
      replace hw := HW.below hw hb
      replace bl := bgo bl hb
      replace sd := sd2 sz2 df2 sd
      clear df2 sz2 old2 new2 hb
      clear x151
      refine wl_onew (.eq (.pointer (some ⟨gw, 0, none⟩))) (want_of rfl rfl x152) 153 rfl (by rw [sd.1]; decide) (st_move (.tmp 8) rfl x8) ?_
      intro f73 w73 df2 sz2 old2 new2 hb
      replace bl0 := bl
      replace x0 := tr old2 x0 rfl
      replace x1 := tr old2 x1 rfl
      replace x2 := tr old2 x2 rfl
      replace x8 := tr old2 x8 rfl
      replace x10 := tr old2 x10 rfl
      replace x11 := tr old2 x11 rfl
      replace x94 := tr old2 x94 rfl
      replace x95 := tr old2 x95 rfl
      replace x96 := tr old2 x96 rfl
      replace x152 := tr old2 x152 rfl
      have x153 := Fk.e new2
      replace hd := HD.below hd hb
      replace hw := HW.below hw hb
      replace bl := bgo bl hb
      replace sd := sd2 sz2 df2 sd
      clear df2 sz2 old2 new2 hb
      refine wl_onew (.eq (.bool false)) (want_of rfl rfl x152) 154 rfl (by rw [sd.1]; decide) (st_call 21 (.func 21) _ _ #[.pointer (some ⟨gw, 0, none⟩)] rfl rfl (one_arg x153) Try.enter21 (fk_wdownB hw)) ?_
      intro f74 w74 df2 sz2 old2 new2 hb
      replace bl0 := bl
      replace x0 := tr old2 x0 rfl
      replace x1 := tr old2 x1 rfl
      replace x2 := tr old2 x2 rfl
      replace x8 := tr old2 x8 rfl
      replace x10 := tr old2 x10 rfl
      replace x11 := tr old2 x11 rfl
      replace x94 := tr old2 x94 rfl
      replace x95 := tr old2 x95 rfl
      replace x96 := tr old2 x96 rfl
      replace x152 := tr old2 x152 rfl
      replace x153 := tr old2 x153 rfl
      have x154 := Fk.e new2
      replace hd := HD.below hd hb
      replace hw := HW.below hw hb
      replace bl := bgo bl hb
      replace sd := sd2 sz2 df2 sd
      clear df2 sz2 old2 new2 hb
      clear x153
      refine wl_onew (.eq (.bool true)) (want_of rfl rfl x152) 155 rfl (by rw [sd.1]; decide) (st_not (.tmp 154) rfl false x154) ?_
      intro f75 w75 df2 sz2 old2 new2 hb
      replace bl0 := bl
      replace x0 := tr old2 x0 rfl
      replace x1 := tr old2 x1 rfl
      replace x2 := tr old2 x2 rfl
      replace x8 := tr old2 x8 rfl
      replace x10 := tr old2 x10 rfl
      replace x11 := tr old2 x11 rfl
      replace x94 := tr old2 x94 rfl
      replace x95 := tr old2 x95 rfl
      replace x96 := tr old2 x96 rfl
      replace x152 := tr old2 x152 rfl
      replace x154 := tr old2 x154 rfl
      have x155 := Fk.e new2
      replace hd := HD.below hd hb
      replace hw := HW.below hw hb
      replace bl := bgo bl hb
      replace sd := sd2 sz2 df2 sd
      clear df2 sz2 old2 new2 hb
      clear x154
      refine wl_one (.eq (.bool true)) rfl 156 rfl (by rw [sd.1]; decide) (st_pick_t (.tmp 152) (.tmp 155) (.const (.bool false)) rfl x152 x155) ?_
      intro f76 w76 df2 sz2 old2 new2 hb
      replace x0 := tr old2 x0 rfl
      replace x1 := tr old2 x1 rfl
      replace x2 := tr old2 x2 rfl
      replace x8 := tr old2 x8 rfl
      replace x10 := tr old2 x10 rfl
      replace x11 := tr old2 x11 rfl
      replace x94 := tr old2 x94 rfl
      replace x95 := tr old2 x95 rfl
      replace x96 := tr old2 x96 rfl
      replace x152 := tr old2 x152 rfl
      replace x155 := tr old2 x155 rfl
      have x156 := Fk.e new2
      replace hd := HD.below hd hb
      replace hw := HW.below hw hb
      replace bl := bgo bl hb
      replace sd := sd2 sz2 df2 sd
      clear df2 sz2 old2 new2 hb
      clear x152
      clear x155
      refine wl_one (.eq (.bool true)) rfl 157 rfl (by rw [sd.1]; decide) (st_move (.tmp 156) rfl x156) ?_
      intro f77 w77 df2 sz2 old2 new2 hb
      replace x0 := tr old2 x0 rfl
      replace x1 := tr old2 x1 rfl
      replace x2 := tr old2 x2 rfl
      replace x8 := tr old2 x8 rfl
      replace x10 := tr old2 x10 rfl
      replace x11 := tr old2 x11 rfl
      replace x94 := tr old2 x94 rfl
      replace x95 := tr old2 x95 rfl
      replace x96 := tr old2 x96 rfl
      replace x156 := tr old2 x156 rfl
      have x157 := Fk.e new2
      replace hd := HD.below hd hb
      replace hw := HW.below hw hb
      replace bl := bgo bl hb
      replace sd := sd2 sz2 df2 sd
      clear df2 sz2 old2 new2 hb
      clear x156
      refine wl_onew (.eq (.bool true)) (want_of rfl rfl x157) 158 rfl (by rw [sd.1]; decide) (st_call 7 (.func 7) _ _ #[] rfl rfl rfl Try.enter7 (awake12 _)) ?_
      intro f78 w78 df2 sz2 old2 new2 hb
      replace bl0 := bl
      replace x0 := tr old2 x0 rfl
      replace x1 := tr old2 x1 rfl
      replace x2 := tr old2 x2 rfl
      replace x8 := tr old2 x8 rfl
      replace x10 := tr old2 x10 rfl
      replace x11 := tr old2 x11 rfl
      replace x94 := tr old2 x94 rfl
      replace x95 := tr old2 x95 rfl
      replace x96 := tr old2 x96 rfl
      replace x157 := tr old2 x157 rfl
      have x158 := Fk.e new2
      replace hd := HD.below hd hb
      replace hw := HW.below hw hb
      replace bl := bgo bl hb
      replace sd := sd2 sz2 df2 sd
      clear df2 sz2 old2 new2 hb
      refine wl_one (.eq (.bool true)) rfl 159 rfl (by rw [sd.1]; decide) (st_pick_t (.tmp 157) (.tmp 158) (.const (.bool false)) rfl x157 x158) ?_
      intro f79 w79 df2 sz2 old2 new2 hb
      replace x0 := tr old2 x0 rfl
      replace x1 := tr old2 x1 rfl
      replace x2 := tr old2 x2 rfl
      replace x8 := tr old2 x8 rfl
      replace x10 := tr old2 x10 rfl
      replace x11 := tr old2 x11 rfl
      replace x94 := tr old2 x94 rfl
      replace x95 := tr old2 x95 rfl
      replace x96 := tr old2 x96 rfl
      replace x157 := tr old2 x157 rfl
      replace x158 := tr old2 x158 rfl
      have x159 := Fk.e new2
      replace hd := HD.below hd hb
      replace hw := HW.below hw hb
      replace bl := bgo bl hb
      replace sd := sd2 sz2 df2 sd
      clear df2 sz2 old2 new2 hb
      clear x157
      clear x158
      refine wl_one (.eq (.bool true)) rfl 6 rfl (by rw [sd.1]; decide) (st_assign (.tmp 159) rfl x159) ?_
      intro f80 w80 df2 sz2 old2 new2 hb
      replace x0 := tr old2 x0 rfl
      replace x1 := tr old2 x1 rfl
      replace x2 := tr old2 x2 rfl
      replace x8 := tr old2 x8 rfl
      replace x10 := tr old2 x10 rfl
      replace x11 := tr old2 x11 rfl
      replace x94 := tr old2 x94 rfl
      replace x95 := tr old2 x95 rfl
      replace x96 := tr old2 x96 rfl
      replace x159 := tr old2 x159 rfl
      have x6 := Fk.e new2
      replace hd := HD.below hd hb
      replace hw := HW.below hw hb
      replace bl := bgo bl hb
      replace sd := sd2 sz2 df2 sd
      clear df2 sz2 old2 new2 hb
      refine wpList_nil ?_
      clear x159
      show Code.wp _ _ _ _ _
      refine wp_ret ?_
      repeat (first | with_reducible refine then_ret ?_ | with_reducible refine block_ret ?_)
      exact bodyPost_ret (v := .bool true) (ret_slot rfl f80 _ x6 _ _) sd.2 ⟨rfl, bl⟩
    obtain ⟨oo, hook⟩ : ∃ p, l[k]? = some p := ⟨_, List.getElem?_eq_getElem hlt⟩
    have hok := sr_ok hv hook
    have hcoo : (Fk.sr RC oo.cs).f oo.vc w := hok.1
    have hlco : oo.cs.length ≤ maxLen := hok.2.2.2.2
    have hsm := hsmall.1 oo (List.mem_of_getElem? hook)
    have hk30 : k < 20 := by omega
    refine wr_a [.eq (.bool true)] (by rw [sd.1]; kernel_rfl) ⟨fun hwt ac u K => ?_, trivial⟩ ?_
    · exact st_lss 3 (.tmp 96) (.tmp 95) rfl .i64 ((k : Int)) ((((l).length : Nat) : Int)) (K.t x96 rfl) (K.t x95 rfl) _ (by rw [eq_comm, decide_eq_true_iff]; exact Int.ofNat_lt.2 hlt)
    intro f50 w50 A hb
    replace x0 := A.t x0 rfl
    replace x1 := A.t x1 rfl
    replace x2 := A.t x2 rfl
    replace x8 := A.t x8 rfl
    replace x10 := A.t x10 rfl
    replace x11 := A.t x11 rfl
    replace x94 := A.t x94 rfl
    replace x95 := A.t x95 rfl
    replace x96 := A.t x96 rfl
    have x97 := A.e 0 97 rfl rfl
    replace hd := HD.below hd hb
    replace hw := HW.below hw hb
    replace hN := MBs.below hN hb
    replace bl := bgo bl hb
    replace sd := A.sd sd
    clear A hb
    show Code.wp _ _ _ _ _
    refine wp_seq ?_
    refine wp_cond_true x97 ?_
    refine wp_skip ?_
    show Code.wp _ _ _ _ _
    refine wp_seq ?_
    refine wp_block ?_
    refine wp_seq ?_
    have hdl9 := hd.lt
    have hvl9 := hw.lt
    refine wr_s [.sq RO oo, .eq (.agg ([.int .i64 oo.k, .int .i64 oo.n, oo.vc, oo.vl] : List Value).toArray), .nw w50.heap.size 39 [.int .i64 0, .int .i64 0, .slice none 0 0, .slice none 0 0]] (by rw [sd.1]; kernel_rfl) ⟨fun hwt ac u K => ?_, fun hwt ac u K => ?_, fun hwt ac u K => ?_, trivial⟩ ?_
    · exact st_idxso (.tmp 94) (.tmp 96) rfl (fk_val (K.t x94 rfl) (Fk.mono _ _ _ _ hv (bgo bl K.grow))) k oo (K.t x96 rfl) hook
    · exact st_loadso (.tmp 98) rfl (K.dep 0 98 rfl)
    · exact st_alloc 39 rfl _ _ (by kernel_rfl) K.grow.size
    intro f51 w51 A hb
    have S_hd := hd
    have S_hw := hw
    have S_hN := hN
    have hbS0 := Below.refl w50.heap.size w50
    have hbS := hb
    replace bl0 := bl
    replace x0 := A.t x0 rfl
    replace x1 := A.t x1 rfl
    replace x2 := A.t x2 rfl
    replace x8 := A.t x8 rfl
    replace x10 := A.t x10 rfl
    replace x11 := A.t x11 rfl
    replace x94 := A.t x94 rfl
    replace x95 := A.t x95 rfl
    replace x96 := A.t x96 rfl
    replace x97 := A.t x97 rfl
    have x14 : Fk.f (.nw w50.heap.size 39 [.int .i64 0, .int .i64 0, .slice none 0 0, .slice none 0 0]) (f51.eval (.tmp 14)) w51 := A.has 2 14 rfl
    have x99 := A.e 1 99 rfl rfl
    replace hd := HD.below hd hb
    replace hw := HW.below hw hb
    replace hN := MBs.below hN hb
    replace bl := bgo bl hb
    replace sd := A.sd sd
    clear A hb
    clear x97
    obtain ⟨g14, hg14, e14, m14⟩ := x14
    have x14 := e14
    clear e14
    have hw14 : w.heap.size ≤ g14 := Nat.le_trans bl0.size hg14
    have hs14 := Nat.le_trans hbS0.size hg14
    refine wl_str rfl 39 (.tmp 14) (.tmp 99) rfl rfl (g14) ([.int .i64 oo.k, .int .i64 oo.n, oo.vc, oo.vl] : List Value).toArray x14 x99 39 _ m14 (by kernel_rfl) (by kernel_rfl) (by kernel_rfl) ?_
    replace m14 : Ob (w51.setRow g14 ([.int .i64 oo.k, .int .i64 oo.n, oo.vc, oo.vl] : List Value).toArray) (g14) 39 ([.int .i64 oo.k, .int .i64 oo.n, oo.vc, oo.vl]) := Ob.setRow m14 ([.int .i64 oo.k, .int .i64 oo.n, oo.vc, oo.vl])
    replace hbS : Below _ _ (w51.setRow g14 ([.int .i64 oo.k, .int .i64 oo.n, oo.vc, oo.vl] : List Value).toArray) := hbS.trans (below_setRow _ _ _ _ hs14)
    replace hd := HD.below S_hd hbS
    replace hw := HW.below S_hw hbS
    replace hN := MBs.below S_hN hbS
    replace bl : Below w.heap.size w (w51.setRow g14 ([.int .i64 oo.k, .int .i64 oo.n, oo.vc, oo.vl] : List Value).toArray) := bl.trans (below_setRow _ _ _ _ hw14)
    generalize w51.setRow g14 ([.int .i64 oo.k, .int .i64 oo.n, oo.vc, oo.vl] : List Value).toArray = w52b at bl m14 hd hw hN hbS ⊢
    refine wpList_nil ?_
    clear hbS hbS0 S_hd S_hw S_hN
    clear x99
    have h14D : ¬ DD g14 := fun q => by have := hdl9 _ q; omega
    have h14V : ¬ VV g14 := fun q => by have := hvl9 _ q; omega
    clear hdl9 hvl9
    show Code.wp _ _ _ _ _
    refine wp_seq ?_
    refine wp_seq ?_
    by_cases hkind : oo.k = 1
    rotate_left
    · skip
      refine wr_a [.eq (.pointer (some ⟨g14, 0, none⟩)), .eq (.int .i64 oo.k), .eq (.bool true)] (by rw [sd.1]; kernel_rfl) ⟨fun hwt ac u K => ?_, fun hwt ac u K => ?_, fun hwt ac u K => ?_, trivial⟩ ?_
      · exact st_field 39 0 (.tmp 14) rfl (K.t x14 rfl) (by kernel_rfl)
      · exact st_loadc 3 (.tmp 100) rfl (by kernel_rfl) (K.dep 0 100 rfl) (Ob.cell (Ob.below m14 K.grow) 0 rfl)
      · exact st_neqi 3 (.tmp 101) (.const (.int .i64 1)) rfl .i64 (oo.k) (1) (K.dep 1 101 rfl) rfl _ (by rw [eq_comm, decide_eq_true_iff]; exact hkind)
      intro f53 w53 A hb
      replace x0 := A.t x0 rfl
      replace x1 := A.t x1 rfl
      replace x2 := A.t x2 rfl
      replace x8 := A.t x8 rfl
      replace x10 := A.t x10 rfl
      replace x11 := A.t x11 rfl
      replace x94 := A.t x94 rfl
      replace x95 := A.t x95 rfl
      replace x96 := A.t x96 rfl
      replace x14 := A.t x14 rfl
      have x102 := A.e 2 102 rfl rfl
      replace m14 := Ob.below m14 hb
      replace hd := HD.below hd hb
      replace hw := HW.below hw hb
      replace hN := MBs.below hN hb
      replace bl := bgo bl hb
      replace sd := A.sd sd
      clear A hb
      show Code.wp _ _ _ _ _
      refine wp_cond_true x102 ?_
      refine wp_exit ?_
      show Code.wp _ _ _ _ _
      clear m14 h14D h14V
      refine wr_s [.eq (.int .i64 ((k + 1 : Nat) : Int))] (by rw [sd.1]; kernel_rfl) ⟨fun hwt ac u K => ?_, trivial⟩ ?_
      · exact st_addz (.tmp 96) (.const (.int .i64 1)) rfl _ _ _ (K.t x96 rfl) rfl (by omega) (by omega) (by omega)
      intro f54 w54 A hb
      replace x0 := A.t x0 rfl
      replace x1 := A.t x1 rfl
      replace x2 := A.t x2 rfl
      replace x8 := A.t x8 rfl
      replace x10 := A.t x10 rfl
      replace x11 := A.t x11 rfl
      replace x94 := A.t x94 rfl
      replace x95 := A.t x95 rfl
      replace x96 := A.t x96 rfl
      replace x14 := A.t x14 rfl
      replace x102 := A.t x102 rfl
      have x134 := A.e 0 134 rfl rfl
      replace hd := HD.below hd hb
      replace hw := HW.below hw hb
      replace hN := MBs.below hN hb
      replace bl := bgo bl hb
      replace sd := A.sd sd
      clear A hb
      clear x14
      clear x102
      refine wl_one (.eq (.int .i64 ((k + 1 : Nat) : Int))) rfl 96 rfl (by rw [sd.1]; decide) (st_move (.tmp 134) rfl x134) ?_
      intro f55 w55 df2 sz2 old2 new2 hb
      replace x0 := tr old2 x0 rfl
      replace x1 := tr old2 x1 rfl
      replace x2 := tr old2 x2 rfl
      replace x8 := tr old2 x8 rfl
      replace x10 := tr old2 x10 rfl
      replace x11 := tr old2 x11 rfl
      replace x94 := tr old2 x94 rfl
      replace x95 := tr old2 x95 rfl
      clear x96
      replace x134 := tr old2 x134 rfl
      have x96 := Fk.e new2
      replace hd := HD.below hd hb
      replace hw := HW.below hw hb
      replace hN := MBs.below hN hb
      replace bl := bgo bl hb
      replace sd := sd2 sz2 df2 sd
      clear df2 sz2 old2 new2 hb
      refine wpList_nil ?_
      clear x134
      show (∃ _, _) ∧ _
      refine ⟨⟨k + 1, s, DD, now, vN, by omega, gs.le (by omega), hq, hDD, hVD, sd.1, sd.2, x0, x1, x2, x8, x10, x94, x95, x96, x11, hd, hw, hN, bl⟩, ?_⟩
      rw [show f55.eval (.tmp 96) = _ from x96, show _ = _ from hcnt]
      first | (simp [intOf]; done) | (simp [intOf]; omega)
    refine wr_a [.eq (.pointer (some ⟨g14, 0, none⟩)), .eq (.int .i64 oo.k), .eq (.bool false)] (by rw [sd.1]; kernel_rfl) ⟨fun hwt ac u K => ?_, fun hwt ac u K => ?_, fun hwt ac u K => ?_, trivial⟩ ?_
    · exact st_field 39 0 (.tmp 14) rfl (K.t x14 rfl) (by kernel_rfl)
    · exact st_loadc 3 (.tmp 100) rfl (by kernel_rfl) (K.dep 0 100 rfl) (Ob.cell (Ob.below m14 K.grow) 0 rfl)
    · exact st_neqi 3 (.tmp 101) (.const (.int .i64 1)) rfl .i64 (oo.k) (1) (K.dep 1 101 rfl) rfl _ (by rw [eq_comm, decide_eq_false_iff_not]; exact fun q => q hkind)
    intro f53 w53 A hb
    replace x0 := A.t x0 rfl
    replace x1 := A.t x1 rfl
    replace x2 := A.t x2 rfl
    replace x8 := A.t x8 rfl
    replace x10 := A.t x10 rfl
    replace x11 := A.t x11 rfl
    replace x94 := A.t x94 rfl
    replace x95 := A.t x95 rfl
    replace x96 := A.t x96 rfl
    replace x14 := A.t x14 rfl
    have x102 := A.e 2 102 rfl rfl
    replace m14 := Ob.below m14 hb
    replace hd := HD.below hd hb
    replace hw := HW.below hw hb
    replace hN := MBs.below hN hb
    replace bl := bgo bl hb
    replace sd := A.sd sd
    clear A hb
    show Code.wp _ _ _ _ _
    refine wp_cond_false x102 ?_
    refine wp_skip ?_
    show Code.wp _ _ _ _ _
    refine wp_seq ?_
    obtain ⟨r, hwr⟩ := wrong_ex oo.cs n z
    refine wr_a [.eq (.pointer (some ⟨g14, 2, none⟩)), .eq (oo.vc), .eq (.int .i64 (n : Int)), .eq (.int .i64 (z : Int)), .eq (.int .i64 r), .eq (.int .i64 r)] (by rw [sd.1]; kernel_rfl) ⟨fun hwt ac u K => ?_, fun hwt ac u K => ?_, fun hwt ac u K => ?_, fun hwt ac u K => ?_, fun hwt ac u K => ?_, fun hwt ac u K => ?_, trivial⟩ ?_
    · exact st_field 39 2 (.tmp 14) rfl (K.t x14 rfl) (by kernel_rfl)
    · exact st_loadc 36 (.tmp 103) rfl (by kernel_rfl) (K.dep 0 103 rfl) (Ob.cell (Ob.below m14 K.grow) 2 rfl)
    · exact st_move (.tmp 0) rfl (K.t x0 rfl)
    · exact st_move (.tmp 1) rfl (K.t x1 rfl)
    · exact st_call 15 (.func 15) _ _ _ rfl rfl (arg3 (K.dep 1 104 rfl) (K.dep 2 105 rfl) (K.dep 3 106 rfl)) Try.enter15 (wrong_at hlco (by omega) hnM hwr (Fk.mono _ _ _ _ hcoo (bgo bl K.grow)))
    · exact st_assign (.tmp 107) rfl (K.dep 4 107 rfl)
    intro f54 w54 A hb
    replace x0 := A.t x0 rfl
    replace x1 := A.t x1 rfl
    replace x2 := A.t x2 rfl
    replace x8 := A.t x8 rfl
    replace x10 := A.t x10 rfl
    replace x11 := A.t x11 rfl
    replace x94 := A.t x94 rfl
    replace x95 := A.t x95 rfl
    replace x96 := A.t x96 rfl
    replace x14 := A.t x14 rfl
    replace x102 := A.t x102 rfl
    have x15 := A.e 5 15 rfl rfl
    replace m14 := Ob.below m14 hb
    replace hd := HD.below hd hb
    replace hw := HW.below hw hb
    replace hN := MBs.below hN hb
    replace bl := bgo bl hb
    replace sd := A.sd sd
    clear A hb
    clear x102
    show Code.wp _ _ _ _ _
    refine wp_seq ?_
    refine wp_seq ?_
    refine wr_s [.eq (.pointer (some ⟨gw, 0, none⟩)), .eq (.pointer (some ⟨g14, 2, none⟩)), .eq (oo.vc)] (by rw [sd.1]; kernel_rfl) ⟨fun hwt ac u K => ?_, fun hwt ac u K => ?_, fun hwt ac u K => ?_, trivial⟩ ?_
    · exact st_move (.tmp 8) rfl (K.t x8 rfl)
    · exact st_field 39 2 (.tmp 14) rfl (K.t x14 rfl) (by kernel_rfl)
    · exact st_loadc 36 (.tmp 109) rfl (by kernel_rfl) (K.dep 1 109 rfl) (Ob.cell (Ob.below m14 K.grow) 2 rfl)
    intro f55 w55 A hb
    replace x0 := A.t x0 rfl
    replace x1 := A.t x1 rfl
    replace x2 := A.t x2 rfl
    replace x8 := A.t x8 rfl
    replace x10 := A.t x10 rfl
    replace x11 := A.t x11 rfl
    replace x94 := A.t x94 rfl
    replace x95 := A.t x95 rfl
    replace x96 := A.t x96 rfl
    replace x14 := A.t x14 rfl
    replace x15 := A.t x15 rfl
    have x108 := A.e 0 108 rfl rfl
    have x110 := A.e 2 110 rfl rfl
    replace m14 := Ob.below m14 hb
    replace hd := HD.below hd hb
    replace hw := HW.below hw hb
    replace hN := MBs.below hN hb
    replace bl := bgo bl hb
    replace sd := A.sd sd
    clear A hb
    have hvF9 : ∀ {W : World}, Fr (fun j => M j ∨ VV j) w55 W → (Fk.sr RC (oo.cs)).f (oo.vc) W := fun {W} hF => Fk.mono _ _ _ _ hcoo (bl.trans (hF.below bl.size (fun j q => q.elim (fun q => hDD j (hd.sub j q)) (hVw j))))
    refine wl_call 16 (.func 16) _ _ #[.pointer (some ⟨gw, 0, none⟩), oo.vc] rfl 111 rfl (by rw [sd.1]; decide) rfl rfl (two_arg x108 x110) Try.enter16 (fun u W' => ∃ (D2 : Nat → Prop) (r : Int) (s' : Dst) (dn' : Bool), u = .int .i64 r ∧ ComIs n z s false (oo.cs) r s' dn' ∧ HD W' gd M D2 s' ∧ Gd s' n z (1000 * (k + 1) + 20 * ((oo.cs).length + 1)) ∧ HW W' gw gd VV n z dn' ∧ (∀ j, D2 j → DD j ∨ w55.heap.size ≤ j) ∧ Fr (fun j => M j ∨ VV j) w55 W') ((fk_wcommit hw hd gs hVD h32 (by omega) (by omega) hvF9).mono (by rintro e w' ⟨D', r, s', dn', rfl, q⟩; exact ⟨_, rfl, D', r, s', dn', rfl, q⟩)) ?_
    rintro f56 w56 df2 sz2 old2 ⟨D2, r9, s9, dn9, x111, hC, hd2, gs2, hw2, hD2, O⟩
    clear hvF9
    have hVlt9 := hw.lt
    replace hVD : ∀ j, VV j → ¬ D2 j := fun j q m => (hD2 j m).elim (hVD j q) (fun m => by have := hVlt9 j q; omega)
    clear hVlt9
    replace hN := MBs.eff hN O (fun j q => q.elim (fun q => .inl (hd.sub _ q)) .inr) hD2 (fun j q => .inl q)
    have lt9 := Ob.lt m14
    replace m14 := Ob.keep m14 (O.block _ lt9 (fun q => q.elim (fun q => h14D (hd.sub _ q)) h14V))
    replace h14D : ¬ D2 g14 := fun q => (hD2 _ q).elim h14D (fun q => by omega)
    clear lt9
    have bl9 := bl.trans (O.below bl.size (fun j q => q.elim (fun q => hDD j (hd.sub j q)) (hVw j)))
    replace hDD : ∀ j, D2 j → w.heap.size ≤ j := fun j q => (hD2 j q).elim (hDD j) (fun q => by have := bl.size; omega)
    replace bl := bl9
    replace bl0 := bl
    clear bl9
    replace hd := hd2
    replace hw := hw2
    replace gs := gs2
    clear hw2 gs2
    clear hd2 hD2 O
    clear DD
    obtain ⟨DD, rfl⟩ : ∃ E, E = D2 := ⟨_, rfl⟩
    replace x0 := tr old2 x0 rfl
    replace x1 := tr old2 x1 rfl
    replace x2 := tr old2 x2 rfl
    replace x8 := tr old2 x8 rfl
    replace x10 := tr old2 x10 rfl
    replace x11 := tr old2 x11 rfl
    replace x94 := tr old2 x94 rfl
    replace x95 := tr old2 x95 rfl
    replace x96 := tr old2 x96 rfl
    replace x14 := tr old2 x14 rfl
    replace x15 := tr old2 x15 rfl
    replace x108 := tr old2 x108 rfl
    replace x110 := tr old2 x110 rfl
    replace sd := sd2 sz2 df2 sd
    clear df2 sz2 old2
    obtain ⟨hw1, rfl, hcc⟩ := com_ok12 h3 h32 hnM hq hC
    have hrr : r9 = r := hw1.elim (fun q => wrong_det q hwr) (fun q => by rw [q.1] at hwr; rw [q.2]; exact wrong_det (wrong_nil n z) hwr)
    subst hrr
    clear hC hw1
    clear x108
    clear x110
    refine wl_one (.eq (.int .i64 r9)) rfl 112 rfl (by rw [sd.1]; decide) (st_move (.tmp 15) rfl x15) ?_
    intro f57 w57 df2 sz2 old2 new2 hb
    replace x0 := tr old2 x0 rfl
    replace x1 := tr old2 x1 rfl
    replace x2 := tr old2 x2 rfl
    replace x8 := tr old2 x8 rfl
    replace x10 := tr old2 x10 rfl
    replace x11 := tr old2 x11 rfl
    replace x94 := tr old2 x94 rfl
    replace x95 := tr old2 x95 rfl
    replace x96 := tr old2 x96 rfl
    replace x14 := tr old2 x14 rfl
    replace x15 := tr old2 x15 rfl
    replace x111 := tr old2 x111 rfl
    have x112 := Fk.e new2
    replace m14 := Ob.below m14 hb
    replace hd := HD.below hd hb
    replace hw := HW.below hw hb
    replace hN := MBs.below hN hb
    replace bl := bgo bl hb
    replace sd := sd2 sz2 df2 sd
    clear df2 sz2 old2 new2 hb
    refine wl_one (.eq (.bool false)) rfl 113 rfl (by rw [sd.1]; decide) (st_neqi 28 (.tmp 111) (.tmp 112) rfl .i64 (r9) (r9) x111 x112 _ (by simp)) ?_
    intro f58 w58 df2 sz2 old2 new2 hb
    replace x0 := tr old2 x0 rfl
    replace x1 := tr old2 x1 rfl
    replace x2 := tr old2 x2 rfl
    replace x8 := tr old2 x8 rfl
    replace x10 := tr old2 x10 rfl
    replace x11 := tr old2 x11 rfl
    replace x94 := tr old2 x94 rfl
    replace x95 := tr old2 x95 rfl
    replace x96 := tr old2 x96 rfl
    replace x14 := tr old2 x14 rfl
    replace x15 := tr old2 x15 rfl
    replace x111 := tr old2 x111 rfl
    replace x112 := tr old2 x112 rfl
    have x113 := Fk.e new2
    replace m14 := Ob.below m14 hb
    replace hd := HD.below hd hb
    replace hw := HW.below hw hb
    replace hN := MBs.below hN hb
    replace bl := bgo bl hb
    replace sd := sd2 sz2 df2 sd
    clear df2 sz2 old2 new2 hb
    refine wpList_nil ?_
    clear x111
    clear x112
    show Code.wp _ _ _ _ _
    refine wp_cond_false x113 ?_
    refine wp_skip ?_
    show Code.wp _ _ _ _ _
    refine wp_seq ?_
    refine wp_seq ?_
    rcases hcc with ⟨rfl, hok9, hq2⟩ | ⟨hr0, rfl⟩
    rotate_left
    · skip
      refine wr_a [.eq (.int .i64 r9), .eq (.bool false)] (by rw [sd.1]; kernel_rfl) ⟨fun hwt ac u K => ?_, fun hwt ac u K => ?_, trivial⟩ ?_
      · exact st_move (.tmp 15) rfl (K.t x15 rfl)
      · exact st_eqi 28 (.tmp 114) (.const (.int .i64 0)) rfl .i64 (r9) (0) (K.dep 0 114 rfl) rfl _ (by rw [eq_comm, decide_eq_false_iff_not]; exact hr0)
      intro f59 w59 A hb
      replace x0 := A.t x0 rfl
      replace x1 := A.t x1 rfl
      replace x2 := A.t x2 rfl
      replace x8 := A.t x8 rfl
      replace x10 := A.t x10 rfl
      replace x11 := A.t x11 rfl
      replace x94 := A.t x94 rfl
      replace x95 := A.t x95 rfl
      replace x96 := A.t x96 rfl
      replace x14 := A.t x14 rfl
      replace x15 := A.t x15 rfl
      replace x113 := A.t x113 rfl
      have x115 := A.e 1 115 rfl rfl
      replace m14 := Ob.below m14 hb
      replace hd := HD.below hd hb
      replace hw := HW.below hw hb
      replace hN := MBs.below hN hb
      replace bl := bgo bl hb
      replace sd := A.sd sd
      clear A hb
      clear x15
      clear x113
      show Code.wp _ _ _ _ _
      refine wp_cond_false x115 ?_
      refine wp_skip ?_
      show Code.wp _ _ _ _ _
      refine wp_seq ?_
      refine wr_s [.eq (.pointer (some ⟨gw, 0, none⟩)), .eq (.int .i64 ((homN n : Nat) : Int))] (by rw [sd.1]; kernel_rfl) ⟨fun hwt ac u K => ?_, fun hwt ac u K => ?_, trivial⟩ ?_
      · exact st_move (.tmp 8) rfl (K.t x8 rfl)
      · exact st_move (.tmp 10) rfl (K.t x10 rfl)
      intro f60 w60 A hb
      replace x0 := A.t x0 rfl
      replace x1 := A.t x1 rfl
      replace x2 := A.t x2 rfl
      replace x8 := A.t x8 rfl
      replace x10 := A.t x10 rfl
      replace x11 := A.t x11 rfl
      replace x94 := A.t x94 rfl
      replace x95 := A.t x95 rfl
      replace x96 := A.t x96 rfl
      replace x14 := A.t x14 rfl
      replace x115 := A.t x115 rfl
      have x121 := A.e 0 121 rfl rfl
      have x122 := A.e 1 122 rfl rfl
      replace m14 := Ob.below m14 hb
      replace hd := HD.below hd hb
      replace hw := HW.below hw hb
      replace hN := MBs.below hN hb
      replace bl := bgo bl hb
      replace sd := A.sd sd
      clear A hb
      clear x14
      clear x115
      refine wl_call 18 (.func 18) _ _ #[.pointer (some ⟨gw, 0, none⟩), .int .i64 ((homN n : Nat) : Int)] rfl 123 rfl (by rw [sd.1]; decide) rfl rfl (two_arg x121 x122) Try.enter18 (fun u W' => ∃ (D2 : Nat → Prop) (v : Value), u = .tuple #[v, .bool true] ∧ MBs W' D2 VV (homN n) (.some (hml s9 (homN n))) v ∧ HD W' gd M D2 s9 ∧ HW W' gw gd VV n z false ∧ (∀ j, D2 j → DD j ∨ w60.heap.size ≤ j) ∧ Fr M w60 W') (homes_mb hw hd gs hq.up.2.2 hVD (by omega) (by omega)) ?_
      rintro f61 w61 df2 sz2 old2 ⟨D2, vQ, x123, hQ, hd2, hw2, hD2, O⟩
      have hVlt9 := hw.lt
      replace hVD : ∀ j, VV j → ¬ D2 j := fun j q m => (hD2 j m).elim (hVD j q) (fun m => by have := hVlt9 j q; omega)
      clear hVlt9
      replace hN := MBs.eff hN O (fun j q => .inl (hd.sub _ q)) hD2 (fun j q => .inl q)
      have lt9 := Ob.lt m14
      replace m14 := Ob.keep m14 (O.block _ lt9 (fun q => h14D (hd.sub _ q)))
      replace h14D : ¬ D2 g14 := fun q => (hD2 _ q).elim h14D (fun q => by omega)
      clear lt9
      have bl9 := bl.trans (O.below bl.size (fun j q => hDD j (hd.sub j q)))
      replace hDD : ∀ j, D2 j → w.heap.size ≤ j := fun j q => (hD2 j q).elim (hDD j) (fun q => by have := bl.size; omega)
      replace bl := bl9
      replace bl0 := bl
      clear bl9
      replace hd := hd2
      replace hw := hw2
      clear hw2
      clear hd2 hD2 O
      clear DD
      obtain ⟨DD, rfl⟩ : ∃ E, E = D2 := ⟨_, rfl⟩
      replace x0 := tr old2 x0 rfl
      replace x1 := tr old2 x1 rfl
      replace x2 := tr old2 x2 rfl
      replace x8 := tr old2 x8 rfl
      replace x10 := tr old2 x10 rfl
      replace x11 := tr old2 x11 rfl
      replace x94 := tr old2 x94 rfl
      replace x95 := tr old2 x95 rfl
      replace x96 := tr old2 x96 rfl
      replace x121 := tr old2 x121 rfl
      replace x122 := tr old2 x122 rfl
      replace sd := sd2 sz2 df2 sd
      clear df2 sz2 old2
      clear x121
      clear x122
      refine wl_one (.eq (.tuple #[vQ, .bool true])) rfl 120 rfl (by rw [sd.1]; decide) (st_move (.tmp 123) rfl x123) ?_
      intro f62 w62 df2 sz2 old2 new2 hb
      replace x0 := tr old2 x0 rfl
      replace x1 := tr old2 x1 rfl
      replace x2 := tr old2 x2 rfl
      replace x8 := tr old2 x8 rfl
      replace x10 := tr old2 x10 rfl
      replace x11 := tr old2 x11 rfl
      replace x94 := tr old2 x94 rfl
      replace x95 := tr old2 x95 rfl
      replace x96 := tr old2 x96 rfl
      replace x123 := tr old2 x123 rfl
      have x120 := Fk.e new2
      replace m14 := Ob.below m14 hb
      replace hd := HD.below hd hb
      replace hw := HW.below hw hb
      replace hN := MBs.below hN hb
      replace hQ := MBs.below hQ hb
      replace bl := bgo bl hb
      replace sd := sd2 sz2 df2 sd
      clear df2 sz2 old2 new2 hb
      clear x123
      refine wl_one (.eq (vQ)) rfl 124 rfl (by rw [sd.1]; decide) (st_extv (.tmp 120) 0 rfl x120 rfl) ?_
      intro f63 w63 df2 sz2 old2 new2 hb
      replace x0 := tr old2 x0 rfl
      replace x1 := tr old2 x1 rfl
      replace x2 := tr old2 x2 rfl
      replace x8 := tr old2 x8 rfl
      replace x10 := tr old2 x10 rfl
      replace x11 := tr old2 x11 rfl
      replace x94 := tr old2 x94 rfl
      replace x95 := tr old2 x95 rfl
      replace x96 := tr old2 x96 rfl
      replace x120 := tr old2 x120 rfl
      have x124 := Fk.e new2
      replace m14 := Ob.below m14 hb
      replace hd := HD.below hd hb
      replace hw := HW.below hw hb
      replace hN := MBs.below hN hb
      replace hQ := MBs.below hQ hb
      replace bl := bgo bl hb
      replace sd := sd2 sz2 df2 sd
      clear df2 sz2 old2 new2 hb
      refine wl_one (.eq (.bool true)) rfl 125 rfl (by rw [sd.1]; decide) (st_extv (.tmp 120) 1 rfl x120 rfl) ?_
      intro f64 w64 df2 sz2 old2 new2 hb
      replace x0 := tr old2 x0 rfl
      replace x1 := tr old2 x1 rfl
      replace x2 := tr old2 x2 rfl
      replace x8 := tr old2 x8 rfl
      replace x10 := tr old2 x10 rfl
      replace x11 := tr old2 x11 rfl
      replace x94 := tr old2 x94 rfl
      replace x95 := tr old2 x95 rfl
      replace x96 := tr old2 x96 rfl
      replace x120 := tr old2 x120 rfl
      replace x124 := tr old2 x124 rfl
      have x125 := Fk.e new2
      replace m14 := Ob.below m14 hb
      replace hd := HD.below hd hb
      replace hw := HW.below hw hb
      replace hN := MBs.below hN hb
      replace hQ := MBs.below hQ hb
      replace bl := bgo bl hb
      replace sd := sd2 sz2 df2 sd
      clear df2 sz2 old2 new2 hb
      clear x120
      refine wl_one (.eq (vQ)) rfl 16 rfl (by rw [sd.1]; decide) (st_assign (.tmp 124) rfl x124) ?_
      intro f65 w65 df2 sz2 old2 new2 hb
      replace x0 := tr old2 x0 rfl
      replace x1 := tr old2 x1 rfl
      replace x2 := tr old2 x2 rfl
      replace x8 := tr old2 x8 rfl
      replace x10 := tr old2 x10 rfl
      replace x11 := tr old2 x11 rfl
      replace x94 := tr old2 x94 rfl
      replace x95 := tr old2 x95 rfl
      replace x96 := tr old2 x96 rfl
      replace x124 := tr old2 x124 rfl
      replace x125 := tr old2 x125 rfl
      have x16 := Fk.e new2
      replace m14 := Ob.below m14 hb
      replace hd := HD.below hd hb
      replace hw := HW.below hw hb
      replace hN := MBs.below hN hb
      replace hQ := MBs.below hQ hb
      replace bl := bgo bl hb
      replace sd := sd2 sz2 df2 sd
      clear df2 sz2 old2 new2 hb
      clear x124
      refine wl_one (.eq (.bool true)) rfl 17 rfl (by rw [sd.1]; decide) (st_assign (.tmp 125) rfl x125) ?_
      intro f66 w66 df2 sz2 old2 new2 hb
      replace x0 := tr old2 x0 rfl
      replace x1 := tr old2 x1 rfl
      replace x2 := tr old2 x2 rfl
      replace x8 := tr old2 x8 rfl
      replace x10 := tr old2 x10 rfl
      replace x11 := tr old2 x11 rfl
      replace x94 := tr old2 x94 rfl
      replace x95 := tr old2 x95 rfl
      replace x96 := tr old2 x96 rfl
      replace x125 := tr old2 x125 rfl
      replace x16 := tr old2 x16 rfl
      have x17 := Fk.e new2
      replace m14 := Ob.below m14 hb
      replace hd := HD.below hd hb
      replace hw := HW.below hw hb
      replace hN := MBs.below hN hb
      replace hQ := MBs.below hQ hb
      replace bl := bgo bl hb
      replace sd := sd2 sz2 df2 sd
      clear df2 sz2 old2 new2 hb
      refine wpList_nil ?_
      clear x125
      show Code.wp _ _ _ _ _
      refine wp_seq ?_
      rw [show hml s9 (homN n) = now from hq.homes] at hQ
      refine wr_s [] (by rw [sd.1]; kernel_rfl) trivial ?_
      intro f67 w67 A hb
      replace x0 := A.t x0 rfl
      replace x1 := A.t x1 rfl
      replace x2 := A.t x2 rfl
      replace x8 := A.t x8 rfl
      replace x10 := A.t x10 rfl
      replace x11 := A.t x11 rfl
      replace x94 := A.t x94 rfl
      replace x95 := A.t x95 rfl
      replace x96 := A.t x96 rfl
      replace x16 := A.t x16 rfl
      replace x17 := A.t x17 rfl
      replace m14 := Ob.below m14 hb
      replace hd := HD.below hd hb
      replace hw := HW.below hw hb
      replace hN := MBs.below hN hb
      replace hQ := MBs.below hQ hb
      replace bl := bgo bl hb
      replace sd := A.sd sd
      clear A hb
      refine wl_one (.eq (.bool true)) rfl 126 rfl (by rw [sd.1]; decide) (st_move (.tmp 17) rfl x17) ?_
      intro f68 w68 df2 sz2 old2 new2 hb
      replace x0 := tr old2 x0 rfl
      replace x1 := tr old2 x1 rfl
      replace x2 := tr old2 x2 rfl
      replace x8 := tr old2 x8 rfl
      replace x10 := tr old2 x10 rfl
      replace x11 := tr old2 x11 rfl
      replace x94 := tr old2 x94 rfl
      replace x95 := tr old2 x95 rfl
      replace x96 := tr old2 x96 rfl
      replace x16 := tr old2 x16 rfl
      replace x17 := tr old2 x17 rfl
      have x126 := Fk.e new2
      replace m14 := Ob.below m14 hb
      replace hd := HD.below hd hb
      replace hw := HW.below hw hb
      replace hN := MBs.below hN hb
      replace hQ := MBs.below hQ hb
      replace bl := bgo bl hb
      replace sd := sd2 sz2 df2 sd
      clear df2 sz2 old2 new2 hb
      clear x17
      refine wl_one (.eq (.bool false)) rfl 127 rfl (by rw [sd.1]; decide) (st_not (.tmp 126) rfl true x126) ?_
      intro f69 w69 df2 sz2 old2 new2 hb
      replace x0 := tr old2 x0 rfl
      replace x1 := tr old2 x1 rfl
      replace x2 := tr old2 x2 rfl
      replace x8 := tr old2 x8 rfl
      replace x10 := tr old2 x10 rfl
      replace x11 := tr old2 x11 rfl
      replace x94 := tr old2 x94 rfl
      replace x95 := tr old2 x95 rfl
      replace x96 := tr old2 x96 rfl
      replace x16 := tr old2 x16 rfl
      replace x126 := tr old2 x126 rfl
      have x127 := Fk.e new2
      replace m14 := Ob.below m14 hb
      replace hd := HD.below hd hb
      replace hw := HW.below hw hb
      replace hN := MBs.below hN hb
      replace hQ := MBs.below hQ hb
      replace bl := bgo bl hb
      replace sd := sd2 sz2 df2 sd
      clear df2 sz2 old2 new2 hb
      clear x126
      refine wl_one (.eq (.bool false)) rfl 128 rfl (by rw [sd.1]; decide) (st_move (.tmp 127) rfl x127) ?_
      intro f70 w70 df2 sz2 old2 new2 hb
      replace x0 := tr old2 x0 rfl
      replace x1 := tr old2 x1 rfl
      replace x2 := tr old2 x2 rfl
      replace x8 := tr old2 x8 rfl
      replace x10 := tr old2 x10 rfl
      replace x11 := tr old2 x11 rfl
      replace x94 := tr old2 x94 rfl
      replace x95 := tr old2 x95 rfl
      replace x96 := tr old2 x96 rfl
      replace x16 := tr old2 x16 rfl
      replace x127 := tr old2 x127 rfl
      have x128 := Fk.e new2
      replace m14 := Ob.below m14 hb
      replace hd := HD.below hd hb
      replace hw := HW.below hw hb
      replace hN := MBs.below hN hb
      replace hQ := MBs.below hQ hb
      replace bl := bgo bl hb
      replace sd := sd2 sz2 df2 sd
      clear df2 sz2 old2 new2 hb
      clear x127
      refine wl_onew (.eq (vQ)) (want_of rfl rfl x128) 129 rfl (by rw [sd.1]; decide) (st_move (.tmp 16) rfl x16) ?_
      intro f71 w71 df2 sz2 old2 new2 hb
      replace bl0 := bl
      replace x0 := tr old2 x0 rfl
      replace x1 := tr old2 x1 rfl
      replace x2 := tr old2 x2 rfl
      replace x8 := tr old2 x8 rfl
      replace x10 := tr old2 x10 rfl
      replace x11 := tr old2 x11 rfl
      replace x94 := tr old2 x94 rfl
      replace x95 := tr old2 x95 rfl
      replace x96 := tr old2 x96 rfl
      replace x16 := tr old2 x16 rfl
      replace x128 := tr old2 x128 rfl
      have x129 := Fk.e new2
      have lt_m14 := Ob.lt m14
      replace m14 := Ob.below m14 hb
      replace hd := HD.below hd hb
      replace hw := HW.below hw hb
      replace hN := MBs.below hN hb
      replace hQ := MBs.below hQ hb
      replace bl := bgo bl hb
      replace sd := sd2 sz2 df2 sd
      clear df2 sz2 old2 new2 hb
      clear x16
      refine wl_onew (.eq (vN)) (want_of rfl rfl x128) 130 rfl (by rw [sd.1]; decide) (st_move (.tmp 11) rfl x11) ?_
      intro f72 w72 df2 sz2 old2 new2 hb
      replace bl0 := bl
      replace x0 := tr old2 x0 rfl
      replace x1 := tr old2 x1 rfl
      replace x2 := tr old2 x2 rfl
      replace x8 := tr old2 x8 rfl
      replace x10 := tr old2 x10 rfl
      replace x11 := tr old2 x11 rfl
      replace x94 := tr old2 x94 rfl
      replace x95 := tr old2 x95 rfl
      replace x96 := tr old2 x96 rfl
      replace x128 := tr old2 x128 rfl
      replace x129 := tr old2 x129 rfl
      have x130 := Fk.e new2
      have lt_m14 := Ob.lt m14
      replace m14 := Ob.below m14 hb
      replace hd := HD.below hd hb
      replace hw := HW.below hw hb
      replace hN := MBs.below hN hb
      replace hQ := MBs.below hQ hb
      replace bl := bgo bl hb
      replace sd := sd2 sz2 df2 sd
      clear df2 sz2 old2 new2 hb
      refine wl_onew (.eq (.bool true)) (want_of rfl rfl x128) 131 rfl (by rw [sd.1]; decide) (st_call 19 (.func 19) _ _ #[vQ, vN] rfl rfl (arg2 x129 x130) Try.enter19 (by have h9 := same_mb hQ hN (by omega); rw [decide_eq_true rfl] at h9; exact h9)) ?_
      intro f73 w73 df2 sz2 old2 new2 hb
      replace bl0 := bl
      replace x0 := tr old2 x0 rfl
      replace x1 := tr old2 x1 rfl
      replace x2 := tr old2 x2 rfl
      replace x8 := tr old2 x8 rfl
      replace x10 := tr old2 x10 rfl
      replace x11 := tr old2 x11 rfl
      replace x94 := tr old2 x94 rfl
      replace x95 := tr old2 x95 rfl
      replace x96 := tr old2 x96 rfl
      replace x128 := tr old2 x128 rfl
      replace x129 := tr old2 x129 rfl
      replace x130 := tr old2 x130 rfl
      have x131 := Fk.e new2
      have lt_m14 := Ob.lt m14
      replace m14 := Ob.below m14 hb
      replace hd := HD.below hd hb
      replace hw := HW.below hw hb
      replace hN := MBs.below hN hb
      replace hQ := MBs.below hQ hb
      replace bl := bgo bl hb
      replace sd := sd2 sz2 df2 sd
      clear df2 sz2 old2 new2 hb
      clear x129
      clear x130
      refine wl_onew (.eq (.bool false)) (want_of rfl rfl x128) 132 rfl (by rw [sd.1]; decide) (st_not (.tmp 131) rfl true x131) ?_
      intro f74 w74 df2 sz2 old2 new2 hb
      replace bl0 := bl
      replace x0 := tr old2 x0 rfl
      replace x1 := tr old2 x1 rfl
      replace x2 := tr old2 x2 rfl
      replace x8 := tr old2 x8 rfl
      replace x10 := tr old2 x10 rfl
      replace x11 := tr old2 x11 rfl
      replace x94 := tr old2 x94 rfl
      replace x95 := tr old2 x95 rfl
      replace x96 := tr old2 x96 rfl
      replace x128 := tr old2 x128 rfl
      replace x131 := tr old2 x131 rfl
      have x132 := Fk.e new2
      have lt_m14 := Ob.lt m14
      replace m14 := Ob.below m14 hb
      replace hd := HD.below hd hb
      replace hw := HW.below hw hb
      replace hN := MBs.below hN hb
      replace hQ := MBs.below hQ hb
      replace bl := bgo bl hb
      replace sd := sd2 sz2 df2 sd
      clear df2 sz2 old2 new2 hb
      clear x131
      refine wl_one (.eq (.bool false)) rfl 133 rfl (by rw [sd.1]; decide) (st_pick_f' (.tmp 128) (.const (.bool true)) (.tmp 132) rfl x128 x132) ?_
      intro f75 w75 df2 sz2 old2 new2 hb
      replace x0 := tr old2 x0 rfl
      replace x1 := tr old2 x1 rfl
      replace x2 := tr old2 x2 rfl
      replace x8 := tr old2 x8 rfl
      replace x10 := tr old2 x10 rfl
      replace x11 := tr old2 x11 rfl
      replace x94 := tr old2 x94 rfl
      replace x95 := tr old2 x95 rfl
      replace x96 := tr old2 x96 rfl
      replace x128 := tr old2 x128 rfl
      replace x132 := tr old2 x132 rfl
      have x133 := Fk.e new2
      replace m14 := Ob.below m14 hb
      replace hd := HD.below hd hb
      replace hw := HW.below hw hb
      replace hN := MBs.below hN hb
      replace hQ := MBs.below hQ hb
      replace bl := bgo bl hb
      replace sd := sd2 sz2 df2 sd
      clear df2 sz2 old2 new2 hb
      refine wpList_nil ?_
      clear x128
      clear x132
      show Code.wp _ _ _ _ _
      refine wp_cond_false x133 ?_
      refine wp_skip ?_
      show Code.wp _ _ _ _ _
      clear m14 h14D h14V
      clear hQ
      refine wr_s [.eq (.int .i64 ((k + 1 : Nat) : Int))] (by rw [sd.1]; kernel_rfl) ⟨fun hwt ac u K => ?_, trivial⟩ ?_
      · exact st_addz (.tmp 96) (.const (.int .i64 1)) rfl _ _ _ (K.t x96 rfl) rfl (by omega) (by omega) (by omega)
      intro f76 w76 A hb
      replace x0 := A.t x0 rfl
      replace x1 := A.t x1 rfl
      replace x2 := A.t x2 rfl
      replace x8 := A.t x8 rfl
      replace x10 := A.t x10 rfl
      replace x11 := A.t x11 rfl
      replace x94 := A.t x94 rfl
      replace x95 := A.t x95 rfl
      replace x96 := A.t x96 rfl
      replace x133 := A.t x133 rfl
      have x134 := A.e 0 134 rfl rfl
      replace hd := HD.below hd hb
      replace hw := HW.below hw hb
      replace hN := MBs.below hN hb
      replace bl := bgo bl hb
      replace sd := A.sd sd
      clear A hb
      clear x133
      refine wl_one (.eq (.int .i64 ((k + 1 : Nat) : Int))) rfl 96 rfl (by rw [sd.1]; decide) (st_move (.tmp 134) rfl x134) ?_
      intro f77 w77 df2 sz2 old2 new2 hb
      replace x0 := tr old2 x0 rfl
      replace x1 := tr old2 x1 rfl
      replace x2 := tr old2 x2 rfl
      replace x8 := tr old2 x8 rfl
      replace x10 := tr old2 x10 rfl
      replace x11 := tr old2 x11 rfl
      replace x94 := tr old2 x94 rfl
      replace x95 := tr old2 x95 rfl
      clear x96
      replace x134 := tr old2 x134 rfl
      have x96 := Fk.e new2
      replace hd := HD.below hd hb
      replace hw := HW.below hw hb
      replace hN := MBs.below hN hb
      replace bl := bgo bl hb
      replace sd := sd2 sz2 df2 sd
      clear df2 sz2 old2 new2 hb
      refine wpList_nil ?_
      clear x134
      show (∃ _, _) ∧ _
      refine ⟨⟨k + 1, s9, DD, now, vN, by omega, gs.le (by omega), hq, hDD, hVD, sd.1, sd.2, x0, x1, x2, x8, x10, x94, x95, x96, x11, hd, hw, hN, bl⟩, ?_⟩
      rw [show f77.eval (.tmp 96) = _ from x96, show _ = _ from hcnt]
      first | (simp [intOf]; done) | (simp [intOf]; omega)
    have hokc : ∀ c ∈ oo.cs, 0 ≤ c.p ∧ c.p < homN n := by
      rcases hok9 with q | q
      · intro c hc; rw [q] at hc; cases hc
      · exact (wrong_ok q).2.2
    clear hok9
    refine wr_a [.eq (.int .i64 0), .eq (.bool true)] (by rw [sd.1]; kernel_rfl) ⟨fun hwt ac u K => ?_, fun hwt ac u K => ?_, trivial⟩ ?_
    · exact st_move (.tmp 15) rfl (K.t x15 rfl)
    · exact st_eqi 28 (.tmp 114) (.const (.int .i64 0)) rfl .i64 (0) (0) (K.dep 0 114 rfl) rfl _ (by simp)
    intro f59 w59 A hb
    replace x0 := A.t x0 rfl
    replace x1 := A.t x1 rfl
    replace x2 := A.t x2 rfl
    replace x8 := A.t x8 rfl
    replace x10 := A.t x10 rfl
    replace x11 := A.t x11 rfl
    replace x94 := A.t x94 rfl
    replace x95 := A.t x95 rfl
    replace x96 := A.t x96 rfl
    replace x14 := A.t x14 rfl
    replace x15 := A.t x15 rfl
    replace x113 := A.t x113 rfl
    have x115 := A.e 1 115 rfl rfl
    replace m14 := Ob.below m14 hb
    replace hd := HD.below hd hb
    replace hw := HW.below hw hb
    replace hN := MBs.below hN hb
    replace bl := bgo bl hb
    replace sd := A.sd sd
    clear A hb
    clear x15
    clear x113
    show Code.wp _ _ _ _ _
    refine wp_cond_true x115 ?_
    refine wr_s [.eq (vN), .eq (.pointer (some ⟨g14, 2, none⟩)), .eq (oo.vc)] (by rw [sd.1]; kernel_rfl) ⟨fun hwt ac u K => ?_, fun hwt ac u K => ?_, fun hwt ac u K => ?_, trivial⟩ ?_
    · exact st_move (.tmp 11) rfl (K.t x11 rfl)
    · exact st_field 39 2 (.tmp 14) rfl (K.t x14 rfl) (by kernel_rfl)
    · exact st_loadc 36 (.tmp 117) rfl (by kernel_rfl) (K.dep 1 117 rfl) (Ob.cell (Ob.below m14 K.grow) 2 rfl)
    intro f60 w60 A hb
    replace x0 := A.t x0 rfl
    replace x1 := A.t x1 rfl
    replace x2 := A.t x2 rfl
    replace x8 := A.t x8 rfl
    replace x10 := A.t x10 rfl
    replace x11 := A.t x11 rfl
    replace x94 := A.t x94 rfl
    replace x95 := A.t x95 rfl
    replace x96 := A.t x96 rfl
    replace x14 := A.t x14 rfl
    replace x115 := A.t x115 rfl
    have x116 := A.e 0 116 rfl rfl
    have x118 := A.e 2 118 rfl rfl
    replace m14 := Ob.below m14 hb
    replace hd := HD.below hd hb
    replace hw := HW.below hw hb
    replace hN := MBs.below hN hb
    replace bl := bgo bl hb
    replace sd := A.sd sd
    clear A hb
    clear x14
    clear x115
    refine wl_call 17 (.func 17) _ _ #[vN, oo.vc] rfl 119 rfl (by rw [sd.1]; decide) rfl rfl (two_arg x116 x118) Try.enter17 (fun u W' => MBs W' DD VV (homN n) (.some (chg now (prc oo.cs))) u ∧ Below w60.heap.size w60 W') (changed_mb hN (by omega) (by omega) (by omega) (Fk.mono _ _ _ _ hcoo bl) hokc hd.lt hw.lt) ?_
    rintro f61 w61 df2 sz2 old2 ⟨x119, hb⟩
    obtain ⟨vN2, hv9⟩ : ∃ v, v = f61.eval (.tmp 119) := ⟨_, rfl⟩
    rw [← hv9] at x119
    have hN2 := x119
    replace x119 := hv9.symm
    clear hv9
    replace bl0 := bl
    replace x0 := tr old2 x0 rfl
    replace x1 := tr old2 x1 rfl
    replace x2 := tr old2 x2 rfl
    replace x8 := tr old2 x8 rfl
    replace x10 := tr old2 x10 rfl
    replace x11 := tr old2 x11 rfl
    replace x94 := tr old2 x94 rfl
    replace x95 := tr old2 x95 rfl
    replace x96 := tr old2 x96 rfl
    replace x116 := tr old2 x116 rfl
    replace x118 := tr old2 x118 rfl
    have lt_m14 := Ob.lt m14
    replace m14 := Ob.below m14 hb
    replace hd := HD.below hd hb
    replace hw := HW.below hw hb
    replace hN := MBs.below hN hb
    replace bl := bgo bl hb
    replace sd := sd2 sz2 df2 sd
    clear df2 sz2 old2 hb
    clear hN
    have hN := hN2
    clear hN2
    replace hq := hq2
    clear hq2
    clear x116
    clear x118
    refine wl_one (.eq (vN2)) rfl 11 rfl (by rw [sd.1]; decide) (st_assign (.tmp 119) rfl x119) ?_
    intro f62 w62 df2 sz2 old2 new2 hb
    replace x0 := tr old2 x0 rfl
    replace x1 := tr old2 x1 rfl
    replace x2 := tr old2 x2 rfl
    replace x8 := tr old2 x8 rfl
    replace x10 := tr old2 x10 rfl
    clear x11
    replace x94 := tr old2 x94 rfl
    replace x95 := tr old2 x95 rfl
    replace x96 := tr old2 x96 rfl
    replace x119 := tr old2 x119 rfl
    have x11 := Fk.e new2
    replace m14 := Ob.below m14 hb
    replace hd := HD.below hd hb
    replace hw := HW.below hw hb
    replace hN := MBs.below hN hb
    replace bl := bgo bl hb
    replace sd := sd2 sz2 df2 sd
    clear df2 sz2 old2 new2 hb
    refine wpList_nil ?_
    clear x119
    show Code.wp _ _ _ _ _
    refine wp_seq ?_
    refine wr_s [.eq (.pointer (some ⟨gw, 0, none⟩)), .eq (.int .i64 ((homN n : Nat) : Int))] (by rw [sd.1]; kernel_rfl) ⟨fun hwt ac u K => ?_, fun hwt ac u K => ?_, trivial⟩ ?_
    · exact st_move (.tmp 8) rfl (K.t x8 rfl)
    · exact st_move (.tmp 10) rfl (K.t x10 rfl)
    intro f63 w63 A hb
    replace x0 := A.t x0 rfl
    replace x1 := A.t x1 rfl
    replace x2 := A.t x2 rfl
    replace x8 := A.t x8 rfl
    replace x10 := A.t x10 rfl
    replace x94 := A.t x94 rfl
    replace x95 := A.t x95 rfl
    replace x96 := A.t x96 rfl
    replace x11 := A.t x11 rfl
    have x121 := A.e 0 121 rfl rfl
    have x122 := A.e 1 122 rfl rfl
    replace m14 := Ob.below m14 hb
    replace hd := HD.below hd hb
    replace hw := HW.below hw hb
    replace hN := MBs.below hN hb
    replace bl := bgo bl hb
    replace sd := A.sd sd
    clear A hb
    refine wl_call 18 (.func 18) _ _ #[.pointer (some ⟨gw, 0, none⟩), .int .i64 ((homN n : Nat) : Int)] rfl 123 rfl (by rw [sd.1]; decide) rfl rfl (two_arg x121 x122) Try.enter18 (fun u W' => ∃ (D2 : Nat → Prop) (v : Value), u = .tuple #[v, .bool true] ∧ MBs W' D2 VV (homN n) (.some (hml s9 (homN n))) v ∧ HD W' gd M D2 s9 ∧ HW W' gw gd VV n z false ∧ (∀ j, D2 j → DD j ∨ w63.heap.size ≤ j) ∧ Fr M w63 W') (homes_mb hw hd gs hq.up.2.2 hVD (by omega) (by omega)) ?_
    rintro f64 w64 df2 sz2 old2 ⟨D2, vQ, x123, hQ, hd2, hw2, hD2, O⟩
    have hVlt9 := hw.lt
    replace hVD : ∀ j, VV j → ¬ D2 j := fun j q m => (hD2 j m).elim (hVD j q) (fun m => by have := hVlt9 j q; omega)
    clear hVlt9
    replace hN := MBs.eff hN O (fun j q => .inl (hd.sub _ q)) hD2 (fun j q => .inl q)
    have lt9 := Ob.lt m14
    replace m14 := Ob.keep m14 (O.block _ lt9 (fun q => h14D (hd.sub _ q)))
    replace h14D : ¬ D2 g14 := fun q => (hD2 _ q).elim h14D (fun q => by omega)
    clear lt9
    have bl9 := bl.trans (O.below bl.size (fun j q => hDD j (hd.sub j q)))
    replace hDD : ∀ j, D2 j → w.heap.size ≤ j := fun j q => (hD2 j q).elim (hDD j) (fun q => by have := bl.size; omega)
    replace bl := bl9
    replace bl0 := bl
    clear bl9
    replace hd := hd2
    replace hw := hw2
    clear hw2
    clear hd2 hD2 O
    clear DD
    obtain ⟨DD, rfl⟩ : ∃ E, E = D2 := ⟨_, rfl⟩
    replace x0 := tr old2 x0 rfl
    replace x1 := tr old2 x1 rfl
    replace x2 := tr old2 x2 rfl
    replace x8 := tr old2 x8 rfl
    replace x10 := tr old2 x10 rfl
    replace x94 := tr old2 x94 rfl
    replace x95 := tr old2 x95 rfl
    replace x96 := tr old2 x96 rfl
    replace x11 := tr old2 x11 rfl
    replace x121 := tr old2 x121 rfl
    replace x122 := tr old2 x122 rfl
    replace sd := sd2 sz2 df2 sd
    clear df2 sz2 old2
    clear x121
    clear x122
    refine wl_one (.eq (.tuple #[vQ, .bool true])) rfl 120 rfl (by rw [sd.1]; decide) (st_move (.tmp 123) rfl x123) ?_
    intro f65 w65 df2 sz2 old2 new2 hb
    replace x0 := tr old2 x0 rfl
    replace x1 := tr old2 x1 rfl
    replace x2 := tr old2 x2 rfl
    replace x8 := tr old2 x8 rfl
    replace x10 := tr old2 x10 rfl
    replace x94 := tr old2 x94 rfl
    replace x95 := tr old2 x95 rfl
    replace x96 := tr old2 x96 rfl
    replace x11 := tr old2 x11 rfl
    replace x123 := tr old2 x123 rfl
    have x120 := Fk.e new2
    replace m14 := Ob.below m14 hb
    replace hd := HD.below hd hb
    replace hw := HW.below hw hb
    replace hN := MBs.below hN hb
    replace hQ := MBs.below hQ hb
    replace bl := bgo bl hb
    replace sd := sd2 sz2 df2 sd
    clear df2 sz2 old2 new2 hb
    clear x123
    refine wl_one (.eq (vQ)) rfl 124 rfl (by rw [sd.1]; decide) (st_extv (.tmp 120) 0 rfl x120 rfl) ?_
    intro f66 w66 df2 sz2 old2 new2 hb
    replace x0 := tr old2 x0 rfl
    replace x1 := tr old2 x1 rfl
    replace x2 := tr old2 x2 rfl
    replace x8 := tr old2 x8 rfl
    replace x10 := tr old2 x10 rfl
    replace x94 := tr old2 x94 rfl
    replace x95 := tr old2 x95 rfl
    replace x96 := tr old2 x96 rfl
    replace x11 := tr old2 x11 rfl
    replace x120 := tr old2 x120 rfl
    have x124 := Fk.e new2
    replace m14 := Ob.below m14 hb
    replace hd := HD.below hd hb
    replace hw := HW.below hw hb
    replace hN := MBs.below hN hb
    replace hQ := MBs.below hQ hb
    replace bl := bgo bl hb
    replace sd := sd2 sz2 df2 sd
    clear df2 sz2 old2 new2 hb
    refine wl_one (.eq (.bool true)) rfl 125 rfl (by rw [sd.1]; decide) (st_extv (.tmp 120) 1 rfl x120 rfl) ?_
    intro f67 w67 df2 sz2 old2 new2 hb
    replace x0 := tr old2 x0 rfl
    replace x1 := tr old2 x1 rfl
    replace x2 := tr old2 x2 rfl
    replace x8 := tr old2 x8 rfl
    replace x10 := tr old2 x10 rfl
    replace x94 := tr old2 x94 rfl
    replace x95 := tr old2 x95 rfl
    replace x96 := tr old2 x96 rfl
    replace x11 := tr old2 x11 rfl
    replace x120 := tr old2 x120 rfl
    replace x124 := tr old2 x124 rfl
    have x125 := Fk.e new2
    replace m14 := Ob.below m14 hb
    replace hd := HD.below hd hb
    replace hw := HW.below hw hb
    replace hN := MBs.below hN hb
    replace hQ := MBs.below hQ hb
    replace bl := bgo bl hb
    replace sd := sd2 sz2 df2 sd
    clear df2 sz2 old2 new2 hb
    clear x120
    refine wl_one (.eq (vQ)) rfl 16 rfl (by rw [sd.1]; decide) (st_assign (.tmp 124) rfl x124) ?_
    intro f68 w68 df2 sz2 old2 new2 hb
    replace x0 := tr old2 x0 rfl
    replace x1 := tr old2 x1 rfl
    replace x2 := tr old2 x2 rfl
    replace x8 := tr old2 x8 rfl
    replace x10 := tr old2 x10 rfl
    replace x94 := tr old2 x94 rfl
    replace x95 := tr old2 x95 rfl
    replace x96 := tr old2 x96 rfl
    replace x11 := tr old2 x11 rfl
    replace x124 := tr old2 x124 rfl
    replace x125 := tr old2 x125 rfl
    have x16 := Fk.e new2
    replace m14 := Ob.below m14 hb
    replace hd := HD.below hd hb
    replace hw := HW.below hw hb
    replace hN := MBs.below hN hb
    replace hQ := MBs.below hQ hb
    replace bl := bgo bl hb
    replace sd := sd2 sz2 df2 sd
    clear df2 sz2 old2 new2 hb
    clear x124
    refine wl_one (.eq (.bool true)) rfl 17 rfl (by rw [sd.1]; decide) (st_assign (.tmp 125) rfl x125) ?_
    intro f69 w69 df2 sz2 old2 new2 hb
    replace x0 := tr old2 x0 rfl
    replace x1 := tr old2 x1 rfl
    replace x2 := tr old2 x2 rfl
    replace x8 := tr old2 x8 rfl
    replace x10 := tr old2 x10 rfl
    replace x94 := tr old2 x94 rfl
    replace x95 := tr old2 x95 rfl
    replace x96 := tr old2 x96 rfl
    replace x11 := tr old2 x11 rfl
    replace x125 := tr old2 x125 rfl
    replace x16 := tr old2 x16 rfl
    have x17 := Fk.e new2
    replace m14 := Ob.below m14 hb
    replace hd := HD.below hd hb
    replace hw := HW.below hw hb
    replace hN := MBs.below hN hb
    replace hQ := MBs.below hQ hb
    replace bl := bgo bl hb
    replace sd := sd2 sz2 df2 sd
    clear df2 sz2 old2 new2 hb
    refine wpList_nil ?_
    clear x125
    show Code.wp _ _ _ _ _
    refine wp_seq ?_
    rw [show hml s9 (homN n) = chg now (prc oo.cs) from hq.homes] at hQ
    refine wr_s [] (by rw [sd.1]; kernel_rfl) trivial ?_
    intro f70 w70 A hb
    replace x0 := A.t x0 rfl
    replace x1 := A.t x1 rfl
    replace x2 := A.t x2 rfl
    replace x8 := A.t x8 rfl
    replace x10 := A.t x10 rfl
    replace x94 := A.t x94 rfl
    replace x95 := A.t x95 rfl
    replace x96 := A.t x96 rfl
    replace x11 := A.t x11 rfl
    replace x16 := A.t x16 rfl
    replace x17 := A.t x17 rfl
    replace m14 := Ob.below m14 hb
    replace hd := HD.below hd hb
    replace hw := HW.below hw hb
    replace hN := MBs.below hN hb
    replace hQ := MBs.below hQ hb
    replace bl := bgo bl hb
    replace sd := A.sd sd
    clear A hb
    refine wl_one (.eq (.bool true)) rfl 126 rfl (by rw [sd.1]; decide) (st_move (.tmp 17) rfl x17) ?_
    intro f71 w71 df2 sz2 old2 new2 hb
    replace x0 := tr old2 x0 rfl
    replace x1 := tr old2 x1 rfl
    replace x2 := tr old2 x2 rfl
    replace x8 := tr old2 x8 rfl
    replace x10 := tr old2 x10 rfl
    replace x94 := tr old2 x94 rfl
    replace x95 := tr old2 x95 rfl
    replace x96 := tr old2 x96 rfl
    replace x11 := tr old2 x11 rfl
    replace x16 := tr old2 x16 rfl
    replace x17 := tr old2 x17 rfl
    have x126 := Fk.e new2
    replace m14 := Ob.below m14 hb
    replace hd := HD.below hd hb
    replace hw := HW.below hw hb
    replace hN := MBs.below hN hb
    replace hQ := MBs.below hQ hb
    replace bl := bgo bl hb
    replace sd := sd2 sz2 df2 sd
    clear df2 sz2 old2 new2 hb
    clear x17
    refine wl_one (.eq (.bool false)) rfl 127 rfl (by rw [sd.1]; decide) (st_not (.tmp 126) rfl true x126) ?_
    intro f72 w72 df2 sz2 old2 new2 hb
    replace x0 := tr old2 x0 rfl
    replace x1 := tr old2 x1 rfl
    replace x2 := tr old2 x2 rfl
    replace x8 := tr old2 x8 rfl
    replace x10 := tr old2 x10 rfl
    replace x94 := tr old2 x94 rfl
    replace x95 := tr old2 x95 rfl
    replace x96 := tr old2 x96 rfl
    replace x11 := tr old2 x11 rfl
    replace x16 := tr old2 x16 rfl
    replace x126 := tr old2 x126 rfl
    have x127 := Fk.e new2
    replace m14 := Ob.below m14 hb
    replace hd := HD.below hd hb
    replace hw := HW.below hw hb
    replace hN := MBs.below hN hb
    replace hQ := MBs.below hQ hb
    replace bl := bgo bl hb
    replace sd := sd2 sz2 df2 sd
    clear df2 sz2 old2 new2 hb
    clear x126
    refine wl_one (.eq (.bool false)) rfl 128 rfl (by rw [sd.1]; decide) (st_move (.tmp 127) rfl x127) ?_
    intro f73 w73 df2 sz2 old2 new2 hb
    replace x0 := tr old2 x0 rfl
    replace x1 := tr old2 x1 rfl
    replace x2 := tr old2 x2 rfl
    replace x8 := tr old2 x8 rfl
    replace x10 := tr old2 x10 rfl
    replace x94 := tr old2 x94 rfl
    replace x95 := tr old2 x95 rfl
    replace x96 := tr old2 x96 rfl
    replace x11 := tr old2 x11 rfl
    replace x16 := tr old2 x16 rfl
    replace x127 := tr old2 x127 rfl
    have x128 := Fk.e new2
    replace m14 := Ob.below m14 hb
    replace hd := HD.below hd hb
    replace hw := HW.below hw hb
    replace hN := MBs.below hN hb
    replace hQ := MBs.below hQ hb
    replace bl := bgo bl hb
    replace sd := sd2 sz2 df2 sd
    clear df2 sz2 old2 new2 hb
    clear x127
    refine wl_onew (.eq (vQ)) (want_of rfl rfl x128) 129 rfl (by rw [sd.1]; decide) (st_move (.tmp 16) rfl x16) ?_
    intro f74 w74 df2 sz2 old2 new2 hb
    replace bl0 := bl
    replace x0 := tr old2 x0 rfl
    replace x1 := tr old2 x1 rfl
    replace x2 := tr old2 x2 rfl
    replace x8 := tr old2 x8 rfl
    replace x10 := tr old2 x10 rfl
    replace x94 := tr old2 x94 rfl
    replace x95 := tr old2 x95 rfl
    replace x96 := tr old2 x96 rfl
    replace x11 := tr old2 x11 rfl
    replace x16 := tr old2 x16 rfl
    replace x128 := tr old2 x128 rfl
    have x129 := Fk.e new2
    have lt_m14 := Ob.lt m14
    replace m14 := Ob.below m14 hb
    replace hd := HD.below hd hb
    replace hw := HW.below hw hb
    replace hN := MBs.below hN hb
    replace hQ := MBs.below hQ hb
    replace bl := bgo bl hb
    replace sd := sd2 sz2 df2 sd
    clear df2 sz2 old2 new2 hb
    clear x16
    refine wl_onew (.eq (vN2)) (want_of rfl rfl x128) 130 rfl (by rw [sd.1]; decide) (st_move (.tmp 11) rfl x11) ?_
    intro f75 w75 df2 sz2 old2 new2 hb
    replace bl0 := bl
    replace x0 := tr old2 x0 rfl
    replace x1 := tr old2 x1 rfl
    replace x2 := tr old2 x2 rfl
    replace x8 := tr old2 x8 rfl
    replace x10 := tr old2 x10 rfl
    replace x94 := tr old2 x94 rfl
    replace x95 := tr old2 x95 rfl
    replace x96 := tr old2 x96 rfl
    replace x11 := tr old2 x11 rfl
    replace x128 := tr old2 x128 rfl
    replace x129 := tr old2 x129 rfl
    have x130 := Fk.e new2
    have lt_m14 := Ob.lt m14
    replace m14 := Ob.below m14 hb
    replace hd := HD.below hd hb
    replace hw := HW.below hw hb
    replace hN := MBs.below hN hb
    replace hQ := MBs.below hQ hb
    replace bl := bgo bl hb
    replace sd := sd2 sz2 df2 sd
    clear df2 sz2 old2 new2 hb
    refine wl_onew (.eq (.bool true)) (want_of rfl rfl x128) 131 rfl (by rw [sd.1]; decide) (st_call 19 (.func 19) _ _ #[vQ, vN2] rfl rfl (arg2 x129 x130) Try.enter19 (by have h9 := same_mb hQ hN (by omega); rw [decide_eq_true rfl] at h9; exact h9)) ?_
    intro f76 w76 df2 sz2 old2 new2 hb
    replace bl0 := bl
    replace x0 := tr old2 x0 rfl
    replace x1 := tr old2 x1 rfl
    replace x2 := tr old2 x2 rfl
    replace x8 := tr old2 x8 rfl
    replace x10 := tr old2 x10 rfl
    replace x94 := tr old2 x94 rfl
    replace x95 := tr old2 x95 rfl
    replace x96 := tr old2 x96 rfl
    replace x11 := tr old2 x11 rfl
    replace x128 := tr old2 x128 rfl
    replace x129 := tr old2 x129 rfl
    replace x130 := tr old2 x130 rfl
    have x131 := Fk.e new2
    have lt_m14 := Ob.lt m14
    replace m14 := Ob.below m14 hb
    replace hd := HD.below hd hb
    replace hw := HW.below hw hb
    replace hN := MBs.below hN hb
    replace hQ := MBs.below hQ hb
    replace bl := bgo bl hb
    replace sd := sd2 sz2 df2 sd
    clear df2 sz2 old2 new2 hb
    clear x129
    clear x130
    refine wl_onew (.eq (.bool false)) (want_of rfl rfl x128) 132 rfl (by rw [sd.1]; decide) (st_not (.tmp 131) rfl true x131) ?_
    intro f77 w77 df2 sz2 old2 new2 hb
    replace bl0 := bl
    replace x0 := tr old2 x0 rfl
    replace x1 := tr old2 x1 rfl
    replace x2 := tr old2 x2 rfl
    replace x8 := tr old2 x8 rfl
    replace x10 := tr old2 x10 rfl
    replace x94 := tr old2 x94 rfl
    replace x95 := tr old2 x95 rfl
    replace x96 := tr old2 x96 rfl
    replace x11 := tr old2 x11 rfl
    replace x128 := tr old2 x128 rfl
    replace x131 := tr old2 x131 rfl
    have x132 := Fk.e new2
    have lt_m14 := Ob.lt m14
    replace m14 := Ob.below m14 hb
    replace hd := HD.below hd hb
    replace hw := HW.below hw hb
    replace hN := MBs.below hN hb
    replace hQ := MBs.below hQ hb
    replace bl := bgo bl hb
    replace sd := sd2 sz2 df2 sd
    clear df2 sz2 old2 new2 hb
    clear x131
    refine wl_one (.eq (.bool false)) rfl 133 rfl (by rw [sd.1]; decide) (st_pick_f' (.tmp 128) (.const (.bool true)) (.tmp 132) rfl x128 x132) ?_
    intro f78 w78 df2 sz2 old2 new2 hb
    replace x0 := tr old2 x0 rfl
    replace x1 := tr old2 x1 rfl
    replace x2 := tr old2 x2 rfl
    replace x8 := tr old2 x8 rfl
    replace x10 := tr old2 x10 rfl
    replace x94 := tr old2 x94 rfl
    replace x95 := tr old2 x95 rfl
    replace x96 := tr old2 x96 rfl
    replace x11 := tr old2 x11 rfl
    replace x128 := tr old2 x128 rfl
    replace x132 := tr old2 x132 rfl
    have x133 := Fk.e new2
    replace m14 := Ob.below m14 hb
    replace hd := HD.below hd hb
    replace hw := HW.below hw hb
    replace hN := MBs.below hN hb
    replace hQ := MBs.below hQ hb
    replace bl := bgo bl hb
    replace sd := sd2 sz2 df2 sd
    clear df2 sz2 old2 new2 hb
    refine wpList_nil ?_
    clear x128
    clear x132
    show Code.wp _ _ _ _ _
    refine wp_cond_false x133 ?_
    refine wp_skip ?_
    show Code.wp _ _ _ _ _
    clear m14 h14D h14V
    clear hQ
    refine wr_s [.eq (.int .i64 ((k + 1 : Nat) : Int))] (by rw [sd.1]; kernel_rfl) ⟨fun hwt ac u K => ?_, trivial⟩ ?_
    · exact st_addz (.tmp 96) (.const (.int .i64 1)) rfl _ _ _ (K.t x96 rfl) rfl (by omega) (by omega) (by omega)
    intro f79 w79 A hb
    replace x0 := A.t x0 rfl
    replace x1 := A.t x1 rfl
    replace x2 := A.t x2 rfl
    replace x8 := A.t x8 rfl
    replace x10 := A.t x10 rfl
    replace x94 := A.t x94 rfl
    replace x95 := A.t x95 rfl
    replace x96 := A.t x96 rfl
    replace x11 := A.t x11 rfl
    replace x133 := A.t x133 rfl
    have x134 := A.e 0 134 rfl rfl
    replace hd := HD.below hd hb
    replace hw := HW.below hw hb
    replace hN := MBs.below hN hb
    replace bl := bgo bl hb
    replace sd := A.sd sd
    clear A hb
    clear x133
    refine wl_one (.eq (.int .i64 ((k + 1 : Nat) : Int))) rfl 96 rfl (by rw [sd.1]; decide) (st_move (.tmp 134) rfl x134) ?_
    intro f80 w80 df2 sz2 old2 new2 hb
    replace x0 := tr old2 x0 rfl
    replace x1 := tr old2 x1 rfl
    replace x2 := tr old2 x2 rfl
    replace x8 := tr old2 x8 rfl
    replace x10 := tr old2 x10 rfl
    replace x94 := tr old2 x94 rfl
    replace x95 := tr old2 x95 rfl
    clear x96
    replace x11 := tr old2 x11 rfl
    replace x134 := tr old2 x134 rfl
    have x96 := Fk.e new2
    replace hd := HD.below hd hb
    replace hw := HW.below hw hb
    replace hN := MBs.below hN hb
    replace bl := bgo bl hb
    replace sd := sd2 sz2 df2 sd
    clear df2 sz2 old2 new2 hb
    refine wpList_nil ?_
    clear x134
    show (∃ _, _) ∧ _
    refine ⟨⟨k + 1, s9, DD, (chg now (prc oo.cs)), vN2, by omega, gs.le (by omega), hq, hDD, hVD, sd.1, sd.2, x0, x1, x2, x8, x10, x94, x95, x96, x11, hd, hw, hN, bl⟩, ?_⟩
    rw [show f80.eval (.tmp 96) = _ from x96, show _ = _ from hcnt]
    first | (simp [intOf]; done) | (simp [intOf]; omega)
  refine wr_a [.eq (.bool true)] (by rw [sd.1]; kernel_rfl) ⟨fun hwt ac u K => ?_, trivial⟩ ?_
  · exact st_lss 3 (.tmp 84) (.tmp 83) rfl .i64 ((k : Int)) (((homN n : Nat) : Int)) (K.t x84 rfl) (K.t x83 rfl) _ (by rw [eq_comm, decide_eq_true_iff]; exact Int.ofNat_lt.2 hlt)
  intro f47 w47 A hb
  replace x0 := A.t x0 rfl
  replace x1 := A.t x1 rfl
  replace x2 := A.t x2 rfl
  replace x8 := A.t x8 rfl
  replace x10 := A.t x10 rfl
  replace x11 := A.t x11 rfl
  replace x83 := A.t x83 rfl
  replace x84 := A.t x84 rfl
  have x85 := A.e 0 85 rfl rfl
  replace hd := HD.below hd hb
  replace hw := HW.below hw hb
  replace hS := Rs.below hS hb
  replace bl := bgo bl hb
  replace sd := A.sd sd
  clear A hb
  show Code.wp _ _ _ _ _
  refine wp_seq ?_
  refine wp_cond_true x85 ?_
  refine wp_skip ?_
  show Code.wp _ _ _ _ _
  refine wp_seq ?_
  refine wp_block ?_
  refine wp_seq ?_
  refine wr_a [.eq (.int .i64 (k : Int)), .eq (.int .i64 (k : Int))] (by rw [sd.1]; kernel_rfl) ⟨fun hwt ac u K => ?_, fun hwt ac u K => ?_, trivial⟩ ?_
  · exact st_move (.tmp 84) rfl (K.t x84 rfl)
  · exact st_assign (.tmp 86) rfl (K.dep 0 86 rfl)
  intro f48 w48 A hb
  replace x0 := A.t x0 rfl
  replace x1 := A.t x1 rfl
  replace x2 := A.t x2 rfl
  replace x8 := A.t x8 rfl
  replace x10 := A.t x10 rfl
  replace x11 := A.t x11 rfl
  replace x83 := A.t x83 rfl
  replace x84 := A.t x84 rfl
  replace x85 := A.t x85 rfl
  have x12 := A.e 1 12 rfl rfl
  replace hd := HD.below hd hb
  replace hw := HW.below hw hb
  replace hS := Rs.below hS hb
  replace bl := bgo bl hb
  replace sd := A.sd sd
  clear A hb
  clear x85
  show Code.wp _ _ _ _ _
  refine wr_s [.eq (.slice (some ⟨gS, 0, none⟩) (homN n) (homN n)), .eq (.int .i64 (k : Int)), .eq (.int .i64 (z : Int)), .sl (zs z), .eq (.string (str (zs z))), .eq (.pointer (some ⟨gS, k, none⟩))] (by rw [sd.1]; kernel_rfl) ⟨fun hwt ac u K => ?_, fun hwt ac u K => ?_, fun hwt ac u K => ?_, fun hwt ac u K => ?_, fun hwt ac u K => ?_, fun hwt ac u K => ?_, trivial⟩ ?_
  · exact st_move (.tmp 11) rfl (K.t x11 rfl)
  · exact st_move (.tmp 12) rfl (K.t x12 rfl)
  · exact st_move (.tmp 1) rfl (K.t x1 rfl)
  · exact st_makeb (.tmp 89) (.tmp 89) rfl z (by omega) (K.dep 2 89 rfl) (K.dep 2 89 rfl)
  · exact st_stra (.tmp 90) rfl (K.dep 3 90 rfl)
  · exact st_idxs (.tmp 87) (.tmp 88) rfl (K.dep 0 87 rfl) k (K.dep 1 88 rfl) hlt
  intro f49 w49 A hb
  replace x0 := A.t x0 rfl
  replace x1 := A.t x1 rfl
  replace x2 := A.t x2 rfl
  replace x8 := A.t x8 rfl
  replace x10 := A.t x10 rfl
  replace x11 := A.t x11 rfl
  replace x83 := A.t x83 rfl
  replace x84 := A.t x84 rfl
  replace x12 := A.t x12 rfl
  have x91 := A.e 4 91 rfl rfl
  have x92 := A.e 5 92 rfl rfl
  replace hd := HD.below hd hb
  replace hw := HW.below hw hb
  replace hS := Rs.below hS hb
  replace bl := bgo bl hb
  replace sd := A.sd sd
  clear A hb
  clear x12
  refine wl_stc 9 rfl (.tmp 92) (.tmp 91) rfl rfl (by kernel_rfl) gS (k) (.string (str (zs z))) x92 x91 rfl rfl (hS.there (by rw [rz_len hk8]; exact hlt)) ?_
  replace hS := Rs.set hS (i := k) (by rw [rz_len hk8]; exact hlt) (zs z)
  rw [rz_set hlt] at hS
  replace hd := hd.keep (fun j q => ((Only.refl gS w49).setCell (k) (.string (str (zs z)))).block j (hd.lt j q) (fun e => hgDS (e ▸ q))) ((Only.refl gS w49).setCell (k) (.string (str (zs z)))).size
  replace hw := hw.keep (fun j q => ((Only.refl gS w49).setCell (k) (.string (str (zs z)))).block j (hw.lt j q) (fun e => hgVS (e ▸ q))) ((Only.refl gS w49).setCell (k) (.string (str (zs z)))).size
  replace bl : Below w.heap.size w (w49.setCell ⟨gS, k, none⟩ (.string (str (zs z)))) := bl.trans (below_setCell _ _ _ _ _ hwgS)
  generalize w49.setCell ⟨gS, k, none⟩ (.string (str (zs z))) = w50b at bl hS hd hw ⊢
  replace bl0 := bl
  refine wpList_nil ?_
  clear x91
  clear x92
  show Code.wp _ _ _ _ _
  refine wr_s [.eq (.int .i64 ((k + 1 : Nat) : Int))] (by rw [sd.1]; kernel_rfl) ⟨fun hwt ac u K => ?_, trivial⟩ ?_
  · exact st_addz (.tmp 84) (.const (.int .i64 1)) rfl _ _ _ (K.t x84 rfl) rfl (by omega) (by omega) (by omega)
  intro f51 w51 A hb
  replace x0 := A.t x0 rfl
  replace x1 := A.t x1 rfl
  replace x2 := A.t x2 rfl
  replace x8 := A.t x8 rfl
  replace x10 := A.t x10 rfl
  replace x11 := A.t x11 rfl
  replace x83 := A.t x83 rfl
  replace x84 := A.t x84 rfl
  have x93 := A.e 0 93 rfl rfl
  replace hd := HD.below hd hb
  replace hw := HW.below hw hb
  replace hS := Rs.below hS hb
  replace bl := bgo bl hb
  replace sd := A.sd sd
  clear A hb
  refine wl_one (.eq (.int .i64 ((k + 1 : Nat) : Int))) rfl 84 rfl (by rw [sd.1]; decide) (st_move (.tmp 93) rfl x93) ?_
  intro f52 w52 df2 sz2 old2 new2 hb
  replace x0 := tr old2 x0 rfl
  replace x1 := tr old2 x1 rfl
  replace x2 := tr old2 x2 rfl
  replace x8 := tr old2 x8 rfl
  replace x10 := tr old2 x10 rfl
  replace x11 := tr old2 x11 rfl
  replace x83 := tr old2 x83 rfl
  clear x84
  replace x93 := tr old2 x93 rfl
  have x84 := Fk.e new2
  replace hd := HD.below hd hb
  replace hw := HW.below hw hb
  replace hS := Rs.below hS hb
  replace bl := bgo bl hb
  replace sd := sd2 sz2 df2 sd
  clear df2 sz2 old2 new2 hb
  refine wpList_nil ?_
  clear x93
  show (∃ _, _) ∧ _
  refine ⟨⟨k + 1, by omega, sd.1, sd.2, x0, x1, x2, x8, x10, x11, x83, x84, hd, hw, hS, bl⟩, ?_⟩
  rw [show f52.eval (.tmp 84) = _ from x84, show _ = _ from hcnt]
  first | (simp [intOf]; done) | (simp [intOf]; omega)
end Go.Proofs.Ytakdpkoigijonaa
