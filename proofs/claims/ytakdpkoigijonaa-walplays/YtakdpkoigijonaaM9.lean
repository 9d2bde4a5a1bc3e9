/- The law's wrong. The law's same. -/
import Derived.Test.YtakdpkoigijonaaM8
namespace Go.Proofs.Ytakdpkoigijonaa
set_option maxRecDepth 100000
open Go.RowKit
/-- Up to the change k one has not z bytes, or names a sector that one ahead names. -/
def FormB (z : Nat) (l : List Cng) (k : Nat) : Prop := ∃ i c, i < k ∧ l[i]? = some c ∧ (c.bs.length ≠ z ∨ ∃ j d, j < i ∧ l[j]? = some d ∧ d.p = c.p)
theorem formB_step {z : Nat} {l : List Cng} {k : Nat} {c : Cng} (hc : l[k]? = some c) : FormB z l (k + 1) ↔ FormB z l k ∨ c.bs.length ≠ z ∨ ∃ j d, j < k ∧ l[j]? = some d ∧ d.p = c.p := by
  constructor
  · rintro ⟨i, d, hi, hd, h⟩
    by_cases e : i = k
    · subst e
      rw [hc] at hd
      cases hd
      exact .inr h
    · exact .inl ⟨i, d, by omega, hd, h⟩
  · rintro (⟨i, d, hi, hd, h⟩ | h)
    · exact ⟨i, d, by omega, hd, h⟩
    · exact ⟨k, c, Nat.lt_succ_self k, hc, h⟩
def BadAt (n : Nat) (c : Cng) : Prop := c.p < 0 ∨ (homN n : Int) ≤ c.p
/-- The error of changes, as the document says. -/
def WrongIs (l : List Cng) (n z : Nat) (r : Int) : Prop := (r = 11 ∧ ∃ c ∈ l, BadAt n c) ∨ ((∀ c ∈ l, ¬ BadAt n c) ∧ ((r = 10 ∧ FormB z l l.length) ∨ (¬ FormB z l l.length ∧ ((r = 31 ∧ roomN n z < l.length) ∨ (r = 0 ∧ l.length ≤ roomN n z)))))
section
variable {Q : Exit → Act → World → Prop} {o : Oper} {a : Act} {w : World}
theorem st_lensk (x : Operand) (ho : o.op = .call { callee := .builtin .len, args := #[x], argTypes := #[36] }) {l : List Cng} (h : (Fk.sr RC l).f (a.eval x) w) {k : Nat} (hk : l.length = k) : o.wp Try.prog a w (Ends a o.dst w (Fk.eq (.int .i64 (k : Int))).f) Q := by
  subst hk
  exact st_lensc x ho h
end
theorem fk_wrong {l : List Cng} (hln : l.length ≤ maxLen) {n z : Nat} (h1 : 1 ≤ n) (hn : n ≤ 100000) {w : World} {v : Value} (hv : (Fk.sr RC l).f v w) :
    Calls Try.prog 15 #[v, .int .i64 (n : Int), .int .i64 (z : Int)] w fun e w' => ∃ r, e = .returned (.int .i64 r) ∧ WrongIs l n z r ∧ Below w.heap.size w w' := by
  unfold maxLen at hln
  go_enter Try.func15, Try.ntmps15
  refine code_both (fun f w1 => f.tmps.size = 60 ∧ f.defers = [] ∧ f.eval (.tmp 0) = v ∧ f.eval (.tmp 1) = .int .i64 (n : Int) ∧ f.eval (.tmp 2) = .int .i64 (z : Int) ∧ Below w.heap.size w (w1)) ⟨rfl, rfl, rfl, rfl, rfl, Below.refl _ _⟩ ?_
  rintro f0 w0 ⟨sz, df, x0, x1, x2, bl⟩
  have sd := And.intro sz df
  clear sz df
  have bl0 := bl
  refine wp_seq ?_
  refine wr_a [.eq (.int .i64 0)] (by rw [sd.1]; kernel_rfl) ⟨fun hw ac u K => ?_, trivial⟩ ?_
  · exact st_assign (.const (.int .i64 0)) rfl rfl
  intro f1 w1 A hb
  replace x0 := A.t x0 rfl
  replace x1 := A.t x1 rfl
  replace x2 := A.t x2 rfl
  replace bl := bgo bl hb
  replace sd := A.sd sd
  clear A hb
  show Code.wp _ _ _ _ _
  refine wp_seq ?_
  refine wr_a [.eq (.int .i64 0)] (by rw [sd.1]; kernel_rfl) ⟨fun hw ac u K => ?_, trivial⟩ ?_
  · exact st_assign (.const (.int .i64 0)) rfl rfl
  intro f2 w2 A hb
  replace x0 := A.t x0 rfl
  replace x1 := A.t x1 rfl
  replace x2 := A.t x2 rfl
  have x7 := A.e 0 7 rfl rfl
  replace bl := bgo bl hb
  replace sd := A.sd sd
  clear A hb
  show Code.wp _ _ _ _ _
  refine wp_seq ?_
  refine wp_seq ?_
  refine wr_a [.eq (v), .eq (.int .i64 (((l).length : Nat) : Int)), .eq (.int .i64 0)] (by rw [sd.1]; kernel_rfl) ⟨fun hw ac u K => ?_, fun hw ac u K => ?_, fun hw ac u K => ?_, trivial⟩ ?_
  · exact st_move (.tmp 0) rfl (K.t x0 rfl)
  · exact st_lensc (.tmp 12) rfl (fk_val (K.dep 0 12 rfl) (Fk.mono _ _ _ _ hv (bgo bl K.grow)))
  · exact st_move (.const (.int .i64 0)) rfl rfl
  intro f3 w3 A hb
  replace x0 := A.t x0 rfl
  replace x1 := A.t x1 rfl
  replace x2 := A.t x2 rfl
  replace x7 := A.t x7 rfl
  have x12 := A.e 0 12 rfl rfl
  have x13 := A.e 1 13 rfl rfl
  have x14 := A.e 2 14 rfl rfl
  replace bl := bgo bl hb
  replace sd := A.sd sd
  clear A hb
  show Code.wp _ _ _ _ _
  refine wp_block ?_
  refine wp_loop (fun f v1 => ∃ (k : Nat) (er : Int), k ≤ l.length ∧ (∀ c ∈ l.take k, ¬ BadAt n c) ∧ ((er = 0 ∧ ¬ FormB z l k) ∨ (er = 10 ∧ FormB z l k)) ∧ f.tmps.size = 60 ∧ f.defers = [] ∧ f.eval (.tmp 0) = v ∧ f.eval (.tmp 1) = .int .i64 (n : Int) ∧ f.eval (.tmp 2) = .int .i64 (z : Int) ∧ f.eval (.tmp 12) = v ∧ f.eval (.tmp 13) = .int .i64 (((l).length : Nat) : Int) ∧ f.eval (.tmp 14) = .int .i64 (k : Int) ∧ f.eval (.tmp 7) = .int .i64 er ∧ Below w.heap.size w (v1)) (fun f _ => l.length - (intOf (f.eval (.tmp 14))).toNat) ⟨0, 0, Nat.zero_le _, (by simp), (.inl ⟨rfl, fun ⟨_, _, h, _⟩ => absurd h (Nat.not_lt_zero _)⟩), sd.1, sd.2, x0, x1, x2, x12, x13, x14, x7, bl⟩ ?_
  intro f4 w4 hI
  clear sd bl bl0 x0 x1 x2 x7 x12 x13 x14
  obtain ⟨k, er, hk8, hat, her, sz, df, x0, x1, x2, x12, x13, x14, x7, bl⟩ := hI
  have sd := And.intro sz df
  clear sz df
  have bl0 := bl
  have hcnt := x14
  refine wp_seq ?_
  by_cases hlt : k < l.length
  rotate_left
  · skip
    have hkl : k = l.length := by omega
    rw [List.take_of_length_le (by omega)] at hat
    rw [hkl] at her
    refine wr_a [.eq (.bool false)] (by rw [sd.1]; kernel_rfl) ⟨fun hw ac u K => ?_, trivial⟩ ?_
    · exact st_lss 3 (.tmp 14) (.tmp 13) rfl .i64 ((k : Int)) ((((l).length : Nat) : Int)) (K.t x14 rfl) (K.t x13 rfl) _ (by rw [eq_comm, decide_eq_false_iff_not]; exact fun h => hlt (Int.ofNat_lt.1 h))
    intro f5 w5 A hb
    replace x0 := A.t x0 rfl
    replace x1 := A.t x1 rfl
    replace x2 := A.t x2 rfl
    replace x7 := A.t x7 rfl
    replace x12 := A.t x12 rfl
    replace x13 := A.t x13 rfl
    replace x14 := A.t x14 rfl
    have x15 := A.e 0 15 rfl rfl
    replace bl := bgo bl hb
    replace sd := A.sd sd
    clear A hb
    show Code.wp _ _ _ _ _
    refine wp_seq ?_
    refine wp_cond_false x15 ?_
    refine wp_exit ?_
    show Code.wp _ _ _ _ _
    refine wp_seq ?_
    refine wp_seq ?_
    have h3 : er = 10 ∨ (er = 0 ∧ roomN n z < l.length) ∨ (er = 0 ∧ l.length ≤ roomN n z) := by rcases her with ⟨h, _⟩ | ⟨h, _⟩ <;> omega
    rcases h3 with h3 | ⟨h3, h4⟩ | ⟨h3, h4⟩
    · skip
      subst h3
      have hwr : WrongIs l n z 10 := .inr ⟨hat, .inl ⟨rfl, her.elim (fun q => absurd q.1 (by decide)) (·.2)⟩⟩
      refine wr_a [.eq (.int .i64 10), .eq (.bool false), .eq (.bool false), .any, .any, .any, .any, .any, .any, .eq (.bool false)] (by rw [sd.1]; kernel_rfl) ⟨fun hw ac u K => ?_, fun hw ac u K => ?_, fun hw ac u K => ?_, fun hw ac u K => ?_, fun hw ac u K => ?_, fun hw ac u K => ?_, fun hw ac u K => ?_, fun hw ac u K => ?_, fun hw ac u K => ?_, fun hw ac u K => ?_, trivial⟩ ?_
      · exact st_move (.tmp 7) rfl (K.t x7 rfl)
      · exact st_eqi 28 (.tmp 49) (.const (.int .i64 0)) rfl .i64 (10) (0) (K.dep 0 49 rfl) rfl _ (by simp)
      · exact st_move (.tmp 50) rfl (K.dep 1 50 rfl)
      · exact (Bool.false_ne_true hw).elim
      · exact (Bool.false_ne_true hw).elim
      · exact (Bool.false_ne_true hw).elim
      · exact (Bool.false_ne_true hw).elim
      · exact (Bool.false_ne_true hw).elim
      · exact (Bool.false_ne_true hw).elim
      · exact st_pick_f' (.tmp 51) (.tmp 57) (.const (.bool false)) rfl (K.dep 2 51 rfl) rfl
      intro f6 w6 A hb
      replace x0 := A.t x0 rfl
      replace x1 := A.t x1 rfl
      replace x2 := A.t x2 rfl
      replace x7 := A.t x7 rfl
      replace x12 := A.t x12 rfl
      replace x13 := A.t x13 rfl
      replace x14 := A.t x14 rfl
      replace x15 := A.t x15 rfl
      have x58 := A.e 9 58 rfl rfl
      replace bl := bgo bl hb
      replace sd := A.sd sd
      clear A hb
      clear x15
      show Code.wp _ _ _ _ _
      refine wp_cond_false x58 ?_
      refine wp_skip ?_
      show Code.wp _ _ _ _ _
      refine wp_seq ?_
      refine wr_a [.eq (.int .i64 10), .eq (.int .i64 10)] (by rw [sd.1]; kernel_rfl) ⟨fun hw ac u K => ?_, fun hw ac u K => ?_, trivial⟩ ?_
      · exact st_move (.tmp 7) rfl (K.t x7 rfl)
      · exact st_assign (.tmp 59) rfl (K.dep 0 59 rfl)
      intro f7 w7 A hb
      replace x0 := A.t x0 rfl
      replace x1 := A.t x1 rfl
      replace x2 := A.t x2 rfl
      replace x7 := A.t x7 rfl
      replace x12 := A.t x12 rfl
      replace x13 := A.t x13 rfl
      replace x14 := A.t x14 rfl
      replace x58 := A.t x58 rfl
      have x6 := A.e 1 6 rfl rfl
      replace bl := bgo bl hb
      replace sd := A.sd sd
      clear A hb
      clear x58
      show Code.wp _ _ _ _ _
      refine wp_ret ?_
      repeat (first | with_reducible refine then_ret ?_ | with_reducible refine block_ret ?_)
      exact bodyPost_ret (v := .int .i64 10) (ret_slot rfl f7 _ x6 _ _) sd.2 ⟨_, rfl, hwr, bl⟩
    · skip
      subst h3
      have hwr : WrongIs l n z 31 := .inr ⟨hat, .inr ⟨her.elim (·.2) (fun q => absurd q.1 (by decide)), .inl ⟨rfl, h4⟩⟩⟩
      refine wr_a [.eq (.int .i64 0), .eq (.bool true), .eq (.bool true), .eq (v), .eq (.int .i64 (((l).length : Nat) : Int)), .eq (.int .i64 (n : Int)), .eq (.int .i64 (z : Int)), .eq (.int .i64 ((roomN n z : Nat) : Int)), .eq (.bool true), .eq (.bool true)] (by rw [sd.1]; kernel_rfl) ⟨fun hw ac u K => ?_, fun hw ac u K => ?_, fun hw ac u K => ?_, fun hw ac u K => ?_, fun hw ac u K => ?_, fun hw ac u K => ?_, fun hw ac u K => ?_, fun hw ac u K => ?_, fun hw ac u K => ?_, fun hw ac u K => ?_, trivial⟩ ?_
      · exact st_move (.tmp 7) rfl (K.t x7 rfl)
      · exact st_eqi 28 (.tmp 49) (.const (.int .i64 0)) rfl .i64 (0) (0) (K.dep 0 49 rfl) rfl _ (by simp)
      · exact st_move (.tmp 50) rfl (K.dep 1 50 rfl)
      · exact st_move (.tmp 0) rfl (K.t x0 rfl)
      · exact st_lensc (.tmp 52) rfl (fk_val (K.dep 3 52 rfl) (Fk.mono _ _ _ _ hv (bgo bl K.grow)))
      · exact st_move (.tmp 1) rfl (K.t x1 rfl)
      · exact st_move (.tmp 2) rfl (K.t x2 rfl)
      · exact st_call 13 (.func 13) _ _ _ rfl rfl (arg2 (K.dep 5 54 rfl) (K.dep 6 55 rfl)) Try.enter13 (fk_room h1 hn _)
      · exact st_gtr 3 (.tmp 53) (.tmp 56) rfl .i64 ((((l).length : Nat) : Int)) (((roomN n z : Nat) : Int)) (K.dep 4 53 rfl) (K.dep 7 56 rfl) _ (by rw [eq_comm, decide_eq_true_iff]; omega)
      · exact st_pick_t (.tmp 51) (.tmp 57) (.const (.bool false)) rfl (K.dep 2 51 rfl) (K.dep 8 57 rfl)
      intro f6 w6 A hb
      replace x0 := A.t x0 rfl
      replace x1 := A.t x1 rfl
      replace x2 := A.t x2 rfl
      replace x7 := A.t x7 rfl
      replace x12 := A.t x12 rfl
      replace x13 := A.t x13 rfl
      replace x14 := A.t x14 rfl
      replace x15 := A.t x15 rfl
      have x58 := A.e 9 58 rfl rfl
      replace bl := bgo bl hb
      replace sd := A.sd sd
      clear A hb
      clear x15
      show Code.wp _ _ _ _ _
      refine wp_cond_true x58 ?_
      refine wr_a [.eq (.int .i64 31)] (by rw [sd.1]; kernel_rfl) ⟨fun hw ac u K => ?_, trivial⟩ ?_
      · exact st_assign (.const (.int .i64 31)) rfl rfl
      intro f7 w7 A hb
      replace x0 := A.t x0 rfl
      replace x1 := A.t x1 rfl
      replace x2 := A.t x2 rfl
      clear x7
      replace x12 := A.t x12 rfl
      replace x13 := A.t x13 rfl
      replace x14 := A.t x14 rfl
      replace x58 := A.t x58 rfl
      have x7 := A.e 0 7 rfl rfl
      replace bl := bgo bl hb
      replace sd := A.sd sd
      clear A hb
      clear x58
      show Code.wp _ _ _ _ _
      refine wp_seq ?_
      refine wr_a [.eq (.int .i64 31), .eq (.int .i64 31)] (by rw [sd.1]; kernel_rfl) ⟨fun hw ac u K => ?_, fun hw ac u K => ?_, trivial⟩ ?_
      · exact st_move (.tmp 7) rfl (K.t x7 rfl)
      · exact st_assign (.tmp 59) rfl (K.dep 0 59 rfl)
      intro f8 w8 A hb
      replace x0 := A.t x0 rfl
      replace x1 := A.t x1 rfl
      replace x2 := A.t x2 rfl
      replace x12 := A.t x12 rfl
      replace x13 := A.t x13 rfl
      replace x14 := A.t x14 rfl
      replace x7 := A.t x7 rfl
      have x6 := A.e 1 6 rfl rfl
      replace bl := bgo bl hb
      replace sd := A.sd sd
      clear A hb
      show Code.wp _ _ _ _ _
      refine wp_ret ?_
      repeat (first | with_reducible refine then_ret ?_ | with_reducible refine block_ret ?_)
      exact bodyPost_ret (v := .int .i64 31) (ret_slot rfl f8 _ x6 _ _) sd.2 ⟨_, rfl, hwr, bl⟩
    subst h3
    have hwr : WrongIs l n z 0 := .inr ⟨hat, .inr ⟨her.elim (·.2) (fun q => absurd q.1 (by decide)), .inr ⟨rfl, h4⟩⟩⟩
    refine wr_a [.eq (.int .i64 0), .eq (.bool true), .eq (.bool true), .eq (v), .eq (.int .i64 (((l).length : Nat) : Int)), .eq (.int .i64 (n : Int)), .eq (.int .i64 (z : Int)), .eq (.int .i64 ((roomN n z : Nat) : Int)), .eq (.bool false), .eq (.bool false)] (by rw [sd.1]; kernel_rfl) ⟨fun hw ac u K => ?_, fun hw ac u K => ?_, fun hw ac u K => ?_, fun hw ac u K => ?_, fun hw ac u K => ?_, fun hw ac u K => ?_, fun hw ac u K => ?_, fun hw ac u K => ?_, fun hw ac u K => ?_, fun hw ac u K => ?_, trivial⟩ ?_
    · exact st_move (.tmp 7) rfl (K.t x7 rfl)
    · exact st_eqi 28 (.tmp 49) (.const (.int .i64 0)) rfl .i64 (0) (0) (K.dep 0 49 rfl) rfl _ (by simp)
    · exact st_move (.tmp 50) rfl (K.dep 1 50 rfl)
    · exact st_move (.tmp 0) rfl (K.t x0 rfl)
    · exact st_lensc (.tmp 52) rfl (fk_val (K.dep 3 52 rfl) (Fk.mono _ _ _ _ hv (bgo bl K.grow)))
    · exact st_move (.tmp 1) rfl (K.t x1 rfl)
    · exact st_move (.tmp 2) rfl (K.t x2 rfl)
    · exact st_call 13 (.func 13) _ _ _ rfl rfl (arg2 (K.dep 5 54 rfl) (K.dep 6 55 rfl)) Try.enter13 (fk_room h1 hn _)
    · exact st_gtr 3 (.tmp 53) (.tmp 56) rfl .i64 ((((l).length : Nat) : Int)) (((roomN n z : Nat) : Int)) (K.dep 4 53 rfl) (K.dep 7 56 rfl) _ (by rw [eq_comm, decide_eq_false_iff_not]; omega)
    · exact st_pick_t (.tmp 51) (.tmp 57) (.const (.bool false)) rfl (K.dep 2 51 rfl) (K.dep 8 57 rfl)
    intro f6 w6 A hb
    replace x0 := A.t x0 rfl
    replace x1 := A.t x1 rfl
    replace x2 := A.t x2 rfl
    replace x7 := A.t x7 rfl
    replace x12 := A.t x12 rfl
    replace x13 := A.t x13 rfl
    replace x14 := A.t x14 rfl
    replace x15 := A.t x15 rfl
    have x58 := A.e 9 58 rfl rfl
    replace bl := bgo bl hb
    replace sd := A.sd sd
    clear A hb
    clear x15
    show Code.wp _ _ _ _ _
    refine wp_cond_false x58 ?_
    refine wp_skip ?_
    show Code.wp _ _ _ _ _
    refine wp_seq ?_
    refine wr_a [.eq (.int .i64 0), .eq (.int .i64 0)] (by rw [sd.1]; kernel_rfl) ⟨fun hw ac u K => ?_, fun hw ac u K => ?_, trivial⟩ ?_
    · exact st_move (.tmp 7) rfl (K.t x7 rfl)
    · exact st_assign (.tmp 59) rfl (K.dep 0 59 rfl)
    intro f7 w7 A hb
    replace x0 := A.t x0 rfl
    replace x1 := A.t x1 rfl
    replace x2 := A.t x2 rfl
    replace x7 := A.t x7 rfl
    replace x12 := A.t x12 rfl
    replace x13 := A.t x13 rfl
    replace x14 := A.t x14 rfl
    replace x58 := A.t x58 rfl
    have x6 := A.e 1 6 rfl rfl
    replace bl := bgo bl hb
    replace sd := A.sd sd
    clear A hb
    clear x58
    show Code.wp _ _ _ _ _
    refine wp_ret ?_
    repeat (first | with_reducible refine then_ret ?_ | with_reducible refine block_ret ?_)
    exact bodyPost_ret (v := .int .i64 0) (ret_slot rfl f7 _ x6 _ _) sd.2 ⟨_, rfl, hwr, bl⟩
  obtain ⟨cc, hcck⟩ : ∃ p, l[k]? = some p := ⟨_, List.getElem?_eq_getElem hlt⟩
  have hokc := sr_ok hv hcck
  have hbcc : (Fk.sl cc.bs).f cc.vb w := hokc.1
  refine wr_a [.eq (.bool true)] (by rw [sd.1]; kernel_rfl) ⟨fun hw ac u K => ?_, trivial⟩ ?_
  · exact st_lss 3 (.tmp 14) (.tmp 13) rfl .i64 ((k : Int)) ((((l).length : Nat) : Int)) (K.t x14 rfl) (K.t x13 rfl) _ (by rw [eq_comm, decide_eq_true_iff]; exact Int.ofNat_lt.2 hlt)
  intro f5 w5 A hb
  replace x0 := A.t x0 rfl
  replace x1 := A.t x1 rfl
  replace x2 := A.t x2 rfl
  replace x7 := A.t x7 rfl
  replace x12 := A.t x12 rfl
  replace x13 := A.t x13 rfl
  replace x14 := A.t x14 rfl
  have x15 := A.e 0 15 rfl rfl
  replace bl := bgo bl hb
  replace sd := A.sd sd
  clear A hb
  show Code.wp _ _ _ _ _
  refine wp_seq ?_
  refine wp_cond_true x15 ?_
  refine wp_skip ?_
  show Code.wp _ _ _ _ _
  refine wp_seq ?_
  refine wp_block ?_
  refine wp_seq ?_
  refine wr_s [.eq (.int .i64 (k : Int)), .sq RC cc, .eq (.agg ([.int .i64 cc.p, cc.vb] : List Value).toArray), .nw w5.heap.size 55 [.int .i64 0, .slice none 0 0], .eq (.int .i64 (k : Int))] (by rw [sd.1]; kernel_rfl) ⟨fun hw ac u K => ?_, fun hw ac u K => ?_, fun hw ac u K => ?_, fun hw ac u K => ?_, fun hw ac u K => ?_, trivial⟩ ?_
  · exact st_move (.tmp 14) rfl (K.t x14 rfl)
  · exact st_idxsc (.tmp 12) (.tmp 14) rfl (fk_val (K.t x12 rfl) (Fk.mono _ _ _ _ hv (bgo bl K.grow))) k cc (K.t x14 rfl) hcck
  · exact st_loadsc (.tmp 17) rfl (K.dep 1 17 rfl)
  · exact st_alloc 55 rfl _ _ (by kernel_rfl) K.grow.size
  · exact st_assign (.tmp 16) rfl (K.dep 0 16 rfl)
  intro f6 w6 A hb
  replace bl0 := bl
  replace x0 := A.t x0 rfl
  replace x1 := A.t x1 rfl
  replace x2 := A.t x2 rfl
  replace x7 := A.t x7 rfl
  replace x12 := A.t x12 rfl
  replace x13 := A.t x13 rfl
  replace x14 := A.t x14 rfl
  replace x15 := A.t x15 rfl
  have x8 := A.e 4 8 rfl rfl
  have x9 : Fk.f (.nw w5.heap.size 55 [.int .i64 0, .slice none 0 0]) (f6.eval (.tmp 9)) w6 := A.has 3 9 rfl
  have x18 := A.e 2 18 rfl rfl
  replace bl := bgo bl hb
  replace sd := A.sd sd
  clear A hb
  clear x15
  obtain ⟨g9, hg9, e9, m9⟩ := x9
  have x9 := e9
  clear e9
  have hw9 : w.heap.size ≤ g9 := Nat.le_trans bl0.size hg9
  refine wl_str rfl 55 (.tmp 9) (.tmp 18) rfl rfl (g9) ([.int .i64 cc.p, cc.vb] : List Value).toArray x9 x18 55 _ m9 (by kernel_rfl) (by kernel_rfl) (by kernel_rfl) ?_
  replace m9 : Ob (w6.setRow g9 ([.int .i64 cc.p, cc.vb] : List Value).toArray) (g9) 55 ([.int .i64 cc.p, cc.vb]) := Ob.setRow m9 ([.int .i64 cc.p, cc.vb])
  replace bl : Below w.heap.size w (w6.setRow g9 ([.int .i64 cc.p, cc.vb] : List Value).toArray) := bl.trans (below_setRow _ _ _ _ hw9)
  generalize w6.setRow g9 ([.int .i64 cc.p, cc.vb] : List Value).toArray = w7b at bl m9 ⊢
  refine wpList_nil ?_
  clear x18
  show Code.wp _ _ _ _ _
  refine wp_seq ?_
  refine wp_seq ?_
  have h3 : cc.p < 0 ∨ (¬ cc.p < 0 ∧ (homN n : Int) ≤ cc.p) ∨ (¬ cc.p < 0 ∧ ¬ (homN n : Int) ≤ cc.p) := by omega
  rcases h3 with h3 | ⟨h3, h4⟩ | ⟨h3, h4⟩
  · skip
    have hwr : WrongIs l n z 11 := .inl ⟨rfl, cc, List.mem_of_getElem? hcck, .inl h3⟩
    refine wr_d [.eq (.pointer (some ⟨g9, 0, none⟩)), .eq (.int .i64 cc.p), .eq (.bool true), .eq (.bool true), .any, .any, .any, .any, .any, .eq (.bool true)] Try.mixed (by rw [sd.1]; kernel_rfl) ⟨fun hw ac u K => ?_, fun hw ac u K => ?_, fun hw ac u K => ?_, fun hw ac u K => ?_, fun hw ac u K => ?_, fun hw ac u K => ?_, fun hw ac u K => ?_, fun hw ac u K => ?_, fun hw ac u K => ?_, fun hw ac u K => ?_, trivial⟩ ?_
    · exact st_field 55 0 (.tmp 9) rfl (K.t x9 rfl) (by kernel_rfl)
    · exact st_loadc 3 (.tmp 19) rfl (by kernel_rfl) (K.dep 0 19 rfl) (Ob.cell (Ob.below m9 K.grow) 0 rfl)
    · exact st_lss 3 (.tmp 20) (.const (.int .i64 0)) rfl .i64 (cc.p) (0) (K.dep 1 20 rfl) rfl _ (by rw [eq_comm, decide_eq_true_iff]; exact h3)
    · exact st_move (.tmp 21) rfl (K.dep 2 21 rfl)
    · exact (Bool.false_ne_true hw).elim
    · exact (Bool.false_ne_true hw).elim
    · exact (Bool.false_ne_true hw).elim
    · exact (Bool.false_ne_true hw).elim
    · exact (Bool.false_ne_true hw).elim
    · exact st_pick_t (.tmp 22) (.const (.bool true)) (.tmp 27) rfl (K.dep 3 22 rfl) rfl
    intro f8 w8 A hb
    replace x0 := A.t x0 rfl
    replace x1 := A.t x1 rfl
    replace x2 := A.t x2 rfl
    replace x7 := A.t x7 rfl
    replace x12 := A.t x12 rfl
    replace x13 := A.t x13 rfl
    replace x14 := A.t x14 rfl
    replace x8 := A.t x8 rfl
    replace x9 := A.t x9 rfl
    have x28 := A.e 9 28 rfl rfl
    replace m9 := Ob.below m9 hb
    replace bl := bgo bl hb
    replace sd := A.sd sd
    clear A hb
    show Code.wp _ _ _ _ _
    refine wp_cond_true x28 ?_
    refine wp_seq ?_
    refine wr_a [.eq (.int .i64 11)] (by rw [sd.1]; kernel_rfl) ⟨fun hw ac u K => ?_, trivial⟩ ?_
    · exact st_assign (.const (.int .i64 11)) rfl rfl
    intro f9 w9 A hb
    replace x0 := A.t x0 rfl
    replace x1 := A.t x1 rfl
    replace x2 := A.t x2 rfl
    replace x7 := A.t x7 rfl
    replace x12 := A.t x12 rfl
    replace x13 := A.t x13 rfl
    replace x14 := A.t x14 rfl
    replace x8 := A.t x8 rfl
    replace x9 := A.t x9 rfl
    replace x28 := A.t x28 rfl
    have x6 := A.e 0 6 rfl rfl
    replace m9 := Ob.below m9 hb
    replace bl := bgo bl hb
    replace sd := A.sd sd
    clear A hb
    clear x8
    clear x9
    clear x28
    clear m9
    show Code.wp _ _ _ _ _
    refine wp_ret ?_
    repeat (first | with_reducible refine then_ret ?_ | with_reducible refine block_ret ?_)
    exact bodyPost_ret (v := .int .i64 11) (ret_slot rfl f9 _ x6 _ _) sd.2 ⟨_, rfl, hwr, bl⟩
  · skip
    have hwr : WrongIs l n z 11 := .inl ⟨rfl, cc, List.mem_of_getElem? hcck, .inr h4⟩
    refine wr_d [.eq (.pointer (some ⟨g9, 0, none⟩)), .eq (.int .i64 cc.p), .eq (.bool false), .eq (.bool false), .eq (.pointer (some ⟨g9, 0, none⟩)), .eq (.int .i64 cc.p), .eq (.int .i64 (n : Int)), .eq (.int .i64 ((homN n : Nat) : Int)), .eq (.bool true), .eq (.bool true)] Try.mixed (by rw [sd.1]; kernel_rfl) ⟨fun hw ac u K => ?_, fun hw ac u K => ?_, fun hw ac u K => ?_, fun hw ac u K => ?_, fun hw ac u K => ?_, fun hw ac u K => ?_, fun hw ac u K => ?_, fun hw ac u K => ?_, fun hw ac u K => ?_, fun hw ac u K => ?_, trivial⟩ ?_
    · exact st_field 55 0 (.tmp 9) rfl (K.t x9 rfl) (by kernel_rfl)
    · exact st_loadc 3 (.tmp 19) rfl (by kernel_rfl) (K.dep 0 19 rfl) (Ob.cell (Ob.below m9 K.grow) 0 rfl)
    · exact st_lss 3 (.tmp 20) (.const (.int .i64 0)) rfl .i64 (cc.p) (0) (K.dep 1 20 rfl) rfl _ (by rw [eq_comm, decide_eq_false_iff_not]; exact h3)
    · exact st_move (.tmp 21) rfl (K.dep 2 21 rfl)
    · exact st_field 55 0 (.tmp 9) rfl (K.t x9 rfl) (by kernel_rfl)
    · exact st_loadc 3 (.tmp 23) rfl (by kernel_rfl) (K.dep 4 23 rfl) (Ob.cell (Ob.below m9 K.grow) 0 rfl)
    · exact st_move (.tmp 1) rfl (K.t x1 rfl)
    · exact st_call 10 (.func 10) _ _ _ rfl rfl (one_arg (K.dep 6 25 rfl)) Try.enter10 (fk_home h1 hn _)
    · exact st_geq 3 (.tmp 24) (.tmp 26) rfl .i64 (cc.p) (((homN n : Nat) : Int)) (K.dep 5 24 rfl) (K.dep 7 26 rfl) _ (by rw [eq_comm, decide_eq_true_iff]; exact h4)
    · exact st_pick_f' (.tmp 22) (.const (.bool true)) (.tmp 27) rfl (K.dep 3 22 rfl) (K.dep 8 27 rfl)
    intro f8 w8 A hb
    replace x0 := A.t x0 rfl
    replace x1 := A.t x1 rfl
    replace x2 := A.t x2 rfl
    replace x7 := A.t x7 rfl
    replace x12 := A.t x12 rfl
    replace x13 := A.t x13 rfl
    replace x14 := A.t x14 rfl
    replace x8 := A.t x8 rfl
    replace x9 := A.t x9 rfl
    have x28 := A.e 9 28 rfl rfl
    replace m9 := Ob.below m9 hb
    replace bl := bgo bl hb
    replace sd := A.sd sd
    clear A hb
    show Code.wp _ _ _ _ _
    refine wp_cond_true x28 ?_
    refine wp_seq ?_
    refine wr_a [.eq (.int .i64 11)] (by rw [sd.1]; kernel_rfl) ⟨fun hw ac u K => ?_, trivial⟩ ?_
    · exact st_assign (.const (.int .i64 11)) rfl rfl
    intro f9 w9 A hb
    replace x0 := A.t x0 rfl
    replace x1 := A.t x1 rfl
    replace x2 := A.t x2 rfl
    replace x7 := A.t x7 rfl
    replace x12 := A.t x12 rfl
    replace x13 := A.t x13 rfl
    replace x14 := A.t x14 rfl
    replace x8 := A.t x8 rfl
    replace x9 := A.t x9 rfl
    replace x28 := A.t x28 rfl
    have x6 := A.e 0 6 rfl rfl
    replace m9 := Ob.below m9 hb
    replace bl := bgo bl hb
    replace sd := A.sd sd
    clear A hb
    clear x8
    clear x9
    clear x28
    clear m9
    show Code.wp _ _ _ _ _
    refine wp_ret ?_
    repeat (first | with_reducible refine then_ret ?_ | with_reducible refine block_ret ?_)
    exact bodyPost_ret (v := .int .i64 11) (ret_slot rfl f9 _ x6 _ _) sd.2 ⟨_, rfl, hwr, bl⟩
  have hnb : ¬ BadAt n cc := fun q => q.elim h3 h4
  refine wr_d [.eq (.pointer (some ⟨g9, 0, none⟩)), .eq (.int .i64 cc.p), .eq (.bool false), .eq (.bool false), .eq (.pointer (some ⟨g9, 0, none⟩)), .eq (.int .i64 cc.p), .eq (.int .i64 (n : Int)), .eq (.int .i64 ((homN n : Nat) : Int)), .eq (.bool false), .eq (.bool false)] Try.mixed (by rw [sd.1]; kernel_rfl) ⟨fun hw ac u K => ?_, fun hw ac u K => ?_, fun hw ac u K => ?_, fun hw ac u K => ?_, fun hw ac u K => ?_, fun hw ac u K => ?_, fun hw ac u K => ?_, fun hw ac u K => ?_, fun hw ac u K => ?_, fun hw ac u K => ?_, trivial⟩ ?_
  · exact st_field 55 0 (.tmp 9) rfl (K.t x9 rfl) (by kernel_rfl)
  · exact st_loadc 3 (.tmp 19) rfl (by kernel_rfl) (K.dep 0 19 rfl) (Ob.cell (Ob.below m9 K.grow) 0 rfl)
  · exact st_lss 3 (.tmp 20) (.const (.int .i64 0)) rfl .i64 (cc.p) (0) (K.dep 1 20 rfl) rfl _ (by rw [eq_comm, decide_eq_false_iff_not]; exact h3)
  · exact st_move (.tmp 21) rfl (K.dep 2 21 rfl)
  · exact st_field 55 0 (.tmp 9) rfl (K.t x9 rfl) (by kernel_rfl)
  · exact st_loadc 3 (.tmp 23) rfl (by kernel_rfl) (K.dep 4 23 rfl) (Ob.cell (Ob.below m9 K.grow) 0 rfl)
  · exact st_move (.tmp 1) rfl (K.t x1 rfl)
  · exact st_call 10 (.func 10) _ _ _ rfl rfl (one_arg (K.dep 6 25 rfl)) Try.enter10 (fk_home h1 hn _)
  · exact st_geq 3 (.tmp 24) (.tmp 26) rfl .i64 (cc.p) (((homN n : Nat) : Int)) (K.dep 5 24 rfl) (K.dep 7 26 rfl) _ (by rw [eq_comm, decide_eq_false_iff_not]; exact h4)
  · exact st_pick_f' (.tmp 22) (.const (.bool true)) (.tmp 27) rfl (K.dep 3 22 rfl) (K.dep 8 27 rfl)
  intro f8 w8 A hb
  replace x0 := A.t x0 rfl
  replace x1 := A.t x1 rfl
  replace x2 := A.t x2 rfl
  replace x7 := A.t x7 rfl
  replace x12 := A.t x12 rfl
  replace x13 := A.t x13 rfl
  replace x14 := A.t x14 rfl
  replace x8 := A.t x8 rfl
  replace x9 := A.t x9 rfl
  have x28 := A.e 9 28 rfl rfl
  replace m9 := Ob.below m9 hb
  replace bl := bgo bl hb
  replace sd := A.sd sd
  clear A hb
  show Code.wp _ _ _ _ _
  refine wp_cond_false x28 ?_
  refine wp_skip ?_
  show Code.wp _ _ _ _ _
  refine wp_seq ?_
  refine wp_seq ?_
  by_cases hz : cc.bs.length = z
  rotate_left
  · skip
    obtain ⟨er1, he1⟩ : ∃ e, e = (10 : Int) := ⟨_, rfl⟩
    have her1 : (er1 = 0 ∧ ¬ (FormB z l k ∨ cc.bs.length ≠ z ∨ ∃ i d, i < 0 ∧ l[i]? = some d ∧ d.p = cc.p)) ∨ (er1 = 10 ∧ (FormB z l k ∨ cc.bs.length ≠ z ∨ ∃ i d, i < 0 ∧ l[i]? = some d ∧ d.p = cc.p)) := .inr ⟨he1, .inr (.inl hz)⟩
    refine wr_a [.eq (.pointer (some ⟨g9, 1, none⟩)), .eq (cc.vb), .eq (.int .i64 (((cc.bs).length : Nat) : Int)), .eq (.int .i64 (z : Int)), .eq (.bool true)] (by rw [sd.1]; kernel_rfl) ⟨fun hw ac u K => ?_, fun hw ac u K => ?_, fun hw ac u K => ?_, fun hw ac u K => ?_, fun hw ac u K => ?_, trivial⟩ ?_
    · exact st_field 55 1 (.tmp 9) rfl (K.t x9 rfl) (by kernel_rfl)
    · exact st_loadc 35 (.tmp 29) rfl (by kernel_rfl) (K.dep 0 29 rfl) (Ob.cell (Ob.below m9 K.grow) 1 rfl)
    · exact st_lenb (.tmp 30) rfl (fk_val (K.dep 1 30 rfl) (Fk.mono _ _ _ _ hbcc (bgo bl K.grow)))
    · exact st_move (.tmp 2) rfl (K.t x2 rfl)
    · exact st_neqi 3 (.tmp 31) (.tmp 32) rfl .i64 ((((cc.bs).length : Nat) : Int)) ((z : Int)) (K.dep 2 31 rfl) (K.dep 3 32 rfl) _ (by rw [eq_comm, decide_eq_true_iff]; omega)
    intro f9 w9 A hb
    replace x0 := A.t x0 rfl
    replace x1 := A.t x1 rfl
    replace x2 := A.t x2 rfl
    replace x7 := A.t x7 rfl
    replace x12 := A.t x12 rfl
    replace x13 := A.t x13 rfl
    replace x14 := A.t x14 rfl
    replace x8 := A.t x8 rfl
    replace x9 := A.t x9 rfl
    replace x28 := A.t x28 rfl
    have x33 := A.e 4 33 rfl rfl
    replace m9 := Ob.below m9 hb
    replace bl := bgo bl hb
    replace sd := A.sd sd
    clear A hb
    clear x28
    show Code.wp _ _ _ _ _
    refine wp_cond_true x33 ?_
    refine wr_a [.eq (.int .i64 10)] (by rw [sd.1]; kernel_rfl) ⟨fun hw ac u K => ?_, trivial⟩ ?_
    · exact st_assign (.const (.int .i64 10)) rfl rfl
    intro f10 w10 A hb
    replace x0 := A.t x0 rfl
    replace x1 := A.t x1 rfl
    replace x2 := A.t x2 rfl
    clear x7
    replace x12 := A.t x12 rfl
    replace x13 := A.t x13 rfl
    replace x14 := A.t x14 rfl
    replace x8 := A.t x8 rfl
    replace x9 := A.t x9 rfl
    replace x33 := A.t x33 rfl
    have x7 := A.e 0 7 rfl rfl
    replace m9 := Ob.below m9 hb
    replace bl := bgo bl hb
    replace sd := A.sd sd
    clear A hb
    clear x33
    show Code.wp _ _ _ _ _
    refine wp_seq ?_
    have hlk : (l.take k).length = k := by rw [List.length_take]; omega
    rw [show (.int .i64 (10 : Int) : Value) = .int .i64 er1 by rw [he1]] at x7
    clear he1
    have hcut := sr_cutv hv hlt
    refine wr_a [.eq (v), .eq (.int .i64 (k : Int)), .eq (cutv v k), .eq (.int .i64 (k : Int)), .eq (.int .i64 0)] (by rw [sd.1]; kernel_rfl) ⟨fun hw ac u K => ?_, fun hw ac u K => ?_, fun hw ac u K => ?_, fun hw ac u K => ?_, fun hw ac u K => ?_, trivial⟩ ?_
    · exact st_move (.tmp 0) rfl (K.t x0 rfl)
    · exact st_move (.tmp 8) rfl (K.t x8 rfl)
    · exact st_cutsc (.tmp 34) (.tmp 35) rfl (K.dep 0 34 rfl) (Fk.mono _ _ _ _ hv (bgo bl K.grow)) k (K.dep 1 35 rfl) hlt
    · exact st_lensk (.tmp 36) rfl (fk_val (K.dep 2 36 rfl) (Fk.mono _ _ _ _ hcut (bgo bl K.grow))) hlk
    · exact st_move (.const (.int .i64 0)) rfl rfl
    intro f11 w11 A hb
    replace x0 := A.t x0 rfl
    replace x1 := A.t x1 rfl
    replace x2 := A.t x2 rfl
    replace x12 := A.t x12 rfl
    replace x13 := A.t x13 rfl
    replace x14 := A.t x14 rfl
    replace x8 := A.t x8 rfl
    replace x9 := A.t x9 rfl
    replace x7 := A.t x7 rfl
    have x36 := A.e 2 36 rfl rfl
    have x37 := A.e 3 37 rfl rfl
    have x38 := A.e 4 38 rfl rfl
    replace m9 := Ob.below m9 hb
    replace bl := bgo bl hb
    replace sd := A.sd sd
    clear A hb
    clear x8
    show Code.wp _ _ _ _ _
    refine wp_block ?_
    refine wp_loop (fun f v1 => ∃ (j : Nat) (er2 : Int), j ≤ k ∧ ((er2 = 0 ∧ ¬ (FormB z l k ∨ cc.bs.length ≠ z ∨ ∃ i d, i < j ∧ l[i]? = some d ∧ d.p = cc.p)) ∨ (er2 = 10 ∧ (FormB z l k ∨ cc.bs.length ≠ z ∨ ∃ i d, i < j ∧ l[i]? = some d ∧ d.p = cc.p))) ∧ f.tmps.size = 60 ∧ f.defers = [] ∧ f.eval (.tmp 0) = v ∧ f.eval (.tmp 1) = .int .i64 (n : Int) ∧ f.eval (.tmp 2) = .int .i64 (z : Int) ∧ f.eval (.tmp 12) = v ∧ f.eval (.tmp 13) = .int .i64 (((l).length : Nat) : Int) ∧ f.eval (.tmp 14) = .int .i64 (k : Int) ∧ f.eval (.tmp 9) = .pointer (some ⟨g9, 0, none⟩) ∧ f.eval (.tmp 36) = cutv v k ∧ f.eval (.tmp 37) = .int .i64 (k : Int) ∧ f.eval (.tmp 38) = .int .i64 (j : Int) ∧ f.eval (.tmp 7) = .int .i64 er2 ∧ Ob v1 (g9) 55 ([.int .i64 cc.p, cc.vb]) ∧ Below w.heap.size w (v1)) (fun f _ => k - (intOf (f.eval (.tmp 38))).toNat) ⟨0, er1, Nat.zero_le _, her1, sd.1, sd.2, x0, x1, x2, x12, x13, x14, x9, x36, x37, x38, x7, m9, bl⟩ ?_
    intro f12 w12 hI
    clear sd bl bl0 x0 x1 x2 x12 x13 x14 x9 x7 x36 x37 x38 m9
    obtain ⟨j, er2, hj8, her2, sz, df, x0, x1, x2, x12, x13, x14, x9, x36, x37, x38, x7, m9, bl⟩ := hI
    have sd := And.intro sz df
    clear sz df
    have bl0 := bl
    have hcnt2 := x38
    refine wp_seq ?_
    by_cases hjt : j < k
    rotate_left
    · skip
      have hjk : j = k := by omega
      rw [hjk] at her2
      refine wr_a [.eq (.bool false)] (by rw [sd.1]; kernel_rfl) ⟨fun hw ac u K => ?_, trivial⟩ ?_
      · exact st_lss 3 (.tmp 38) (.tmp 37) rfl .i64 ((j : Int)) ((k : Int)) (K.t x38 rfl) (K.t x37 rfl) _ (by rw [eq_comm, decide_eq_false_iff_not]; exact fun h => hjt (Int.ofNat_lt.1 h))
      intro f13 w13 A hb
      replace x0 := A.t x0 rfl
      replace x1 := A.t x1 rfl
      replace x2 := A.t x2 rfl
      replace x12 := A.t x12 rfl
      replace x13 := A.t x13 rfl
      replace x14 := A.t x14 rfl
      replace x9 := A.t x9 rfl
      replace x7 := A.t x7 rfl
      replace x36 := A.t x36 rfl
      replace x37 := A.t x37 rfl
      replace x38 := A.t x38 rfl
      have x39 := A.e 0 39 rfl rfl
      replace m9 := Ob.below m9 hb
      replace bl := bgo bl hb
      replace sd := A.sd sd
      clear A hb
      show Code.wp _ _ _ _ _
      refine wp_seq ?_
      refine wp_cond_false x39 ?_
      refine wp_exit ?_
      show Code.wp _ _ _ _ _
      refine wr_s [.eq (.int .i64 ((k + 1 : Nat) : Int))] (by rw [sd.1]; kernel_rfl) ⟨fun hw ac u K => ?_, trivial⟩ ?_
      · exact st_addz (.tmp 14) (.const (.int .i64 1)) rfl _ _ _ (K.t x14 rfl) rfl (by omega) (by omega) (by omega)
      intro f14 w14 A hb
      replace x0 := A.t x0 rfl
      replace x1 := A.t x1 rfl
      replace x2 := A.t x2 rfl
      replace x12 := A.t x12 rfl
      replace x13 := A.t x13 rfl
      replace x14 := A.t x14 rfl
      replace x9 := A.t x9 rfl
      replace x7 := A.t x7 rfl
      replace x36 := A.t x36 rfl
      replace x37 := A.t x37 rfl
      replace x38 := A.t x38 rfl
      replace x39 := A.t x39 rfl
      have x48 := A.e 0 48 rfl rfl
      replace m9 := Ob.below m9 hb
      replace bl := bgo bl hb
      replace sd := A.sd sd
      clear A hb
      clear x39
      refine wl_one (.eq (.int .i64 ((k + 1 : Nat) : Int))) rfl 14 rfl (by rw [sd.1]; decide) (st_move (.tmp 48) rfl x48) ?_
      intro f15 w15 df2 sz2 old2 new2 hb
      replace x0 := tr old2 x0 rfl
      replace x1 := tr old2 x1 rfl
      replace x2 := tr old2 x2 rfl
      replace x12 := tr old2 x12 rfl
      replace x13 := tr old2 x13 rfl
      clear x14
      replace x9 := tr old2 x9 rfl
      replace x7 := tr old2 x7 rfl
      replace x36 := tr old2 x36 rfl
      replace x37 := tr old2 x37 rfl
      replace x38 := tr old2 x38 rfl
      replace x48 := tr old2 x48 rfl
      have x14 := Fk.e new2
      replace m9 := Ob.below m9 hb
      replace bl := bgo bl hb
      replace sd := sd2 sz2 df2 sd
      clear df2 sz2 old2 new2 hb
      refine wpList_nil ?_
      clear x48
      show (∃ _, _) ∧ _
      refine ⟨⟨k + 1, er2, by omega, (by rw [take_one12 hcck]; intro q hq; rcases List.mem_append.1 hq with hq | hq; exact hat q hq; obtain rfl := List.mem_singleton.1 hq; exact hnb), (by rw [formB_step hcck]; exact her2), sd.1, sd.2, x0, x1, x2, x12, x13, x14, x7, bl⟩, ?_⟩
      rw [show f15.eval (.tmp 14) = _ from x14, show _ = _ from hcnt]
      first | (simp [intOf]; done) | (simp [intOf]; omega)
    obtain ⟨dd, hdd⟩ : ∃ p, l[j]? = some p := ⟨_, List.getElem?_eq_getElem (by omega)⟩
    have hdk : (l.take k)[j]? = some dd := by rw [List.getElem?_take, if_pos hjt]; exact hdd
    refine wr_a [.eq (.bool true)] (by rw [sd.1]; kernel_rfl) ⟨fun hw ac u K => ?_, trivial⟩ ?_
    · exact st_lss 3 (.tmp 38) (.tmp 37) rfl .i64 ((j : Int)) ((k : Int)) (K.t x38 rfl) (K.t x37 rfl) _ (by rw [eq_comm, decide_eq_true_iff]; exact Int.ofNat_lt.2 hjt)
    intro f13 w13 A hb
    replace x0 := A.t x0 rfl
    replace x1 := A.t x1 rfl
    replace x2 := A.t x2 rfl
    replace x12 := A.t x12 rfl
    replace x13 := A.t x13 rfl
    replace x14 := A.t x14 rfl
    replace x9 := A.t x9 rfl
    replace x7 := A.t x7 rfl
    replace x36 := A.t x36 rfl
    replace x37 := A.t x37 rfl
    replace x38 := A.t x38 rfl
    have x39 := A.e 0 39 rfl rfl
    replace m9 := Ob.below m9 hb
    replace bl := bgo bl hb
    replace sd := A.sd sd
    clear A hb
    show Code.wp _ _ _ _ _
    refine wp_seq ?_
    refine wp_cond_true x39 ?_
    refine wp_skip ?_
    show Code.wp _ _ _ _ _
    refine wp_seq ?_
    refine wp_block ?_
    refine wp_seq ?_
    refine wr_s [.sq RC dd, .eq (.agg ([.int .i64 dd.p, dd.vb] : List Value).toArray), .nw w13.heap.size 55 [.int .i64 0, .slice none 0 0]] (by rw [sd.1]; kernel_rfl) ⟨fun hw ac u K => ?_, fun hw ac u K => ?_, fun hw ac u K => ?_, trivial⟩ ?_
    · exact st_idxsc (.tmp 36) (.tmp 38) rfl (fk_val (K.t x36 rfl) (Fk.mono _ _ _ _ hcut (bgo bl K.grow))) j dd (K.t x38 rfl) hdk
    · exact st_loadsc (.tmp 40) rfl (K.dep 0 40 rfl)
    · exact st_alloc 55 rfl _ _ (by kernel_rfl) K.grow.size
    intro f14 w14 A hb
    replace bl0 := bl
    replace x0 := A.t x0 rfl
    replace x1 := A.t x1 rfl
    replace x2 := A.t x2 rfl
    replace x12 := A.t x12 rfl
    replace x13 := A.t x13 rfl
    replace x14 := A.t x14 rfl
    replace x9 := A.t x9 rfl
    replace x7 := A.t x7 rfl
    replace x36 := A.t x36 rfl
    replace x37 := A.t x37 rfl
    replace x38 := A.t x38 rfl
    replace x39 := A.t x39 rfl
    have x11 : Fk.f (.nw w13.heap.size 55 [.int .i64 0, .slice none 0 0]) (f14.eval (.tmp 11)) w14 := A.has 2 11 rfl
    have x41 := A.e 1 41 rfl rfl
    have lt_m9 := Ob.lt m9
    replace m9 := Ob.below m9 hb
    replace bl := bgo bl hb
    replace sd := A.sd sd
    clear A hb
    clear x39
    obtain ⟨g11, hg11, e11, m11⟩ := x11
    have x11 := e11
    clear e11
    have nm9_11 : g9 ≠ g11 := Nat.ne_of_lt (Nat.lt_of_lt_of_le lt_m9 hg11)
    have hw11 : w.heap.size ≤ g11 := Nat.le_trans bl0.size hg11
    refine wl_str rfl 55 (.tmp 11) (.tmp 41) rfl rfl (g11) ([.int .i64 dd.p, dd.vb] : List Value).toArray x11 x41 55 _ m11 (by kernel_rfl) (by kernel_rfl) (by kernel_rfl) ?_
    replace m9 : Ob (w14.setRow g11 ([.int .i64 dd.p, dd.vb] : List Value).toArray) (g9) 55 ([.int .i64 cc.p, cc.vb]) := Ob.setRow_other m9 _ nm9_11
    replace m11 : Ob (w14.setRow g11 ([.int .i64 dd.p, dd.vb] : List Value).toArray) (g11) 55 ([.int .i64 dd.p, dd.vb]) := Ob.setRow m11 ([.int .i64 dd.p, dd.vb])
    replace bl : Below w.heap.size w (w14.setRow g11 ([.int .i64 dd.p, dd.vb] : List Value).toArray) := bl.trans (below_setRow _ _ _ _ hw11)
    generalize w14.setRow g11 ([.int .i64 dd.p, dd.vb] : List Value).toArray = w15b at bl m9 m11 ⊢
    refine wpList_nil ?_
    clear x41
    show Code.wp _ _ _ _ _
    refine wp_seq ?_
    have hsj : ∀ P : Prop, (FormB z l k ∨ cc.bs.length ≠ z ∨ ∃ i d, i < j + 1 ∧ l[i]? = some d ∧ d.p = cc.p) ↔ ((FormB z l k ∨ cc.bs.length ≠ z ∨ ∃ i d, i < j ∧ l[i]? = some d ∧ d.p = cc.p) ∨ dd.p = cc.p) := fun _ => by
      constructor
      · rintro (r | r | ⟨i, d, r1, r2, r3⟩)
        · exact .inl (.inl r)
        · exact .inl (.inr (.inl r))
        · by_cases e : i = j
          · subst e; rw [hdd] at r2; cases r2; exact .inr r3
          · exact .inl (.inr (.inr ⟨i, d, by omega, r2, r3⟩))
      · rintro ((r | r | ⟨i, d, r1, r2, r3⟩) | r)
        · exact .inl r
        · exact .inr (.inl r)
        · exact .inr (.inr ⟨i, d, by omega, r2, r3⟩)
        · exact .inr (.inr ⟨j, dd, Nat.lt_succ_self j, hdd, r⟩)
    replace hsj := hsj True
    by_cases hpe : dd.p = cc.p
    rotate_left
    · skip
      refine wr_a [.eq (.pointer (some ⟨g11, 0, none⟩)), .eq (.int .i64 dd.p), .eq (.pointer (some ⟨g9, 0, none⟩)), .eq (.int .i64 cc.p), .eq (.bool false)] (by rw [sd.1]; kernel_rfl) ⟨fun hw ac u K => ?_, fun hw ac u K => ?_, fun hw ac u K => ?_, fun hw ac u K => ?_, fun hw ac u K => ?_, trivial⟩ ?_
      · exact st_field 55 0 (.tmp 11) rfl (K.t x11 rfl) (by kernel_rfl)
      · exact st_loadc 3 (.tmp 42) rfl (by kernel_rfl) (K.dep 0 42 rfl) (Ob.cell (Ob.below m11 K.grow) 0 rfl)
      · exact st_field 55 0 (.tmp 9) rfl (K.t x9 rfl) (by kernel_rfl)
      · exact st_loadc 3 (.tmp 44) rfl (by kernel_rfl) (K.dep 2 44 rfl) (Ob.cell (Ob.below m9 K.grow) 0 rfl)
      · exact st_eqi 3 (.tmp 43) (.tmp 45) rfl .i64 (dd.p) (cc.p) (K.dep 1 43 rfl) (K.dep 3 45 rfl) _ (by rw [eq_comm, decide_eq_false_iff_not]; exact hpe)
      intro f16 w16 A hb
      replace x0 := A.t x0 rfl
      replace x1 := A.t x1 rfl
      replace x2 := A.t x2 rfl
      replace x12 := A.t x12 rfl
      replace x13 := A.t x13 rfl
      replace x14 := A.t x14 rfl
      replace x9 := A.t x9 rfl
      replace x7 := A.t x7 rfl
      replace x36 := A.t x36 rfl
      replace x37 := A.t x37 rfl
      replace x38 := A.t x38 rfl
      replace x11 := A.t x11 rfl
      have x46 := A.e 4 46 rfl rfl
      replace m9 := Ob.below m9 hb
      replace m11 := Ob.below m11 hb
      replace bl := bgo bl hb
      replace sd := A.sd sd
      clear A hb
      clear x11
      clear m11
      show Code.wp _ _ _ _ _
      refine wp_cond_false x46 ?_
      refine wp_skip ?_
      show Code.wp _ _ _ _ _
      refine wr_s [.eq (.int .i64 ((j + 1 : Nat) : Int))] (by rw [sd.1]; kernel_rfl) ⟨fun hw ac u K => ?_, trivial⟩ ?_
      · exact st_addz (.tmp 38) (.const (.int .i64 1)) rfl _ _ _ (K.t x38 rfl) rfl (by omega) (by omega) (by omega)
      intro f17 w17 A hb
      replace x0 := A.t x0 rfl
      replace x1 := A.t x1 rfl
      replace x2 := A.t x2 rfl
      replace x12 := A.t x12 rfl
      replace x13 := A.t x13 rfl
      replace x14 := A.t x14 rfl
      replace x9 := A.t x9 rfl
      replace x7 := A.t x7 rfl
      replace x36 := A.t x36 rfl
      replace x37 := A.t x37 rfl
      replace x38 := A.t x38 rfl
      replace x46 := A.t x46 rfl
      have x47 := A.e 0 47 rfl rfl
      replace m9 := Ob.below m9 hb
      replace bl := bgo bl hb
      replace sd := A.sd sd
      clear A hb
      clear x46
      refine wl_one (.eq (.int .i64 ((j + 1 : Nat) : Int))) rfl 38 rfl (by rw [sd.1]; decide) (st_move (.tmp 47) rfl x47) ?_
      intro f18 w18 df2 sz2 old2 new2 hb
      replace x0 := tr old2 x0 rfl
      replace x1 := tr old2 x1 rfl
      replace x2 := tr old2 x2 rfl
      replace x12 := tr old2 x12 rfl
      replace x13 := tr old2 x13 rfl
      replace x14 := tr old2 x14 rfl
      replace x9 := tr old2 x9 rfl
      replace x7 := tr old2 x7 rfl
      replace x36 := tr old2 x36 rfl
      replace x37 := tr old2 x37 rfl
      clear x38
      replace x47 := tr old2 x47 rfl
      have x38 := Fk.e new2
      replace m9 := Ob.below m9 hb
      replace bl := bgo bl hb
      replace sd := sd2 sz2 df2 sd
      clear df2 sz2 old2 new2 hb
      refine wpList_nil ?_
      clear x47
      show (∃ _, _) ∧ _
      refine ⟨⟨j + 1, er2, by omega, (her2.imp (fun q => ⟨q.1, fun r => (hsj.1 r).elim q.2 hpe⟩) (fun q => ⟨q.1, hsj.2 (.inl q.2)⟩)), sd.1, sd.2, x0, x1, x2, x12, x13, x14, x9, x36, x37, x38, x7, m9, bl⟩, ?_⟩
      rw [show f18.eval (.tmp 38) = _ from x38, show _ = _ from hcnt2]
      first | (simp [intOf]; done) | (simp [intOf]; omega)
    refine wr_a [.eq (.pointer (some ⟨g11, 0, none⟩)), .eq (.int .i64 dd.p), .eq (.pointer (some ⟨g9, 0, none⟩)), .eq (.int .i64 cc.p), .eq (.bool true)] (by rw [sd.1]; kernel_rfl) ⟨fun hw ac u K => ?_, fun hw ac u K => ?_, fun hw ac u K => ?_, fun hw ac u K => ?_, fun hw ac u K => ?_, trivial⟩ ?_
    · exact st_field 55 0 (.tmp 11) rfl (K.t x11 rfl) (by kernel_rfl)
    · exact st_loadc 3 (.tmp 42) rfl (by kernel_rfl) (K.dep 0 42 rfl) (Ob.cell (Ob.below m11 K.grow) 0 rfl)
    · exact st_field 55 0 (.tmp 9) rfl (K.t x9 rfl) (by kernel_rfl)
    · exact st_loadc 3 (.tmp 44) rfl (by kernel_rfl) (K.dep 2 44 rfl) (Ob.cell (Ob.below m9 K.grow) 0 rfl)
    · exact st_eqi 3 (.tmp 43) (.tmp 45) rfl .i64 (dd.p) (cc.p) (K.dep 1 43 rfl) (K.dep 3 45 rfl) _ (by rw [eq_comm, decide_eq_true_iff]; exact hpe)
    intro f16 w16 A hb
    replace x0 := A.t x0 rfl
    replace x1 := A.t x1 rfl
    replace x2 := A.t x2 rfl
    replace x12 := A.t x12 rfl
    replace x13 := A.t x13 rfl
    replace x14 := A.t x14 rfl
    replace x9 := A.t x9 rfl
    replace x7 := A.t x7 rfl
    replace x36 := A.t x36 rfl
    replace x37 := A.t x37 rfl
    replace x38 := A.t x38 rfl
    replace x11 := A.t x11 rfl
    have x46 := A.e 4 46 rfl rfl
    replace m9 := Ob.below m9 hb
    replace m11 := Ob.below m11 hb
    replace bl := bgo bl hb
    replace sd := A.sd sd
    clear A hb
    clear x11
    clear m11
    show Code.wp _ _ _ _ _
    refine wp_cond_true x46 ?_
    refine wr_a [.eq (.int .i64 10)] (by rw [sd.1]; kernel_rfl) ⟨fun hw ac u K => ?_, trivial⟩ ?_
    · exact st_assign (.const (.int .i64 10)) rfl rfl
    intro f17 w17 A hb
    replace x0 := A.t x0 rfl
    replace x1 := A.t x1 rfl
    replace x2 := A.t x2 rfl
    replace x12 := A.t x12 rfl
    replace x13 := A.t x13 rfl
    replace x14 := A.t x14 rfl
    replace x9 := A.t x9 rfl
    clear x7
    replace x36 := A.t x36 rfl
    replace x37 := A.t x37 rfl
    replace x38 := A.t x38 rfl
    replace x46 := A.t x46 rfl
    have x7 := A.e 0 7 rfl rfl
    replace m9 := Ob.below m9 hb
    replace bl := bgo bl hb
    replace sd := A.sd sd
    clear A hb
    clear x46
    show Code.wp _ _ _ _ _
    refine wr_s [.eq (.int .i64 ((j + 1 : Nat) : Int))] (by rw [sd.1]; kernel_rfl) ⟨fun hw ac u K => ?_, trivial⟩ ?_
    · exact st_addz (.tmp 38) (.const (.int .i64 1)) rfl _ _ _ (K.t x38 rfl) rfl (by omega) (by omega) (by omega)
    intro f18 w18 A hb
    replace x0 := A.t x0 rfl
    replace x1 := A.t x1 rfl
    replace x2 := A.t x2 rfl
    replace x12 := A.t x12 rfl
    replace x13 := A.t x13 rfl
    replace x14 := A.t x14 rfl
    replace x9 := A.t x9 rfl
    replace x36 := A.t x36 rfl
    replace x37 := A.t x37 rfl
    replace x38 := A.t x38 rfl
    replace x7 := A.t x7 rfl
    have x47 := A.e 0 47 rfl rfl
    replace m9 := Ob.below m9 hb
    replace bl := bgo bl hb
    replace sd := A.sd sd
    clear A hb
    refine wl_one (.eq (.int .i64 ((j + 1 : Nat) : Int))) rfl 38 rfl (by rw [sd.1]; decide) (st_move (.tmp 47) rfl x47) ?_
    intro f19 w19 df2 sz2 old2 new2 hb
    replace x0 := tr old2 x0 rfl
    replace x1 := tr old2 x1 rfl
    replace x2 := tr old2 x2 rfl
    replace x12 := tr old2 x12 rfl
    replace x13 := tr old2 x13 rfl
    replace x14 := tr old2 x14 rfl
    replace x9 := tr old2 x9 rfl
    replace x36 := tr old2 x36 rfl
    replace x37 := tr old2 x37 rfl
    clear x38
    replace x7 := tr old2 x7 rfl
    replace x47 := tr old2 x47 rfl
    have x38 := Fk.e new2
    replace m9 := Ob.below m9 hb
    replace bl := bgo bl hb
    replace sd := sd2 sz2 df2 sd
    clear df2 sz2 old2 new2 hb
    refine wpList_nil ?_
    clear x47
    show (∃ _, _) ∧ _
    refine ⟨⟨j + 1, 10, by omega, (.inr ⟨rfl, hsj.2 (.inr hpe)⟩), sd.1, sd.2, x0, x1, x2, x12, x13, x14, x9, x36, x37, x38, x7, m9, bl⟩, ?_⟩
    rw [show f19.eval (.tmp 38) = _ from x38, show _ = _ from hcnt2]
    first | (simp [intOf]; done) | (simp [intOf]; omega)
  have her1 : (er = 0 ∧ ¬ (FormB z l k ∨ cc.bs.length ≠ z ∨ ∃ i d, i < 0 ∧ l[i]? = some d ∧ d.p = cc.p)) ∨ (er = 10 ∧ (FormB z l k ∨ cc.bs.length ≠ z ∨ ∃ i d, i < 0 ∧ l[i]? = some d ∧ d.p = cc.p)) := her.imp (fun q => ⟨q.1, fun r => r.elim q.2 (fun r => r.elim (fun r => r hz) (fun ⟨_, _, r, _⟩ => absurd r (Nat.not_lt_zero _)))⟩) (fun q => ⟨q.1, .inl q.2⟩)
  obtain ⟨er1, he1⟩ : ∃ e, e = er := ⟨_, rfl⟩
  rw [← he1] at her1
  refine wr_a [.eq (.pointer (some ⟨g9, 1, none⟩)), .eq (cc.vb), .eq (.int .i64 (((cc.bs).length : Nat) : Int)), .eq (.int .i64 (z : Int)), .eq (.bool false)] (by rw [sd.1]; kernel_rfl) ⟨fun hw ac u K => ?_, fun hw ac u K => ?_, fun hw ac u K => ?_, fun hw ac u K => ?_, fun hw ac u K => ?_, trivial⟩ ?_
  · exact st_field 55 1 (.tmp 9) rfl (K.t x9 rfl) (by kernel_rfl)
  · exact st_loadc 35 (.tmp 29) rfl (by kernel_rfl) (K.dep 0 29 rfl) (Ob.cell (Ob.below m9 K.grow) 1 rfl)
  · exact st_lenb (.tmp 30) rfl (fk_val (K.dep 1 30 rfl) (Fk.mono _ _ _ _ hbcc (bgo bl K.grow)))
  · exact st_move (.tmp 2) rfl (K.t x2 rfl)
  · exact st_neqi 3 (.tmp 31) (.tmp 32) rfl .i64 ((((cc.bs).length : Nat) : Int)) ((z : Int)) (K.dep 2 31 rfl) (K.dep 3 32 rfl) _ (by rw [eq_comm, decide_eq_false_iff_not]; omega)
  intro f9 w9 A hb
  replace x0 := A.t x0 rfl
  replace x1 := A.t x1 rfl
  replace x2 := A.t x2 rfl
  replace x7 := A.t x7 rfl
  replace x12 := A.t x12 rfl
  replace x13 := A.t x13 rfl
  replace x14 := A.t x14 rfl
  replace x8 := A.t x8 rfl
  replace x9 := A.t x9 rfl
  replace x28 := A.t x28 rfl
  have x33 := A.e 4 33 rfl rfl
  replace m9 := Ob.below m9 hb
  replace bl := bgo bl hb
  replace sd := A.sd sd
  clear A hb
  clear x28
  show Code.wp _ _ _ _ _
  refine wp_cond_false x33 ?_
  refine wp_skip ?_
  show Code.wp _ _ _ _ _
  refine wp_seq ?_
  have hlk : (l.take k).length = k := by rw [List.length_take]; omega
  rw [show (.int .i64 (er : Int) : Value) = .int .i64 er1 by rw [he1]] at x7
  clear he1
  have hcut := sr_cutv hv hlt
  refine wr_a [.eq (v), .eq (.int .i64 (k : Int)), .eq (cutv v k), .eq (.int .i64 (k : Int)), .eq (.int .i64 0)] (by rw [sd.1]; kernel_rfl) ⟨fun hw ac u K => ?_, fun hw ac u K => ?_, fun hw ac u K => ?_, fun hw ac u K => ?_, fun hw ac u K => ?_, trivial⟩ ?_
  · exact st_move (.tmp 0) rfl (K.t x0 rfl)
  · exact st_move (.tmp 8) rfl (K.t x8 rfl)
  · exact st_cutsc (.tmp 34) (.tmp 35) rfl (K.dep 0 34 rfl) (Fk.mono _ _ _ _ hv (bgo bl K.grow)) k (K.dep 1 35 rfl) hlt
  · exact st_lensk (.tmp 36) rfl (fk_val (K.dep 2 36 rfl) (Fk.mono _ _ _ _ hcut (bgo bl K.grow))) hlk
  · exact st_move (.const (.int .i64 0)) rfl rfl
  intro f10 w10 A hb
  replace x0 := A.t x0 rfl
  replace x1 := A.t x1 rfl
  replace x2 := A.t x2 rfl
  replace x7 := A.t x7 rfl
  replace x12 := A.t x12 rfl
  replace x13 := A.t x13 rfl
  replace x14 := A.t x14 rfl
  replace x8 := A.t x8 rfl
  replace x9 := A.t x9 rfl
  replace x33 := A.t x33 rfl
  have x36 := A.e 2 36 rfl rfl
  have x37 := A.e 3 37 rfl rfl
  have x38 := A.e 4 38 rfl rfl
  replace m9 := Ob.below m9 hb
  replace bl := bgo bl hb
  replace sd := A.sd sd
  clear A hb
  clear x8
  clear x33
  show Code.wp _ _ _ _ _
  refine wp_block ?_
  refine wp_loop (fun f v1 => ∃ (j : Nat) (er2 : Int), j ≤ k ∧ ((er2 = 0 ∧ ¬ (FormB z l k ∨ cc.bs.length ≠ z ∨ ∃ i d, i < j ∧ l[i]? = some d ∧ d.p = cc.p)) ∨ (er2 = 10 ∧ (FormB z l k ∨ cc.bs.length ≠ z ∨ ∃ i d, i < j ∧ l[i]? = some d ∧ d.p = cc.p))) ∧ f.tmps.size = 60 ∧ f.defers = [] ∧ f.eval (.tmp 0) = v ∧ f.eval (.tmp 1) = .int .i64 (n : Int) ∧ f.eval (.tmp 2) = .int .i64 (z : Int) ∧ f.eval (.tmp 12) = v ∧ f.eval (.tmp 13) = .int .i64 (((l).length : Nat) : Int) ∧ f.eval (.tmp 14) = .int .i64 (k : Int) ∧ f.eval (.tmp 9) = .pointer (some ⟨g9, 0, none⟩) ∧ f.eval (.tmp 36) = cutv v k ∧ f.eval (.tmp 37) = .int .i64 (k : Int) ∧ f.eval (.tmp 38) = .int .i64 (j : Int) ∧ f.eval (.tmp 7) = .int .i64 er2 ∧ Ob v1 (g9) 55 ([.int .i64 cc.p, cc.vb]) ∧ Below w.heap.size w (v1)) (fun f _ => k - (intOf (f.eval (.tmp 38))).toNat) ⟨0, er1, Nat.zero_le _, her1, sd.1, sd.2, x0, x1, x2, x12, x13, x14, x9, x36, x37, x38, x7, m9, bl⟩ ?_
  intro f11 w11 hI
  clear sd bl bl0 x0 x1 x2 x7 x12 x13 x14 x9 x36 x37 x38 m9
  obtain ⟨j, er2, hj8, her2, sz, df, x0, x1, x2, x12, x13, x14, x9, x36, x37, x38, x7, m9, bl⟩ := hI
  have sd := And.intro sz df
  clear sz df
  have bl0 := bl
  have hcnt2 := x38
  refine wp_seq ?_
  by_cases hjt : j < k
  rotate_left
  · skip
    have hjk : j = k := by omega
    rw [hjk] at her2
    refine wr_a [.eq (.bool false)] (by rw [sd.1]; kernel_rfl) ⟨fun hw ac u K => ?_, trivial⟩ ?_
    · exact st_lss 3 (.tmp 38) (.tmp 37) rfl .i64 ((j : Int)) ((k : Int)) (K.t x38 rfl) (K.t x37 rfl) _ (by rw [eq_comm, decide_eq_false_iff_not]; exact fun h => hjt (Int.ofNat_lt.1 h))
    intro f12 w12 A hb
    replace x0 := A.t x0 rfl
    replace x1 := A.t x1 rfl
    replace x2 := A.t x2 rfl
    replace x7 := A.t x7 rfl
    replace x12 := A.t x12 rfl
    replace x13 := A.t x13 rfl
    replace x14 := A.t x14 rfl
    replace x9 := A.t x9 rfl
    replace x36 := A.t x36 rfl
    replace x37 := A.t x37 rfl
    replace x38 := A.t x38 rfl
    have x39 := A.e 0 39 rfl rfl
    replace m9 := Ob.below m9 hb
    replace bl := bgo bl hb
    replace sd := A.sd sd
    clear A hb
    show Code.wp _ _ _ _ _
    refine wp_seq ?_
    refine wp_cond_false x39 ?_
    refine wp_exit ?_
    show Code.wp _ _ _ _ _
    refine wr_s [.eq (.int .i64 ((k + 1 : Nat) : Int))] (by rw [sd.1]; kernel_rfl) ⟨fun hw ac u K => ?_, trivial⟩ ?_
    · exact st_addz (.tmp 14) (.const (.int .i64 1)) rfl _ _ _ (K.t x14 rfl) rfl (by omega) (by omega) (by omega)
    intro f13 w13 A hb
    replace x0 := A.t x0 rfl
    replace x1 := A.t x1 rfl
    replace x2 := A.t x2 rfl
    replace x7 := A.t x7 rfl
    replace x12 := A.t x12 rfl
    replace x13 := A.t x13 rfl
    replace x14 := A.t x14 rfl
    replace x9 := A.t x9 rfl
    replace x36 := A.t x36 rfl
    replace x37 := A.t x37 rfl
    replace x38 := A.t x38 rfl
    replace x39 := A.t x39 rfl
    have x48 := A.e 0 48 rfl rfl
    replace m9 := Ob.below m9 hb
    replace bl := bgo bl hb
    replace sd := A.sd sd
    clear A hb
    clear x39
    refine wl_one (.eq (.int .i64 ((k + 1 : Nat) : Int))) rfl 14 rfl (by rw [sd.1]; decide) (st_move (.tmp 48) rfl x48) ?_
    intro f14 w14 df2 sz2 old2 new2 hb
    replace x0 := tr old2 x0 rfl
    replace x1 := tr old2 x1 rfl
    replace x2 := tr old2 x2 rfl
    replace x7 := tr old2 x7 rfl
    replace x12 := tr old2 x12 rfl
    replace x13 := tr old2 x13 rfl
    clear x14
    replace x9 := tr old2 x9 rfl
    replace x36 := tr old2 x36 rfl
    replace x37 := tr old2 x37 rfl
    replace x38 := tr old2 x38 rfl
    replace x48 := tr old2 x48 rfl
    have x14 := Fk.e new2
    replace m9 := Ob.below m9 hb
    replace bl := bgo bl hb
    replace sd := sd2 sz2 df2 sd
    clear df2 sz2 old2 new2 hb
    refine wpList_nil ?_
    clear x48
    show (∃ _, _) ∧ _
    refine ⟨⟨k + 1, er2, by omega, (by rw [take_one12 hcck]; intro q hq; rcases List.mem_append.1 hq with hq | hq; exact hat q hq; obtain rfl := List.mem_singleton.1 hq; exact hnb), (by rw [formB_step hcck]; exact her2), sd.1, sd.2, x0, x1, x2, x12, x13, x14, x7, bl⟩, ?_⟩
    rw [show f14.eval (.tmp 14) = _ from x14, show _ = _ from hcnt]
    first | (simp [intOf]; done) | (simp [intOf]; omega)
  obtain ⟨dd, hdd⟩ : ∃ p, l[j]? = some p := ⟨_, List.getElem?_eq_getElem (by omega)⟩
  have hdk : (l.take k)[j]? = some dd := by rw [List.getElem?_take, if_pos hjt]; exact hdd
  refine wr_a [.eq (.bool true)] (by rw [sd.1]; kernel_rfl) ⟨fun hw ac u K => ?_, trivial⟩ ?_
  · exact st_lss 3 (.tmp 38) (.tmp 37) rfl .i64 ((j : Int)) ((k : Int)) (K.t x38 rfl) (K.t x37 rfl) _ (by rw [eq_comm, decide_eq_true_iff]; exact Int.ofNat_lt.2 hjt)
  intro f12 w12 A hb
  replace x0 := A.t x0 rfl
  replace x1 := A.t x1 rfl
  replace x2 := A.t x2 rfl
  replace x7 := A.t x7 rfl
  replace x12 := A.t x12 rfl
  replace x13 := A.t x13 rfl
  replace x14 := A.t x14 rfl
  replace x9 := A.t x9 rfl
  replace x36 := A.t x36 rfl
  replace x37 := A.t x37 rfl
  replace x38 := A.t x38 rfl
  have x39 := A.e 0 39 rfl rfl
  replace m9 := Ob.below m9 hb
  replace bl := bgo bl hb
  replace sd := A.sd sd
  clear A hb
  show Code.wp _ _ _ _ _
  refine wp_seq ?_
  refine wp_cond_true x39 ?_
  refine wp_skip ?_
  show Code.wp _ _ _ _ _
  refine wp_seq ?_
  refine wp_block ?_
  refine wp_seq ?_
  refine wr_s [.sq RC dd, .eq (.agg ([.int .i64 dd.p, dd.vb] : List Value).toArray), .nw w12.heap.size 55 [.int .i64 0, .slice none 0 0]] (by rw [sd.1]; kernel_rfl) ⟨fun hw ac u K => ?_, fun hw ac u K => ?_, fun hw ac u K => ?_, trivial⟩ ?_
  · exact st_idxsc (.tmp 36) (.tmp 38) rfl (fk_val (K.t x36 rfl) (Fk.mono _ _ _ _ hcut (bgo bl K.grow))) j dd (K.t x38 rfl) hdk
  · exact st_loadsc (.tmp 40) rfl (K.dep 0 40 rfl)
  · exact st_alloc 55 rfl _ _ (by kernel_rfl) K.grow.size
  intro f13 w13 A hb
  replace bl0 := bl
  replace x0 := A.t x0 rfl
  replace x1 := A.t x1 rfl
  replace x2 := A.t x2 rfl
  replace x7 := A.t x7 rfl
  replace x12 := A.t x12 rfl
  replace x13 := A.t x13 rfl
  replace x14 := A.t x14 rfl
  replace x9 := A.t x9 rfl
  replace x36 := A.t x36 rfl
  replace x37 := A.t x37 rfl
  replace x38 := A.t x38 rfl
  replace x39 := A.t x39 rfl
  have x11 : Fk.f (.nw w12.heap.size 55 [.int .i64 0, .slice none 0 0]) (f13.eval (.tmp 11)) w13 := A.has 2 11 rfl
  have x41 := A.e 1 41 rfl rfl
  have lt_m9 := Ob.lt m9
  replace m9 := Ob.below m9 hb
  replace bl := bgo bl hb
  replace sd := A.sd sd
  clear A hb
  clear x39
  obtain ⟨g11, hg11, e11, m11⟩ := x11
  have x11 := e11
  clear e11
  have nm9_11 : g9 ≠ g11 := Nat.ne_of_lt (Nat.lt_of_lt_of_le lt_m9 hg11)
  have hw11 : w.heap.size ≤ g11 := Nat.le_trans bl0.size hg11
  refine wl_str rfl 55 (.tmp 11) (.tmp 41) rfl rfl (g11) ([.int .i64 dd.p, dd.vb] : List Value).toArray x11 x41 55 _ m11 (by kernel_rfl) (by kernel_rfl) (by kernel_rfl) ?_
  replace m9 : Ob (w13.setRow g11 ([.int .i64 dd.p, dd.vb] : List Value).toArray) (g9) 55 ([.int .i64 cc.p, cc.vb]) := Ob.setRow_other m9 _ nm9_11
  replace m11 : Ob (w13.setRow g11 ([.int .i64 dd.p, dd.vb] : List Value).toArray) (g11) 55 ([.int .i64 dd.p, dd.vb]) := Ob.setRow m11 ([.int .i64 dd.p, dd.vb])
  replace bl : Below w.heap.size w (w13.setRow g11 ([.int .i64 dd.p, dd.vb] : List Value).toArray) := bl.trans (below_setRow _ _ _ _ hw11)
  generalize w13.setRow g11 ([.int .i64 dd.p, dd.vb] : List Value).toArray = w14b at bl m9 m11 ⊢
  refine wpList_nil ?_
  clear x41
  show Code.wp _ _ _ _ _
  refine wp_seq ?_
  have hsj : ∀ P : Prop, (FormB z l k ∨ cc.bs.length ≠ z ∨ ∃ i d, i < j + 1 ∧ l[i]? = some d ∧ d.p = cc.p) ↔ ((FormB z l k ∨ cc.bs.length ≠ z ∨ ∃ i d, i < j ∧ l[i]? = some d ∧ d.p = cc.p) ∨ dd.p = cc.p) := fun _ => by
    constructor
    · rintro (r | r | ⟨i, d, r1, r2, r3⟩)
      · exact .inl (.inl r)
      · exact .inl (.inr (.inl r))
      · by_cases e : i = j
        · subst e; rw [hdd] at r2; cases r2; exact .inr r3
        · exact .inl (.inr (.inr ⟨i, d, by omega, r2, r3⟩))
    · rintro ((r | r | ⟨i, d, r1, r2, r3⟩) | r)
      · exact .inl r
      · exact .inr (.inl r)
      · exact .inr (.inr ⟨i, d, by omega, r2, r3⟩)
      · exact .inr (.inr ⟨j, dd, Nat.lt_succ_self j, hdd, r⟩)
  replace hsj := hsj True
  by_cases hpe : dd.p = cc.p
  rotate_left
  · skip
    refine wr_a [.eq (.pointer (some ⟨g11, 0, none⟩)), .eq (.int .i64 dd.p), .eq (.pointer (some ⟨g9, 0, none⟩)), .eq (.int .i64 cc.p), .eq (.bool false)] (by rw [sd.1]; kernel_rfl) ⟨fun hw ac u K => ?_, fun hw ac u K => ?_, fun hw ac u K => ?_, fun hw ac u K => ?_, fun hw ac u K => ?_, trivial⟩ ?_
    · exact st_field 55 0 (.tmp 11) rfl (K.t x11 rfl) (by kernel_rfl)
    · exact st_loadc 3 (.tmp 42) rfl (by kernel_rfl) (K.dep 0 42 rfl) (Ob.cell (Ob.below m11 K.grow) 0 rfl)
    · exact st_field 55 0 (.tmp 9) rfl (K.t x9 rfl) (by kernel_rfl)
    · exact st_loadc 3 (.tmp 44) rfl (by kernel_rfl) (K.dep 2 44 rfl) (Ob.cell (Ob.below m9 K.grow) 0 rfl)
    · exact st_eqi 3 (.tmp 43) (.tmp 45) rfl .i64 (dd.p) (cc.p) (K.dep 1 43 rfl) (K.dep 3 45 rfl) _ (by rw [eq_comm, decide_eq_false_iff_not]; exact hpe)
    intro f15 w15 A hb
    replace x0 := A.t x0 rfl
    replace x1 := A.t x1 rfl
    replace x2 := A.t x2 rfl
    replace x7 := A.t x7 rfl
    replace x12 := A.t x12 rfl
    replace x13 := A.t x13 rfl
    replace x14 := A.t x14 rfl
    replace x9 := A.t x9 rfl
    replace x36 := A.t x36 rfl
    replace x37 := A.t x37 rfl
    replace x38 := A.t x38 rfl
    replace x11 := A.t x11 rfl
    have x46 := A.e 4 46 rfl rfl
    replace m9 := Ob.below m9 hb
    replace m11 := Ob.below m11 hb
    replace bl := bgo bl hb
    replace sd := A.sd sd
    clear A hb
    clear x11
    clear m11
    show Code.wp _ _ _ _ _
    refine wp_cond_false x46 ?_
    refine wp_skip ?_
    show Code.wp _ _ _ _ _
    refine wr_s [.eq (.int .i64 ((j + 1 : Nat) : Int))] (by rw [sd.1]; kernel_rfl) ⟨fun hw ac u K => ?_, trivial⟩ ?_
    · exact st_addz (.tmp 38) (.const (.int .i64 1)) rfl _ _ _ (K.t x38 rfl) rfl (by omega) (by omega) (by omega)
    intro f16 w16 A hb
    replace x0 := A.t x0 rfl
    replace x1 := A.t x1 rfl
    replace x2 := A.t x2 rfl
    replace x7 := A.t x7 rfl
    replace x12 := A.t x12 rfl
    replace x13 := A.t x13 rfl
    replace x14 := A.t x14 rfl
    replace x9 := A.t x9 rfl
    replace x36 := A.t x36 rfl
    replace x37 := A.t x37 rfl
    replace x38 := A.t x38 rfl
    replace x46 := A.t x46 rfl
    have x47 := A.e 0 47 rfl rfl
    replace m9 := Ob.below m9 hb
    replace bl := bgo bl hb
    replace sd := A.sd sd
    clear A hb
    clear x46
    refine wl_one (.eq (.int .i64 ((j + 1 : Nat) : Int))) rfl 38 rfl (by rw [sd.1]; decide) (st_move (.tmp 47) rfl x47) ?_
    intro f17 w17 df2 sz2 old2 new2 hb
    replace x0 := tr old2 x0 rfl
    replace x1 := tr old2 x1 rfl
    replace x2 := tr old2 x2 rfl
    replace x7 := tr old2 x7 rfl
    replace x12 := tr old2 x12 rfl
    replace x13 := tr old2 x13 rfl
    replace x14 := tr old2 x14 rfl
    replace x9 := tr old2 x9 rfl
    replace x36 := tr old2 x36 rfl
    replace x37 := tr old2 x37 rfl
    clear x38
    replace x47 := tr old2 x47 rfl
    have x38 := Fk.e new2
    replace m9 := Ob.below m9 hb
    replace bl := bgo bl hb
    replace sd := sd2 sz2 df2 sd
    clear df2 sz2 old2 new2 hb
    refine wpList_nil ?_
    clear x47
    show (∃ _, _) ∧ _
    refine ⟨⟨j + 1, er2, by omega, (her2.imp (fun q => ⟨q.1, fun r => (hsj.1 r).elim q.2 hpe⟩) (fun q => ⟨q.1, hsj.2 (.inl q.2)⟩)), sd.1, sd.2, x0, x1, x2, x12, x13, x14, x9, x36, x37, x38, x7, m9, bl⟩, ?_⟩
    rw [show f17.eval (.tmp 38) = _ from x38, show _ = _ from hcnt2]
    first | (simp [intOf]; done) | (simp [intOf]; omega)
  refine wr_a [.eq (.pointer (some ⟨g11, 0, none⟩)), .eq (.int .i64 dd.p), .eq (.pointer (some ⟨g9, 0, none⟩)), .eq (.int .i64 cc.p), .eq (.bool true)] (by rw [sd.1]; kernel_rfl) ⟨fun hw ac u K => ?_, fun hw ac u K => ?_, fun hw ac u K => ?_, fun hw ac u K => ?_, fun hw ac u K => ?_, trivial⟩ ?_
  · exact st_field 55 0 (.tmp 11) rfl (K.t x11 rfl) (by kernel_rfl)
  · exact st_loadc 3 (.tmp 42) rfl (by kernel_rfl) (K.dep 0 42 rfl) (Ob.cell (Ob.below m11 K.grow) 0 rfl)
  · exact st_field 55 0 (.tmp 9) rfl (K.t x9 rfl) (by kernel_rfl)
  · exact st_loadc 3 (.tmp 44) rfl (by kernel_rfl) (K.dep 2 44 rfl) (Ob.cell (Ob.below m9 K.grow) 0 rfl)
  · exact st_eqi 3 (.tmp 43) (.tmp 45) rfl .i64 (dd.p) (cc.p) (K.dep 1 43 rfl) (K.dep 3 45 rfl) _ (by rw [eq_comm, decide_eq_true_iff]; exact hpe)
  intro f15 w15 A hb
  replace x0 := A.t x0 rfl
  replace x1 := A.t x1 rfl
  replace x2 := A.t x2 rfl
  replace x7 := A.t x7 rfl
  replace x12 := A.t x12 rfl
  replace x13 := A.t x13 rfl
  replace x14 := A.t x14 rfl
  replace x9 := A.t x9 rfl
  replace x36 := A.t x36 rfl
  replace x37 := A.t x37 rfl
  replace x38 := A.t x38 rfl
  replace x11 := A.t x11 rfl
  have x46 := A.e 4 46 rfl rfl
  replace m9 := Ob.below m9 hb
  replace m11 := Ob.below m11 hb
  replace bl := bgo bl hb
  replace sd := A.sd sd
  clear A hb
  clear x11
  clear m11
  show Code.wp _ _ _ _ _
  refine wp_cond_true x46 ?_
  refine wr_a [.eq (.int .i64 10)] (by rw [sd.1]; kernel_rfl) ⟨fun hw ac u K => ?_, trivial⟩ ?_
  · exact st_assign (.const (.int .i64 10)) rfl rfl
  intro f16 w16 A hb
  replace x0 := A.t x0 rfl
  replace x1 := A.t x1 rfl
  replace x2 := A.t x2 rfl
  clear x7
  replace x12 := A.t x12 rfl
  replace x13 := A.t x13 rfl
  replace x14 := A.t x14 rfl
  replace x9 := A.t x9 rfl
  replace x36 := A.t x36 rfl
  replace x37 := A.t x37 rfl
  replace x38 := A.t x38 rfl
  replace x46 := A.t x46 rfl
  have x7 := A.e 0 7 rfl rfl
  replace m9 := Ob.below m9 hb
  replace bl := bgo bl hb
  replace sd := A.sd sd
  clear A hb
  clear x46
  show Code.wp _ _ _ _ _
  refine wr_s [.eq (.int .i64 ((j + 1 : Nat) : Int))] (by rw [sd.1]; kernel_rfl) ⟨fun hw ac u K => ?_, trivial⟩ ?_
  · exact st_addz (.tmp 38) (.const (.int .i64 1)) rfl _ _ _ (K.t x38 rfl) rfl (by omega) (by omega) (by omega)
  intro f17 w17 A hb
  replace x0 := A.t x0 rfl
  replace x1 := A.t x1 rfl
  replace x2 := A.t x2 rfl
  replace x12 := A.t x12 rfl
  replace x13 := A.t x13 rfl
  replace x14 := A.t x14 rfl
  replace x9 := A.t x9 rfl
  replace x36 := A.t x36 rfl
  replace x37 := A.t x37 rfl
  replace x38 := A.t x38 rfl
  replace x7 := A.t x7 rfl
  have x47 := A.e 0 47 rfl rfl
  replace m9 := Ob.below m9 hb
  replace bl := bgo bl hb
  replace sd := A.sd sd
  clear A hb
  refine wl_one (.eq (.int .i64 ((j + 1 : Nat) : Int))) rfl 38 rfl (by rw [sd.1]; decide) (st_move (.tmp 47) rfl x47) ?_
  intro f18 w18 df2 sz2 old2 new2 hb
  replace x0 := tr old2 x0 rfl
  replace x1 := tr old2 x1 rfl
  replace x2 := tr old2 x2 rfl
  replace x12 := tr old2 x12 rfl
  replace x13 := tr old2 x13 rfl
  replace x14 := tr old2 x14 rfl
  replace x9 := tr old2 x9 rfl
  replace x36 := tr old2 x36 rfl
  replace x37 := tr old2 x37 rfl
  clear x38
  replace x7 := tr old2 x7 rfl
  replace x47 := tr old2 x47 rfl
  have x38 := Fk.e new2
  replace m9 := Ob.below m9 hb
  replace bl := bgo bl hb
  replace sd := sd2 sz2 df2 sd
  clear df2 sz2 old2 new2 hb
  refine wpList_nil ?_
  clear x47
  show (∃ _, _) ∧ _
  refine ⟨⟨j + 1, 10, by omega, (.inr ⟨rfl, hsj.2 (.inr hpe)⟩), sd.1, sd.2, x0, x1, x2, x12, x13, x14, x9, x36, x37, x38, x7, m9, bl⟩, ?_⟩
  rw [show f18.eval (.tmp 38) = _ from x38, show _ = _ from hcnt2]
  first | (simp [intOf]; done) | (simp [intOf]; omega)
end Go.Proofs.Ytakdpkoigijonaa
namespace Go.Proofs.Ytakdpkoigijonaa
set_option maxRecDepth 100000
open Go.RowKit
theorem str_inj12 {a b : List (BitVec 8)} (h : str a = str b) : a = b := by
  have := congrArg (fun d => decide (d = str b)) h
  by_cases e : a = b
  · exact e
  · have h2 := str_dec a b
    simp [h, e] at h2
theorem fk_sameT {la lb : List (List (BitVec 8))} {ga gb Ca Cb : Nat} {w : World} (hla : la.length ≤ 1000) (hra : Rs w ga la) (hrb : Rs w gb lb) :
    Calls Try.prog 19 #[.slice (some ⟨ga, 0, none⟩) la.length Ca, .slice (some ⟨gb, 0, none⟩) lb.length Cb] w fun e w' => ∃ u, e = .returned u ∧ (Fk.eq (.bool (decide (la = lb)))).f u w' ∧ Below w.heap.size w w' := by
  go_enter Try.func19, Try.ntmps19
  refine code_both (fun f w1 => f.tmps.size = 26 ∧ f.defers = [] ∧ f.eval (.tmp 0) = .slice (some ⟨ga, 0, none⟩) la.length Ca ∧ f.eval (.tmp 1) = .slice (some ⟨gb, 0, none⟩) lb.length Cb ∧ Below w.heap.size w (w1)) ⟨rfl, rfl, rfl, rfl, Below.refl _ _⟩ ?_
  rintro f0 w0 ⟨sz, df, x0, x1, bl⟩
  have sd := And.intro sz df
  clear sz df
  have bl0 := bl
  refine wp_seq ?_
  refine wr_a [.eq (.bool false)] (by rw [sd.1]; kernel_rfl) ⟨fun hw ac u K => ?_, trivial⟩ ?_
  · exact st_assign (.const (.bool false)) rfl rfl
  intro f1 w1 A hb
  replace x0 := A.t x0 rfl
  replace x1 := A.t x1 rfl
  replace bl := bgo bl hb
  replace sd := A.sd sd
  clear A hb
  show Code.wp _ _ _ _ _
  refine wp_seq ?_
  refine wp_seq ?_
  by_cases hll : la.length = lb.length
  rotate_left
  · skip
    have hrv : (false : Bool) = decide (la = lb) := by symm; rw [decide_eq_false_iff_not]; exact fun e => hll (by rw [e])
    refine wr_a [.eq (.slice (some ⟨ga, 0, none⟩) la.length Ca), .eq (.int .i64 (la.length : Int)), .eq (.slice (some ⟨gb, 0, none⟩) lb.length Cb), .eq (.int .i64 (lb.length : Int)), .eq (.bool true)] (by rw [sd.1]; kernel_rfl) ⟨fun hw ac u K => ?_, fun hw ac u K => ?_, fun hw ac u K => ?_, fun hw ac u K => ?_, fun hw ac u K => ?_, trivial⟩ ?_
    · exact st_move (.tmp 0) rfl (K.t x0 rfl)
    · exact st_lens (.tmp 6) rfl (K.dep 0 6 rfl)
    · exact st_move (.tmp 1) rfl (K.t x1 rfl)
    · exact st_lens (.tmp 8) rfl (K.dep 2 8 rfl)
    · exact st_neqi 3 (.tmp 7) (.tmp 9) rfl .i64 ((la.length : Int)) ((lb.length : Int)) (K.dep 1 7 rfl) (K.dep 3 9 rfl) _ (by rw [eq_comm, decide_eq_true_iff]; omega)
    intro f2 w2 A hb
    replace x0 := A.t x0 rfl
    replace x1 := A.t x1 rfl
    have x10 := A.e 4 10 rfl rfl
    replace bl := bgo bl hb
    replace sd := A.sd sd
    clear A hb
    show Code.wp _ _ _ _ _
    refine wp_cond_true x10 ?_
    refine wp_seq ?_
    refine wr_a [.eq (.bool false)] (by rw [sd.1]; kernel_rfl) ⟨fun hw ac u K => ?_, trivial⟩ ?_
    · exact st_assign (.const (.bool false)) rfl rfl
    intro f3 w3 A hb
    replace x0 := A.t x0 rfl
    replace x1 := A.t x1 rfl
    replace x10 := A.t x10 rfl
    have x4 := A.e 0 4 rfl rfl
    replace bl := bgo bl hb
    replace sd := A.sd sd
    clear A hb
    clear x0
    clear x1
    clear x10
    show Code.wp _ _ _ _ _
    refine wp_ret ?_
    repeat (first | with_reducible refine then_ret ?_ | with_reducible refine block_ret ?_)
    exact bodyPost_ret (v := .bool false) (ret_slot rfl f3 _ x4 _ _) sd.2 ⟨_, rfl, by rw [← hrv]; rfl, bl⟩
  refine wr_a [.eq (.slice (some ⟨ga, 0, none⟩) la.length Ca), .eq (.int .i64 (la.length : Int)), .eq (.slice (some ⟨gb, 0, none⟩) lb.length Cb), .eq (.int .i64 (lb.length : Int)), .eq (.bool false)] (by rw [sd.1]; kernel_rfl) ⟨fun hw ac u K => ?_, fun hw ac u K => ?_, fun hw ac u K => ?_, fun hw ac u K => ?_, fun hw ac u K => ?_, trivial⟩ ?_
  · exact st_move (.tmp 0) rfl (K.t x0 rfl)
  · exact st_lens (.tmp 6) rfl (K.dep 0 6 rfl)
  · exact st_move (.tmp 1) rfl (K.t x1 rfl)
  · exact st_lens (.tmp 8) rfl (K.dep 2 8 rfl)
  · exact st_neqi 3 (.tmp 7) (.tmp 9) rfl .i64 ((la.length : Int)) ((lb.length : Int)) (K.dep 1 7 rfl) (K.dep 3 9 rfl) _ (by rw [eq_comm, decide_eq_false_iff_not]; omega)
  intro f2 w2 A hb
  replace x0 := A.t x0 rfl
  replace x1 := A.t x1 rfl
  have x10 := A.e 4 10 rfl rfl
  replace bl := bgo bl hb
  replace sd := A.sd sd
  clear A hb
  show Code.wp _ _ _ _ _
  refine wp_cond_false x10 ?_
  refine wp_skip ?_
  show Code.wp _ _ _ _ _
  refine wp_seq ?_
  refine wp_seq ?_
  refine wr_a [.eq (.slice (some ⟨ga, 0, none⟩) la.length Ca), .eq (.int .i64 (la.length : Int)), .eq (.int .i64 0)] (by rw [sd.1]; kernel_rfl) ⟨fun hw ac u K => ?_, fun hw ac u K => ?_, fun hw ac u K => ?_, trivial⟩ ?_
  · exact st_move (.tmp 0) rfl (K.t x0 rfl)
  · exact st_lens (.tmp 11) rfl (K.dep 0 11 rfl)
  · exact st_move (.const (.int .i64 0)) rfl rfl
  intro f3 w3 A hb
  replace x0 := A.t x0 rfl
  replace x1 := A.t x1 rfl
  replace x10 := A.t x10 rfl
  have x12 := A.e 1 12 rfl rfl
  have x13 := A.e 2 13 rfl rfl
  replace bl := bgo bl hb
  replace sd := A.sd sd
  clear A hb
  clear x10
  show Code.wp _ _ _ _ _
  refine wp_block ?_
  refine wp_loop (fun f v1 => ∃ k : Nat, k ≤ la.length ∧ la.take k = lb.take k ∧ f.tmps.size = 26 ∧ f.defers = [] ∧ f.eval (.tmp 0) = .slice (some ⟨ga, 0, none⟩) la.length Ca ∧ f.eval (.tmp 1) = .slice (some ⟨gb, 0, none⟩) lb.length Cb ∧ f.eval (.tmp 12) = .int .i64 (la.length : Int) ∧ f.eval (.tmp 13) = .int .i64 (k : Int) ∧ Below w.heap.size w (v1)) (fun f _ => la.length - (intOf (f.eval (.tmp 13))).toNat) ⟨0, Nat.zero_le _, rfl, sd.1, sd.2, x0, x1, x12, x13, bl⟩ ?_
  intro f4 w4 hI
  clear sd bl bl0 x0 x1 x12 x13
  obtain ⟨k, hk8, heq, sz, df, x0, x1, x12, x13, bl⟩ := hI
  have sd := And.intro sz df
  clear sz df
  have bl0 := bl
  have hcnt := x13
  refine wp_seq ?_
  by_cases hlt : k < la.length
  rotate_left
  · skip
    have hrv : (true : Bool) = decide (la = lb) := by symm; rw [decide_eq_true_iff]; rw [List.take_of_length_le (by omega), List.take_of_length_le (by omega)] at heq; exact heq
    refine wr_a [.eq (.bool false)] (by rw [sd.1]; kernel_rfl) ⟨fun hw ac u K => ?_, trivial⟩ ?_
    · exact st_lss 3 (.tmp 13) (.tmp 12) rfl .i64 ((k : Int)) ((la.length : Int)) (K.t x13 rfl) (K.t x12 rfl) _ (by rw [eq_comm, decide_eq_false_iff_not]; exact fun h => hlt (Int.ofNat_lt.1 h))
    intro f5 w5 A hb
    replace x0 := A.t x0 rfl
    replace x1 := A.t x1 rfl
    replace x12 := A.t x12 rfl
    replace x13 := A.t x13 rfl
    have x14 := A.e 0 14 rfl rfl
    replace bl := bgo bl hb
    replace sd := A.sd sd
    clear A hb
    show Code.wp _ _ _ _ _
    refine wp_seq ?_
    refine wp_cond_false x14 ?_
    refine wp_exit ?_
    show Code.wp _ _ _ _ _
    refine wp_seq ?_
    refine wr_a [.eq (.bool true)] (by rw [sd.1]; kernel_rfl) ⟨fun hw ac u K => ?_, trivial⟩ ?_
    · exact st_assign (.const (.bool true)) rfl rfl
    intro f6 w6 A hb
    replace x0 := A.t x0 rfl
    replace x1 := A.t x1 rfl
    replace x12 := A.t x12 rfl
    replace x13 := A.t x13 rfl
    replace x14 := A.t x14 rfl
    have x4 := A.e 0 4 rfl rfl
    replace bl := bgo bl hb
    replace sd := A.sd sd
    clear A hb
    clear x14
    show Code.wp _ _ _ _ _
    refine wp_ret ?_
    repeat (first | with_reducible refine then_ret ?_ | with_reducible refine block_ret ?_)
    exact bodyPost_ret (v := .bool true) (ret_slot rfl f6 _ x4 _ _) sd.2 ⟨_, rfl, by rw [← hrv]; rfl, bl⟩
  obtain ⟨xa, hxa⟩ : ∃ p, la[k]? = some p := ⟨_, List.getElem?_eq_getElem hlt⟩
  obtain ⟨xb, hxb⟩ : ∃ p, lb[k]? = some p := ⟨_, List.getElem?_eq_getElem (by omega)⟩
  refine wr_a [.eq (.bool true)] (by rw [sd.1]; kernel_rfl) ⟨fun hw ac u K => ?_, trivial⟩ ?_
  · exact st_lss 3 (.tmp 13) (.tmp 12) rfl .i64 ((k : Int)) ((la.length : Int)) (K.t x13 rfl) (K.t x12 rfl) _ (by rw [eq_comm, decide_eq_true_iff]; exact Int.ofNat_lt.2 hlt)
  intro f5 w5 A hb
  replace x0 := A.t x0 rfl
  replace x1 := A.t x1 rfl
  replace x12 := A.t x12 rfl
  replace x13 := A.t x13 rfl
  have x14 := A.e 0 14 rfl rfl
  replace bl := bgo bl hb
  replace sd := A.sd sd
  clear A hb
  show Code.wp _ _ _ _ _
  refine wp_seq ?_
  refine wp_cond_true x14 ?_
  refine wp_skip ?_
  show Code.wp _ _ _ _ _
  refine wp_seq ?_
  refine wp_block ?_
  refine wp_seq ?_
  refine wr_a [.eq (.int .i64 (k : Int)), .eq (.int .i64 (k : Int))] (by rw [sd.1]; kernel_rfl) ⟨fun hw ac u K => ?_, fun hw ac u K => ?_, trivial⟩ ?_
  · exact st_move (.tmp 13) rfl (K.t x13 rfl)
  · exact st_assign (.tmp 15) rfl (K.dep 0 15 rfl)
  intro f6 w6 A hb
  replace x0 := A.t x0 rfl
  replace x1 := A.t x1 rfl
  replace x12 := A.t x12 rfl
  replace x13 := A.t x13 rfl
  replace x14 := A.t x14 rfl
  have x5 := A.e 1 5 rfl rfl
  replace bl := bgo bl hb
  replace sd := A.sd sd
  clear A hb
  clear x14
  show Code.wp _ _ _ _ _
  refine wp_seq ?_
  by_cases hxe : xa = xb
  rotate_left
  · skip
    have hrv : (false : Bool) = decide (la = lb) := by symm; rw [decide_eq_false_iff_not]; exact fun e => hxe (by rw [e, hxb] at hxa; exact (Option.some.inj hxa).symm)
    refine wr_d [.eq (.slice (some ⟨ga, 0, none⟩) la.length Ca), .eq (.int .i64 (k : Int)), .eq (.pointer (some ⟨ga, k, none⟩)), .eq (.string (str xa)), .eq (.slice (some ⟨gb, 0, none⟩) lb.length Cb), .eq (.int .i64 (k : Int)), .eq (.pointer (some ⟨gb, k, none⟩)), .eq (.string (str xb)), .eq (.bool true)] Try.mixed (by rw [sd.1]; kernel_rfl) ⟨fun hw ac u K => ?_, fun hw ac u K => ?_, fun hw ac u K => ?_, fun hw ac u K => ?_, fun hw ac u K => ?_, fun hw ac u K => ?_, fun hw ac u K => ?_, fun hw ac u K => ?_, fun hw ac u K => ?_, trivial⟩ ?_
    · exact st_move (.tmp 0) rfl (K.t x0 rfl)
    · exact st_move (.tmp 5) rfl (K.t x5 rfl)
    · exact st_idxs (.tmp 16) (.tmp 17) rfl (K.dep 0 16 rfl) (k) (K.dep 1 17 rfl) hlt
    · exact st_loadc 9 (.tmp 18) rfl (by kernel_rfl) (K.dep 2 18 rfl) ((Rs.below hra (bgo bl K.grow)).cell hxa)
    · exact st_move (.tmp 1) rfl (K.t x1 rfl)
    · exact st_move (.tmp 5) rfl (K.t x5 rfl)
    · exact st_idxs (.tmp 20) (.tmp 21) rfl (K.dep 4 20 rfl) (k) (K.dep 5 21 rfl) (by omega)
    · exact st_loadc 9 (.tmp 22) rfl (by kernel_rfl) (K.dep 6 22 rfl) ((Rs.below hrb (bgo bl K.grow)).cell hxb)
    · exact st_nes (.tmp 19) (.tmp 23) rfl (str xa) (str xb) (K.dep 3 19 rfl) (K.dep 7 23 rfl) _ (by symm; rw [decide_eq_true_iff]; exact fun h => hxe (str_inj12 h))
    intro f7 w7 A hb
    replace x0 := A.t x0 rfl
    replace x1 := A.t x1 rfl
    replace x12 := A.t x12 rfl
    replace x13 := A.t x13 rfl
    replace x5 := A.t x5 rfl
    have x24 := A.e 8 24 rfl rfl
    replace bl := bgo bl hb
    replace sd := A.sd sd
    clear A hb
    clear x5
    show Code.wp _ _ _ _ _
    refine wp_cond_true x24 ?_
    refine wp_seq ?_
    refine wr_a [.eq (.bool false)] (by rw [sd.1]; kernel_rfl) ⟨fun hw ac u K => ?_, trivial⟩ ?_
    · exact st_assign (.const (.bool false)) rfl rfl
    intro f8 w8 A hb
    replace x0 := A.t x0 rfl
    replace x1 := A.t x1 rfl
    replace x12 := A.t x12 rfl
    replace x13 := A.t x13 rfl
    replace x24 := A.t x24 rfl
    have x4 := A.e 0 4 rfl rfl
    replace bl := bgo bl hb
    replace sd := A.sd sd
    clear A hb
    clear x24
    show Code.wp _ _ _ _ _
    refine wp_ret ?_
    repeat (first | with_reducible refine then_ret ?_ | with_reducible refine block_ret ?_)
    exact bodyPost_ret (v := .bool false) (ret_slot rfl f8 _ x4 _ _) sd.2 ⟨_, rfl, by rw [← hrv]; rfl, bl⟩
  refine wr_d [.eq (.slice (some ⟨ga, 0, none⟩) la.length Ca), .eq (.int .i64 (k : Int)), .eq (.pointer (some ⟨ga, k, none⟩)), .eq (.string (str xa)), .eq (.slice (some ⟨gb, 0, none⟩) lb.length Cb), .eq (.int .i64 (k : Int)), .eq (.pointer (some ⟨gb, k, none⟩)), .eq (.string (str xb)), .eq (.bool false)] Try.mixed (by rw [sd.1]; kernel_rfl) ⟨fun hw ac u K => ?_, fun hw ac u K => ?_, fun hw ac u K => ?_, fun hw ac u K => ?_, fun hw ac u K => ?_, fun hw ac u K => ?_, fun hw ac u K => ?_, fun hw ac u K => ?_, fun hw ac u K => ?_, trivial⟩ ?_
  · exact st_move (.tmp 0) rfl (K.t x0 rfl)
  · exact st_move (.tmp 5) rfl (K.t x5 rfl)
  · exact st_idxs (.tmp 16) (.tmp 17) rfl (K.dep 0 16 rfl) (k) (K.dep 1 17 rfl) hlt
  · exact st_loadc 9 (.tmp 18) rfl (by kernel_rfl) (K.dep 2 18 rfl) ((Rs.below hra (bgo bl K.grow)).cell hxa)
  · exact st_move (.tmp 1) rfl (K.t x1 rfl)
  · exact st_move (.tmp 5) rfl (K.t x5 rfl)
  · exact st_idxs (.tmp 20) (.tmp 21) rfl (K.dep 4 20 rfl) (k) (K.dep 5 21 rfl) (by omega)
  · exact st_loadc 9 (.tmp 22) rfl (by kernel_rfl) (K.dep 6 22 rfl) ((Rs.below hrb (bgo bl K.grow)).cell hxb)
  · exact st_nes (.tmp 19) (.tmp 23) rfl (str xa) (str xb) (K.dep 3 19 rfl) (K.dep 7 23 rfl) _ (by symm; rw [decide_eq_false_iff_not]; exact fun h => h (by rw [hxe]))
  intro f7 w7 A hb
  replace x0 := A.t x0 rfl
  replace x1 := A.t x1 rfl
  replace x12 := A.t x12 rfl
  replace x13 := A.t x13 rfl
  replace x5 := A.t x5 rfl
  have x24 := A.e 8 24 rfl rfl
  replace bl := bgo bl hb
  replace sd := A.sd sd
  clear A hb
  clear x5
  show Code.wp _ _ _ _ _
  refine wp_cond_false x24 ?_
  refine wp_skip ?_
  show Code.wp _ _ _ _ _
  refine wr_s [.eq (.int .i64 ((k + 1 : Nat) : Int))] (by rw [sd.1]; kernel_rfl) ⟨fun hw ac u K => ?_, trivial⟩ ?_
  · exact st_addz (.tmp 13) (.const (.int .i64 1)) rfl _ _ _ (K.t x13 rfl) rfl (by omega) (by omega) (by omega)
  intro f8 w8 A hb
  replace x0 := A.t x0 rfl
  replace x1 := A.t x1 rfl
  replace x12 := A.t x12 rfl
  replace x13 := A.t x13 rfl
  replace x24 := A.t x24 rfl
  have x25 := A.e 0 25 rfl rfl
  replace bl := bgo bl hb
  replace sd := A.sd sd
  clear A hb
  clear x24
  refine wl_one (.eq (.int .i64 ((k + 1 : Nat) : Int))) rfl 13 rfl (by rw [sd.1]; decide) (st_move (.tmp 25) rfl x25) ?_
  intro f9 w9 df2 sz2 old2 new2 hb
  replace x0 := tr old2 x0 rfl
  replace x1 := tr old2 x1 rfl
  replace x12 := tr old2 x12 rfl
  clear x13
  replace x25 := tr old2 x25 rfl
  have x13 := Fk.e new2
  replace bl := bgo bl hb
  replace sd := sd2 sz2 df2 sd
  clear df2 sz2 old2 new2 hb
  refine wpList_nil ?_
  clear x25
  show (∃ _, _) ∧ _
  refine ⟨⟨k + 1, by omega, (by rw [take_one12 hxa, take_one12 hxb, heq, hxe]), sd.1, sd.2, x0, x1, x12, x13, bl⟩, ?_⟩
  rw [show f9.eval (.tmp 13) = _ from x13, show _ = _ from hcnt]
  first | (simp [intOf]; done) | (simp [intOf]; omega)
end Go.Proofs.Ytakdpkoigijonaa
