/- The reference's Root. Root. An own slice of hashes that is cut is an own slice. The law's root. What the rows of this seat share: what the listed variable gives a walk, an array of bytes opened, the start that fits. A slice of bytes that came in, opened. A slice of hashes that came in, opened. Signatures and structs with them that came in, opened. Lists of slices of bytes in memory. Lists of slices of bytes that came in, opened: with the bounds of their sizes. -/
import Derived.Test.YtfmeeimhfdnjpaaDoorM4
import Derived.Test.YtfmeeimhfdnjpaaDoorRows
import Derived.Test.YtfmeeimhfdnjpaaDoorM2
import Derived.ProofKit
import Derived.LaidMore
import Derived.OpenShut
import Derived.ShutString
import Derived.ChangeOld
import Derived.Lib.LaidTab
import Derived.SevenTiedAt
import Derived.Deep.Slices
import Derived.Test.YtfmeeimhfdnjpaaDoorM3
import Derived.Deep.Strs
namespace Go.Proofs.YtfmeeimhfdnjpaaDoor
set_option maxRecDepth 100000
open Go.RowKit
theorem rops_len (n : Nat) : ∀ a, 1 ≤ n → (rops a n).length = 2 * n - 1 := by
  induction n using Nat.strongRecOn with
  | ind n ih =>
    intro a h1
    by_cases h2 : n = 1
    · subst h2; rw [rops_one]; rfl
    · have hs := spl_lt (n := n) (by omega)
      have hp := spl_pos n
      rw [rops_two a (by omega), List.length_append, List.length_append, ih (spl n) hs a hp, ih (n - spl n) (by omega) (a + spl n) (by omega)]
      simp only [List.length_cons, List.length_nil]
      omega
theorem rroot_any (n : Nat) : ∀ (a : Nat) (w : World), 1 ≤ n → a + n ≤ 1000 → Calls Tryd.prog 29 #[.int .i64 (a : Int), .int .i64 ((a + n : Nat) : Int)] w fun e w' => ∃ u, e = .returned u ∧ (Fk.oi w.heap.size (rops a n)).f u w' ∧ Below w.heap.size w w' := by
  induction n using Nat.strongRecOn with
  | ind n ih =>
  intro a w hn1 hle
  by_cases h1 : n = 1
  · skip
    go_enter Tryd.func29, Tryd.ntmps29
    refine code_both (fun f w1 => f.tmps.size = 34 ∧ f.defers = [] ∧ f.eval (.tmp 0) = .int .i64 (a : Int) ∧ f.eval (.tmp 1) = .int .i64 ((a + n : Nat) : Int) ∧ Below w.heap.size w (w1)) ⟨rfl, rfl, rfl, rfl, Below.refl _ _⟩ ?_
    rintro f0 w0 ⟨sz, df, x0, x1, bl⟩
    have sd := And.intro sz df
    clear sz df
    have bl0 := bl
    refine wp_seq ?_
    refine wr_a [.eq (.slice none 0 0)] (by rw [sd.1]; kernel_rfl) ⟨fun hw ac u K => ?_, trivial⟩ ?_
    · exact st_assign (.const (.slice none 0 0)) rfl rfl
    intro f1 w1 A hb
    replace x0 := A.t x0 rfl
    replace x1 := A.t x1 rfl
    replace bl := bgo bl hb
    replace sd := A.sd sd
    clear A hb
    show Code.wp _ _ _ _ _
    refine wp_seq ?_
    refine wp_seq ?_
    refine wr_a [.eq (.int .i64 ((a + n : Nat) : Int)), .eq (.int .i64 (a : Int)), .eq (.int .i64 (n : Int)), .eq (.bool true)] (by rw [sd.1]; kernel_rfl) ⟨fun hw ac u K => ?_, fun hw ac u K => ?_, fun hw ac u K => ?_, fun hw ac u K => ?_, trivial⟩ ?_
    · exact st_move (.tmp 1) rfl (K.t x1 rfl)
    · exact st_move (.tmp 0) rfl (K.t x0 rfl)
    · exact st_sub (.tmp 7) (.tmp 8) rfl (a + n) (a) (n) (K.dep 0 7 rfl) (K.dep 1 8 rfl) (by omega) (by omega)
    · exact st_eqi 3 (.tmp 9) (.const (.int .i64 1)) rfl .i64 ((n : Int)) (1) (K.dep 2 9 rfl) rfl _ (by rw [eq_comm, decide_eq_true_iff]; omega)
    intro f2 w2 A hb
    replace x0 := A.t x0 rfl
    replace x1 := A.t x1 rfl
    have x10 := A.e 3 10 rfl rfl
    replace bl := bgo bl hb
    replace sd := A.sd sd
    clear A hb
    show Code.wp _ _ _ _ _
    refine wp_cond_true x10 ?_
    refine wp_seq ?_
    refine wr_a [.eq (.int .i64 (a : Int)), .oi w.heap.size ([(a : Int)]), .oi w.heap.size ([(a : Int)])] (by rw [sd.1]; kernel_rfl) ⟨fun hw ac u K => ?_, fun hw ac u K => ?_, fun hw ac u K => ?_, trivial⟩ ?_
    · exact st_move (.tmp 0) rfl (K.t x0 rfl)
    · exact st_bi1 (.tmp 11) rfl _ (K.dep 0 11 rfl) _ (bgo bl K.grow).size
    · exact st_assign (.tmp 12) rfl (K.dep 1 12 rfl)
    intro f3 w3 A hb
    replace x0 := A.t x0 rfl
    replace x1 := A.t x1 rfl
    replace x10 := A.t x10 rfl
    have x4 : Fk.f (.oi w.heap.size ([(a : Int)])) (f3.eval (.tmp 4)) w3 := A.has 2 4 rfl
    replace bl := bgo bl hb
    replace sd := A.sd sd
    clear A hb
    clear x0
    clear x1
    clear x10
    show Code.wp _ _ _ _ _
    refine wp_ret ?_
    repeat (first | with_reducible refine then_ret ?_ | with_reducible refine block_ret ?_)
    rw [h1, rops_one]
    exact bodyPost_ret (v := f3.eval (.tmp 4)) (ret_slot rfl f3 _ rfl _ _) sd.2 ⟨_, rfl, x4, bl⟩
  · skip
    have h2 : 2 ≤ n := by omega
    obtain ⟨k, hk⟩ : ∃ k, spl n = k := ⟨_, rfl⟩
    have hk1 : k < n := by rw [← hk]; exact spl_lt h2
    have hk2 : 1 ≤ k := by rw [← hk]; exact spl_pos _
    have hto : a + n = (a + k) + (n - k) := by omega
    go_enter Tryd.func29, Tryd.ntmps29
    refine code_both (fun f w1 => f.tmps.size = 34 ∧ f.defers = [] ∧ f.eval (.tmp 0) = .int .i64 (a : Int) ∧ f.eval (.tmp 1) = .int .i64 ((a + n : Nat) : Int) ∧ Below w.heap.size w (w1)) ⟨rfl, rfl, rfl, rfl, Below.refl _ _⟩ ?_
    rintro f0 w0 ⟨sz, df, x0, x1, bl⟩
    have sd := And.intro sz df
    clear sz df
    have bl0 := bl
    refine wp_seq ?_
    refine wr_a [.eq (.slice none 0 0)] (by rw [sd.1]; kernel_rfl) ⟨fun hw ac u K => ?_, trivial⟩ ?_
    · exact st_assign (.const (.slice none 0 0)) rfl rfl
    intro f1 w1 A hb
    replace x0 := A.t x0 rfl
    replace x1 := A.t x1 rfl
    replace bl := bgo bl hb
    replace sd := A.sd sd
    clear A hb
    show Code.wp _ _ _ _ _
    refine wp_seq ?_
    refine wp_seq ?_
    refine wr_a [.eq (.int .i64 ((a + n : Nat) : Int)), .eq (.int .i64 (a : Int)), .eq (.int .i64 (n : Int)), .eq (.bool false)] (by rw [sd.1]; kernel_rfl) ⟨fun hw ac u K => ?_, fun hw ac u K => ?_, fun hw ac u K => ?_, fun hw ac u K => ?_, trivial⟩ ?_
    · exact st_move (.tmp 1) rfl (K.t x1 rfl)
    · exact st_move (.tmp 0) rfl (K.t x0 rfl)
    · exact st_sub (.tmp 7) (.tmp 8) rfl (a + n) (a) (n) (K.dep 0 7 rfl) (K.dep 1 8 rfl) (by omega) (by omega)
    · exact st_eqi 3 (.tmp 9) (.const (.int .i64 1)) rfl .i64 ((n : Int)) (1) (K.dep 2 9 rfl) rfl _ (by rw [eq_comm, decide_eq_false_iff_not]; omega)
    intro f2 w2 A hb
    replace x0 := A.t x0 rfl
    replace x1 := A.t x1 rfl
    have x10 := A.e 3 10 rfl rfl
    replace bl := bgo bl hb
    replace sd := A.sd sd
    clear A hb
    show Code.wp _ _ _ _ _
    refine wp_cond_false x10 ?_
    refine wp_skip ?_
    show Code.wp _ _ _ _ _
    refine wp_seq ?_
    refine wr_a [.eq (.int .i64 ((a + n : Nat) : Int)), .eq (.int .i64 (a : Int)), .eq (.int .i64 (n : Int)), .eq (.int .i64 (k : Int)), .eq (.int .i64 (k : Int))] (by rw [sd.1]; kernel_rfl) ⟨fun hw ac u K => ?_, fun hw ac u K => ?_, fun hw ac u K => ?_, fun hw ac u K => ?_, fun hw ac u K => ?_, trivial⟩ ?_
    · exact st_move (.tmp 1) rfl (K.t x1 rfl)
    · exact st_move (.tmp 0) rfl (K.t x0 rfl)
    · exact st_sub (.tmp 13) (.tmp 14) rfl (a + n) (a) (n) (K.dep 0 13 rfl) (K.dep 1 14 rfl) (by omega) (by omega)
    · exact st_call 44 (.func 44) _ _ _ rfl rfl (one_arg (K.dep 2 15 rfl)) Tryd.enter44 (by rw [← hk]; exact fk_of (rsplit_any n h2 (by omega) _))
    · exact st_assign (.tmp 16) rfl (K.dep 3 16 rfl)
    intro f3 w3 A hb
    replace x0 := A.t x0 rfl
    replace x1 := A.t x1 rfl
    replace x10 := A.t x10 rfl
    have x5 := A.e 4 5 rfl rfl
    replace bl := bgo bl hb
    replace sd := A.sd sd
    clear A hb
    clear x10
    show Code.wp _ _ _ _ _
    refine wp_seq ?_
    refine wr_a [.oi w.heap.size ([])] (by rw [sd.1]; kernel_rfl) ⟨fun hw ac u K => ?_, trivial⟩ ?_
    · exact st_assign (.const (.slice none 0 0)) rfl (oi_nil _ _)
    intro f4 w4 A hb
    replace x0 := A.t x0 rfl
    replace x1 := A.t x1 rfl
    replace x5 := A.t x5 rfl
    have x6 : Fk.f (.oi w.heap.size ([])) (f4.eval (.tmp 6)) w4 := A.has 0 6 rfl
    replace bl := bgo bl hb
    replace sd := A.sd sd
    clear A hb
    show Code.wp _ _ _ _ _
    refine wp_seq ?_
    refine wr_s [.oi w.heap.size ([]), .eq (.int .i64 (a : Int)), .eq (.int .i64 (a : Int)), .eq (.int .i64 (k : Int)), .eq (.int .i64 ((a + k : Nat) : Int)), .oi w.heap.size (rops a k)] (by rw [sd.1]; kernel_rfl) ⟨fun hw ac u K => ?_, fun hw ac u K => ?_, fun hw ac u K => ?_, fun hw ac u K => ?_, fun hw ac u K => ?_, fun hw ac u K => ?_, trivial⟩ ?_
    · exact st_move (.tmp 6) rfl (f_at (K.old 6 rfl) (Fk.mono _ _ _ _ x6 K.grow))
    · exact st_move (.tmp 0) rfl (K.t x0 rfl)
    · exact st_move (.tmp 0) rfl (K.t x0 rfl)
    · exact st_move (.tmp 5) rfl (K.t x5 rfl)
    · exact st_add (.tmp 19) (.tmp 20) rfl (a) (k) (a + k) (K.dep 2 19 rfl) (K.dep 3 20 rfl) (by omega) (by omega)
    · exact st_call 29 (.func 29) _ _ _ rfl rfl (arg2 (K.dep 1 18 rfl) (K.dep 4 21 rfl)) Tryd.enter29 (fk_orw (bgo bl K.grow).size (ih k (by omega) a _ hk2 (by omega)))
    intro f5 w5 A hb
    replace x0 := A.t x0 rfl
    replace x1 := A.t x1 rfl
    replace x5 := A.t x5 rfl
    replace x6 := f_at (A.old 6 rfl) (Fk.mono _ _ _ _ x6 hb)
    have x17 : Fk.f (.oi w.heap.size ([])) (f5.eval (.tmp 17)) w5 := A.has 0 17 rfl
    have x22 : Fk.f (.oi w.heap.size (rops a k)) (f5.eval (.tmp 22)) w5 := A.has 5 22 rfl
    replace bl := bgo bl hb
    replace sd := A.sd sd
    clear A hb
    refine wl_appendi rfl (.tmp 17) (.tmp 22) rfl 23 rfl (by rw [sd.1]; decide) x17 x22 (by rw [rops_len k a hk2]; omega) bl (by rw [rops_len k a hk2]; simp; omega) ?_
    intro f6 w6 df2 sz2 old2 new2 bl2
    clear x6
    clear x17
    clear x22
    replace x0 := tr old2 x0 rfl
    replace x1 := tr old2 x1 rfl
    replace x5 := tr old2 x5 rfl
    have x23 : Fk.f (.oi w.heap.size (rops a k)) (f6.eval (.tmp 23)) w6 := new2
    replace bl := bl2
    replace bl0 := bl
    replace sd := sd2 sz2 df2 sd
    clear df2 sz2 old2 new2 bl2
    refine wl_one (.oi w.heap.size (rops a k)) rfl 6 rfl (by rw [sd.1]; decide) (st_assign (.tmp 23) rfl x23) ?_
    intro f7 w7 df2 sz2 old2 new2 hb
    replace x0 := tr old2 x0 rfl
    replace x1 := tr old2 x1 rfl
    replace x5 := tr old2 x5 rfl
    replace x23 := f_at (old2 23 rfl) (Fk.mono _ _ _ _ x23 hb)
    have x6 : Fk.f (.oi w.heap.size (rops a k)) (f7.eval (.tmp 6)) w7 := new2
    replace bl := bgo bl hb
    replace sd := sd2 sz2 df2 sd
    clear df2 sz2 old2 new2 hb
    refine wpList_nil ?_
    clear x23
    show Code.wp _ _ _ _ _
    refine wp_seq ?_
    refine wr_s [.oi w.heap.size (rops a k), .eq (.int .i64 (a : Int)), .eq (.int .i64 (k : Int)), .eq (.int .i64 ((a + k : Nat) : Int)), .eq (.int .i64 ((a + n : Nat) : Int)), .oi w.heap.size (rops (a + k) (n - k))] (by rw [sd.1]; kernel_rfl) ⟨fun hw ac u K => ?_, fun hw ac u K => ?_, fun hw ac u K => ?_, fun hw ac u K => ?_, fun hw ac u K => ?_, fun hw ac u K => ?_, trivial⟩ ?_
    · exact st_move (.tmp 6) rfl (f_at (K.old 6 rfl) (Fk.mono _ _ _ _ x6 K.grow))
    · exact st_move (.tmp 0) rfl (K.t x0 rfl)
    · exact st_move (.tmp 5) rfl (K.t x5 rfl)
    · exact st_add (.tmp 25) (.tmp 26) rfl (a) (k) (a + k) (K.dep 1 25 rfl) (K.dep 2 26 rfl) (by omega) (by omega)
    · exact st_move (.tmp 1) rfl (K.t x1 rfl)
    · exact st_call 29 (.func 29) _ _ _ rfl rfl (arg2 (K.dep 3 27 rfl) (K.dep 4 28 rfl)) Tryd.enter29 (fk_orw (bgo bl K.grow).size (by rw [hto]; exact ih (n - k) (by omega) (a + k) _ (by omega) (by omega)))
    intro f8 w8 A hb
    replace x0 := A.t x0 rfl
    replace x1 := A.t x1 rfl
    replace x5 := A.t x5 rfl
    replace x6 := f_at (A.old 6 rfl) (Fk.mono _ _ _ _ x6 hb)
    have x24 : Fk.f (.oi w.heap.size (rops a k)) (f8.eval (.tmp 24)) w8 := A.has 0 24 rfl
    have x29 : Fk.f (.oi w.heap.size (rops (a + k) (n - k))) (f8.eval (.tmp 29)) w8 := A.has 5 29 rfl
    replace bl := bgo bl hb
    replace sd := A.sd sd
    clear A hb
    clear x0
    clear x1
    clear x5
    refine wl_appendi rfl (.tmp 24) (.tmp 29) rfl 30 rfl (by rw [sd.1]; decide) x24 x29 (by rw [rops_len _ _ (by omega)]; omega) bl (by rw [rops_len k a hk2, rops_len _ _ (by omega)]; omega) ?_
    intro f9 w9 df2 sz2 old2 new2 bl2
    clear x6
    clear x24
    clear x29
    have x30 : Fk.f (.oi w.heap.size (rops a k ++ rops (a + k) (n - k))) (f9.eval (.tmp 30)) w9 := new2
    replace bl := bl2
    replace bl0 := bl
    replace sd := sd2 sz2 df2 sd
    clear df2 sz2 old2 new2 bl2
    refine wl_one (.oi w.heap.size (rops a k ++ rops (a + k) (n - k))) rfl 6 rfl (by rw [sd.1]; decide) (st_assign (.tmp 30) rfl x30) ?_
    intro f10 w10 df2 sz2 old2 new2 hb
    replace x30 := f_at (old2 30 rfl) (Fk.mono _ _ _ _ x30 hb)
    have x6 : Fk.f (.oi w.heap.size (rops a k ++ rops (a + k) (n - k))) (f10.eval (.tmp 6)) w10 := new2
    replace bl := bgo bl hb
    replace sd := sd2 sz2 df2 sd
    clear df2 sz2 old2 new2 hb
    refine wpList_nil ?_
    clear x30
    show Code.wp _ _ _ _ _
    refine wp_seq ?_
    refine wr_s [.oi w.heap.size (rops a k ++ rops (a + k) (n - k)), .oi w.heap.size ([-1])] (by rw [sd.1]; kernel_rfl) ⟨fun hw ac u K => ?_, fun hw ac u K => ?_, trivial⟩ ?_
    · exact st_move (.tmp 6) rfl (f_at (K.old 6 rfl) (Fk.mono _ _ _ _ x6 K.grow))
    · exact st_bi1 (.const (.int .i64 (-1))) rfl _ rfl _ (bgo bl K.grow).size
    intro f11 w11 A hb
    replace x6 := f_at (A.old 6 rfl) (Fk.mono _ _ _ _ x6 hb)
    have x31 : Fk.f (.oi w.heap.size (rops a k ++ rops (a + k) (n - k))) (f11.eval (.tmp 31)) w11 := A.has 0 31 rfl
    have x32 : Fk.f (.oi w.heap.size ([-1])) (f11.eval (.tmp 32)) w11 := A.has 1 32 rfl
    replace bl := bgo bl hb
    replace sd := A.sd sd
    clear A hb
    clear x6
    refine wl_appendi rfl (.tmp 31) (.tmp 32) rfl 33 rfl (by rw [sd.1]; decide) x31 x32 (by simp) bl (by rw [List.length_append, rops_len k a hk2, rops_len _ _ (by omega)]; simp only [List.length_cons, List.length_nil]; omega) ?_
    intro f12 w12 df2 sz2 old2 new2 bl2
    clear x31
    clear x32
    have x33 : Fk.f (.oi w.heap.size ((rops a k ++ rops (a + k) (n - k)) ++ [-1])) (f12.eval (.tmp 33)) w12 := new2
    replace bl := bl2
    replace bl0 := bl
    replace sd := sd2 sz2 df2 sd
    clear df2 sz2 old2 new2 bl2
    refine wl_one (.oi w.heap.size ((rops a k ++ rops (a + k) (n - k)) ++ [-1])) rfl 4 rfl (by rw [sd.1]; decide) (st_assign (.tmp 33) rfl x33) ?_
    intro f13 w13 df2 sz2 old2 new2 hb
    replace x33 := f_at (old2 33 rfl) (Fk.mono _ _ _ _ x33 hb)
    have x4 : Fk.f (.oi w.heap.size ((rops a k ++ rops (a + k) (n - k)) ++ [-1])) (f13.eval (.tmp 4)) w13 := new2
    replace bl := bgo bl hb
    replace sd := sd2 sz2 df2 sd
    clear df2 sz2 old2 new2 hb
    refine wpList_nil ?_
    clear x33
    show Code.wp _ _ _ _ _
    refine wp_ret ?_
    repeat (first | with_reducible refine then_ret ?_ | with_reducible refine block_ret ?_)
    rw [List.append_assoc] at x4
    rw [rops_two a h2, hk]
    exact bodyPost_ret (v := f13.eval (.tmp 4)) (ret_slot rfl f13 _ rfl _ _) sd.2 ⟨_, rfl, x4, bl⟩
end Go.Proofs.YtfmeeimhfdnjpaaDoor
namespace Go.Proofs.YtfmeeimhfdnjpaaDoor
set_option maxRecDepth 100000
open Go.RowKit
theorem sl_nil (w : World) : (Fk.sl []).f (.slice none 0 0) w := ⟨none, 0, 0, 0, 0, rfl, ⟨rfl, Nat.le_refl _, fun _ => ⟨rfl, rfl⟩, fun h => absurd h (by decide)⟩⟩
theorem hc_nil (w : World) : (Fk.hc []).f (.slice none 0 0) w := ⟨none, 0, 0, 0, rfl, Nat.le_refl _, fun h => absurd h (by decide), fun h => absurd h (by decide), fun i x hi => by simp at hi⟩
theorem hc_len {l : List (List (BitVec 8))} {v : Value} {w : World} (h : (Fk.hc l).f v w) : ∀ x ∈ l, x.length = 32 := by
  intro x hx
  obtain ⟨i, hi, rfl⟩ := List.getElem_of_mem hx
  obtain ⟨A, C, lb, lo, e, _, hl⟩ := h
  exact (hl.all i _ (List.getElem?_eq_getElem hi)).1
theorem mroot_len {l : List (List (BitVec 8))} (h : ∀ x ∈ l, x.length = 32) : (mroot l).length = 32 := by
  match l, h with
  | [], _ => rw [mroot_nil]; exact shaOf_len _
  | [x], h => rw [mroot_one]; exact h x (by simp)
  | x :: y :: r, _ => rw [mroot_two (by simp)]; exact nd_len _ _
theorem mroot_le1 {l : List (List (BitVec 8))} (h : l.length = 1) : ∃ x, l = [x] := by
  match l, h with
  | [x], _ => exact ⟨x, rfl⟩
theorem root_any (l : List (List (BitVec 8))) (w : World) (v : Value) (h1000 : l.length ≤ 1000) (hv : (Fk.hc l).f v w) (hK : Tab w) {y : List (BitVec 8)} (ey : Box (mroot l = y)) :
    Calls Tryd.prog 19 #[v] w fun e w' => e = .returned (.agg ((y).map V).toArray) ∧ Below w.heap.size w w' := by
  suffices H : ∀ (n : Nat) (l : List (List (BitVec 8))), l.length = n → ∀ (w : World) (v : Value), l.length ≤ 1000 → (Fk.hc l).f v w → Tab w → ∀ {y : List (BitVec 8)}, Box (mroot l = y) → Calls Tryd.prog 19 #[v] w fun e w' => e = .returned (.agg ((y).map V).toArray) ∧ Below w.heap.size w w' from H _ l rfl w v h1000 hv hK ey
  intro n
  induction n using Nat.strongRecOn with
  | ind n ih0 =>
  intro l hn w v h1000 hv hK y ey
  have ih : ∀ (l' : List (List (BitVec 8))), l'.length < n → ∀ (w : World) (v : Value), l'.length ≤ 1000 → (Fk.hc l').f v w → Tab w → ∀ {y : List (BitVec 8)}, Box (mroot l' = y) → Calls Tryd.prog 19 #[v] w fun e w' => e = .returned (.agg ((y).map V).toArray) ∧ Below w.heap.size w w' := fun l' hl' => ih0 _ hl' l' rfl
  clear ih0
  have hy : y.length = 32 := by rw [← ey.out]; exact mroot_len (hc_len hv)
  have hvs := hc_hs hv
  have hnil := sl_nil w
  by_cases h0 : l.length = 0
  · obtain rfl := List.eq_nil_of_length_eq_zero h0
    have eys : shaOf [] = y := by rw [← ey.out, mroot_nil]
    go_enter Tryd.func19, Tryd.ntmps19
    refine code_both (fun f w1 => f.tmps.size = 26 ∧ f.defers = [] ∧ f.eval (.tmp 0) = v ∧ Below w.heap.size w (w1)) ⟨rfl, rfl, rfl, Below.refl _ _⟩ ?_
    rintro f0 w0 ⟨sz, df, x0, bl⟩
    have sd := And.intro sz df
    clear sz df
    have bl0 := bl
    refine wp_seq ?_
    refine wr_a [.nw w0.heap.size 33 ((hz).map V)] (by rw [sd.1]; kernel_rfl) ⟨fun hw ac u K => ?_, trivial⟩ ?_
    · exact st_alloc33 rfl _ K.grow.size
    intro f1 w1 A hb
    replace bl0 := bl
    replace x0 := A.t x0 rfl
    have x2 : Fk.f (.nw w0.heap.size 33 ((hz).map V)) (f1.eval (.tmp 2)) w1 := A.has 0 2 rfl
    replace bl := bgo bl hb
    replace sd := A.sd sd
    clear A hb
    obtain ⟨g2, hg2, e2, m2⟩ := x2
    have x2 := e2
    clear e2
    have hw2 : w.heap.size ≤ g2 := Nat.le_trans bl0.size hg2
    show Code.wp _ _ _ _ _
    refine wp_seq ?_
    refine wp_seq ?_
    refine wr_a [.eq (v), .eq (.int .i64 ((0 : Nat) : Int))] (by rw [sd.1]; kernel_rfl) ⟨fun hw ac u K => ?_, fun hw ac u K => ?_, trivial⟩ ?_
    · exact st_move (.tmp 0) rfl (K.t x0 rfl)
    · exact st_lenc (.tmp 4) rfl (0) rfl (fk_val (K.dep 0 4 rfl) (Fk.mono _ _ _ _ hv (bgo bl K.grow)))
    intro f2 w2 A hb
    replace x0 := A.t x0 rfl
    replace x2 := A.t x2 rfl
    have x5 := A.e 1 5 rfl rfl
    replace m2 := Ob.below m2 hb
    replace bl := bgo bl hb
    replace sd := A.sd sd
    clear A hb
    show Code.wp _ _ _ _ _
    refine wp_block ?_
    refine wp_seq ?_
    refine wr_a [.eq (.bool true), .eq (.bool true)] (by rw [sd.1]; kernel_rfl) ⟨fun hw ac u K => ?_, fun hw ac u K => ?_, trivial⟩ ?_
    · exact st_eqi 3 (.tmp 5) (.const (.int .i64 0)) rfl .i64 (((0 : Nat) : Int)) (0) (K.t x5 rfl) rfl _ (by simp)
    · exact st_assign (.tmp 7) rfl (K.dep 0 7 rfl)
    intro f3 w3 A hb
    replace x0 := A.t x0 rfl
    replace x2 := A.t x2 rfl
    replace x5 := A.t x5 rfl
    have x6 := A.e 1 6 rfl rfl
    replace m2 := Ob.below m2 hb
    replace bl := bgo bl hb
    replace sd := A.sd sd
    clear A hb
    show Code.wp _ _ _ _ _
    refine wp_cond_true x6 ?_
    refine wp_seq ?_
    refine wr_s [.eq (.agg ((y).map V).toArray)] (by rw [sd.1]; kernel_rfl) ⟨fun hw ac u K => ?_, trivial⟩ ?_
    · exact st_call 26 (.func 26) _ _ _ rfl rfl (one_arg rfl) Tryd.enter26 (by rw [← eys]; exact fk_sum (by simp) (hK.below (bgo bl K.grow)) (Fk.mono _ _ _ _ hnil (bgo bl K.grow)))
    intro f4 w4 A hb
    replace x0 := A.t x0 rfl
    replace x2 := A.t x2 rfl
    replace x5 := A.t x5 rfl
    replace x6 := A.t x6 rfl
    have x8 := A.e 0 8 rfl rfl
    replace m2 := Ob.below m2 hb
    replace bl := bgo bl hb
    replace sd := A.sd sd
    clear A hb
    clear x0
    clear x5
    clear x6
    refine wl_store rfl (.tmp 2) (.tmp 8) rfl rfl (g2) (y) (hz) x2 x8 m2 hz_len hy ?_
    replace m2 : Ob (w4.setRow g2 ((y).map V : List Value).toArray) (g2) 33 ((y).map V) := Ob.setRow m2 ((y).map V)
    replace bl : Below w.heap.size w (w4.setRow g2 ((y).map V : List Value).toArray) := bl.trans (below_setRow _ _ _ _ hw2)
    generalize w4.setRow g2 ((y).map V : List Value).toArray = w5b at bl m2 ⊢
    refine wpList_nil ?_
    clear x8
    show Code.wp _ _ _ _ _
    refine wp_ret ?_
    repeat (first | with_reducible refine then_ret ?_ | with_reducible refine block_ret ?_)
    exact bodyPost_ret (v := .agg ((y).map V).toArray) (ret_hash rfl f4 _ g2 (y) hy x2 m2) sd.2 ⟨rfl, bl⟩
  by_cases h1 : l.length = 1
  · obtain ⟨x, rfl⟩ := mroot_le1 h1
    obtain rfl : x = y := by rw [← ey.out, mroot_one]
    go_enter Tryd.func19, Tryd.ntmps19
    refine code_both (fun f w1 => f.tmps.size = 26 ∧ f.defers = [] ∧ f.eval (.tmp 0) = v ∧ Below w.heap.size w (w1)) ⟨rfl, rfl, rfl, Below.refl _ _⟩ ?_
    rintro f0 w0 ⟨sz, df, x0, bl⟩
    have sd := And.intro sz df
    clear sz df
    have bl0 := bl
    refine wp_seq ?_
    refine wr_a [.nw w0.heap.size 33 ((hz).map V)] (by rw [sd.1]; kernel_rfl) ⟨fun hw ac u K => ?_, trivial⟩ ?_
    · exact st_alloc33 rfl _ K.grow.size
    intro f1 w1 A hb
    replace bl0 := bl
    replace x0 := A.t x0 rfl
    have x2 : Fk.f (.nw w0.heap.size 33 ((hz).map V)) (f1.eval (.tmp 2)) w1 := A.has 0 2 rfl
    replace bl := bgo bl hb
    replace sd := A.sd sd
    clear A hb
    obtain ⟨g2, hg2, e2, m2⟩ := x2
    have x2 := e2
    clear e2
    have hw2 : w.heap.size ≤ g2 := Nat.le_trans bl0.size hg2
    show Code.wp _ _ _ _ _
    refine wp_seq ?_
    refine wp_seq ?_
    refine wr_a [.eq (v), .eq (.int .i64 ((1 : Nat) : Int))] (by rw [sd.1]; kernel_rfl) ⟨fun hw ac u K => ?_, fun hw ac u K => ?_, trivial⟩ ?_
    · exact st_move (.tmp 0) rfl (K.t x0 rfl)
    · exact st_lenc (.tmp 4) rfl (1) rfl (fk_val (K.dep 0 4 rfl) (Fk.mono _ _ _ _ hv (bgo bl K.grow)))
    intro f2 w2 A hb
    replace x0 := A.t x0 rfl
    replace x2 := A.t x2 rfl
    have x5 := A.e 1 5 rfl rfl
    replace m2 := Ob.below m2 hb
    replace bl := bgo bl hb
    replace sd := A.sd sd
    clear A hb
    show Code.wp _ _ _ _ _
    refine wp_block ?_
    refine wp_seq ?_
    refine wr_a [.eq (.bool false), .eq (.bool false)] (by rw [sd.1]; kernel_rfl) ⟨fun hw ac u K => ?_, fun hw ac u K => ?_, trivial⟩ ?_
    · exact st_eqi 3 (.tmp 5) (.const (.int .i64 0)) rfl .i64 (((1 : Nat) : Int)) (0) (K.t x5 rfl) rfl _ (by simp)
    · exact st_assign (.tmp 7) rfl (K.dep 0 7 rfl)
    intro f3 w3 A hb
    replace x0 := A.t x0 rfl
    replace x2 := A.t x2 rfl
    replace x5 := A.t x5 rfl
    have x6 := A.e 1 6 rfl rfl
    replace m2 := Ob.below m2 hb
    replace bl := bgo bl hb
    replace sd := A.sd sd
    clear A hb
    show Code.wp _ _ _ _ _
    refine wp_cond_false x6 ?_
    refine wp_seq ?_
    refine wr_a [.eq (.bool true), .eq (.bool true)] (by rw [sd.1]; kernel_rfl) ⟨fun hw ac u K => ?_, fun hw ac u K => ?_, trivial⟩ ?_
    · exact st_eqi 3 (.tmp 5) (.const (.int .i64 1)) rfl .i64 (((1 : Nat) : Int)) (1) (K.t x5 rfl) rfl _ (by simp)
    · exact st_assign (.tmp 10) rfl (K.dep 0 10 rfl)
    intro f4 w4 A hb
    replace x0 := A.t x0 rfl
    replace x2 := A.t x2 rfl
    replace x5 := A.t x5 rfl
    replace x6 := A.t x6 rfl
    have x9 := A.e 1 9 rfl rfl
    replace m2 := Ob.below m2 hb
    replace bl := bgo bl hb
    replace sd := A.sd sd
    clear A hb
    clear x5
    clear x6
    show Code.wp _ _ _ _ _
    refine wp_cond_true x9 ?_
    refine wp_seq ?_
    refine wr_s [.eq (v), .ph (x), .eq (.agg ((x).map V).toArray)] (by rw [sd.1]; kernel_rfl) ⟨fun hw ac u K => ?_, fun hw ac u K => ?_, fun hw ac u K => ?_, trivial⟩ ?_
    · exact st_move (.tmp 0) rfl (K.t x0 rfl)
    · exact st_idxh (.tmp 11) (.const (.int .i64 0)) rfl (fk_val (K.dep 0 11 rfl) (Fk.mono _ _ _ _ hvs (bgo bl K.grow))) (0) (x) rfl rfl
    · exact st_loadh (.tmp 12) rfl (K.dep 1 12 rfl)
    intro f5 w5 A hb
    replace x0 := A.t x0 rfl
    replace x2 := A.t x2 rfl
    replace x9 := A.t x9 rfl
    have x13 := A.e 2 13 rfl rfl
    replace m2 := Ob.below m2 hb
    replace bl := bgo bl hb
    replace sd := A.sd sd
    clear A hb
    clear x0
    clear x9
    refine wl_store rfl (.tmp 2) (.tmp 13) rfl rfl (g2) (x) (hz) x2 x13 m2 hz_len hy ?_
    replace m2 : Ob (w5.setRow g2 ((x).map V : List Value).toArray) (g2) 33 ((x).map V) := Ob.setRow m2 ((x).map V)
    replace bl : Below w.heap.size w (w5.setRow g2 ((x).map V : List Value).toArray) := bl.trans (below_setRow _ _ _ _ hw2)
    generalize w5.setRow g2 ((x).map V : List Value).toArray = w6b at bl m2 ⊢
    refine wpList_nil ?_
    clear x13
    show Code.wp _ _ _ _ _
    refine wp_ret ?_
    repeat (first | with_reducible refine then_ret ?_ | with_reducible refine block_ret ?_)
    exact bodyPost_ret (v := .agg ((x).map V).toArray) (ret_hash rfl f5 _ g2 (x) hy x2 m2) sd.2 ⟨rfl, bl⟩
  · have h2 : 2 ≤ l.length := by omega
    obtain ⟨k, hk⟩ : ∃ k, spl l.length = k := ⟨_, rfl⟩
    have hk1 : k < l.length := by rw [← hk]; exact spl_lt h2
    have hk2 : 1 ≤ k := by rw [← hk]; exact spl_pos _
    obtain ⟨y1, ey1⟩ : ∃ p, Box (mroot (l.take k) = p) := ⟨_, ⟨rfl⟩⟩
    obtain ⟨y2, ey2⟩ : ∃ p, Box (mroot (l.drop k) = p) := ⟨_, ⟨rfl⟩⟩
    have hy1 : y1.length = 32 := by rw [← ey1.out]; exact mroot_len (fun x hx => hc_len hv x (List.mem_of_mem_take hx))
    have hy2 : y2.length = 32 := by rw [← ey2.out]; exact mroot_len (fun x hx => hc_len hv x (List.mem_of_mem_drop hx))
    have eyn : Box (nd y1 y2 = y) := ⟨by rw [← ey1.out, ← ey2.out, ← ey.out, mroot_two h2, hk]⟩
    go_enter Tryd.func19, Tryd.ntmps19
    refine code_both (fun f w1 => f.tmps.size = 26 ∧ f.defers = [] ∧ f.eval (.tmp 0) = v ∧ Below w.heap.size w (w1)) ⟨rfl, rfl, rfl, Below.refl _ _⟩ ?_
    rintro f0 w0 ⟨sz, df, x0, bl⟩
    have sd := And.intro sz df
    clear sz df
    have bl0 := bl
    refine wp_seq ?_
    refine wr_a [.nw w0.heap.size 33 ((hz).map V)] (by rw [sd.1]; kernel_rfl) ⟨fun hw ac u K => ?_, trivial⟩ ?_
    · exact st_alloc33 rfl _ K.grow.size
    intro f1 w1 A hb
    replace bl0 := bl
    replace x0 := A.t x0 rfl
    have x2 : Fk.f (.nw w0.heap.size 33 ((hz).map V)) (f1.eval (.tmp 2)) w1 := A.has 0 2 rfl
    replace bl := bgo bl hb
    replace sd := A.sd sd
    clear A hb
    obtain ⟨g2, hg2, e2, m2⟩ := x2
    have x2 := e2
    clear e2
    have hw2 : w.heap.size ≤ g2 := Nat.le_trans bl0.size hg2
    show Code.wp _ _ _ _ _
    refine wp_seq ?_
    refine wp_seq ?_
    refine wr_a [.eq (v), .eq (.int .i64 (((l).length : Nat) : Int))] (by rw [sd.1]; kernel_rfl) ⟨fun hw ac u K => ?_, fun hw ac u K => ?_, trivial⟩ ?_
    · exact st_move (.tmp 0) rfl (K.t x0 rfl)
    · exact st_lenc (.tmp 4) rfl ((l).length) rfl (fk_val (K.dep 0 4 rfl) (Fk.mono _ _ _ _ hv (bgo bl K.grow)))
    intro f2 w2 A hb
    replace x0 := A.t x0 rfl
    replace x2 := A.t x2 rfl
    have x5 := A.e 1 5 rfl rfl
    replace m2 := Ob.below m2 hb
    replace bl := bgo bl hb
    replace sd := A.sd sd
    clear A hb
    show Code.wp _ _ _ _ _
    refine wp_block ?_
    refine wp_seq ?_
    refine wr_a [.eq (.bool false), .eq (.bool false)] (by rw [sd.1]; kernel_rfl) ⟨fun hw ac u K => ?_, fun hw ac u K => ?_, trivial⟩ ?_
    · exact st_eqi 3 (.tmp 5) (.const (.int .i64 0)) rfl .i64 ((((l).length : Nat) : Int)) (0) (K.t x5 rfl) rfl _ (by rw [eq_comm, decide_eq_false_iff_not]; omega)
    · exact st_assign (.tmp 7) rfl (K.dep 0 7 rfl)
    intro f3 w3 A hb
    replace x0 := A.t x0 rfl
    replace x2 := A.t x2 rfl
    replace x5 := A.t x5 rfl
    have x6 := A.e 1 6 rfl rfl
    replace m2 := Ob.below m2 hb
    replace bl := bgo bl hb
    replace sd := A.sd sd
    clear A hb
    show Code.wp _ _ _ _ _
    refine wp_cond_false x6 ?_
    refine wp_seq ?_
    refine wr_a [.eq (.bool false), .eq (.bool false)] (by rw [sd.1]; kernel_rfl) ⟨fun hw ac u K => ?_, fun hw ac u K => ?_, trivial⟩ ?_
    · exact st_eqi 3 (.tmp 5) (.const (.int .i64 1)) rfl .i64 ((((l).length : Nat) : Int)) (1) (K.t x5 rfl) rfl _ (by rw [eq_comm, decide_eq_false_iff_not]; omega)
    · exact st_assign (.tmp 10) rfl (K.dep 0 10 rfl)
    intro f4 w4 A hb
    replace x0 := A.t x0 rfl
    replace x2 := A.t x2 rfl
    replace x5 := A.t x5 rfl
    replace x6 := A.t x6 rfl
    have x9 := A.e 1 9 rfl rfl
    replace m2 := Ob.below m2 hb
    replace bl := bgo bl hb
    replace sd := A.sd sd
    clear A hb
    clear x5
    clear x6
    show Code.wp _ _ _ _ _
    refine wp_cond_false x9 ?_
    refine wp_skip ?_
    show Code.wp _ _ _ _ _
    refine wp_seq ?_
    refine wr_a [.eq (v), .eq (.int .i64 (((l).length : Nat) : Int)), .eq (.int .i64 (k : Int)), .eq (.int .i64 (k : Int))] (by rw [sd.1]; kernel_rfl) ⟨fun hw ac u K => ?_, fun hw ac u K => ?_, fun hw ac u K => ?_, fun hw ac u K => ?_, trivial⟩ ?_
    · exact st_move (.tmp 0) rfl (K.t x0 rfl)
    · exact st_lenc (.tmp 14) rfl ((l).length) rfl (fk_val (K.dep 0 14 rfl) (Fk.mono _ _ _ _ hv (bgo bl K.grow)))
    · exact st_call 35 (.func 35) _ _ _ rfl rfl (one_arg (K.dep 1 15 rfl)) Tryd.enter35 (by rw [← hk]; exact fk_of (split_hi l.length (by omega) (by omega) _))
    · exact st_assign (.tmp 16) rfl (K.dep 2 16 rfl)
    intro f5 w5 A hb
    replace x0 := A.t x0 rfl
    replace x2 := A.t x2 rfl
    replace x9 := A.t x9 rfl
    have x3 := A.e 3 3 rfl rfl
    replace m2 := Ob.below m2 hb
    replace bl := bgo bl hb
    replace sd := A.sd sd
    clear A hb
    clear x9
    show Code.wp _ _ _ _ _
    refine wp_seq ?_
    refine wr_t [.eq (v), .eq (.int .i64 (k : Int)), .hc ((l).take (k)), .eq (.agg ((y1).map V).toArray), .eq (v), .eq (.int .i64 (k : Int)), .hc ((l).drop (k)), .eq (.agg ((y2).map V).toArray), .eq (.agg ((y).map V).toArray)] [9] Tryd.mixed (by rw [sd.1]; kernel_rfl) ⟨fun hw ac u K => ?_, fun hw ac u K => ?_, fun hw ac u K => ?_, fun hw ac u K => ?_, fun hw ac u K => ?_, fun hw ac u K => ?_, fun hw ac u K => ?_, fun hw ac u K => ?_, fun hw ac u K => ?_, trivial⟩ ?_
    · exact st_move (.tmp 0) rfl (K.t x0 rfl)
    · exact st_move (.tmp 3) rfl (K.t x3 rfl)
    · exact st_cuth (.tmp 17) (.tmp 18) rfl (fk_val (K.dep 0 17 rfl) (Fk.mono _ _ _ _ hv (bgo bl K.grow))) (k) (K.dep 1 18 rfl) (by omega)
    · exact st_call 19 (.func 19) _ _ _ rfl rfl (one_arg rfl) Tryd.enter19 (fk_of (ih (l.take k) (by rw [List.length_take]; omega) _ _ (by rw [List.length_take]; omega) (K.dep 2 19 rfl) (hK.below (bgo bl K.grow)) ey1))
    · exact st_move (.tmp 0) rfl (K.t x0 rfl)
    · exact st_move (.tmp 3) rfl (K.t x3 rfl)
    · exact st_restc (.tmp 21) (.tmp 22) rfl (fk_val (K.dep 4 21 rfl) (Fk.mono _ _ _ _ hv (bgo bl K.grow))) (k) (K.dep 5 22 rfl) (by omega)
    · exact st_call 19 (.func 19) _ _ _ rfl rfl (one_arg rfl) Tryd.enter19 (fk_of (ih (l.drop k) (by rw [List.length_drop]; omega) _ _ (by rw [List.length_drop]; omega) (K.dep 6 23 rfl) (hK.below (bgo bl K.grow)) ey2))
    · exact st_call 30 (.func 30) _ _ _ rfl rfl (arg2 (K.dep 3 20 rfl) (K.dep 7 24 rfl)) Tryd.enter30 (fk_node hy1 hy2 (hK.below (bgo bl K.grow)) eyn)
    intro f6 w6 A hb
    replace x0 := A.t x0 rfl
    replace x2 := A.t x2 rfl
    replace x3 := A.t x3 rfl
    have x25 := A.e 8 25 rfl rfl
    replace m2 := Ob.below m2 hb
    replace bl := bgo bl hb
    replace sd := A.sd sd
    clear A hb
    clear x0
    clear x3
    refine wl_store rfl (.tmp 2) (.tmp 25) rfl rfl (g2) (y) (hz) x2 x25 m2 hz_len hy ?_
    replace m2 : Ob (w6.setRow g2 ((y).map V : List Value).toArray) (g2) 33 ((y).map V) := Ob.setRow m2 ((y).map V)
    replace bl : Below w.heap.size w (w6.setRow g2 ((y).map V : List Value).toArray) := bl.trans (below_setRow _ _ _ _ hw2)
    generalize w6.setRow g2 ((y).map V : List Value).toArray = w7b at bl m2 ⊢
    refine wpList_nil ?_
    clear x25
    show Code.wp _ _ _ _ _
    refine wp_ret ?_
    repeat (first | with_reducible refine then_ret ?_ | with_reducible refine block_ret ?_)
    exact bodyPost_ret (v := .agg ((y).map V).toArray) (ret_hash rfl f6 _ g2 (y) hy x2 m2) sd.2 ⟨rfl, bl⟩
end Go.Proofs.YtfmeeimhfdnjpaaDoor
namespace Go.Proofs.YtfmeeimhfdnjpaaDoor
set_option maxRecDepth 100000
open Go.RowKit
theorem flat_take (hs : List (List (BitVec 8))) (h32 : ∀ (i : Nat) (x : List (BitVec 8)), hs[i]? = some x → x.length = 32) (n : Nat) : (hs.take n).flatten = hs.flatten.take (n * 32) := by
  induction hs generalizing n with
  | nil => simp
  | cons y r ih =>
    cases n with
    | zero => simp
    | succ n =>
      have hy : y.length = 32 := h32 0 y rfl
      rw [List.take_succ_cons, List.flatten_cons, List.flatten_cons, ih (fun i x hi => h32 (i + 1) x hi) n, List.take_append, hy]
      rw [List.take_of_length_le (l := y) (by omega), show (n + 1) * 32 - 32 = n * 32 by omega]
theorem ow_take {base : Nat} {hs : List (List (BitVec 8))} {A : Option Addr} {C : Nat} {w : World} (h : (Fk.ow base hs).f (.slice A hs.length C) w) (n : Nat) (hn : n ≤ hs.length) : (Fk.ow base (hs.take n)).f (.slice A n C) w := by
  obtain ⟨⟨h1, h2⟩, h3⟩ := h
  have hl : (hs.take n).length = n := by rw [List.length_take]; omega
  have h3' : ∀ (i : Nat) (x : List (BitVec 8)), (hs.take n)[i]? = some x → x.length = 32 := fun i x hi => by
    rw [List.getElem?_take] at hi
    split at hi
    · exact h3 i x hi
    · cases hi
  refine ⟨?_, h3'⟩
  rw [hl, flat_take hs h3, List.map_take]
  refine ⟨?_, ?_⟩
  · rw [List.length_take, h1]
    have : n * 32 ≤ hs.length * 32 := Nat.mul_le_mul_right _ hn
    omega
  · rcases h2 with ⟨e, h0⟩ | ⟨g, cap, cur, e, hbg, hg, hnc, hm, hcs, ht⟩
    · have : n = 0 := by omega
      subst this
      injection e with e1 e2 e3
      subst e1 e3
      exact .inl ⟨rfl, rfl⟩
    · cases e
      refine .inr ⟨g, C, cur, rfl, hbg, hg, by omega, hm, hcs, ?_⟩
      rw [← ht, List.take_take]
      congr 1
      have : n * 32 ≤ hs.length * 32 := Nat.mul_le_mul_right _ hn
      omega
end Go.Proofs.YtfmeeimhfdnjpaaDoor
namespace Go.Proofs.YtfmeeimhfdnjpaaDoor
set_option maxRecDepth 100000
open Go.RowKit
theorem rops_mem (n : Nat) : ∀ a z, 1 ≤ n → z ∈ rops a n → (∃ i : Nat, z = (i : Int) ∧ i < a + n) ∨ z = -1 := by
  induction n using Nat.strongRecOn with
  | ind n ih =>
    intro a z h1 hz
    by_cases h2 : n = 1
    · subst h2
      rw [rops_one] at hz
      exact .inl ⟨a, List.mem_singleton.1 hz, by omega⟩
    · have hs := spl_lt (n := n) (by omega)
      have hp := spl_pos n
      rw [rops_two a (by omega), List.mem_append, List.mem_append] at hz
      rcases hz with hz | hz | hz
      · rcases ih (spl n) hs a z hp hz with ⟨i, e, hi⟩ | e
        · exact .inl ⟨i, e, by omega⟩
        · exact .inr e
      · rcases ih (n - spl n) (by omega) (a + spl n) z (by omega) hz with ⟨i, e, hi⟩ | e
        · exact .inl ⟨i, e, by omega⟩
        · exact .inr e
      · exact .inr (List.mem_singleton.1 hz)
/-- The stack behind k operations. -/
def stc (l : List (List (BitVec 8))) (k : Nat) : List (List (BitVec 8)) := ((rops 0 l.length).take k).foldl (stk l) []
theorem stc_zero (l : List (List (BitVec 8))) : stc l 0 = [] := rfl
theorem stc_succ (l : List (List (BitVec 8))) {k : Nat} {z : Int} (h : (rops 0 l.length)[k]? = some z) : stc l (k + 1) = stk l (stc l k) z := by
  unfold stc
  rw [List.take_add_one, h, List.foldl_append]
  rfl
theorem stk_len (l st : List (List (BitVec 8))) (z : Int) : (stk l st z).length ≤ st.length + 1 := by
  unfold stk
  split
  · simp
  · rw [List.length_append, List.length_take, List.length_singleton]; omega
theorem stc_len (l : List (List (BitVec 8))) (k : Nat) : (stc l k).length ≤ k := by
  induction k with
  | zero => exact Nat.le_refl _
  | succ k ih =>
    cases h : (rops 0 l.length)[k]? with
    | some z =>
      rw [stc_succ l h]
      have := stk_len l (stc l k) z
      omega
    | none =>
      have : stc l (k + 1) = stc l k := by
        unfold stc
        rw [List.take_add_one, h]
        simp
      rw [this]; omega
theorem stc_put (l : List (List (BitVec 8))) {k i : Nat} {x : List (BitVec 8)} (h : (rops 0 l.length)[k]? = some (i : Int)) (hx : l[i]? = some x) : stc l (k + 1) = stc l k ++ [x] := by
  rw [stc_succ l h, stk_put l _ hx]
theorem stc_two (l : List (List (BitVec 8))) (hn : 1 ≤ l.length) {k : Nat} (h : (rops 0 l.length)[k]? = some (-1)) : 2 ≤ (stc l k).length := by
  have := rops_deep l l.length 0 hn (by omega) [] k h
  unfold stc
  simpa using this
theorem stc_node (l : List (List (BitVec 8))) {k : Nat} (h : (rops 0 l.length)[k]? = some (-1)) {N : Nat} (hN : N + 2 = (stc l k).length) {x y : List (BitVec 8)} (hx : (stc l k)[N]? = some x) (hy : (stc l k)[N + 1]? = some y) : stc l (k + 1) = (stc l k).take N ++ [nd x y] := by
  rw [stc_succ l h]
  unfold stk
  rw [if_neg (by decide), show (stc l k).length - 2 = N by omega, show (stc l k).length - 1 = N + 1 by omega, List.getD_eq_getElem?_getD, hx, List.getD_eq_getElem?_getD, hy]
  rfl
theorem stc_all (l : List (List (BitVec 8))) (hn : 1 ≤ l.length) : stc l (rops 0 l.length).length = [mroot l] := by
  unfold stc
  rw [List.take_of_length_le (Nat.le_refl _), stk_rops l l.length 0 hn (by omega), List.nil_append]
  unfold sgm
  rw [List.drop_zero, List.take_of_length_le (Nat.le_refl _)]
theorem hs_len {hs : List (List (BitVec 8))} {v : Value} {w : World} (h : (Fk.hs hs).f v w) {i : Nat} {x : List (BitVec 8)} (hi : hs[i]? = some x) : x.length = 32 := by
  obtain ⟨A, C, lb, lo, e, hl⟩ := h
  exact (hl.all i x hi).1
theorem rroot0 (n : Nat) (w : World) (h1 : 1 ≤ n) (h2 : n ≤ 1000) : Calls Tryd.prog 29 #[.int .i64 0, .int .i64 (n : Int)] w fun e w' => ∃ u, e = .returned u ∧ (Fk.oi w.heap.size (rops 0 n)).f u w' ∧ Below w.heap.size w w' := by
  have := rroot_any n 0 w h1 (by omega)
  rw [Nat.zero_add] at this
  exact this
theorem st_cutow {Q : Exit → Act → World → Prop} {o : Oper} {a : Act} {w : World} (x y : Operand) (ho : o.op = .slice 35 x none (some y) none) {base : Nat} {hs : List (List (BitVec 8))} (h : (Fk.ow base hs).f (a.eval x) w) (n : Nat) (hy : a.eval y = .int .i64 (n : Int)) (hn : n ≤ hs.length) : o.wp Tryd.prog a w (Ends a o.dst w (Fk.ow base (hs.take n)).f) Q := by
  have h0 := h
  obtain ⟨A, C, lb, lo, e, hc, hl⟩ := ow_hc h
  rw [e] at h0
  have h3 := ow_take h0 n hn
  refine st_pure (v := sliced A 0 n C 32) ?_ ?_
  · have h1 := run_slice_h (P := Tryd.prog) (w := w) 35 A hs.length C (by rw [Tryd.elem35]; exact Tryd.under35') .i64 (n : Int) (by omega) (by omega)
    rw [Tryd.elem35, Tryd.sizeOf33] at h1
    simp only [Result.andThen_ok, Int.toNat_natCast] at h1
    have h2 := run_sliceAt_slice (P := Tryd.prog) (w := w) 35 (.slice A hs.length C) none (some (.int .i64 (n : Int))) none (by rw [Tryd.elem35]; exact Tryd.under35')
    unfold execOp
    rw [ho]
    simp [e, hy, h2, h1]
  · have : sliced A 0 n C 32 = .slice A n C := by
      unfold sliced
      by_cases h0 : C = 0
      · simp [h0]
      · cases A with
        | none => simp
        | some p => simp [Addr.add]
    rw [this]
    exact h3
theorem lroot_nil (w : World) {v : Value} (hv : (Fk.hc []).f v w) (hK : Tab w) {y : List (BitVec 8)} (ey : Box (mroot [] = y)) :
    Calls Tryd.prog 13 #[v] w fun e w' => e = .returned (.agg ((y).map V).toArray) ∧ Below w.heap.size w w' := by
  have eys : shaOf [] = y := by rw [← ey.out, mroot_nil]
  have hy : y.length = 32 := by rw [← eys]; exact shaOf_len _
  have hnil := sl_nil w
  go_enter Tryd.func13, Tryd.ntmps13
  refine code_both (fun f w1 => f.tmps.size = 53 ∧ f.defers = [] ∧ f.eval (.tmp 0) = v ∧ Below w.heap.size w (w1)) ⟨rfl, rfl, rfl, Below.refl _ _⟩ ?_
  rintro f0 w0 ⟨sz, df, x0, bl⟩
  have sd := And.intro sz df
  clear sz df
  have bl0 := bl
  refine wp_seq ?_
  refine wr_a [.nw w0.heap.size 33 ((hz).map V)] (by rw [sd.1]; kernel_rfl) ⟨fun hw ac u K => ?_, trivial⟩ ?_
  · exact st_alloc33 rfl _ K.grow.size
  intro f1 w1 A hb
  replace bl0 := bl
  replace x0 := A.t x0 rfl
  have x2 : Fk.f (.nw w0.heap.size 33 ((hz).map V)) (f1.eval (.tmp 2)) w1 := A.has 0 2 rfl
  replace bl := bgo bl hb
  replace sd := A.sd sd
  clear A hb
  obtain ⟨g2, hg2, e2, m2⟩ := x2
  have x2 := e2
  clear e2
  have hw2 : w.heap.size ≤ g2 := Nat.le_trans bl0.size hg2
  show Code.wp _ _ _ _ _
  refine wp_seq ?_
  refine wp_seq ?_
  refine wr_a [.eq (v), .eq (.int .i64 ((0 : Nat) : Int)), .eq (.bool true)] (by rw [sd.1]; kernel_rfl) ⟨fun hw ac u K => ?_, fun hw ac u K => ?_, fun hw ac u K => ?_, trivial⟩ ?_
  · exact st_move (.tmp 0) rfl (K.t x0 rfl)
  · exact st_lenc (.tmp 7) rfl (0) rfl (fk_val (K.dep 0 7 rfl) (Fk.mono _ _ _ _ hv (bgo bl K.grow)))
  · exact st_eqi 3 (.tmp 8) (.const (.int .i64 0)) rfl .i64 (((0 : Nat) : Int)) (0) (K.dep 1 8 rfl) rfl _ (by simp)
  intro f2 w2 A hb
  replace x0 := A.t x0 rfl
  replace x2 := A.t x2 rfl
  have x9 := A.e 2 9 rfl rfl
  replace m2 := Ob.below m2 hb
  replace bl := bgo bl hb
  replace sd := A.sd sd
  clear A hb
  show Code.wp _ _ _ _ _
  refine wp_cond_true x9 ?_
  refine wp_seq ?_
  refine wr_s [.eq (.agg ((y).map V).toArray)] (by rw [sd.1]; kernel_rfl) ⟨fun hw ac u K => ?_, trivial⟩ ?_
  · exact st_call 26 (.func 26) _ _ _ rfl rfl (one_arg rfl) Tryd.enter26 (by rw [← eys]; exact fk_sum (by simp) (hK.below (bgo bl K.grow)) (Fk.mono _ _ _ _ hnil (bgo bl K.grow)))
  intro f3 w3 A hb
  replace x0 := A.t x0 rfl
  replace x2 := A.t x2 rfl
  replace x9 := A.t x9 rfl
  have x10 := A.e 0 10 rfl rfl
  replace m2 := Ob.below m2 hb
  replace bl := bgo bl hb
  replace sd := A.sd sd
  clear A hb
  clear x0
  clear x9
  refine wl_store rfl (.tmp 2) (.tmp 10) rfl rfl (g2) (y) (hz) x2 x10 m2 hz_len hy ?_
  replace m2 : Ob (w3.setRow g2 ((y).map V : List Value).toArray) (g2) 33 ((y).map V) := Ob.setRow m2 ((y).map V)
  replace bl : Below w.heap.size w (w3.setRow g2 ((y).map V : List Value).toArray) := bl.trans (below_setRow _ _ _ _ hw2)
  generalize w3.setRow g2 ((y).map V : List Value).toArray = w4b at bl m2 ⊢
  refine wpList_nil ?_
  clear x10
  show Code.wp _ _ _ _ _
  refine wp_ret ?_
  repeat (first | with_reducible refine then_ret ?_ | with_reducible refine block_ret ?_)
  exact bodyPost_ret (v := .agg ((y).map V).toArray) (ret_hash rfl f3 _ g2 (y) hy x2 m2) sd.2 ⟨rfl, bl⟩
theorem lroot_pos {l : List (List (BitVec 8))} (hn : 1 ≤ l.length) (h1000 : l.length ≤ 400) (w : World) {v : Value} (hv : (Fk.hc l).f v w) (hK : Tab w) {y : List (BitVec 8)} (ey : Box (mroot l = y)) :
    Calls Tryd.prog 13 #[v] w fun e w' => e = .returned (.agg ((y).map V).toArray) ∧ Below w.heap.size w w' := by
  have hvs := hc_hs hv
  have hy : y.length = 32 := by rw [← ey.out]; exact mroot_len (hc_len hv)
  obtain ⟨O, hO⟩ : ∃ O, rops 0 l.length = O := ⟨_, rfl⟩
  have hOl : O.length = 2 * l.length - 1 := by rw [← hO]; exact rops_len _ _ hn
  go_enter Tryd.func13, Tryd.ntmps13
  refine code_both (fun f w1 => f.tmps.size = 53 ∧ f.defers = [] ∧ f.eval (.tmp 0) = v ∧ Below w.heap.size w (w1)) ⟨rfl, rfl, rfl, Below.refl _ _⟩ ?_
  rintro f0 w0 ⟨sz, df, x0, bl⟩
  have sd := And.intro sz df
  clear sz df
  have bl0 := bl
  refine wp_seq ?_
  refine wr_a [.nw w0.heap.size 33 ((hz).map V)] (by rw [sd.1]; kernel_rfl) ⟨fun hw ac u K => ?_, trivial⟩ ?_
  · exact st_alloc33 rfl _ K.grow.size
  intro f1 w1 A hb
  replace bl0 := bl
  replace x0 := A.t x0 rfl
  have x2 : Fk.f (.nw w0.heap.size 33 ((hz).map V)) (f1.eval (.tmp 2)) w1 := A.has 0 2 rfl
  replace bl := bgo bl hb
  replace sd := A.sd sd
  clear A hb
  obtain ⟨g2, hg2, e2, m2⟩ := x2
  have x2 := e2
  clear e2
  have hw2 : w.heap.size ≤ g2 := Nat.le_trans bl0.size hg2
  show Code.wp _ _ _ _ _
  refine wp_seq ?_
  refine wp_seq ?_
  refine wr_a [.eq (v), .eq (.int .i64 (((l).length : Nat) : Int)), .eq (.bool false)] (by rw [sd.1]; kernel_rfl) ⟨fun hw ac u K => ?_, fun hw ac u K => ?_, fun hw ac u K => ?_, trivial⟩ ?_
  · exact st_move (.tmp 0) rfl (K.t x0 rfl)
  · exact st_lenc (.tmp 7) rfl ((l).length) rfl (fk_val (K.dep 0 7 rfl) (Fk.mono _ _ _ _ hv (bgo bl K.grow)))
  · exact st_eqi 3 (.tmp 8) (.const (.int .i64 0)) rfl .i64 ((((l).length : Nat) : Int)) (0) (K.dep 1 8 rfl) rfl _ (by rw [eq_comm, decide_eq_false_iff_not]; omega)
  intro f2 w2 A hb
  replace x0 := A.t x0 rfl
  replace x2 := A.t x2 rfl
  have x9 := A.e 2 9 rfl rfl
  replace m2 := Ob.below m2 hb
  replace bl := bgo bl hb
  replace sd := A.sd sd
  clear A hb
  show Code.wp _ _ _ _ _
  refine wp_cond_false x9 ?_
  refine wp_skip ?_
  show Code.wp _ _ _ _ _
  refine wp_seq ?_
  refine wr_a [.eq (.slice none 0 0)] (by rw [sd.1]; kernel_rfl) ⟨fun hw ac u K => ?_, trivial⟩ ?_
  · exact st_assign (.const (.slice none 0 0)) rfl rfl
  intro f3 w3 A hb
  replace x0 := A.t x0 rfl
  replace x2 := A.t x2 rfl
  replace x9 := A.t x9 rfl
  have x3 := A.e 0 3 rfl rfl
  replace m2 := Ob.below m2 hb
  replace bl := bgo bl hb
  replace sd := A.sd sd
  clear A hb
  clear x9
  show Code.wp _ _ _ _ _
  refine wp_seq ?_
  refine wp_seq ?_
  refine wr_a [.eq (v), .eq (.int .i64 (((l).length : Nat) : Int)), .oi w.heap.size (O), .eq (.int .i64 (((O).length : Nat) : Int)), .eq (.int .i64 0)] (by rw [sd.1]; kernel_rfl) ⟨fun hw ac u K => ?_, fun hw ac u K => ?_, fun hw ac u K => ?_, fun hw ac u K => ?_, fun hw ac u K => ?_, trivial⟩ ?_
  · exact st_move (.tmp 0) rfl (K.t x0 rfl)
  · exact st_lenc (.tmp 11) rfl ((l).length) rfl (fk_val (K.dep 0 11 rfl) (Fk.mono _ _ _ _ hv (bgo bl K.grow)))
  · exact st_call 29 (.func 29) _ _ _ rfl rfl (arg2 rfl (K.dep 1 12 rfl)) Tryd.enter29 (by rw [← hO]; exact fk_orw (bgo bl K.grow).size (rroot0 l.length _ (by omega) (by omega)))
  · exact st_lenis (.tmp 13) rfl (oi_is (K.dep 2 13 rfl))
  · exact st_move (.const (.int .i64 0)) rfl rfl
  intro f4 w4 A hb
  replace x0 := A.t x0 rfl
  replace x2 := A.t x2 rfl
  replace x3 := A.t x3 rfl
  have x13 : Fk.f (.oi w.heap.size (O)) (f4.eval (.tmp 13)) w4 := A.has 2 13 rfl
  have x14 := A.e 3 14 rfl rfl
  have x15 := A.e 4 15 rfl rfl
  replace m2 := Ob.below m2 hb
  replace bl := bgo bl hb
  replace sd := A.sd sd
  clear A hb
  obtain ⟨v13, e13⟩ : ∃ v, f4.eval (.tmp 13) = v := ⟨_, rfl⟩
  have h13 := oi_is x13
  rw [e13] at h13
  replace x13 := e13
  clear e13
  have blw := bl
  replace hv := Fk.mono _ _ _ _ hv bl
  replace hvs := Fk.mono _ _ _ _ hvs bl
  replace hK := hK.below bl
  replace bl := Below.refl w4.heap.size w4
  replace bl0 := bl
  show Code.wp _ _ _ _ _
  refine wp_block ?_
  refine wp_loop (fun f v1 => ∃ k : Nat, k ≤ (O).length ∧ f.tmps.size = 53 ∧ f.defers = [] ∧ f.eval (.tmp 0) = v ∧ f.eval (.tmp 2) = .pointer (some ⟨g2, 0, none⟩) ∧ f.eval (.tmp 13) = v13 ∧ f.eval (.tmp 14) = .int .i64 (((O).length : Nat) : Int) ∧ f.eval (.tmp 15) = .int .i64 (k : Int) ∧ Fk.f (.ow w4.heap.size (stc l k)) (f.eval (.tmp 3)) v1 ∧ Below w4.heap.size w4 (v1)) (fun f _ => (O).length - (intOf (f.eval (.tmp 15))).toNat) ⟨0, Nat.zero_le _, sd.1, sd.2, x0, x2, x13, x14, x15, (fk_val x3 (by rw [stc_zero]; exact ow_nil _ _)), bl⟩ ?_
  intro f5 w5 hI
  clear sd bl bl0 x0 x2 x3 x13 x14 x15
  obtain ⟨k, hk, sz, df, x0, x2, x13, x14, x15, x3, bl⟩ := hI
  have sd := And.intro sz df
  clear sz df
  have bl0 := bl
  have hcnt := x15
  refine wp_seq ?_
  by_cases hlt : k < (O).length
  rotate_left
  · skip
    refine wr_a [.eq (.bool false)] (by rw [sd.1]; kernel_rfl) ⟨fun hw ac u K => ?_, trivial⟩ ?_
    · exact st_lss 3 (.tmp 15) (.tmp 14) rfl .i64 ((k : Int)) ((((O).length : Nat) : Int)) (K.t x15 rfl) (K.t x14 rfl) _ (by rw [eq_comm, decide_eq_false_iff_not]; exact fun h => hlt (Int.ofNat_lt.1 h))
    intro f6 w6 A hb
    replace x0 := A.t x0 rfl
    replace x2 := A.t x2 rfl
    replace x3 := f_at (A.old 3 rfl) (Fk.mono _ _ _ _ x3 hb)
    replace x13 := A.t x13 rfl
    replace x14 := A.t x14 rfl
    replace x15 := A.t x15 rfl
    have x16 := A.e 0 16 rfl rfl
    replace bl := bgo bl hb
    replace sd := A.sd sd
    clear A hb
    show Code.wp _ _ _ _ _
    refine wp_seq ?_
    refine wp_cond_false x16 ?_
    refine wp_exit ?_
    show Code.wp _ _ _ _ _
    refine wp_seq ?_
    obtain rfl : k = (O).length := by omega
    have hall := stc_all l (by omega)
    rw [hO, ey.out] at hall
    rw [hall] at x3
    replace m2 := Ob.below m2 bl
    replace bl := blw.trans (Below.mono bl blw.size)
    replace bl0 := bl
    refine wr_s [.ow w4.heap.size ([y]), .ph (y), .eq (.agg ((y).map V).toArray)] (by rw [sd.1]; kernel_rfl) ⟨fun hw ac u K => ?_, fun hw ac u K => ?_, fun hw ac u K => ?_, trivial⟩ ?_
    · exact st_move (.tmp 3) rfl (f_at (K.old 3 rfl) (Fk.mono _ _ _ _ x3 K.grow))
    · exact st_idxh (.tmp 50) (.const (.int .i64 0)) rfl (ow_hs (K.dep 0 50 rfl)) (0) (y) rfl rfl
    · exact st_loadh (.tmp 51) rfl (K.dep 1 51 rfl)
    intro f7 w7 A hb
    replace x0 := A.t x0 rfl
    replace x2 := A.t x2 rfl
    replace x3 := f_at (A.old 3 rfl) (Fk.mono _ _ _ _ x3 hb)
    replace x13 := A.t x13 rfl
    replace x14 := A.t x14 rfl
    replace x15 := A.t x15 rfl
    replace x16 := A.t x16 rfl
    have x52 := A.e 2 52 rfl rfl
    replace m2 := Ob.below m2 hb
    replace bl := bgo bl hb
    replace sd := A.sd sd
    clear A hb
    clear x3
    clear x16
    refine wl_store rfl (.tmp 2) (.tmp 52) rfl rfl (g2) (y) (hz) x2 x52 m2 hz_len hy ?_
    replace m2 : Ob (w7.setRow g2 ((y).map V : List Value).toArray) (g2) 33 ((y).map V) := Ob.setRow m2 ((y).map V)
    replace bl : Below w.heap.size w (w7.setRow g2 ((y).map V : List Value).toArray) := bl.trans (below_setRow _ _ _ _ hw2)
    generalize w7.setRow g2 ((y).map V : List Value).toArray = w8b at bl m2 ⊢
    refine wpList_nil ?_
    clear x52
    show Code.wp _ _ _ _ _
    refine wp_ret ?_
    repeat (first | with_reducible refine then_ret ?_ | with_reducible refine block_ret ?_)
    exact bodyPost_ret (v := .agg ((y).map V).toArray) (ret_hash rfl f7 _ g2 (y) hy x2 m2) sd.2 ⟨rfl, bl⟩
  obtain ⟨z, hz⟩ : ∃ z, O[k]? = some z := ⟨_, List.getElem?_eq_getElem hlt⟩
  have hz2 := hz
  rw [← hO] at hz2
  have hsl := stc_len l k
  refine wr_a [.eq (.bool true)] (by rw [sd.1]; kernel_rfl) ⟨fun hw ac u K => ?_, trivial⟩ ?_
  · exact st_lss 3 (.tmp 15) (.tmp 14) rfl .i64 ((k : Int)) ((((O).length : Nat) : Int)) (K.t x15 rfl) (K.t x14 rfl) _ (by rw [eq_comm, decide_eq_true_iff]; exact Int.ofNat_lt.2 hlt)
  intro f6 w6 A hb
  replace x0 := A.t x0 rfl
  replace x2 := A.t x2 rfl
  replace x3 := f_at (A.old 3 rfl) (Fk.mono _ _ _ _ x3 hb)
  replace x13 := A.t x13 rfl
  replace x14 := A.t x14 rfl
  replace x15 := A.t x15 rfl
  have x16 := A.e 0 16 rfl rfl
  replace bl := bgo bl hb
  replace sd := A.sd sd
  clear A hb
  show Code.wp _ _ _ _ _
  refine wp_seq ?_
  refine wp_cond_true x16 ?_
  refine wp_skip ?_
  show Code.wp _ _ _ _ _
  refine wp_seq ?_
  refine wp_block ?_
  refine wp_seq ?_
  refine wr_a [.prg [.int .i64 z], .eq (.int .i64 z), .eq (.int .i64 z)] (by rw [sd.1]; kernel_rfl) ⟨fun hw ac u K => ?_, fun hw ac u K => ?_, fun hw ac u K => ?_, trivial⟩ ?_
  · exact st_idxis (.tmp 13) (.tmp 15) rfl (fk_val (K.t x13 rfl) (Fk.mono _ _ _ _ h13 (bgo bl K.grow))) k (K.t x15 rfl) z hz
  · exact st_loadr1 3 (.tmp 17) rfl (by kernel_rfl) (K.dep 0 17 rfl)
  · exact st_assign (.tmp 18) rfl (K.dep 1 18 rfl)
  intro f7 w7 A hb
  replace x0 := A.t x0 rfl
  replace x2 := A.t x2 rfl
  replace x3 := f_at (A.old 3 rfl) (Fk.mono _ _ _ _ x3 hb)
  replace x13 := A.t x13 rfl
  replace x14 := A.t x14 rfl
  replace x15 := A.t x15 rfl
  replace x16 := A.t x16 rfl
  have x5 := A.e 2 5 rfl rfl
  replace bl := bgo bl hb
  replace sd := A.sd sd
  clear A hb
  clear x16
  show Code.wp _ _ _ _ _
  refine wp_seq ?_
  refine wp_seq ?_
  rcases rops_mem l.length 0 z (by omega) (List.mem_of_getElem? hz2) with ⟨i, rfl, hi⟩ | rfl
  rotate_left
  · skip
    have h2 := stc_two l (by omega) hz2
    obtain ⟨N, hN⟩ : ∃ N, N + 2 = (stc l k).length := ⟨(stc l k).length - 2, by omega⟩
    obtain ⟨p, hpi⟩ : ∃ x, (stc l k)[N]? = some x := ⟨_, List.getElem?_eq_getElem (by omega)⟩
    obtain ⟨q, hqi⟩ : ∃ x, (stc l k)[N + 1]? = some x := ⟨_, List.getElem?_eq_getElem (by omega)⟩
    have hp : p.length = 32 := hs_len (ow_hs x3) hpi
    have hq : q.length = 32 := hs_len (ow_hs x3) hqi
    obtain ⟨r, er⟩ : ∃ r, Box (nd p q = r) := ⟨_, ⟨rfl⟩⟩
    have hr : r.length = 32 := by rw [← er.out]; exact nd_len _ _
    have hst := stc_node l hz2 hN hpi hqi
    rw [er.out] at hst
    refine wr_a [.eq (.int .i64 (-1)), .eq (.bool false)] (by rw [sd.1]; kernel_rfl) ⟨fun hw ac u K => ?_, fun hw ac u K => ?_, trivial⟩ ?_
    · exact st_move (.tmp 5) rfl (K.t x5 rfl)
    · exact st_geq 3 (.tmp 19) (.const (.int .i64 0)) rfl .i64 ((-1)) (0) (K.dep 0 19 rfl) rfl _ (by rfl)
    intro f8 w8 A hb
    replace x0 := A.t x0 rfl
    replace x2 := A.t x2 rfl
    replace x3 := f_at (A.old 3 rfl) (Fk.mono _ _ _ _ x3 hb)
    replace x13 := A.t x13 rfl
    replace x14 := A.t x14 rfl
    replace x15 := A.t x15 rfl
    replace x5 := A.t x5 rfl
    have x20 := A.e 1 20 rfl rfl
    replace bl := bgo bl hb
    replace sd := A.sd sd
    clear A hb
    show Code.wp _ _ _ _ _
    refine wp_cond_false x20 ?_
    refine wp_skip ?_
    show Code.wp _ _ _ _ _
    refine wp_seq ?_
    refine wr_a [.ow w4.heap.size (stc l k), .eq (.int .i64 (((stc l k).length : Nat) : Int)), .eq (.int .i64 (N : Int)), .eq (.int .i64 (N : Int))] (by rw [sd.1]; kernel_rfl) ⟨fun hw ac u K => ?_, fun hw ac u K => ?_, fun hw ac u K => ?_, fun hw ac u K => ?_, trivial⟩ ?_
    · exact st_move (.tmp 3) rfl (f_at (K.old 3 rfl) (Fk.mono _ _ _ _ x3 K.grow))
    · exact st_lenh (.tmp 28) rfl (ow_hs (K.dep 0 28 rfl))
    · exact st_sub (.tmp 29) (.const (.int .i64 2)) rfl ((stc l k).length) (2) (N) (K.dep 1 29 rfl) rfl (by omega) (by omega)
    · exact st_assign (.tmp 30) rfl (K.dep 2 30 rfl)
    intro f9 w9 A hb
    replace x0 := A.t x0 rfl
    replace x2 := A.t x2 rfl
    replace x3 := f_at (A.old 3 rfl) (Fk.mono _ _ _ _ x3 hb)
    replace x13 := A.t x13 rfl
    replace x14 := A.t x14 rfl
    replace x15 := A.t x15 rfl
    replace x5 := A.t x5 rfl
    replace x20 := A.t x20 rfl
    have x6 := A.e 3 6 rfl rfl
    replace bl := bgo bl hb
    replace sd := A.sd sd
    clear A hb
    clear x5
    clear x20
    show Code.wp _ _ _ _ _
    refine wp_seq ?_
    refine wp_seq ?_
    refine wr_a [.eq (.int .i64 (N : Int)), .eq (.bool false)] (by rw [sd.1]; kernel_rfl) ⟨fun hw ac u K => ?_, fun hw ac u K => ?_, trivial⟩ ?_
    · exact st_move (.tmp 6) rfl (K.t x6 rfl)
    · exact st_lss 3 (.tmp 31) (.const (.int .i64 0)) rfl .i64 ((N : Int)) (0) (K.dep 0 31 rfl) rfl _ (by rw [eq_comm, decide_eq_false_iff_not]; omega)
    intro f10 w10 A hb
    replace x0 := A.t x0 rfl
    replace x2 := A.t x2 rfl
    replace x3 := f_at (A.old 3 rfl) (Fk.mono _ _ _ _ x3 hb)
    replace x13 := A.t x13 rfl
    replace x14 := A.t x14 rfl
    replace x15 := A.t x15 rfl
    replace x6 := A.t x6 rfl
    have x32 := A.e 1 32 rfl rfl
    replace bl := bgo bl hb
    replace sd := A.sd sd
    clear A hb
    show Code.wp _ _ _ _ _
    refine wp_cond_false x32 ?_
    refine wp_skip ?_
    show Code.wp _ _ _ _ _
    refine wr_t [.ow w4.heap.size (stc l k), .eq (.int .i64 (N : Int)), .ow w4.heap.size ((stc l k).take (N)), .ow w4.heap.size (stc l k), .eq (.int .i64 (N : Int)), .ph (p), .eq (.agg ((p).map V).toArray), .ow w4.heap.size (stc l k), .eq (.int .i64 (N : Int)), .eq (.int .i64 ((N + 1 : Nat) : Int)), .ph (q), .eq (.agg ((q).map V).toArray), .eq (.agg ((r).map V).toArray), .hs ([r])] [14, 15] Tryd.mixed (by rw [sd.1]; kernel_rfl) ⟨fun hw ac u K => ?_, fun hw ac u K => ?_, fun hw ac u K => ?_, fun hw ac u K => ?_, fun hw ac u K => ?_, fun hw ac u K => ?_, fun hw ac u K => ?_, fun hw ac u K => ?_, fun hw ac u K => ?_, fun hw ac u K => ?_, fun hw ac u K => ?_, fun hw ac u K => ?_, fun hw ac u K => ?_, fun hw ac u K => ?_, trivial⟩ ?_
    · exact st_move (.tmp 3) rfl (f_at (K.old 3 rfl) (Fk.mono _ _ _ _ x3 K.grow))
    · exact st_move (.tmp 6) rfl (K.t x6 rfl)
    · exact st_cutow (.tmp 34) (.tmp 35) rfl (K.dep 0 34 rfl) N (K.dep 1 35 rfl) (by omega)
    · exact st_move (.tmp 3) rfl (f_at (K.old 3 rfl) (Fk.mono _ _ _ _ x3 K.grow))
    · exact st_move (.tmp 6) rfl (K.t x6 rfl)
    · exact st_idxh (.tmp 37) (.tmp 38) rfl (ow_hs (K.dep 3 37 rfl)) (N) (p) (K.dep 4 38 rfl) hpi
    · exact st_loadh (.tmp 39) rfl (K.dep 5 39 rfl)
    · exact st_move (.tmp 3) rfl (f_at (K.old 3 rfl) (Fk.mono _ _ _ _ x3 K.grow))
    · exact st_move (.tmp 6) rfl (K.t x6 rfl)
    · exact st_add (.tmp 42) (.const (.int .i64 1)) rfl (N) (1) (N + 1) (K.dep 8 42 rfl) rfl (by omega) (by omega)
    · exact st_idxh (.tmp 41) (.tmp 43) rfl (ow_hs (K.dep 7 41 rfl)) (N + 1) (q) (K.dep 9 43 rfl) hqi
    · exact st_loadh (.tmp 44) rfl (K.dep 10 44 rfl)
    · exact st_call 30 (.func 30) _ _ _ rfl rfl (arg2 (K.dep 6 40 rfl) (K.dep 11 45 rfl)) Tryd.enter30 (fk_node hp hq (hK.below (bgo bl K.grow)) er)
    · exact st_bh1 (.tmp 46) rfl hr (K.dep 12 46 rfl)
    intro f11 w11 A hb
    replace bl0 := bl
    replace x0 := A.t x0 rfl
    replace x2 := A.t x2 rfl
    replace x3 := f_at (A.old 3 rfl) (Fk.mono _ _ _ _ x3 hb)
    replace x13 := A.t x13 rfl
    replace x14 := A.t x14 rfl
    replace x15 := A.t x15 rfl
    replace x6 := A.t x6 rfl
    replace x32 := A.t x32 rfl
    have x36 : Fk.f (.ow w4.heap.size ((stc l k).take (N))) (f11.eval (.tmp 36)) w11 := A.has 2 36 rfl
    have x47 : Fk.f (.hs ([r])) (f11.eval (.tmp 47)) w11 := A.has 13 47 rfl
    replace bl := bgo bl hb
    replace sd := A.sd sd
    clear A hb
    clear x6
    clear x32
    refine wl_append rfl (.tmp 36) (.tmp 47) rfl 48 rfl (by rw [sd.1]; decide) x36 x47 bl (by rw [List.length_take]; omega) ?_
    intro f12 w12 df2 sz2 old2 new2 bl2
    clear x3
    clear x36
    clear x47
    replace x0 := tr old2 x0 rfl
    replace x2 := tr old2 x2 rfl
    replace x13 := tr old2 x13 rfl
    replace x14 := tr old2 x14 rfl
    replace x15 := tr old2 x15 rfl
    have x48 : Fk.f (.ow w4.heap.size ((stc l k).take (N) ++ [r])) (f12.eval (.tmp 48)) w12 := new2
    replace bl := bl2
    replace bl0 := bl
    replace sd := sd2 sz2 df2 sd
    clear df2 sz2 old2 new2 bl2
    refine wl_one (.ow w4.heap.size ((stc l k).take (N) ++ [r])) rfl 3 rfl (by rw [sd.1]; decide) (st_assign (.tmp 48) rfl x48) ?_
    intro f13 w13 df2 sz2 old2 new2 hb
    replace x0 := tr old2 x0 rfl
    replace x2 := tr old2 x2 rfl
    replace x13 := tr old2 x13 rfl
    replace x14 := tr old2 x14 rfl
    replace x15 := tr old2 x15 rfl
    replace x48 := f_at (old2 48 rfl) (Fk.mono _ _ _ _ x48 hb)
    have x3 : Fk.f (.ow w4.heap.size ((stc l k).take (N) ++ [r])) (f13.eval (.tmp 3)) w13 := new2
    replace bl := bgo bl hb
    replace sd := sd2 sz2 df2 sd
    clear df2 sz2 old2 new2 hb
    refine wpList_nil ?_
    clear x48
    show Code.wp _ _ _ _ _
    refine wr_s [.eq (.int .i64 ((k + 1 : Nat) : Int))] (by rw [sd.1]; kernel_rfl) ⟨fun hw ac u K => ?_, trivial⟩ ?_
    · exact st_add (.tmp 15) (.const (.int .i64 1)) rfl (k) (1) (k + 1) (K.t x15 rfl) rfl (by omega) (by omega)
    intro f14 w14 A hb
    replace x0 := A.t x0 rfl
    replace x2 := A.t x2 rfl
    replace x13 := A.t x13 rfl
    replace x14 := A.t x14 rfl
    replace x15 := A.t x15 rfl
    replace x3 := f_at (A.old 3 rfl) (Fk.mono _ _ _ _ x3 hb)
    have x49 := A.e 0 49 rfl rfl
    replace bl := bgo bl hb
    replace sd := A.sd sd
    clear A hb
    refine wl_one (.eq (.int .i64 ((k + 1 : Nat) : Int))) rfl 15 rfl (by rw [sd.1]; decide) (st_move (.tmp 49) rfl x49) ?_
    intro f15 w15 df2 sz2 old2 new2 hb
    replace x0 := tr old2 x0 rfl
    replace x2 := tr old2 x2 rfl
    replace x13 := tr old2 x13 rfl
    replace x14 := tr old2 x14 rfl
    clear x15
    replace x3 := f_at (old2 3 rfl) (Fk.mono _ _ _ _ x3 hb)
    replace x49 := tr old2 x49 rfl
    have x15 := Fk.e new2
    replace bl := bgo bl hb
    replace sd := sd2 sz2 df2 sd
    clear df2 sz2 old2 new2 hb
    refine wpList_nil ?_
    clear x49
    show (∃ _, _) ∧ _
    replace x3 : Fk.f (.ow w4.heap.size (stc l (k + 1))) (f15.eval (.tmp 3)) w15 := (by rw [hst]; exact x3)
    refine ⟨⟨k + 1, by omega, sd.1, sd.2, x0, x2, x13, x14, x15, x3, bl⟩, ?_⟩
    rw [show f15.eval (.tmp 15) = _ from x15, show _ = _ from hcnt]
    first | (simp [intOf]; done) | (simp [intOf]; omega)
  obtain ⟨x, hxi⟩ : ∃ x, l[i]? = some x := ⟨_, List.getElem?_eq_getElem (by omega)⟩
  have hx : x.length = 32 := hs_len hvs hxi
  have hst := stc_put l hz2 hxi
  refine wr_a [.eq (.int .i64 (i : Int)), .eq (.bool true)] (by rw [sd.1]; kernel_rfl) ⟨fun hw ac u K => ?_, fun hw ac u K => ?_, trivial⟩ ?_
  · exact st_move (.tmp 5) rfl (K.t x5 rfl)
  · exact st_geq 3 (.tmp 19) (.const (.int .i64 0)) rfl .i64 ((i : Int)) (0) (K.dep 0 19 rfl) rfl _ (by rw [eq_comm, decide_eq_true_iff]; omega)
  intro f8 w8 A hb
  replace x0 := A.t x0 rfl
  replace x2 := A.t x2 rfl
  replace x3 := f_at (A.old 3 rfl) (Fk.mono _ _ _ _ x3 hb)
  replace x13 := A.t x13 rfl
  replace x14 := A.t x14 rfl
  replace x15 := A.t x15 rfl
  replace x5 := A.t x5 rfl
  have x20 := A.e 1 20 rfl rfl
  replace bl := bgo bl hb
  replace sd := A.sd sd
  clear A hb
  show Code.wp _ _ _ _ _
  refine wp_cond_true x20 ?_
  refine wp_seq ?_
  refine wr_s [.ow w4.heap.size (stc l k), .eq (v), .eq (.int .i64 (i : Int)), .ph (x), .eq (.agg ((x).map V).toArray), .hs ([x])] (by rw [sd.1]; kernel_rfl) ⟨fun hw ac u K => ?_, fun hw ac u K => ?_, fun hw ac u K => ?_, fun hw ac u K => ?_, fun hw ac u K => ?_, fun hw ac u K => ?_, trivial⟩ ?_
  · exact st_move (.tmp 3) rfl (f_at (K.old 3 rfl) (Fk.mono _ _ _ _ x3 K.grow))
  · exact st_move (.tmp 0) rfl (K.t x0 rfl)
  · exact st_move (.tmp 5) rfl (K.t x5 rfl)
  · exact st_idxh (.tmp 22) (.tmp 23) rfl (fk_val (K.dep 1 22 rfl) (Fk.mono _ _ _ _ hvs (bgo bl K.grow))) (i) (x) (K.dep 2 23 rfl) hxi
  · exact st_loadh (.tmp 24) rfl (K.dep 3 24 rfl)
  · exact st_bh1 (.tmp 25) rfl hx (K.dep 4 25 rfl)
  intro f9 w9 A hb
  replace bl0 := bl
  replace x0 := A.t x0 rfl
  replace x2 := A.t x2 rfl
  replace x3 := f_at (A.old 3 rfl) (Fk.mono _ _ _ _ x3 hb)
  replace x13 := A.t x13 rfl
  replace x14 := A.t x14 rfl
  replace x15 := A.t x15 rfl
  replace x5 := A.t x5 rfl
  replace x20 := A.t x20 rfl
  have x21 : Fk.f (.ow w4.heap.size (stc l k)) (f9.eval (.tmp 21)) w9 := A.has 0 21 rfl
  have x26 : Fk.f (.hs ([x])) (f9.eval (.tmp 26)) w9 := A.has 5 26 rfl
  replace bl := bgo bl hb
  replace sd := A.sd sd
  clear A hb
  clear x5
  clear x20
  refine wl_append rfl (.tmp 21) (.tmp 26) rfl 27 rfl (by rw [sd.1]; decide) x21 x26 bl (by omega) ?_
  intro f10 w10 df2 sz2 old2 new2 bl2
  clear x3
  clear x21
  clear x26
  replace x0 := tr old2 x0 rfl
  replace x2 := tr old2 x2 rfl
  replace x13 := tr old2 x13 rfl
  replace x14 := tr old2 x14 rfl
  replace x15 := tr old2 x15 rfl
  have x27 : Fk.f (.ow w4.heap.size (stc l k ++ [x])) (f10.eval (.tmp 27)) w10 := new2
  replace bl := bl2
  replace bl0 := bl
  replace sd := sd2 sz2 df2 sd
  clear df2 sz2 old2 new2 bl2
  refine wl_one (.ow w4.heap.size (stc l k ++ [x])) rfl 3 rfl (by rw [sd.1]; decide) (st_assign (.tmp 27) rfl x27) ?_
  intro f11 w11 df2 sz2 old2 new2 hb
  replace x0 := tr old2 x0 rfl
  replace x2 := tr old2 x2 rfl
  replace x13 := tr old2 x13 rfl
  replace x14 := tr old2 x14 rfl
  replace x15 := tr old2 x15 rfl
  replace x27 := f_at (old2 27 rfl) (Fk.mono _ _ _ _ x27 hb)
  have x3 : Fk.f (.ow w4.heap.size (stc l k ++ [x])) (f11.eval (.tmp 3)) w11 := new2
  replace bl := bgo bl hb
  replace sd := sd2 sz2 df2 sd
  clear df2 sz2 old2 new2 hb
  refine wpList_nil ?_
  clear x27
  show Code.wp _ _ _ _ _
  refine wp_exit ?_
  show Code.wp _ _ _ _ _
  refine wr_s [.eq (.int .i64 ((k + 1 : Nat) : Int))] (by rw [sd.1]; kernel_rfl) ⟨fun hw ac u K => ?_, trivial⟩ ?_
  · exact st_add (.tmp 15) (.const (.int .i64 1)) rfl (k) (1) (k + 1) (K.t x15 rfl) rfl (by omega) (by omega)
  intro f12 w12 A hb
  replace x0 := A.t x0 rfl
  replace x2 := A.t x2 rfl
  replace x13 := A.t x13 rfl
  replace x14 := A.t x14 rfl
  replace x15 := A.t x15 rfl
  replace x3 := f_at (A.old 3 rfl) (Fk.mono _ _ _ _ x3 hb)
  have x49 := A.e 0 49 rfl rfl
  replace bl := bgo bl hb
  replace sd := A.sd sd
  clear A hb
  refine wl_one (.eq (.int .i64 ((k + 1 : Nat) : Int))) rfl 15 rfl (by rw [sd.1]; decide) (st_move (.tmp 49) rfl x49) ?_
  intro f13 w13 df2 sz2 old2 new2 hb
  replace x0 := tr old2 x0 rfl
  replace x2 := tr old2 x2 rfl
  replace x13 := tr old2 x13 rfl
  replace x14 := tr old2 x14 rfl
  clear x15
  replace x3 := f_at (old2 3 rfl) (Fk.mono _ _ _ _ x3 hb)
  replace x49 := tr old2 x49 rfl
  have x15 := Fk.e new2
  replace bl := bgo bl hb
  replace sd := sd2 sz2 df2 sd
  clear df2 sz2 old2 new2 hb
  refine wpList_nil ?_
  clear x49
  show (∃ _, _) ∧ _
  replace x3 : Fk.f (.ow w4.heap.size (stc l (k + 1))) (f13.eval (.tmp 3)) w13 := (by rw [hst]; exact x3)
  refine ⟨⟨k + 1, by omega, sd.1, sd.2, x0, x2, x13, x14, x15, x3, bl⟩, ?_⟩
  rw [show f13.eval (.tmp 15) = _ from x15, show _ = _ from hcnt]
  first | (simp [intOf]; done) | (simp [intOf]; omega)
theorem lroot_any {l : List (List (BitVec 8))} (h400 : l.length ≤ 400) (w : World) {v : Value} (hv : (Fk.hc l).f v w) (hK : Tab w) {y : List (BitVec 8)} (ey : Box (mroot l = y)) :
    Calls Tryd.prog 13 #[v] w fun e w' => e = .returned (.agg ((y).map V).toArray) ∧ Below w.heap.size w w' := by
  by_cases h0 : l.length = 0
  · obtain rfl := List.eq_nil_of_length_eq_zero h0
    exact lroot_nil w hv hK ey
  · exact lroot_pos (by omega) h400 w hv hK ey
end Go.Proofs.YtfmeeimhfdnjpaaDoor
namespace Go.Proofs.YtfmeeimhfdnjpaaDoor
set_option maxRecDepth 100000
open Go.ChangeShapes Go.WideShapes Go.ChangeAt Go.RowKit

theorem own : ownKnob Tryd.prog.godebug = none := by kernel_rfl
theorem laidOut : laidOutB Tryd.prog = true := by kernel_rfl
theorem gK : Tryd.prog.globalNamed "syngraph/sha.roundNumbers" = some 0 := by kernel_rfl
theorem tK : (Tryd.prog.globals[0]?).map (·.type) = some 107 := by kernel_rfl
theorem cells90 : Tryd.prog.cellsOf 90 = 1 := by kernel_rfl
theorem cells107 : Tryd.prog.cellsOf 107 = 64 := by kernel_rfl
theorem under90 : Tryd.prog.underlying 90 = some (.int .u32) := by kernel_rfl
/-- What the rows list. -/
def laidK : List (String × DataW Unit) := [("syngraph/sha.roundNumbers", Rows.laid_syngraph_sha_roundNumbers)]
theorem laidK_tab : laidK = [("syngraph/sha.roundNumbers", Lib.tabData .u32 (KN.map vl))] := by kernel_rfl
theorem hasK_of {W : World} (h : laidMetH Tryd.prog laidK W) : HasK W 0 ∧ 0 < W.heap.size := by
  rw [MakeChecks.laidMetH_plain _ _ _ (by kernel_rfl), laidK_tab] at h
  have hT := Lib.tabIs_of_head gK tK Tryd.under107 under90 cells90 cells107 h
  have hc : ∀ i, i < 64 → W.cell? ⟨0, i, none⟩ = some (.int .u32 (vl (KN.getD i 0))) := fun i hi => by
    rw [hT.cell gK i (by simpa [KN] using hi)]
    have hi' : i < KN.length := by simpa [KN] using hi
    simp [hi']
  exact ⟨hc, block_lt_of_cell (hc 0 (by omega))⟩
theorem door_met (os : Os) (args : Array Value) : laidMetH Tryd.prog laidK ((World.doorLaid Tryd.prog 400 os).forCall (fun _ _ => 0) ⟨#[], args, []⟩).memory :=
  laidMetH_of_parts3 (fuel := 8) (laidMet_of_run' 8 (by kernel_rfl) (by kernel_rfl)) (by kernel_rfl) (by kernel_rfl)
end Go.Proofs.YtfmeeimhfdnjpaaDoor
namespace Go.Proofs.YtfmeeimhfdnjpaaDoor
set_option maxRecDepth 100000
open Go.ChangeShapes Go.WideShapes Go.ChangeAt Go.RowKit
theorem bv_ofInt (z : Int) (h0 : 0 ≤ z) (h1 : z < 256) : bv (BitVec.ofInt 8 z) = z := by
  unfold bv
  rw [BitVec.toNat_ofInt]
  omega
theorem sl_of {H : Type} {enc : TypeId × Value → H} {W : World} {a : Option Addr} {len cap : Nat} {d : DataW H} {p : List MemPlace}
    (h : DataW.Trod enc Tryd.prog W 0 (fun _ => true) true 22 (.slice a len cap) d p) : ∃ bs b o, Sl W a len cap bs b o ∧ len ≤ maxLen := by
  obtain ⟨fuel, hf⟩ := h
  rcases open_ints Tryd.under22 Tryd.under5 (by kernel_rfl) hf with ⟨hcs, _⟩ | ⟨x, l, c, zs, hcs, _, hl, hm, hz, _, hcell, hwz⟩
  · simp [Value.cells] at hcs
    obtain ⟨rfl, rfl, rfl⟩ := hcs
    exact ⟨[], 0, 0, ⟨rfl, Nat.le_refl _, fun _ => ⟨rfl, rfl⟩, fun h => absurd h (by omega)⟩, by unfold maxLen; omega⟩
  · simp [Value.cells] at hcs
    obtain ⟨rfl, rfl, rfl⟩ := hcs
    have hlen : zs.length = cap := by simpa using hz
    refine ⟨(zs.take len).map (BitVec.ofInt 8), x.block, x.off, ⟨?_, hl, fun h => by (cases h), fun hp => ?_⟩, by unfold maxLen at *; omega⟩
    · rw [List.length_map, List.length_take]; omega
    · have hspot : x.spot = none := by
        have := hcell 0 (by omega)
        simp only [Addr.add, if_true] at this
        unfold World.cell? at this
        split at this
        · split at this
          · cases this
          · rename_i h; simpa using h
        · cases this
      have hx : x = ⟨x.block, x.off, none⟩ := by rw [← hspot]
      have hadd : ∀ i, x.add i = ⟨x.block, x.off + i, none⟩ := fun i => by
        unfold Addr.add
        split
        · rename_i h; subst h; rw [Nat.add_zero]; exact hx
        · rfl
      refine ⟨by rw [← hx], ?_, ?_⟩
      · have := block_lt_of_cell (hcell 0 (by omega))
        simpa [Addr.add] using this
      · intro i hi
        have hil : i < zs.length := by rw [List.length_map, List.length_take] at hi; omega
        have hin : i < len := by rw [List.length_map, List.length_take] at hi; omega
        rw [← hadd, hcell i hil]
        have hb := bounds_u8 (hwz (zs[i]) (List.getElem_mem hil))
        have e1 : zs.getD i 0 = zs[i] := by simp [hil]
        have e2 : ((zs.take len).map (BitVec.ofInt 8)).getD i 0 = BitVec.ofInt 8 zs[i] := by simp [hil, hin]
        rw [e1, e2, bv_ofInt _ (by omega) (by omega)]
end Go.Proofs.YtfmeeimhfdnjpaaDoor
namespace Go.Proofs.YtfmeeimhfdnjpaaDoor
set_option maxRecDepth 100000
open Go.ChangeShapes Go.WideShapes Go.ChangeAt Go.RowKit
theorem add_plain {w : World} {x : Addr} {v : Value} (h : w.cell? x = some v) : ∀ i, x.add i = ⟨x.block, x.off + i, none⟩ := by
  have hspot : x.spot = none := by
    unfold World.cell? at h
    split at h
    · split at h
      · cases h
      · rename_i h2; simpa using h2
    · cases h
  intro i
  unfold Addr.add
  split
  · rename_i h2; subst h2; rw [Nat.add_zero, ← hspot]
  · rfl
end Go.Proofs.YtfmeeimhfdnjpaaDoor
namespace Go.Proofs.YtfmeeimhfdnjpaaDoor
set_option maxRecDepth 100000
open Go.ChangeShapes Go.WideShapes Go.ChangeAt Go.RowKit
section
variable {H : Type} {enc : TypeId × Value → H} {W : World}
theorem cells22 : Tryd.prog.cellsOf 22 = 1 := by kernel_rfl
end
end Go.Proofs.YtfmeeimhfdnjpaaDoor
namespace Go.Proofs.YtfmeeimhfdnjpaaDoor
set_option maxRecDepth 100000
open Go.RowKit
/-- A slice that has these slices of bytes. -/
def Fk.mg (ps : List Pt) : Fk := .inr (.inl ⟨fun v w => ∃ A C lb lo, v = .slice A ps.length C ∧ (0 < ps.length → A = some ⟨lb, lo, none⟩) ∧ Ls w lb lo ps, by
  rintro v w w' ⟨A, C, lb, lo, e, hg, h⟩ hb
  exact ⟨A, C, lb, lo, e, hg, h.below hb⟩⟩)
theorem mg_ok {ps : List Pt} {v : Value} {w : World} (h : (Fk.mg ps).f v w) {i : Nat} {p : Pt} (hi : ps[i]? = some p) : Sl w p.sp p.m p.c p.bs p.b p.o := by
  obtain ⟨A, C, lb, lo, e, _, hl⟩ := h
  exact hl.ok i p hi
theorem Tryd.elem28 : Tryd.prog.elem 28 = 22 := by kernel_rfl
theorem Tryd.sizeOf22m (w : World) : (sizeOf 22).run Tryd.prog w = .ok 1 w := by kernel_rfl
section
variable {Q : Exit → Act → World → Prop} {o : Oper} {a : Act} {w : World}
theorem st_lenm (x : Operand) (ho : o.op = .call { callee := .builtin .len, args := #[x], argTypes := #[28] }) {ps : List Pt} (h : (Fk.mg ps).f (a.eval x) w) : o.wp Tryd.prog a w (Ends a o.dst w (Fk.eq (.int .i64 ((ps.length : Nat) : Int))).f) Q := by
  obtain ⟨A, C, lb, lo, e, _, hl⟩ := h
  refine st_pure (v := .int .i64 (ps.length : Int)) ?_ rfl
  have h1 := run_len_slice (P := Tryd.prog) (w := w) 28 o.type A ps.length C (by rw [Tryd.elem28]; exact Tryd.under28)
  unfold execOp
  simp [ho, resolve, invoke, builtin, e, h1, goInt]
theorem st_idxm (x y : Operand) (ho : o.op = .indexAddr 28 x y) {ps : List Pt} (h : (Fk.mg ps).f (a.eval x) w) (i : Nat) (p : Pt) (hy : a.eval y = .int .i64 (i : Int)) (hi : ps[i]? = some p) : o.wp Tryd.prog a w (Ends a o.dst w (Fk.pv (.slice p.sp p.m p.c)).f) Q := by
  obtain ⟨A, C, lb, lo, e, hp, hl⟩ := h
  have hil : i < ps.length := (List.getElem?_eq_some_iff.1 hi).1
  have hp := hp (by omega)
  subst hp
  refine st_pure (v := .pointer (some ⟨lb, lo + i, none⟩)) ?_ ⟨lb, lo + i, rfl, hl.cell i p hi⟩
  have h1 := run_indexAt_slice (P := Tryd.prog) (w := w) 28 ⟨lb, lo, none⟩ ps.length C .i64 (i : Int) (by rw [Tryd.elem28]; exact Tryd.under28)
  rw [if_pos (by omega), Tryd.elem28, Tryd.sizeOf22m] at h1
  simp only [Result.andThen_ok, Int.toNat_natCast, Addr.add_mid, Nat.mul_one] at h1
  unfold execOp
  rw [ho]
  simp [e, hy, h1]
theorem st_loadsl (x : Operand) (ho : o.op = .load 22 x) {u : Value} (h : (Fk.pv u).f (a.eval x) w) : o.wp Tryd.prog a w (Ends a o.dst w (Fk.eq u).f) Q := by
  obtain ⟨b, so, e, hc⟩ := h
  exact st_loadc 22 x ho (by kernel_rfl) e hc
end
end Go.Proofs.YtfmeeimhfdnjpaaDoor
namespace Go.Proofs.YtfmeeimhfdnjpaaDoor
set_option maxRecDepth 100000
open Go.ChangeShapes Go.WideShapes Go.ChangeAt Go.RowKit
/-- What holds of each number below n holds of the members of a list. -/
theorem list_of {P : Nat → Pt → Prop} (n : Nat) (h : ∀ k, k < n → ∃ p, P k p) : ∃ ps : List Pt, ps.length = n ∧ ∀ k p, ps[k]? = some p → P k p := by
  induction n with
  | zero => exact ⟨[], rfl, fun k p hk => by simp at hk⟩
  | succ n ih =>
    obtain ⟨ps, hl, hp⟩ := ih (fun k hk => h k (by omega))
    obtain ⟨q, hq⟩ := h n (by omega)
    refine ⟨ps ++ [q], by simp [hl], fun k p hk => ?_⟩
    rw [List.getElem?_append] at hk
    split at hk
    · exact hp k p hk
    · rename_i hge
      have hkn : k - ps.length = 0 := by
        by_cases h0 : k - ps.length = 0
        · exact h0
        · rw [List.getElem?_eq_none (by simp; omega)] at hk
          cases hk
      rw [hkn] at hk
      obtain rfl : q = p := by simpa using hk
      obtain rfl : k = n := by omega
      exact hq
section
variable {H : Type} {enc : TypeId × Value → H} {W : World}
end
theorem weightsAll_mem {H : Type} {P : Program} {e : TypeId} {d : DataW H} : ∀ {l : List (DataW H)}, d ∈ l → ∀ n ∈ d.weights P e, n ∈ DataW.weightsAll P e l
  | x :: r, h, n, hn => by
    unfold DataW.weightsAll
    rw [List.mem_append]
    rcases List.mem_cons.1 h with rfl | h
    · exact .inl hn
    · exact .inr (weightsAll_mem h n hn)
theorem bytes5 : Tryd.prog.bytesOf 5 = 1 := by kernel_rfl
section
variable {H : Type} {enc : TypeId × Value → H} {W : World}
end
end Go.Proofs.YtfmeeimhfdnjpaaDoor
