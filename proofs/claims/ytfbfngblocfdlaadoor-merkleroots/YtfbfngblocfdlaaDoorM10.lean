/- grown. joined. Peaks of a list, plainly: how they grow, and how they are joined. Clone; Each. -/
import Derived.Test.YtfbfngblocfdlaaDoorM9
import Derived.Test.YtfbfngblocfdlaaDoorM8
namespace Go.Proofs.YtfbfngblocfdlaaDoor
set_option maxRecDepth 100000
open Go.RowKit
theorem wl_appendB {Q : Exit → Act → World → Prop} {o : Oper} {a : Act} {w : World} {ops : Array Oper} {rest : List Oper} (hgd : o.guard = none) (s x : Operand) (ho : o.op = .call { callee := .builtin .append, args := #[s, x], argTypes := #[22, 22] }) (d : Nat) (hd : o.dst = some d) (hsz : d < a.tmps.size)
    {B : Nat} {hs : List (List (BitVec 8))} {hh : List (BitVec 8)} (hs1 : (Fk.ow B hs).f (a.eval s) w) (hx : (Fk.hs [hh]).f (a.eval x) w) (hL : B ≤ w.heap.size) (hN : hs.length ≤ 1000)
    (h : ∀ a2 w2, a2.defers = a.defers → a2.tmps.size = a.tmps.size → (∀ t, (t == d) = false → a2.eval (.tmp t) = a.eval (.tmp t)) → (Fk.ow B (hs ++ [hh])).f (a2.eval (.tmp d)) w2 → Below B w w2 → wpList Tryd.prog ops Q rest a2 w2) : wpList Tryd.prog ops Q (o :: rest) a w := by
  obtain ⟨i0, hi, hz0, hz1, hz2⟩ := info_parts Tryd.info24
  obtain ⟨A, C, lb, lo, e, hl⟩ := hx
  obtain ⟨hown, h32⟩ := hs1
  obtain ⟨hhl, hB⟩ := hl.all 0 hh rfl
  have hp := hl.ptr (by simp)
  subst hp
  refine wpList_append_own w hgd s x 22 ho B 24 i0 _ 32 32 Tryd.under22' hi hz0 hz1 hz2 (by simp [Value.cells, hz_len]) (by decide) _ hs.length _ rfl hown ⟨lb, lo, none⟩ 1 C (hh.map V) (by simpa using e) (by simp [hhl]) ?_ (V_one hh) (by unfold maxLen; omega) (by omega) hL ?_
  · intro j u hj
    have := hB.src hh.length j u
    rw [List.take_of_length_le (Nat.le_refl _), Nat.zero_mul, Nat.add_zero] at this
    exact this hj
  · intro v' w' h1 h2 _
    refine h _ _ (put_def _ _ _) (put_size _ _ _) (fun t ht => ?_) ?_ ((Below.refl B w).grown h2 hL (fun k e => (World.ownsRow.lt hown k e).1))
    · rw [hd]
      exact put_eval_other _ _ _ _ (fun e => by subst e; simp at ht)
    · rw [hd, put_eval_same _ _ _ hsz]
      refine ⟨?_, fun i y hi => ?_⟩
      · rw [List.length_append, List.flatten_append, List.map_append]
        simpa using h1
      · by_cases hil : i < hs.length
        · exact h32 i y (by rw [List.getElem?_append_left hil] at hi; exact hi)
        · rw [List.getElem?_append_right (by omega)] at hi
          cases hq : i - hs.length with
          | zero =>
            rw [hq] at hi
            obtain rfl : hh = y := by simpa using hi
            exact hhl
          | succ n => rw [hq] at hi; simp at hi
/-- The hash that j joins have made. -/
def gw (hs : List (List (BitVec 8))) (h : List (BitVec 8)) : Nat → List (BitVec 8)
  | 0 => h
  | j + 1 => nd (hs.getD (hs.length - j - 1) []) (gw hs h j)
theorem gw_len (hs : List (List (BitVec 8))) {h : List (BitVec 8)} (hh : h.length = 32) (j : Nat) : (gw hs h j).length = 32 := by
  cases j with
  | zero => exact hh
  | succ j => exact nd_len _ _
theorem gw_succ {hs : List (List (BitVec 8))} (h : List (BitVec 8)) {j : Nat} {p : List (BitVec 8)} (hp : hs[hs.length - j - 1]? = some p) : nd p (gw hs h j) = gw hs h (j + 1) := by
  show _ = nd (hs.getD (hs.length - j - 1) []) (gw hs h j)
  rw [List.getD_eq_getElem?_getD, hp]
  rfl
theorem st_cutv {Q : Exit → Act → World → Prop} {o : Oper} {a : Act} {w : World} (x y : Operand) (ho : o.op = .slice 22 x none (some y) none) {A : Option Addr} {m C : Nat} (hx : a.eval x = .slice A m C) (n : Nat) (hy : a.eval y = .int .i64 (n : Int)) (hn : n ≤ C) : o.wp Tryd.prog a w (Ends a o.dst w (Fk.eq (.slice A n C)).f) Q := by
  refine st_pure (v := .slice A n C) ?_ rfl
  have h1 := run_slice_h (P := Tryd.prog) (w := w) 22 A m C (by rw [Tryd.elem22]; exact Tryd.under22') .i64 (n : Int) (by omega) (by omega)
  rw [Tryd.elem22, Tryd.sizeOf24] at h1
  simp only [Result.andThen_ok, Int.toNat_natCast] at h1
  have h2 := run_sliceAt_slice (P := Tryd.prog) (w := w) 22 (.slice A m C) none (some (.int .i64 (n : Int))) none (by rw [Tryd.elem22]; exact Tryd.under22')
  have h3 : sliced A 0 n C 32 = .slice A n C := by
    unfold sliced
    by_cases h0 : C = 0
    · simp [h0]
    · cases A with
      | none => simp
      | some p => simp [Addr.add]
  unfold execOp
  rw [ho]
  simp [hx, hy, h2, h1, h3]
theorem grown_any {hs : List (List (BitVec 8))} {h : List (BitVec 8)} (hh : h.length = 32) {n t B C : Nat} {pA : Option Addr} (hn1 : 1 ≤ n) (hn2 : n ≤ 127) (ht : tzn n = t) (htl : t ≤ hs.length) (hl : hs.length ≤ 1000) (w : World) (hB : B ≤ w.heap.size) (hv0 : (Fk.ow B hs).f (.slice pA hs.length C) w) (hK : Tab w) (hz : Tz w) :
    Calls Tryd.prog 26 #[.slice pA hs.length C, .int .i64 ((n : Nat) : Int), .agg ((h).map V).toArray] w fun e w' => ∃ u, e = .returned u ∧ (Fk.ow B (hs.take (hs.length - t) ++ [gw hs h t])).f u w' ∧ Below B w w' := by
  have hC : hs.length ≤ C := by
    obtain ⟨A', C', lb, lo, e, hc, _⟩ := ow_hc hv0
    cases e
    exact hc
  go_enter Tryd.func26, Tryd.ntmps26
  refine code_both (fun f w1 => f.tmps.size = 30 ∧ f.defers = [] ∧ f.eval (.tmp 0) = .slice pA hs.length C ∧ f.eval (.tmp 1) = .int .i64 ((n : Nat) : Int) ∧ f.eval (.tmp 2) = .agg ((h).map V).toArray ∧ Below w.heap.size w (w1)) ⟨rfl, rfl, rfl, rfl, rfl, Below.refl _ _⟩ ?_
  rintro f0 w0 ⟨sz, df, x0, x1, x2, bl⟩
  have bl0 := bl
  refine wp_seq ?_
  -- R0
  refine wp_region_seq [] (by kernel_rfl) (by kernel_rfl) (by rw [sz]; kernel_rfl) (by kernel_rfl) trivial ?_
  intro f1 w1 A hb
  replace bl0 := bl
  replace x0 := (A.old 0 rfl).trans x0
  replace x1 := (A.old 1 rfl).trans x1
  replace x2 := (A.old 2 rfl).trans x2
  replace bl := (bl.trans (Below.mono hb bl.size))
  replace sz := A.size.trans sz
  replace df := A.defs.trans df
  clear A hb
  refine wl_one (.nw w1.heap.size 24 ((h).map V)) rfl 5 rfl (by rw [sz]; decide) (st_box 24 (.tmp 2) rfl _ _ (by rw [show _ = _ from x2]; kernel_rfl) (Nat.le_refl _)) ?_
  intro f2 w2 df2 sz2 old2 new2 hb
  replace bl0 := bl
  replace x0 := (old2 0 rfl).trans x0
  replace x1 := (old2 1 rfl).trans x1
  replace x2 := (old2 2 rfl).trans x2
  have x5 : Fk.f (.nw w1.heap.size 24 ((h).map V)) (f2.eval (.tmp 5)) w2 := new2
  replace bl := (bl.trans (Below.mono hb bl.size))
  replace sz := sz2.trans sz
  replace df := df2.trans df
  clear df2 sz2 old2 new2 hb
  obtain ⟨g5, hg5, e5, m5⟩ := x5
  have x5 := e5
  clear e5
  have hw5 : w.heap.size ≤ g5 := Nat.le_trans bl0.size hg5
  clear x2
  refine wl_one (.eq (.slice none 0 0)) rfl 6 rfl (by rw [sz]; decide) (st_assign (.const (.slice none 0 0)) rfl rfl) ?_
  intro f3 w3 df2 sz2 old2 new2 hb
  replace bl0 := bl
  replace x0 := (old2 0 rfl).trans x0
  replace x1 := (old2 1 rfl).trans x1
  replace x5 := (old2 5 rfl).trans x5
  have x6 : f3.eval (.tmp 6) = .slice none 0 0 := new2
  have lt_m5 := Ob.lt m5
  replace m5 := Ob.below m5 hb
  replace bl := (bl.trans (Below.mono hb bl.size))
  replace sz := sz2.trans sz
  replace df := df2.trans df
  clear df2 sz2 old2 new2 hb
  refine wpList_nil ?_
  show Code.wp _ _ _ _ _
  refine wp_seq ?_
  refine wp_seq ?_
  -- R1
  refine wp_all_seq [.eq (.int .i64 ((n : Nat) : Int)), .eq (.int .u64 ((n : Nat) : Int)), .eq (.int .i64 ((t : Nat) : Int)), .eq (.int .i64 0)] (by kernel_rfl) (by kernel_rfl) (by rw [sz]; kernel_rfl) (by kernel_rfl) ⟨fun hw ac u K => ?_, fun hw ac u K => ?_, fun hw ac u K => ?_, fun hw ac u K => ?_, trivial⟩ ?_
  · exact st_move (.tmp 1) rfl ((K.old 1 rfl).trans x1)
  · exact st_conv 3 53 (.tmp 8) rfl .i64 .u64 _ _ (K.dep 0 8 rfl) Tryd.under3 Tryd.under53 (by rw [IntKind.wrap_u64]; omega)
  · exact st_call 36 (.func 36) _ _ #[.int .u64 ((n : Nat) : Int)] rfl rfl (one_arg (K.dep 1 9 rfl)) Tryd.enter36 (by rw [← ht]; exact fk_of (tz_any n hn1 hn2 _ (hz.below (bl.trans (Below.mono K.grow bl.size)) hz.lt)))
  · exact st_move (.const (.int .i64 0)) rfl rfl
  intro f4 w4 A hb
  replace bl0 := bl
  replace x0 := (A.old 0 rfl).trans x0
  replace x1 := (A.old 1 rfl).trans x1
  replace x5 := (A.old 5 rfl).trans x5
  replace x6 := (A.old 6 rfl).trans x6
  have x10 : f4.eval (.tmp 10) = .int .i64 ((t : Nat) : Int) := A.has 2 10 rfl
  have x11 : f4.eval (.tmp 11) = .int .i64 0 := A.has 3 11 rfl
  have lt_m5 := Ob.lt m5
  replace m5 := Ob.below m5 hb
  replace bl := (bl.trans (Below.mono hb bl.size))
  replace sz := A.size.trans sz
  replace df := A.defs.trans df
  clear A hb
  clear x1
  show Code.wp _ _ _ _ _
  refine wp_block ?_
  refine wp_loop (fun f v1 => ∃ j : Nat, j ≤ t ∧ f.tmps.size = 30 ∧ f.defers = [] ∧ f.eval (.tmp 5) = .pointer (some ⟨g5, 0, none⟩) ∧ f.eval (.tmp 6) = .slice none 0 0 ∧ f.eval (.tmp 10) = .int .i64 ((t : Nat) : Int) ∧ f.eval (.tmp 11) = .int .i64 ((j : Nat) : Int) ∧ f.eval (.tmp 0) = .slice pA (hs.length - j) C ∧ Ob v1 (g5) 24 ((gw hs h j).map V) ∧ Below w.heap.size w (v1)) (fun f _ => t - (intOf (f.eval (.tmp 11))).toNat) ⟨0, Nat.zero_le _, sz, df, x5, x6, x10, x11, x0, m5, bl⟩ ?_
  intro f5 w5 hI
  clear sz df bl bl0 x0 x5 x6 x10 x11 m5
  obtain ⟨j, hj, sz, df, x5, x6, x10, x11, x0, m5, bl⟩ := hI
  have bl0 := bl
  have hcnt := x11
  have hvj := ow_hs (ow_take hv0 (hs.length - j) (by omega))
  refine wp_seq ?_
  by_cases hlt : j < t
  rotate_left
  · skip
    have hjt : j = t := by omega
    -- R2
    refine wp_all_seq [.eq (.bool false)] (by kernel_rfl) (by kernel_rfl) (by rw [sz]; kernel_rfl) (by kernel_rfl) ⟨fun hw ac u K => ?_, trivial⟩ ?_
    · exact st_lss 3 (.tmp 11) (.tmp 10) rfl .i64 (((j : Nat) : Int)) (((t : Nat) : Int)) ((K.old 11 rfl).trans x11) ((K.old 10 rfl).trans x10) _ (by rw [eq_comm, decide_eq_false_iff_not]; exact fun h => hlt (Int.ofNat_lt.1 h))
    intro f6 w6 A hb
    replace bl0 := bl
    replace x0 := (A.old 0 rfl).trans x0
    replace x5 := (A.old 5 rfl).trans x5
    replace x6 := (A.old 6 rfl).trans x6
    replace x10 := (A.old 10 rfl).trans x10
    replace x11 := (A.old 11 rfl).trans x11
    have x12 : f6.eval (.tmp 12) = .bool false := A.has 0 12 rfl
    have lt_m5 := Ob.lt m5
    replace m5 := Ob.below m5 hb
    replace bl := (bl.trans (Below.mono hb bl.size))
    replace sz := A.size.trans sz
    replace df := A.defs.trans df
    clear A hb
    show Code.wp _ _ _ _ _
    refine wp_seq ?_
    refine wp_cond_false x12 ?_
    refine wp_exit ?_
    show Code.wp _ _ _ _ _
    refine wp_seq ?_
    -- R7
    refine wp_region_seq [.eq (.slice pA (hs.length - j) C), .eq (.agg ((gw hs h j).map V).toArray), .hs ([gw hs h j])] (by kernel_rfl) (by kernel_rfl) (by rw [sz]; kernel_rfl) (by kernel_rfl) ⟨fun hw ac u K => ?_, fun hw ac u K => ?_, fun hw ac u K => ?_, trivial⟩ ?_
    · exact st_move (.tmp 0) rfl ((K.old 0 rfl).trans x0)
    · exact st_load24 (.tmp 5) rfl (g5) (gw hs h j) ((K.old 5 rfl).trans x5) (gw_len hs hh j) (Ob.below m5 K.grow)
    · exact st_bh1 (.tmp 27) rfl (gw_len hs hh j) (K.dep 1 27 rfl)
    intro f7 w7 A hb
    replace bl0 := bl
    replace x0 := (A.old 0 rfl).trans x0
    replace x5 := (A.old 5 rfl).trans x5
    replace x6 := (A.old 6 rfl).trans x6
    replace x10 := (A.old 10 rfl).trans x10
    replace x11 := (A.old 11 rfl).trans x11
    replace x12 := (A.old 12 rfl).trans x12
    have x26 : f7.eval (.tmp 26) = .slice pA (hs.length - j) C := A.has 0 26 rfl
    have x28 : Fk.f (.hs ([gw hs h j])) (f7.eval (.tmp 28)) w7 := A.has 2 28 rfl
    have lt_m5 := Ob.lt m5
    replace m5 := Ob.below m5 hb
    replace bl := (bl.trans (Below.mono hb bl.size))
    replace sz := A.size.trans sz
    replace df := A.defs.trans df
    clear A hb
    have ho26 := fk_val x26 (Fk.mono _ _ _ _ (ow_take hv0 (hs.length - j) (by omega)) bl)
    refine wl_appendB rfl (.tmp 26) (.tmp 28) rfl 29 rfl (by rw [sz]; decide) ho26 x28 (Nat.le_trans hB bl.size) (by rw [List.length_take]; omega) ?_
    intro f8 w8 df2 sz2 old2 new2 bl2
    clear x28
    replace x0 := (old2 0 rfl).trans x0
    replace x5 := (old2 5 rfl).trans x5
    replace x6 := (old2 6 rfl).trans x6
    replace x10 := (old2 10 rfl).trans x10
    replace x11 := (old2 11 rfl).trans x11
    replace x12 := (old2 12 rfl).trans x12
    replace x26 := (old2 26 rfl).trans x26
    clear m5
    have x29 : Fk.f (.ow B (hs.take (hs.length - j) ++ [gw hs h j])) (f8.eval (.tmp 29)) w8 := new2
    replace bl := (Below.mono bl hB).trans bl2
    replace bl0 := bl
    replace sz := sz2.trans sz
    replace df := df2.trans df
    clear df2 sz2 old2 new2 bl2
    clear x26
    refine wl_one (.ow B (hs.take (hs.length - j) ++ [gw hs h j])) rfl 6 rfl (by rw [sz]; decide) (st_assign (.tmp 29) rfl x29) ?_
    intro f9 w9 df2 sz2 old2 new2 hb
    replace bl0 := bl
    replace x0 := (old2 0 rfl).trans x0
    replace x5 := (old2 5 rfl).trans x5
    clear x6
    replace x10 := (old2 10 rfl).trans x10
    replace x11 := (old2 11 rfl).trans x11
    replace x12 := (old2 12 rfl).trans x12
    replace x29 := f_at (old2 29 rfl) (Fk.mono _ _ _ _ x29 hb)
    have x6 : Fk.f (.ow B (hs.take (hs.length - j) ++ [gw hs h j])) (f9.eval (.tmp 6)) w9 := new2
    replace bl := (bl.trans (Below.mono hb (Nat.le_trans hB bl.size)))
    replace sz := sz2.trans sz
    replace df := df2.trans df
    clear df2 sz2 old2 new2 hb
    refine wpList_nil ?_
    clear x29
    show Code.wp _ _ _ _ _
    refine wp_ret ?_
    repeat (first | with_reducible refine then_ret ?_ | with_reducible refine block_ret ?_)
    rw [hjt] at x6
    exact bodyPost_ret (v := f9.eval (.tmp 6)) (ret_slot rfl f9 _ rfl _ _) df ⟨_, rfl, x6, bl⟩
  obtain ⟨p, hpj⟩ : ∃ p, hs[hs.length - j - 1]? = some p := ⟨_, List.getElem?_eq_getElem (by omega)⟩
  have hpt : (hs.take (hs.length - j))[hs.length - j - 1]? = some p := by rw [List.getElem?_take, if_pos (by omega)]; exact hpj
  have hp : p.length = 32 := hs_len hvj hpt
  -- R2
  refine wp_all_seq [.eq (.bool true)] (by kernel_rfl) (by kernel_rfl) (by rw [sz]; kernel_rfl) (by kernel_rfl) ⟨fun hw ac u K => ?_, trivial⟩ ?_
  · exact st_lss 3 (.tmp 11) (.tmp 10) rfl .i64 (((j : Nat) : Int)) (((t : Nat) : Int)) ((K.old 11 rfl).trans x11) ((K.old 10 rfl).trans x10) _ (by rw [eq_comm, decide_eq_true_iff]; exact Int.ofNat_lt.2 hlt)
  intro f6 w6 A hb
  replace bl0 := bl
  replace x0 := (A.old 0 rfl).trans x0
  replace x5 := (A.old 5 rfl).trans x5
  replace x6 := (A.old 6 rfl).trans x6
  replace x10 := (A.old 10 rfl).trans x10
  replace x11 := (A.old 11 rfl).trans x11
  have x12 : f6.eval (.tmp 12) = .bool true := A.has 0 12 rfl
  have lt_m5 := Ob.lt m5
  replace m5 := Ob.below m5 hb
  replace bl := (bl.trans (Below.mono hb bl.size))
  replace sz := A.size.trans sz
  replace df := A.defs.trans df
  clear A hb
  show Code.wp _ _ _ _ _
  refine wp_seq ?_
  refine wp_cond_true x12 ?_
  refine wp_skip ?_
  show Code.wp _ _ _ _ _
  refine wp_seq ?_
  refine wp_block ?_
  refine wp_seq ?_
  -- R3
  refine wp_all_seq [.eq (.slice pA (hs.length - j) C), .eq (.int .i64 (((hs.take (hs.length - j)).length : Nat) : Int)), .eq (.int .i64 ((hs.length - j - 1 : Nat) : Int)), .eq (.int .i64 ((hs.length - j - 1 : Nat) : Int))] (by kernel_rfl) (by kernel_rfl) (by rw [sz]; kernel_rfl) (by kernel_rfl) ⟨fun hw ac u K => ?_, fun hw ac u K => ?_, fun hw ac u K => ?_, fun hw ac u K => ?_, trivial⟩ ?_
  · exact st_move (.tmp 0) rfl ((K.old 0 rfl).trans x0)
  · exact st_lenh (.tmp 13) rfl (fk_val (K.dep 0 13 rfl) (Fk.mono _ _ _ _ hvj (bl.trans (Below.mono K.grow bl.size))))
  · exact st_sub (.tmp 14) (.const (.int .i64 1)) rfl ((hs.take (hs.length - j)).length) (1) (hs.length - j - 1) (K.dep 1 14 rfl) rfl (by rw [List.length_take]; omega) (by rw [List.length_take]; omega)
  · exact st_assign (.tmp 15) rfl (K.dep 2 15 rfl)
  intro f7 w7 A hb
  replace bl0 := bl
  replace x0 := (A.old 0 rfl).trans x0
  replace x5 := (A.old 5 rfl).trans x5
  replace x6 := (A.old 6 rfl).trans x6
  replace x10 := (A.old 10 rfl).trans x10
  replace x11 := (A.old 11 rfl).trans x11
  replace x12 := (A.old 12 rfl).trans x12
  have x7 : f7.eval (.tmp 7) = .int .i64 ((hs.length - j - 1 : Nat) : Int) := A.has 3 7 rfl
  have lt_m5 := Ob.lt m5
  replace m5 := Ob.below m5 hb
  replace bl := (bl.trans (Below.mono hb bl.size))
  replace sz := A.size.trans sz
  replace df := A.defs.trans df
  clear A hb
  show Code.wp _ _ _ _ _
  refine wp_seq ?_
  -- R4
  refine wp_region_tail [.eq (.slice pA (hs.length - j) C), .eq (.int .i64 ((hs.length - j - 1 : Nat) : Int)), .ph (p), .eq (.agg ((p).map V).toArray), .eq (.agg ((gw hs h j).map V).toArray), .eq (.agg ((gw hs h (j + 1)).map V).toArray)] [6] Tryd.mixed (by kernel_rfl) (by kernel_rfl) (by kernel_rfl) (by kernel_rfl) (by rw [sz]; kernel_rfl) (by kernel_rfl) ⟨fun hw ac u K => ?_, fun hw ac u K => ?_, fun hw ac u K => ?_, fun hw ac u K => ?_, fun hw ac u K => ?_, fun hw ac u K => ?_, trivial⟩ ?_
  · exact st_move (.tmp 0) rfl ((K.old 0 rfl).trans x0)
  · exact st_move (.tmp 7) rfl ((K.old 7 rfl).trans x7)
  · exact st_idxh (.tmp 16) (.tmp 17) rfl (fk_val (K.dep 0 16 rfl) (Fk.mono _ _ _ _ hvj (bl.trans (Below.mono K.grow bl.size)))) (hs.length - j - 1) (p) (K.dep 1 17 rfl) hpt
  · exact st_loadh (.tmp 18) rfl (K.dep 2 18 rfl)
  · exact st_load24 (.tmp 5) rfl (g5) (gw hs h j) ((K.old 5 rfl).trans x5) (gw_len hs hh j) (Ob.below m5 K.grow)
  · exact st_call 22 (.func 22) _ _ #[.agg ((p).map V).toArray, .agg ((gw hs h j).map V).toArray] rfl rfl (arg2 (K.dep 3 19 rfl) (K.dep 4 20 rfl)) Tryd.enter22 (fk_node hp (gw_len hs hh j) (hK.below (bl.trans (Below.mono K.grow bl.size))) ⟨gw_succ h hpj⟩)
  intro f8 w8 A hb
  replace bl0 := bl
  replace x0 := (A.old 0 rfl).trans x0
  replace x5 := (A.old 5 rfl).trans x5
  replace x6 := (A.old 6 rfl).trans x6
  replace x10 := (A.old 10 rfl).trans x10
  replace x11 := (A.old 11 rfl).trans x11
  replace x12 := (A.old 12 rfl).trans x12
  replace x7 := (A.old 7 rfl).trans x7
  have x21 : f8.eval (.tmp 21) = .agg ((gw hs h (j + 1)).map V).toArray := A.has 5 21 rfl
  have lt_m5 := Ob.lt m5
  replace m5 := Ob.below m5 hb
  replace bl := (bl.trans (Below.mono hb bl.size))
  replace sz := A.size.trans sz
  replace df := A.defs.trans df
  clear A hb
  refine wl_store rfl (.tmp 5) (.tmp 21) rfl rfl (g5) (gw hs h (j + 1)) (gw hs h j) x5 x21 m5 (gw_len hs hh j) (gw_len hs hh (j + 1)) ?_
  replace m5 : Ob (w8.setRow g5 ((gw hs h (j + 1)).map V : List Value).toArray) (g5) 24 ((gw hs h (j + 1)).map V) := Ob.setRow m5 ((gw hs h (j + 1)).map V)
  replace bl : Below w.heap.size w (w8.setRow g5 ((gw hs h (j + 1)).map V : List Value).toArray) := bl.trans (below_setRow _ _ _ _ hw5)
  generalize w8.setRow g5 ((gw hs h (j + 1)).map V : List Value).toArray = w9b at bl m5 ⊢
  refine wpList_nil ?_
  clear x21
  show Code.wp _ _ _ _ _
  -- R5
  refine wp_region_seq [.eq (.slice pA (hs.length - j) C), .eq (.int .i64 ((hs.length - j - 1 : Nat) : Int)), .eq (.slice pA (hs.length - j - 1) C)] (by kernel_rfl) (by kernel_rfl) (by rw [sz]; kernel_rfl) (by kernel_rfl) ⟨fun hw ac u K => ?_, fun hw ac u K => ?_, fun hw ac u K => ?_, trivial⟩ ?_
  · exact st_move (.tmp 0) rfl ((K.old 0 rfl).trans x0)
  · exact st_move (.tmp 7) rfl ((K.old 7 rfl).trans x7)
  · exact st_cutv (.tmp 22) (.tmp 23) rfl (K.dep 0 22 rfl) _ (K.dep 1 23 rfl) (by omega)
  intro f10 w10 A hb
  replace bl0 := bl
  replace x0 := (A.old 0 rfl).trans x0
  replace x5 := (A.old 5 rfl).trans x5
  replace x6 := (A.old 6 rfl).trans x6
  replace x10 := (A.old 10 rfl).trans x10
  replace x11 := (A.old 11 rfl).trans x11
  replace x12 := (A.old 12 rfl).trans x12
  replace x7 := (A.old 7 rfl).trans x7
  have x24 : f10.eval (.tmp 24) = .slice pA (hs.length - j - 1) C := A.has 2 24 rfl
  have lt_m5 := Ob.lt m5
  replace m5 := Ob.below m5 hb
  replace bl := (bl.trans (Below.mono hb bl.size))
  replace sz := A.size.trans sz
  replace df := A.defs.trans df
  clear A hb
  refine wl_one (.eq (.slice pA (hs.length - j - 1) C)) rfl 0 rfl (by rw [sz]; decide) (st_assign (.tmp 24) rfl x24) ?_
  intro f11 w11 df2 sz2 old2 new2 hb
  replace bl0 := bl
  clear x0
  replace x5 := (old2 5 rfl).trans x5
  replace x6 := (old2 6 rfl).trans x6
  replace x10 := (old2 10 rfl).trans x10
  replace x11 := (old2 11 rfl).trans x11
  replace x12 := (old2 12 rfl).trans x12
  replace x7 := (old2 7 rfl).trans x7
  replace x24 := (old2 24 rfl).trans x24
  have x0 : f11.eval (.tmp 0) = .slice pA (hs.length - j - 1) C := new2
  have lt_m5 := Ob.lt m5
  replace m5 := Ob.below m5 hb
  replace bl := (bl.trans (Below.mono hb bl.size))
  replace sz := sz2.trans sz
  replace df := df2.trans df
  clear df2 sz2 old2 new2 hb
  refine wpList_nil ?_
  clear x24
  show Code.wp _ _ _ _ _
  -- R6
  refine wp_region_seq [.eq (.int .i64 ((j + 1 : Nat) : Int))] (by kernel_rfl) (by kernel_rfl) (by rw [sz]; kernel_rfl) (by kernel_rfl) ⟨fun hw ac u K => ?_, trivial⟩ ?_
  · exact st_add (.tmp 11) (.const (.int .i64 1)) rfl (j) (1) (j + 1) ((K.old 11 rfl).trans x11) rfl (by omega) (by omega)
  intro f12 w12 A hb
  replace bl0 := bl
  replace x5 := (A.old 5 rfl).trans x5
  replace x6 := (A.old 6 rfl).trans x6
  replace x10 := (A.old 10 rfl).trans x10
  replace x11 := (A.old 11 rfl).trans x11
  replace x12 := (A.old 12 rfl).trans x12
  replace x7 := (A.old 7 rfl).trans x7
  replace x0 := (A.old 0 rfl).trans x0
  have x25 : f12.eval (.tmp 25) = .int .i64 ((j + 1 : Nat) : Int) := A.has 0 25 rfl
  have lt_m5 := Ob.lt m5
  replace m5 := Ob.below m5 hb
  replace bl := (bl.trans (Below.mono hb bl.size))
  replace sz := A.size.trans sz
  replace df := A.defs.trans df
  clear A hb
  refine wl_one (.eq (.int .i64 ((j + 1 : Nat) : Int))) rfl 11 rfl (by rw [sz]; decide) (st_move (.tmp 25) rfl x25) ?_
  intro f13 w13 df2 sz2 old2 new2 hb
  replace bl0 := bl
  replace x5 := (old2 5 rfl).trans x5
  replace x6 := (old2 6 rfl).trans x6
  replace x10 := (old2 10 rfl).trans x10
  clear x11
  replace x12 := (old2 12 rfl).trans x12
  replace x7 := (old2 7 rfl).trans x7
  replace x0 := (old2 0 rfl).trans x0
  replace x25 := (old2 25 rfl).trans x25
  have x11 : f13.eval (.tmp 11) = .int .i64 ((j + 1 : Nat) : Int) := new2
  have lt_m5 := Ob.lt m5
  replace m5 := Ob.below m5 hb
  replace bl := (bl.trans (Below.mono hb bl.size))
  replace sz := sz2.trans sz
  replace df := df2.trans df
  clear df2 sz2 old2 new2 hb
  refine wpList_nil ?_
  clear x25
  show (∃ _, _) ∧ _
  refine ⟨⟨j + 1, by omega, sz, df, x5, x6, x10, x11, x0, m5, bl⟩, ?_⟩
  rw [show f13.eval (.tmp 11) = _ from x11, show _ = _ from hcnt]
  simp [intOf]
  omega
end Go.Proofs.YtfbfngblocfdlaaDoor
namespace Go.Proofs.YtfbfngblocfdlaaDoor
set_option maxRecDepth 100000
open Go.RowKit
/-- The hash that k joins from the last one back have made. -/
def jn (P : List (List (BitVec 8))) : Nat → List (BitVec 8)
  | 0 => P.getD (P.length - 1) []
  | k + 1 => nd (P.getD (P.length - 1 - 1 - k) []) (jn P k)
theorem jn_len {P : List (List (BitVec 8))} (h1 : 1 ≤ P.length) (h32 : ∀ x ∈ P, x.length = 32) (k : Nat) : (jn P k).length = 32 := by
  cases k with
  | zero =>
    show (P.getD (P.length - 1) []).length = 32
    rw [List.getD_eq_getElem?_getD, List.getElem?_eq_getElem (by omega)]
    exact h32 _ (List.getElem_mem _)
  | succ k => exact nd_len _ _
theorem getD_take {P : List (List (BitVec 8))} {n i : Nat} (h : i < n) : (P.take n).getD i [] = P.getD i [] := by
  rw [List.getD_eq_getElem?_getD, List.getD_eq_getElem?_getD, List.getElem?_take, if_pos h]
theorem def_setRow {w : World} {D g : Nat} {T : TypeId} {cs : List Value} {d : Option (List Deferred)} (hD : w.heap[D]? = some (.deferred d)) (m : Ob w g T cs) (ds : Array Value) : (w.setRow g ds).heap[D]? = some (.deferred d) := by
  have hne : D ≠ g := by
    rintro rfl
    unfold Ob at m
    rw [hD] at m
    cases m
  rw [((Only.refl g w).setRow ds).block D (Array.getElem?_eq_some_iff.1 hD).1 hne]
  exact hD
theorem def_ne {w : World} {D g : Nat} {T : TypeId} {cs : List Value} {d : Option (List Deferred)} (hD : w.heap[D]? = some (.deferred d)) (m : Ob w g T cs) : g ≠ D := by
  rintro rfl
  unfold Ob at m
  rw [hD] at m
  cases m
set_option maxHeartbeats 1000000 in
theorem joined_any {P : List (List (BitVec 8))} (h1 : 1 ≤ P.length) (hl : P.length ≤ 1000) {pA : Option Addr} {pC : Nat} (w : World) (hv : (Fk.hc P).f (.slice pA P.length pC) w) (hK : Tab w) {y : List (BitVec 8)} (ey : Box (jn P (P.length - 1) = y)) :
    Calls Tryd.prog 27 #[.slice pA P.length pC] w fun e w' => e = .returned (.agg ((y).map V).toArray) ∧ Below w.heap.size w w' := by
  have hvs := hc_hs hv
  have h32 := hc_len hv
  have hC : P.length ≤ pC := by
    obtain ⟨A', C', lb, lo, e, hc, _⟩ := hv
    cases e
    exact hc
  have hvt : (Fk.hs (P.take (P.length - 1))).f (.slice pA (P.length - 1) pC) w := hc_hs (hc_take hv (by omega))
  obtain ⟨y0, hy0k⟩ : ∃ y0, P[P.length - 1]? = some y0 := ⟨_, List.getElem?_eq_getElem (by omega)⟩
  have hj0 : P.getD (P.length - 1) [] = y0 := by rw [List.getD_eq_getElem?_getD, hy0k]; rfl
  have hy0 : y0.length = 32 := hs_len hvs hy0k
  have hy : y.length = 32 := by rw [← ey.out]; exact jn_len h1 h32 _
  refine (callsIn_wide (n := 7)).1 ?_
  refine callsIn_of_wp_marks Tryd.func27 rfl trivial ?_ rfl
  simp only [Tryd.ntmps27, List.size_toArray, List.length_cons, List.length_nil, Nat.reduceAdd, Nat.reduceSub, Array.replicate_succ, Array.replicate_zero, List.push_toArray, List.append_toArray, List.nil_append, List.cons_append]
  refine wpIn_wide.2 ?_
  refine code_both (fun f w1 => f.tmps.size = 24 ∧ f.defers = [] ∧ f.eval (.tmp 0) = .slice pA P.length pC ∧ Below w.heap.size w (w1)) ⟨rfl, rfl, rfl, Below.refl _ _⟩ ?_
  rintro f0 w0 ⟨sz, df, x0, bl⟩
  have bl0 := bl
  refine wp_seq ?_
  -- R0
  refine wp_all_seq [.nw w0.heap.size 24 ((hz).map V)] (by kernel_rfl) (by kernel_rfl) (by rw [sz]; kernel_rfl) (by kernel_rfl) ⟨fun hw ac u K => ?_, trivial⟩ ?_
  · exact st_alloc24 rfl _ K.grow.size
  intro f1 w1 A hb
  replace bl0 := bl
  replace x0 := (A.old 0 rfl).trans x0
  have x2 : Fk.f (.nw w0.heap.size 24 ((hz).map V)) (f1.eval (.tmp 2)) w1 := A.has 0 2 rfl
  replace bl := (bl.trans (Below.mono hb bl.size))
  replace sz := A.size.trans sz
  replace df := A.defs.trans df
  clear A hb
  obtain ⟨g2, hg2, e2, m2⟩ := x2
  have x2 := e2
  clear e2
  have hw2 : w.heap.size ≤ g2 := Nat.le_trans bl0.size hg2
  show Code.wp _ _ _ _ _
  refine wp_seq ?_
  -- R1
  refine wp_all_seq [.eq (.slice pA P.length pC), .eq (.int .i64 (((P).length : Nat) : Int)), .eq (.int .i64 ((P.length - 1 : Nat) : Int)), .eq (.int .i64 ((P.length - 1 : Nat) : Int))] (by kernel_rfl) (by kernel_rfl) (by rw [sz]; kernel_rfl) (by kernel_rfl) ⟨fun hw ac u K => ?_, fun hw ac u K => ?_, fun hw ac u K => ?_, fun hw ac u K => ?_, trivial⟩ ?_
  · exact st_move (.tmp 0) rfl ((K.old 0 rfl).trans x0)
  · exact st_lenh (.tmp 7) rfl (fk_val (K.dep 0 7 rfl) (Fk.mono _ _ _ _ hvs (bl.trans (Below.mono K.grow bl.size))))
  · exact st_sub (.tmp 8) (.const (.int .i64 1)) rfl ((P).length) (1) (P.length - 1) (K.dep 1 8 rfl) rfl (by omega) (by omega)
  · exact st_assign (.tmp 9) rfl (K.dep 2 9 rfl)
  intro f2 w2 A hb
  replace bl0 := bl
  replace x0 := (A.old 0 rfl).trans x0
  replace x2 := (A.old 2 rfl).trans x2
  have x3 : f2.eval (.tmp 3) = .int .i64 ((P.length - 1 : Nat) : Int) := A.has 3 3 rfl
  have lt_m2 := Ob.lt m2
  replace m2 := Ob.below m2 hb
  replace bl := (bl.trans (Below.mono hb bl.size))
  replace sz := A.size.trans sz
  replace df := A.defs.trans df
  clear A hb
  show Code.wp _ _ _ _ _
  refine wp_seq ?_
  -- R2
  refine wp_region_seq [.eq (.slice pA P.length pC), .eq (.int .i64 ((P.length - 1 : Nat) : Int)), .ph (y0), .eq (.agg ((y0).map V).toArray)] (by kernel_rfl) (by kernel_rfl) (by rw [sz]; kernel_rfl) (by kernel_rfl) ⟨fun hw ac u K => ?_, fun hw ac u K => ?_, fun hw ac u K => ?_, fun hw ac u K => ?_, trivial⟩ ?_
  · exact st_move (.tmp 0) rfl ((K.old 0 rfl).trans x0)
  · exact st_move (.tmp 3) rfl ((K.old 3 rfl).trans x3)
  · exact st_idxh (.tmp 10) (.tmp 11) rfl (fk_val (K.dep 0 10 rfl) (Fk.mono _ _ _ _ hvs (bl.trans (Below.mono K.grow bl.size)))) (P.length - 1) (y0) (K.dep 1 11 rfl) hy0k
  · exact st_loadh (.tmp 12) rfl (K.dep 2 12 rfl)
  intro f3 w3 A hb
  replace bl0 := bl
  replace x0 := (A.old 0 rfl).trans x0
  replace x2 := (A.old 2 rfl).trans x2
  replace x3 := (A.old 3 rfl).trans x3
  have x13 : f3.eval (.tmp 13) = .agg ((y0).map V).toArray := A.has 3 13 rfl
  have lt_m2 := Ob.lt m2
  replace m2 := Ob.below m2 hb
  replace bl := (bl.trans (Below.mono hb bl.size))
  replace sz := A.size.trans sz
  replace df := A.defs.trans df
  clear A hb
  refine wl_one (.nw w3.heap.size 24 ((hz).map V)) rfl 4 rfl (by rw [sz]; decide) (st_alloc24 rfl _ (Nat.le_refl _)) ?_
  intro f4 w4 df2 sz2 old2 new2 hb
  replace bl0 := bl
  replace x0 := (old2 0 rfl).trans x0
  replace x2 := (old2 2 rfl).trans x2
  replace x3 := (old2 3 rfl).trans x3
  replace x13 := (old2 13 rfl).trans x13
  have x4 : Fk.f (.nw w3.heap.size 24 ((hz).map V)) (f4.eval (.tmp 4)) w4 := new2
  have lt_m2 := Ob.lt m2
  replace m2 := Ob.below m2 hb
  replace bl := (bl.trans (Below.mono hb bl.size))
  replace sz := sz2.trans sz
  replace df := df2.trans df
  clear df2 sz2 old2 new2 hb
  obtain ⟨g4, hg4, e4, m4⟩ := x4
  have x4 := e4
  clear e4
  have nm2_4 : g2 ≠ g4 := Nat.ne_of_lt (Nat.lt_of_lt_of_le lt_m2 hg4)
  have hw4 : w.heap.size ≤ g4 := Nat.le_trans bl0.size hg4
  refine wl_store rfl (.tmp 4) (.tmp 13) rfl rfl (g4) (y0) (hz) x4 x13 m4 hz_len hy0 ?_
  replace m2 : Ob (w4.setRow g4 ((y0).map V : List Value).toArray) (g2) 24 ((hz).map V) := Ob.setRow_other m2 _ nm2_4
  replace m4 : Ob (w4.setRow g4 ((y0).map V : List Value).toArray) (g4) 24 ((y0).map V) := Ob.setRow m4 ((y0).map V)
  replace bl : Below w.heap.size w (w4.setRow g4 ((y0).map V : List Value).toArray) := bl.trans (below_setRow _ _ _ _ hw4)
  generalize w4.setRow g4 ((y0).map V : List Value).toArray = w5b at bl m2 m4 ⊢
  refine wpList_nil ?_
  clear x13
  show Code.wp _ _ _ _ _
  refine wp_seq ?_
  refine wp_seq ?_
  -- R3
  refine wp_all_seq [.eq (.slice pA P.length pC), .eq (.int .i64 ((P.length - 1 : Nat) : Int)), .eq (.slice pA (P.length - 1) pC), .cl w5b.heap.size 47 22 (.slice pA (P.length - 1) pC)] (by kernel_rfl) (by kernel_rfl) (by rw [sz]; kernel_rfl) (by kernel_rfl) ⟨fun hw ac u K => ?_, fun hw ac u K => ?_, fun hw ac u K => ?_, fun hw ac u K => ?_, trivial⟩ ?_
  · exact st_move (.tmp 0) rfl ((K.old 0 rfl).trans x0)
  · exact st_move (.tmp 3) rfl ((K.old 3 rfl).trans x3)
  · exact st_cutv (.tmp 14) (.tmp 15) rfl (K.dep 0 14 rfl) _ (K.dep 1 15 rfl) (by omega)
  · exact st_call 37 (.func 37) _ _ #[.slice pA (P.length - 1) pC] rfl rfl (one_arg (K.dep 2 16 rfl)) Tryd.enter37 (backward_any _ _ _ _ _ K.grow.size)
  intro f6 w6 A hb
  replace bl0 := bl
  replace x0 := (A.old 0 rfl).trans x0
  replace x2 := (A.old 2 rfl).trans x2
  replace x3 := (A.old 3 rfl).trans x3
  replace x4 := (A.old 4 rfl).trans x4
  have x17 : Fk.f (.cl w5b.heap.size 47 22 (.slice pA (P.length - 1) pC)) (f6.eval (.tmp 17)) w6 := A.has 3 17 rfl
  have lt_m2 := Ob.lt m2
  replace m2 := Ob.below m2 hb
  have lt_m4 := Ob.lt m4
  replace m4 := Ob.below m4 hb
  replace bl := (bl.trans (Below.mono hb bl.size))
  replace sz := A.size.trans sz
  replace df := A.defs.trans df
  clear A hb
  obtain ⟨g17, hg17, e17, m17⟩ := x17
  have x17 := e17
  clear e17
  have hw17 : w.heap.size ≤ g17 := Nat.le_trans bl0.size hg17
  show Code.wp _ _ _ _ _
  refine wp_block ?_
  have lt2 := Ob.lt m2
  have lt4 := Ob.lt m4
  have lt17 := Ob.lt m17
  have hsw := bl.size
  have n17_4 : g17 ≠ g4 := by have := lt_m4; omega
  refine (wpIn_wide (n := 7)).1 ?_
  refine range_gives (by decide) x17 Tryd.enter47 (back_gives (P := P.take (P.length - 1)) (by rw [List.length_take]; omega) g17 (.slice pA (P.length - 1) pC) w6) (fun _ => rfl)
    (fun k W => Ob W g4 24 ((jn P k).map V) ∧ Ob W g2 24 ((hz).map V) ∧ Ob W g17 22 [.slice pA (P.length - 1) pC] ∧ Below w.heap.size w W) (fun _ _ _ => False) ?_ (fun _ _ _ _ h _ => h) ?_ ⟨by rw [show jn P 0 = y0 from hj0]; exact m4, m2, m17, bl⟩ ?_ ?_ (fun _ _ _ _ h _ => h.elim)
  · rintro k A B ⟨h1, h2, h3, h4⟩ hb
    exact ⟨ob_lo h1 hb lt4, ob_lo h2 hb lt2, ob_lo h3 hb lt17, h4.trans (Below.mono hb hsw)⟩
  · rintro k A ⟨_, _, h3, h4⟩
    exact ⟨h3, Fk.mono _ _ _ _ hvt h4⟩
  · rintro k W hk ⟨m4, m2, m17, blw0⟩ ⟨r, hl⟩
    clear bl bl0
    have hkl : k < P.length - 1 := by rw [List.length_take] at hk; omega
    obtain ⟨q, hq⟩ : ∃ q, P.length - 1 - 1 - k = q := ⟨_, rfl⟩
    obtain ⟨p, hpk⟩ : ∃ p, P[q]? = some p := ⟨_, List.getElem?_eq_getElem (by omega)⟩
    have hp : p.length = 32 := hs_len hvs hpk
    have hpd : P.getD q [] = p := by rw [List.getD_eq_getElem?_getD, hpk]; rfl
    have henc : encB (P.take (P.length - 1)) k = #[.int .i64 ((q : Nat) : Int), .agg ((p).map V).toArray] := by
      unfold encB
      rw [List.length_take, Nat.min_eq_left (by omega), hq, getD_take (by omega), hpd]
    obtain ⟨j, hjk⟩ : ∃ j, jn P k = j := ⟨_, rfl⟩
    obtain ⟨z, ez⟩ : ∃ z, Box (nd p j = z) := ⟨_, ⟨rfl⟩⟩
    have hj1 : j.length = 32 := by rw [← hjk]; exact jn_len h1 h32 k
    have hz1 : z.length = 32 := by rw [← ez.out]; exact nd_len _ _
    have hzk : jn P (k + 1) = z := by show nd (P.getD (P.length - 1 - 1 - k) []) (jn P k) = z; rw [hq, hpd, hjk]; exact ez.out
    rw [hjk] at m4
    have hlW := (Array.getElem?_eq_some_iff.1 hl).1
    rw [show ({ tmps := (#[18, 19].zip (encB (P.take (P.length - 1)) k)).foldl (fun t (p, v) => t.setIfInBounds p v) f6.tmps, defers := [] } : Act) = rfr f6.tmps 18 19 (.int .i64 ((q : Nat) : Int)) (.agg ((p).map V).toArray) from by rw [henc]; exact rfr_eq _ _ _ _ _]
    refine code_in (fun f w1 => f.tmps.size = 24 ∧ f.defers = [] ∧ f.eval (.tmp 4) = .pointer (some ⟨g4, 0, none⟩) ∧ f.eval (.tmp 19) = .agg ((p).map V).toArray ∧ Below W.heap.size W w1) ⟨(rfr_size _ _ _ _ _).trans sz, rfl, (rfr_old _ _ _ _ _ rfl rfl).trans x4, rfr_q _ _ _ _ _ (by rw [sz]; decide), Below.refl _ _⟩ ?_
    clear sz df x4
    rintro f0 w0 ⟨sz, df, x4, x19, bl⟩
    have bl0 := bl
    -- R4
    refine in_region_seq [] (by rintro ⟨_, _, h⟩; exact h) (by kernel_rfl) (by kernel_rfl) (by kernel_rfl) (by rw [sz]; kernel_rfl) (by kernel_rfl) trivial ?_
    intro f101 w101 A hb
    replace bl0 := bl
    replace x4 := (A.old 4 rfl).trans x4
    replace x19 := (A.old 19 rfl).trans x19
    replace bl := (bl.trans (Below.mono hb bl.size))
    replace sz := A.size.trans sz
    replace df := A.defs.trans df
    clear A hb
    refine wl_one (.nw w101.heap.size 24 ((hz).map V)) rfl 6 rfl (by rw [sz]; decide) (st_alloc24 rfl _ (Nat.le_refl _)) ?_
    intro f102 w102 df2 sz2 old2 new2 hb
    replace bl0 := bl
    replace x4 := (old2 4 rfl).trans x4
    replace x19 := (old2 19 rfl).trans x19
    have x6 : Fk.f (.nw w101.heap.size 24 ((hz).map V)) (f102.eval (.tmp 6)) w102 := new2
    replace bl := (bl.trans (Below.mono hb bl.size))
    replace sz := sz2.trans sz
    replace df := df2.trans df
    clear df2 sz2 old2 new2 hb
    obtain ⟨g6, hg6, e6, m6⟩ := x6
    have x6 := e6
    clear e6
    have nm4_6 : g4 ≠ g6 := Nat.ne_of_lt (Nat.lt_of_lt_of_le (Ob.lt m4) (Nat.le_trans bl0.size hg6))
    have hw6 : W.heap.size ≤ g6 := Nat.le_trans bl0.size hg6
    refine wl_store rfl (.tmp 6) (.tmp 19) rfl rfl (g6) (p) (hz) x6 x19 m6 hz_len hp ?_
    replace m6 : Ob (w102.setRow g6 ((p).map V : List Value).toArray) (g6) 24 ((p).map V) := Ob.setRow m6 ((p).map V)
    replace bl : Below W.heap.size W (w102.setRow g6 ((p).map V : List Value).toArray) := bl.trans (below_setRow _ _ _ _ hw6)
    generalize w102.setRow g6 ((p).map V : List Value).toArray = w103b at bl m6 ⊢
    refine wpList_nil ?_
    clear x19
    refine ⟨Kept.of_below bl, fun o => ?_⟩
    have ltn := bl.size
    replace m4 := ob_put o (Ob.below m4 bl) (show g4 ≠ w6.heap.size + 1 by omega)
    replace m2 := ob_put o (Ob.below m2 bl) (show g2 ≠ w6.heap.size + 1 by omega)
    replace m17 := ob_put o (Ob.below m17 bl) (show g17 ≠ w6.heap.size + 1 by omega)
    replace m6 := ob_put o m6 (show g6 ≠ w6.heap.size + 1 by omega)
    have blV := (blw0.trans (Below.mono bl blw0.size)).trans (below_put (B := w.heap.size) (l := w6.heap.size + 1) o (by omega) (by omega))
    clear bl bl0
    generalize w103b.putObj (w6.heap.size + 1) o = U at m4 m2 m17 m6 blV ⊢
    have bl := Only.refl g4 U
    have bl0 := bl
    have hKo : ∀ {X : World}, Only g4 U X → Tab X := fun O => hK.below (blV.trans (O.below w.heap.size (by omega) blV.size))
    refine wpIn_block ?_
    -- R5
    refine in_region_seq [.eq (.agg ((p).map V).toArray), .eq (.agg ((j).map V).toArray), .eq (.agg ((z).map V).toArray)] (by rintro ⟨_, _, h⟩; exact h) (by kernel_rfl) (by kernel_rfl) (by kernel_rfl) (by rw [sz]; kernel_rfl) (by kernel_rfl) ⟨fun hw ac u K => ?_, fun hw ac u K => ?_, fun hw ac u K => ?_, trivial⟩ ?_
    · exact st_load24 (.tmp 6) rfl (g6) (p) ((K.old 6 rfl).trans x6) hp (Ob.below m6 K.grow)
    · exact st_load24 (.tmp 4) rfl (g4) (j) ((K.old 4 rfl).trans x4) hj1 (Ob.below m4 K.grow)
    · exact st_call 22 (.func 22) _ _ #[.agg ((p).map V).toArray, .agg ((j).map V).toArray] rfl rfl (arg2 (K.dep 0 20 rfl) (K.dep 1 21 rfl)) Tryd.enter22 (fk_node hp hj1 (hKo (only_below bl (Below.mono K.grow bl.size))) ez)
    intro f201 w201 A hb
    replace bl0 := bl
    replace x4 := (A.old 4 rfl).trans x4
    replace x6 := (A.old 6 rfl).trans x6
    have x22 : f201.eval (.tmp 22) = .agg ((z).map V).toArray := A.has 2 22 rfl
    have lt_m4 := Ob.lt m4
    replace m4 := Ob.below m4 hb
    have lt_m6 := Ob.lt m6
    replace m6 := Ob.below m6 hb
    replace bl := (only_below bl (Below.mono hb bl.size))
    replace sz := A.size.trans sz
    replace df := A.defs.trans df
    clear A hb
    refine wl_store rfl (.tmp 4) (.tmp 22) rfl rfl (g4) (z) (j) x4 x22 m4 hj1 hz1 ?_
    replace m4 : Ob (w201.setRow g4 ((z).map V : List Value).toArray) (g4) 24 ((z).map V) := Ob.setRow m4 ((z).map V)
    replace m6 : Ob (w201.setRow g4 ((z).map V : List Value).toArray) (g6) 24 ((p).map V) := Ob.setRow_other m6 _ nm4_6.symm
    replace bl : Only g4 U (w201.setRow g4 ((z).map V : List Value).toArray) := bl.setRow _
    generalize w201.setRow g4 ((z).map V : List Value).toArray = w202b at bl m4 m6 ⊢
    refine wpList_nil ?_
    clear x22
    show Kept _ _ _ ∧ _
    refine ⟨Kept.of_only bl (by omega), by rw [hzk]; exact m4, Ob.only m2 bl (by omega), Ob.only m17 bl (by omega), blV.trans (bl.below w.heap.size (by omega) blV.size)⟩
  rintro W ⟨m4, m2, _, bl⟩ hD
  show Code.wp _ _ _ _ _
  rw [show (P.take (P.length - 1)).length = P.length - 1 by rw [List.length_take]; omega, ey.out] at m4
  refine code_both (fun f w1 => f.tmps.size = 24 ∧ f.defers = [{ target := .collected w6.heap.size, args := #[] }] ∧ f.eval (.tmp 2) = .pointer (some ⟨g2, 0, none⟩) ∧ f.eval (.tmp 4) = .pointer (some ⟨g4, 0, none⟩) ∧ Ob w1 g2 24 ((hz).map V) ∧ Ob w1 g4 24 ((y).map V) ∧ w1.heap[w6.heap.size]? = some (.deferred (some [])) ∧ Below w.heap.size w w1) ⟨sz, by rw [← df], x2, x4, m2, m4, hD, bl⟩ ?_
  clear sz df x2 x4 m2 m4 bl hD
  rintro fB wB ⟨sz, df, x2, x4, m2, m4, hD, bl⟩
  have bl0 := bl
  show Code.wp _ _ _ _ _
  refine wp_seq ?_
  -- R6
  refine wp_region_seq [.eq (.agg ((y).map V).toArray)] (by kernel_rfl) (by kernel_rfl) (by rw [sz]; kernel_rfl) (by kernel_rfl) ⟨fun hw ac u K => ?_, trivial⟩ ?_
  · exact st_load24 (.tmp 4) rfl (g4) (y) ((K.old 4 rfl).trans x4) hy (Ob.below m4 K.grow)
  intro f7 w7 A hb
  replace bl0 := bl
  replace x2 := (A.old 2 rfl).trans x2
  replace x4 := (A.old 4 rfl).trans x4
  have x23 : f7.eval (.tmp 23) = .agg ((y).map V).toArray := A.has 0 23 rfl
  have lt_m2 := Ob.lt m2
  replace m2 := Ob.below m2 hb
  have lt_m4 := Ob.lt m4
  replace m4 := Ob.below m4 hb
  replace hD := (hb.block _ (Array.getElem?_eq_some_iff.1 hD).1).trans hD
  replace bl := (bl.trans (Below.mono hb bl.size))
  replace sz := A.size.trans sz
  replace df := A.defs.trans df
  clear A hb
  refine wl_store rfl (.tmp 2) (.tmp 23) rfl rfl (g2) (y) (hz) x2 x23 m2 hz_len hy ?_
  replace hD := def_setRow hD m2 ((y).map V : List Value).toArray
  replace m2 : Ob (w7.setRow g2 ((y).map V : List Value).toArray) (g2) 24 ((y).map V) := Ob.setRow m2 ((y).map V)
  replace m4 : Ob (w7.setRow g2 ((y).map V : List Value).toArray) (g4) 24 ((y).map V) := Ob.setRow_other m4 _ nm2_4.symm
  replace bl : Below w.heap.size w (w7.setRow g2 ((y).map V : List Value).toArray) := bl.trans (below_setRow _ _ _ _ hw2)
  generalize w7.setRow g2 ((y).map V : List Value).toArray = w8b at bl m2 m4 hD ⊢
  refine wpList_nil ?_
  clear x23
  show Code.wp _ _ _ _ _
  refine wp_ret ?_
  repeat (first | with_reducible refine then_ret ?_ | with_reducible refine block_ret ?_)
  show LeavesInM _ _ _ _ _ _ _ _ _
  rw [df]
  have hDn := def_ne hD m2
  refine ⟨by simp, .inl ⟨_, _, rfl, run_takeDeferred hD, ?_⟩⟩
  exact ⟨_, ret_hash rfl f7 _ g2 (y) hy x2 (ob_put _ m2 hDn), rfl, bl.trans (below_put _ (by omega) (Array.getElem?_eq_some_iff.1 hD).1)⟩
end Go.Proofs.YtfbfngblocfdlaaDoor
namespace Go.Proofs.YtfbfngblocfdlaaDoor
set_option maxRecDepth 100000
open Go.RowKit
theorem tz_num : ∀ n : Fin 128, n.val ≠ 0 → 2 ^ tzn n.val ≤ n.val ∧ (∀ j : Fin 7, j.val < tzn n.val → tzn (n.val - 2 ^ j.val) = j.val ∧ 2 ^ (j.val + 1) ≤ n.val) ∧ (n.val - 2 ^ tzn n.val ≠ 0 → 2 * 2 ^ tzn n.val ≤ 2 ^ tzn (n.val - 2 ^ tzn n.val)) ∧ tzn n.val ≤ 6 := by decide +kernel
/-- The peaks of the first n. -/
def pks (L : List (List (BitVec 8))) (n : Nat) : List (List (BitVec 8)) :=
  if _h : n = 0 then [] else pks L (n - 2 ^ tzn n) ++ [mroot (sgm L (n - 2 ^ tzn n) (2 ^ tzn n))]
  termination_by n
  decreasing_by
    have := Nat.one_le_two_pow (n := tzn n)
    omega
theorem pks_zero (L : List (List (BitVec 8))) : pks L 0 = [] := by rw [pks]; simp
theorem pks_pos (L : List (List (BitVec 8))) {n : Nat} (h : n ≠ 0) : pks L n = pks L (n - 2 ^ tzn n) ++ [mroot (sgm L (n - 2 ^ tzn n) (2 ^ tzn n))] := by rw [pks, dif_neg h]
theorem pks_len (L : List (List (BitVec 8))) (n : Nat) : (pks L n).length ≤ n := by
  induction n using Nat.strongRecOn with
  | ind n ih =>
    by_cases h : n = 0
    · subst h; rw [pks_zero]; exact Nat.le_refl _
    · have h1 := Nat.one_le_two_pow (n := tzn n)
      have := ih (n - 2 ^ tzn n) (by omega)
      rw [pks_pos L h, List.length_append, List.length_singleton]
      omega
theorem jn_fold (Q : List (List (BitVec 8))) (x : List (BitVec 8)) (k : Nat) : k ≤ Q.length → jn (Q ++ [x]) k = (Q.drop (Q.length - k)).foldr nd x := by
  induction k with
  | zero =>
    intro _
    show (Q ++ [x]).getD ((Q ++ [x]).length - 1) [] = _
    rw [Nat.sub_zero, List.drop_length, List.getD_eq_getElem?_getD]
    simp
  | succ k ih =>
    intro hk
    show nd ((Q ++ [x]).getD ((Q ++ [x]).length - 1 - 1 - k) []) (jn (Q ++ [x]) k) = _
    rw [ih (by omega), List.length_append, List.length_singleton, show Q.length + 1 - 1 - 1 - k = Q.length - (k + 1) by omega, List.getD_eq_getElem?_getD, List.getElem?_append_left (by omega), List.getElem?_eq_getElem (by omega), List.drop_eq_getElem_cons (i := Q.length - (k + 1)) (by omega), List.foldr_cons, show Q.length - (k + 1) + 1 = Q.length - k by omega]
    rfl
theorem jn_all (Q : List (List (BitVec 8))) (x : List (BitVec 8)) : jn (Q ++ [x]) ((Q ++ [x]).length - 1) = Q.foldr nd x := by
  rw [List.length_append, List.length_singleton, Nat.add_sub_cancel, jn_fold Q x _ (Nat.le_refl _), Nat.sub_self, List.drop_zero]
theorem pks_fold (L : List (List (BitVec 8))) {n : Nat} (hn : n ≤ 127) (hl : n ≤ L.length) (m : Nat) : m < n → (m ≠ 0 → n - m ≤ 2 ^ tzn m) → (pks L m).foldr nd (mroot (sgm L m (n - m))) = mroot (sgm L 0 n) := by
  induction m using Nat.strongRecOn with
  | ind m ih =>
    intro hmn hm
    by_cases h0 : m = 0
    · subst h0
      rw [pks_zero]
      rfl
    · obtain ⟨h1, _, h3, _⟩ := tz_num ⟨m, by omega⟩ h0
      dsimp only at h1 h3
      have hp := Nat.one_le_two_pow (n := tzn m)
      have hm := hm h0
      have hs : spl (n - (m - 2 ^ tzn m)) = 2 ^ tzn m := spl_one (by omega) (by omega)
      rw [pks_pos L h0, List.foldr_append, List.foldr_cons, List.foldr_nil]
      have e := mroot_sgm (l := L) (a := m - 2 ^ tzn m) (n := n - (m - 2 ^ tzn m)) (by omega) (by omega)
      rw [hs, show m - 2 ^ tzn m + 2 ^ tzn m = m by omega, show n - (m - 2 ^ tzn m) - 2 ^ tzn m = n - m by omega] at e
      rw [← e]
      exact ih (m - 2 ^ tzn m) (by omega) (by omega) (fun hne => by have := h3 hne; omega)
theorem pks_join (L : List (List (BitVec 8))) {n : Nat} (h0 : 1 ≤ n) (hn : n ≤ 127) (hl : n ≤ L.length) : jn (pks L n) ((pks L n).length - 1) = mroot (L.take n) := by
  obtain ⟨h1, _, h3, _⟩ := tz_num ⟨n, by omega⟩ (by show n ≠ 0; omega)
  dsimp only at h1 h3
  have hp := Nat.one_le_two_pow (n := tzn n)
  rw [pks_pos L (by omega), jn_all]
  have e := pks_fold L hn hl (n - 2 ^ tzn n) (by omega) (fun hne => by have := h3 hne; omega)
  rw [show n - (n - 2 ^ tzn n) = 2 ^ tzn n by omega] at e
  rw [e]
  unfold sgm
  rw [List.drop_zero]
theorem pks_step (L : List (List (BitVec 8))) {n : Nat} (hn : n + 1 ≤ 127) (hl : n + 1 ≤ L.length) {x : List (BitVec 8)} (hx : L[n]? = some x) (j : Nat) : j ≤ tzn (n + 1) → j ≤ (pks L n).length ∧ (pks L n).take ((pks L n).length - j) = pks L (n + 1 - 2 ^ j) ∧ gw (pks L n) x j = mroot (sgm L (n + 1 - 2 ^ j) (2 ^ j)) := by
  obtain ⟨h1, h2, _, h6⟩ := tz_num ⟨n + 1, by omega⟩ (by show n + 1 ≠ 0; omega)
  dsimp only at h1 h2 h6
  induction j with
  | zero =>
    intro _
    refine ⟨Nat.zero_le _, ?_, ?_⟩
    · rw [Nat.sub_zero, List.take_of_length_le (Nat.le_refl _)]
      rfl
    · show x = _
      rw [show n + 1 - 2 ^ 0 = n from rfl, show 2 ^ 0 = 1 from rfl, sgm_one hx, mroot_one]
  | succ j ih =>
    intro hj
    obtain ⟨i1, i2, i3⟩ := ih (by omega)
    obtain ⟨e1, e2⟩ := h2 ⟨j, by omega⟩ (by show j < _; omega)
    dsimp only at e1 e2
    have hp := Nat.one_le_two_pow (n := j)
    have hpw : 2 ^ (j + 1) = 2 ^ j + 2 ^ j := by rw [Nat.pow_succ]; omega
    have hpk := pks_pos L (n := n + 1 - 2 ^ j) (by omega)
    rw [e1, show n + 1 - 2 ^ j - 2 ^ j = n + 1 - 2 ^ (j + 1) by omega] at hpk
    rw [hpk] at i2
    have hlen := congrArg List.length i2
    rw [List.length_take, List.length_append, List.length_singleton] at hlen
    have hat : (pks L n)[(pks L n).length - j - 1]? = some (mroot (sgm L (n + 1 - 2 ^ (j + 1)) (2 ^ j))) := by
      have := congrArg (·[(pks L n).length - j - 1]?) i2
      rw [List.getElem?_take, if_pos (by omega), List.getElem?_append_right (by omega), show (pks L n).length - j - 1 - (pks L (n + 1 - 2 ^ (j + 1))).length = 0 by omega] at this
      exact this
    refine ⟨by omega, ?_, ?_⟩
    · have : ((pks L n).take ((pks L n).length - j)).take ((pks L n).length - (j + 1)) = pks L (n + 1 - 2 ^ (j + 1)) := by
        rw [i2, List.take_append_of_le_length (by omega), List.take_of_length_le (by omega)]
      rw [List.take_take, Nat.min_eq_left (by omega)] at this
      exact this
    · rw [← gw_succ x hat, i3]
      have e := mroot_sgm (l := L) (a := n + 1 - 2 ^ (j + 1)) (n := 2 ^ (j + 1)) (by omega) (by omega)
      rw [spl_one (j := j) (n := 2 ^ (j + 1)) (by omega) (by omega), show n + 1 - 2 ^ (j + 1) + 2 ^ j = n + 1 - 2 ^ j by omega, show 2 ^ (j + 1) - 2 ^ j = 2 ^ j by omega] at e
      rw [e]
theorem pks_grow (L : List (List (BitVec 8))) {n : Nat} (hn : n + 1 ≤ 127) (hl : n + 1 ≤ L.length) {x : List (BitVec 8)} (hx : L[n]? = some x) : tzn (n + 1) ≤ (pks L n).length ∧ (pks L n).take ((pks L n).length - tzn (n + 1)) ++ [gw (pks L n) x (tzn (n + 1))] = pks L (n + 1) := by
  obtain ⟨h1, h2, h3⟩ := pks_step L hn hl hx _ (Nat.le_refl _)
  refine ⟨h1, ?_⟩
  rw [h2, h3, ← pks_pos L (by omega)]
end Go.Proofs.YtfbfngblocfdlaaDoor
namespace Go.Proofs.YtfbfngblocfdlaaDoor
set_option maxRecDepth 100000
open Go.RowKit
theorem own_h0 (w : World) (base : Nat) (h : base ≤ w.heap.size) : (Fk.ow base []).f (.slice (some ⟨w.heap.size, 0, none⟩) 0 0) (w.alloc (.cells #[] 24)) :=
  ⟨⟨rfl, .inr ⟨w.heap.size, 0, #[], rfl, h, heap_alloc_new _ _, Nat.le_refl _, by unfold maxLen; omega, rfl, rfl⟩⟩, fun i x hi => by simp at hi⟩
theorem st_bo0 {Q : Exit → Act → World → Prop} {o : Oper} {a : Act} {w : World} (ho : o.op = .buildSlice 22 0 #[]) (g0 : Nat) (hg : g0 ≤ w.heap.size) : o.wp Tryd.prog a w (Ends a o.dst w (Fk.ow g0 []).f) Q := by
  refine st_run (v := .slice (some ⟨w.heap.size, 0, none⟩) 0 0) (w' := w.alloc (.cells #[] 24)) ?_ ((Below.refl _ _).alloc (Nat.le_refl _) _) (own_h0 w g0 hg)
  have h : (Instr.buildSlice 22 0 #[]).run Tryd.prog w = .ok (.slice (some ⟨w.heap.size, 0, none⟩) 0 0) (w.alloc (.cells #[] 24)) := by kernel_rfl
  unfold execOp
  rw [ho]
  simp [h]
theorem st_mkf {P : Program} {Q : Exit → Act → World → Prop} {o : Oper} {a : Act} {w : World} (f : Nat) (x : Operand) (ho : o.op = .makeFunc (.func f) #[] #[x]) {u : Value} (hx : a.eval x = u) : o.wp P a w (Ends a o.dst w (Fk.eq (.func (.func f) #[] #[u])).f) Q := by
  refine st_pure (v := .func (.func f) #[] #[u]) ?_ rfl
  have h : (Instr.makeFunc (.func f) #[] #[u]).run P w = .ok (.func (.func f) #[] #[u]) w := rfl
  unfold execOp
  rw [ho]
  simp [hx, h]
theorem flat_len32 : ∀ (l : List (List (BitVec 8))), (∀ (i : Nat) (x : List (BitVec 8)), l[i]? = some x → x.length = 32) → l.flatten.length = l.length * 32
  | [], _ => rfl
  | y :: r, h => by
    have h0 := h 0 y rfl
    have h1 := flat_len32 r (fun i x hi => h (i + 1) x (by simpa using hi))
    rw [List.flatten_cons, List.length_append, h0, h1, List.length_cons]
    omega
theorem wl_appl {Q : Exit → Act → World → Prop} {o : Oper} {a : Act} {w : World} {ops : Array Oper} {rest : List Oper} (hgd : o.guard = none) (s x : Operand) (ho : o.op = .call { callee := .builtin .append, args := #[s, x], argTypes := #[22, 22] }) (d : Nat) (hd : o.dst = some d) (hsz : d < a.tmps.size)
    {wL : World} {l : List (List (BitVec 8))} {ad : Addr} {C : Nat} (hs1 : (Fk.ow wL.heap.size []).f (a.eval s) w) (hx : a.eval x = .slice (some ad) l.length C) (hl0 : (Fk.hs l).f (.slice (some ad) l.length C) w) (hL : Below wL.heap.size wL w) (hN : l.length ≤ 1000)
    (h : ∀ a2 w2, a2.defers = a.defers → a2.tmps.size = a.tmps.size → (∀ t, (t == d) = false → a2.eval (.tmp t) = a.eval (.tmp t)) → (Fk.ow wL.heap.size l).f (a2.eval (.tmp d)) w2 → Below wL.heap.size wL w2 → wpList Tryd.prog ops Q rest a2 w2) : wpList Tryd.prog ops Q (o :: rest) a w := by
  obtain ⟨i0, hi, hz0, hz1, hz2⟩ := info_parts Tryd.info24
  obtain ⟨A', C', lb, lo, e, hl⟩ := hl0
  cases e
  have h32 : ∀ (i : Nat) (y : List (BitVec 8)), l[i]? = some y → y.length = 32 := fun i y hi => (hl.all i y hi).1
  have hfl := flat_len32 l h32
  obtain ⟨hown, _⟩ := hs1
  refine wpList_append_own w hgd s x 22 ho wL.heap.size 24 i0 _ 32 32 Tryd.under22' hi hz0 hz1 hz2 (by simp [Value.cells, hz_len]) (by decide) _ 0 [] rfl (by simpa using hown) ad l.length C (l.flatten.map V) hx (by rw [List.length_map, hfl]) ?_ (V_one _) (by unfold maxLen; omega) (by omega) hL.size ?_
  · intro j u hj
    have hjl : j < l.length * 32 := by
      have := (List.getElem?_eq_some_iff.1 hj).1
      rw [List.length_map, hfl] at this
      exact this
    have hp := hl.ptr (by omega)
    obtain rfl := Option.some.inj hp
    have hil : j / 32 < l.length := by omega
    have hxi : l[j / 32]? = some l[j / 32] := List.getElem?_eq_getElem hil
    have hlen := h32 _ _ hxi
    have hat := flat_at l h32 _ _ hxi (j % 32) (by omega)
    rw [show j / 32 * 32 + j % 32 = j by omega] at hat
    have hr : j % 32 < (l[j / 32]).length := by rw [hlen]; omega
    rw [List.getElem?_map, hat, List.getElem?_eq_getElem hr, Option.map_some] at hj
    obtain rfl := Option.some.inj hj
    have hc := (hl.all _ _ hxi).2 (j % 32) hr
    rw [Addr.add_mid, show lo + j = lo + j / 32 * 32 + j % 32 by omega, hc]
    simp [V, hr]
  · intro v' w' h1 h2 _
    refine h _ _ (put_def _ _ _) (put_size _ _ _) (fun t ht => ?_) ?_ (hL.grown h2 hL.size (fun k e => (World.ownsRow.lt hown k e).1))
    · rw [hd]
      exact put_eval_other _ _ _ _ (fun e => by subst e; simp at ht)
    · rw [hd, put_eval_same _ _ _ hsz]
      exact ⟨by simpa using h1, h32⟩
theorem nil_no (ad : Addr) (n C : Nat) (w : World) {x y : Operand} : (do eqGuard .eql 22 x y (.slice (some ad) n C) (.slice none 0 0); binOp .eql 22 (.slice (some ad) n C) (.slice none 0 0) : Sem Value).run Tryd.prog w = .ok (.bool false) w := by
  have h := Lib.run_eql_slice_nil (P := Tryd.prog) w 22 24 (some ad) n C 0 0 Tryd.under22'
  simp only [eqGuard, Sem.run_bind]
  exact h
/-- A function that has caught a list of hashes, in new memory. -/
def Fk.ec (g0 : Nat) (l : List (List (BitVec 8))) : Fk := .inr (.inl ⟨fun v w => ∃ g r, g0 ≤ g ∧ v = .func (.func 25) #[] #[.pointer (some ⟨g, 0, none⟩)] ∧ Ob w g 22 [r] ∧ (Fk.ow g0 l).f r w, by
  rintro v w w' ⟨g, r, h, e, ho, hr⟩ hb
  exact ⟨g, r, h, e, ho.below hb, Fk.mono _ _ _ _ hr hb⟩⟩)
theorem clone_nil (w : World) :
    Calls Tryd.prog 24 #[.slice none 0 0] w fun e w' => e = .returned (.slice none 0 0) ∧ Below w.heap.size w w' := by
  go_enter Tryd.func24, Tryd.ntmps24
  refine code_both (fun f w1 => f.tmps.size = 8 ∧ f.defers = [] ∧ f.eval (.tmp 0) = .slice none 0 0 ∧ Below w.heap.size w (w1)) ⟨rfl, rfl, rfl, Below.refl _ _⟩ ?_
  rintro f0 w0 ⟨sz, df, x0, bl⟩
  have bl0 := bl
  refine wp_seq ?_
  -- R0
  refine wp_all_seq [.eq (.slice none 0 0)] (by kernel_rfl) (by kernel_rfl) (by rw [sz]; kernel_rfl) (by kernel_rfl) ⟨fun hw ac u K => ?_, trivial⟩ ?_
  · exact st_assign (.const (.slice none 0 0)) rfl rfl
  intro f1 w1 A hb
  replace bl0 := bl
  replace x0 := (A.old 0 rfl).trans x0
  have x2 : f1.eval (.tmp 2) = .slice none 0 0 := A.has 0 2 rfl
  replace bl := (bl.trans (Below.mono hb bl.size))
  replace sz := A.size.trans sz
  replace df := A.defs.trans df
  clear A hb
  show Code.wp _ _ _ _ _
  refine wp_seq ?_
  refine wp_seq ?_
  -- R1
  refine wp_all_seq [.eq (.slice none 0 0), .eq (.bool true)] (by kernel_rfl) (by kernel_rfl) (by rw [sz]; kernel_rfl) (by kernel_rfl) ⟨fun hw ac u K => ?_, fun hw ac u K => ?_, trivial⟩ ?_
  · exact st_move (.tmp 0) rfl ((K.old 0 rfl).trans x0)
  · exact st_bin .eql 22 22 (.tmp 3) _ rfl (K.dep 0 3 rfl) rfl (by kernel_rfl)
  intro f2 w2 A hb
  replace bl0 := bl
  replace x0 := (A.old 0 rfl).trans x0
  replace x2 := (A.old 2 rfl).trans x2
  have x4 : f2.eval (.tmp 4) = .bool true := A.has 1 4 rfl
  replace bl := (bl.trans (Below.mono hb bl.size))
  replace sz := A.size.trans sz
  replace df := A.defs.trans df
  clear A hb
  show Code.wp _ _ _ _ _
  refine wp_cond_true x4 ?_
  refine wp_seq ?_
  -- R2
  refine wp_all_seq [.eq (.slice none 0 0)] (by kernel_rfl) (by kernel_rfl) (by rw [sz]; kernel_rfl) (by kernel_rfl) ⟨fun hw ac u K => ?_, trivial⟩ ?_
  · exact st_assign (.const (.slice none 0 0)) rfl rfl
  intro f3 w3 A hb
  replace bl0 := bl
  replace x0 := (A.old 0 rfl).trans x0
  clear x2
  replace x4 := (A.old 4 rfl).trans x4
  have x2 : f3.eval (.tmp 2) = .slice none 0 0 := A.has 0 2 rfl
  replace bl := (bl.trans (Below.mono hb bl.size))
  replace sz := A.size.trans sz
  replace df := A.defs.trans df
  clear A hb
  show Code.wp _ _ _ _ _
  refine wp_ret ?_
  repeat (first | with_reducible refine then_ret ?_ | with_reducible refine block_ret ?_)
  exact bodyPost_ret (v := .slice none 0 0) (ret_slot rfl f3 _ x2 _ _) df ⟨rfl, bl⟩
theorem clone_some {l : List (List (BitVec 8))} {ad : Addr} {C : Nat} (hl : l.length ≤ 1000) (w : World) (hv : (Fk.hs l).f (.slice (some ad) l.length C) w) :
    Calls Tryd.prog 24 #[.slice (some ad) l.length C] w fun e w' => ∃ u, e = .returned u ∧ (Fk.ow w.heap.size l).f u w' ∧ Below w.heap.size w w' := by
  go_enter Tryd.func24, Tryd.ntmps24
  refine code_both (fun f w1 => f.tmps.size = 8 ∧ f.defers = [] ∧ f.eval (.tmp 0) = .slice (some ad) l.length C ∧ Below w.heap.size w (w1)) ⟨rfl, rfl, rfl, Below.refl _ _⟩ ?_
  rintro f0 w0 ⟨sz, df, x0, bl⟩
  have bl0 := bl
  refine wp_seq ?_
  -- R0
  refine wp_all_seq [.eq (.slice none 0 0)] (by kernel_rfl) (by kernel_rfl) (by rw [sz]; kernel_rfl) (by kernel_rfl) ⟨fun hw ac u K => ?_, trivial⟩ ?_
  · exact st_assign (.const (.slice none 0 0)) rfl rfl
  intro f1 w1 A hb
  replace bl0 := bl
  replace x0 := (A.old 0 rfl).trans x0
  have x2 : f1.eval (.tmp 2) = .slice none 0 0 := A.has 0 2 rfl
  replace bl := (bl.trans (Below.mono hb bl.size))
  replace sz := A.size.trans sz
  replace df := A.defs.trans df
  clear A hb
  show Code.wp _ _ _ _ _
  refine wp_seq ?_
  refine wp_seq ?_
  -- R1
  refine wp_all_seq [.eq (.slice (some ad) l.length C), .eq (.bool false)] (by kernel_rfl) (by kernel_rfl) (by rw [sz]; kernel_rfl) (by kernel_rfl) ⟨fun hw ac u K => ?_, fun hw ac u K => ?_, trivial⟩ ?_
  · exact st_move (.tmp 0) rfl ((K.old 0 rfl).trans x0)
  · exact st_bin .eql 22 22 (.tmp 3) _ rfl (K.dep 0 3 rfl) rfl (nil_no _ _ _ _)
  intro f2 w2 A hb
  replace bl0 := bl
  replace x0 := (A.old 0 rfl).trans x0
  replace x2 := (A.old 2 rfl).trans x2
  have x4 : f2.eval (.tmp 4) = .bool false := A.has 1 4 rfl
  replace bl := (bl.trans (Below.mono hb bl.size))
  replace sz := A.size.trans sz
  replace df := A.defs.trans df
  clear A hb
  show Code.wp _ _ _ _ _
  refine wp_cond_false x4 ?_
  refine wp_skip ?_
  show Code.wp _ _ _ _ _
  refine wp_seq ?_
  -- R3
  refine wp_region_seq [.ow w.heap.size ([]), .eq (.slice (some ad) l.length C)] (by kernel_rfl) (by kernel_rfl) (by rw [sz]; kernel_rfl) (by kernel_rfl) ⟨fun hw ac u K => ?_, fun hw ac u K => ?_, trivial⟩ ?_
  · exact st_bo0 rfl _ (bl.trans (Below.mono K.grow bl.size)).size
  · exact st_move (.tmp 0) rfl ((K.old 0 rfl).trans x0)
  intro f3 w3 A hb
  replace bl0 := bl
  replace x0 := (A.old 0 rfl).trans x0
  replace x2 := (A.old 2 rfl).trans x2
  replace x4 := (A.old 4 rfl).trans x4
  have x5 : Fk.f (.ow w.heap.size ([])) (f3.eval (.tmp 5)) w3 := A.has 0 5 rfl
  have x6 : f3.eval (.tmp 6) = .slice (some ad) l.length C := A.has 1 6 rfl
  replace bl := (bl.trans (Below.mono hb bl.size))
  replace sz := A.size.trans sz
  replace df := A.defs.trans df
  clear A hb
  refine wl_appl rfl (.tmp 5) (.tmp 6) rfl 7 rfl (by rw [sz]; decide) x5 x6 (Fk.mono _ _ _ _ hv bl) bl hl ?_
  intro f4 w4 df2 sz2 old2 new2 bl2
  clear x5
  replace x0 := (old2 0 rfl).trans x0
  replace x2 := (old2 2 rfl).trans x2
  replace x4 := (old2 4 rfl).trans x4
  replace x6 := (old2 6 rfl).trans x6
  have x7 : Fk.f (.ow w.heap.size (l)) (f4.eval (.tmp 7)) w4 := new2
  replace bl := bl2
  replace bl0 := bl
  replace sz := sz2.trans sz
  replace df := df2.trans df
  clear df2 sz2 old2 new2 bl2
  clear x6
  refine wl_one (.ow w.heap.size (l)) rfl 2 rfl (by rw [sz]; decide) (st_assign (.tmp 7) rfl x7) ?_
  intro f5 w5 df2 sz2 old2 new2 hb
  replace bl0 := bl
  replace x0 := (old2 0 rfl).trans x0
  clear x2
  replace x4 := (old2 4 rfl).trans x4
  replace x7 := f_at (old2 7 rfl) (Fk.mono _ _ _ _ x7 hb)
  have x2 : Fk.f (.ow w.heap.size (l)) (f5.eval (.tmp 2)) w5 := new2
  replace bl := (bl.trans (Below.mono hb bl.size))
  replace sz := sz2.trans sz
  replace df := df2.trans df
  clear df2 sz2 old2 new2 hb
  refine wpList_nil ?_
  clear x7
  show Code.wp _ _ _ _ _
  refine wp_ret ?_
  repeat (first | with_reducible refine then_ret ?_ | with_reducible refine block_ret ?_)
  exact bodyPost_ret (v := f5.eval (.tmp 2)) (ret_slot rfl f5 _ rfl _ _) df ⟨_, rfl, x2, bl⟩
theorem fk_clone {l : List (List (BitVec 8))} (hl : l.length ≤ 1000) {w : World} {v : Value} (hv : (Fk.hc l).f v w) (hn : v = .slice none 0 0 ∨ ∃ ad n C, v = .slice (some ad) n C) : Calls Tryd.prog 24 #[v] w fun e w' => ∃ u, e = .returned u ∧ (Fk.ow w.heap.size l).f u w' ∧ Below w.heap.size w w' := by
  rcases hn with rfl | ⟨ad, n, C, rfl⟩
  · refine (clone_nil w).mono ?_
    rintro e w' ⟨rfl, hb⟩
    have h0 : l = [] := by
      obtain ⟨A', C', lb, lo, e, _⟩ := hv
      injection e with _ e2 _
      exact List.eq_nil_of_length_eq_zero e2.symm
    subst h0
    exact ⟨_, rfl, ow_nil _ _, hb⟩
  · obtain ⟨A', C', lb, lo, e, hc, hq⟩ := hv
    cases e
    exact clone_some hl w ⟨_, _, lb, lo, rfl, hq⟩
theorem each_any {l : List (List (BitVec 8))} (hl : l.length ≤ 1000) (w : World) {v : Value} (hv : (Fk.hc l).f v w) (hn : v = .slice none 0 0 ∨ ∃ ad n C, v = .slice (some ad) n C) :
    Calls Tryd.prog 11 #[v] w fun e w' => ∃ u, e = .returned u ∧ (Fk.ec w.heap.size l).f u w' ∧ Below w.heap.size w w' := by
  go_enter Tryd.func11, Tryd.ntmps11
  refine code_both (fun f w1 => f.tmps.size = 7 ∧ f.defers = [] ∧ f.eval (.tmp 0) = v ∧ Below w.heap.size w (w1)) ⟨rfl, rfl, rfl, Below.refl _ _⟩ ?_
  rintro f0 w0 ⟨sz, df, x0, bl⟩
  have bl0 := bl
  refine wp_seq ?_
  -- R0
  refine wp_all_seq [.eq (.nilFunc)] (by kernel_rfl) (by kernel_rfl) (by rw [sz]; kernel_rfl) (by kernel_rfl) ⟨fun hw ac u K => ?_, trivial⟩ ?_
  · exact st_assign (.const .nilFunc) rfl rfl
  intro f1 w1 A hb
  replace bl0 := bl
  replace x0 := (A.old 0 rfl).trans x0
  have x2 : f1.eval (.tmp 2) = .nilFunc := A.has 0 2 rfl
  replace bl := (bl.trans (Below.mono hb bl.size))
  replace sz := A.size.trans sz
  replace df := A.defs.trans df
  clear A hb
  show Code.wp _ _ _ _ _
  refine wp_seq ?_
  -- R1
  refine wp_region_seq [.eq (v), .ow w.heap.size (l)] (by kernel_rfl) (by kernel_rfl) (by rw [sz]; kernel_rfl) (by kernel_rfl) ⟨fun hw ac u K => ?_, fun hw ac u K => ?_, trivial⟩ ?_
  · exact st_move (.tmp 0) rfl ((K.old 0 rfl).trans x0)
  · exact st_call 24 (.func 24) _ _ #[v] rfl rfl (one_arg (K.dep 0 4 rfl)) Tryd.enter24 (fk_ow (bl.trans (Below.mono K.grow bl.size)).size (fk_clone hl (Fk.mono _ _ _ _ hv (bl.trans (Below.mono K.grow bl.size))) hn))
  intro f2 w2 A hb
  replace bl0 := bl
  replace x0 := (A.old 0 rfl).trans x0
  replace x2 := (A.old 2 rfl).trans x2
  have x5 : Fk.f (.ow w.heap.size (l)) (f2.eval (.tmp 5)) w2 := A.has 1 5 rfl
  replace bl := (bl.trans (Below.mono hb bl.size))
  replace sz := A.size.trans sz
  replace df := A.defs.trans df
  clear A hb
  clear x0
  obtain ⟨A5, C5, lb5, lo5, e5, hc5, hl5⟩ := ow_hc x5
  have v5 : Fk.f (.ow w.heap.size (l)) (.slice A5 (l).length C5) w2 := by rw [← e5]; exact x5
  replace x5 : f2.eval (.tmp 5) = .slice A5 (l).length C5 := e5
  clear e5
  have S_v5 := v5
  have hbS := Below.refl w2.heap.size w2
  have hbS0 := hbS
  refine wl_one (.nw w2.heap.size 22 [.slice none 0 0]) rfl 3 rfl (by rw [sz]; decide) (st_alloc 22 rfl _ _ (by kernel_rfl) (Nat.le_refl _)) ?_
  intro f3 w3 df2 sz2 old2 new2 hb
  replace hbS0 := hbS
  replace hbS := hbS.trans (Below.mono hb hbS.size)
  replace bl0 := bl
  replace x2 := (old2 2 rfl).trans x2
  replace x5 := (old2 5 rfl).trans x5
  have x3 : Fk.f (.nw w2.heap.size 22 [.slice none 0 0]) (f3.eval (.tmp 3)) w3 := new2
  replace v5 := Fk.mono _ _ _ _ v5 hb
  replace bl := (bl.trans (Below.mono hb bl.size))
  replace sz := sz2.trans sz
  replace df := df2.trans df
  clear df2 sz2 old2 new2 hb
  obtain ⟨g3, hg3, e3, m3⟩ := x3
  have x3 := e3
  clear e3
  have hw3 : w.heap.size ≤ g3 := Nat.le_trans bl0.size hg3
  have hs3 := Nat.le_trans hbS0.size hg3
  refine wl_stc 22 rfl (.tmp 3) (.tmp 5) rfl rfl (by kernel_rfl) (g3) 0 (.slice A5 (l).length C5) x3 x5 rfl rfl (Ob.there m3 0 (by simp)) ?_
  replace m3 : Ob (w3.setCell ⟨g3, 0, none⟩ (.slice A5 (l).length C5)) (g3) 22 ([.slice A5 (l).length C5]) := Ob.set m3 0 (.slice A5 (l).length C5)
  replace hbS : Below _ _ (w3.setCell ⟨g3, 0, none⟩ (.slice A5 (l).length C5)) := hbS.trans (below_setCell _ _ _ _ _ hs3)
  replace v5 := Fk.mono _ _ _ _ S_v5 hbS
  replace bl : Below w.heap.size w (w3.setCell ⟨g3, 0, none⟩ (.slice A5 (l).length C5)) := bl.trans (below_setCell _ _ _ _ _ hw3)
  generalize w3.setCell ⟨g3, 0, none⟩ (.slice A5 (l).length C5) = w4b at bl m3 v5 hbS ⊢
  refine wpList_nil ?_
  clear hbS hbS0 S_v5
  clear x5
  show Code.wp _ _ _ _ _
  refine wp_seq ?_
  -- R2
  refine wp_all_seq [.eq (.func (.func 25) #[] #[.pointer (some ⟨g3, 0, none⟩)]), .eq (.func (.func 25) #[] #[.pointer (some ⟨g3, 0, none⟩)])] (by kernel_rfl) (by kernel_rfl) (by rw [sz]; kernel_rfl) (by kernel_rfl) ⟨fun hw ac u K => ?_, fun hw ac u K => ?_, trivial⟩ ?_
  · exact st_mkf 25 (.tmp 3) rfl ((K.old 3 rfl).trans x3)
  · exact st_assign (.tmp 6) rfl (K.dep 0 6 rfl)
  intro f5 w5 A hb
  replace bl0 := bl
  clear x2
  replace x3 := (A.old 3 rfl).trans x3
  have x2 : f5.eval (.tmp 2) = .func (.func 25) #[] #[.pointer (some ⟨g3, 0, none⟩)] := A.has 1 2 rfl
  have lt_m3 := Ob.lt m3
  replace m3 := Ob.below m3 hb
  replace v5 := Fk.mono _ _ _ _ v5 hb
  replace bl := (bl.trans (Below.mono hb bl.size))
  replace sz := A.size.trans sz
  replace df := A.defs.trans df
  clear A hb
  show Code.wp _ _ _ _ _
  refine wp_ret ?_
  repeat (first | with_reducible refine then_ret ?_ | with_reducible refine block_ret ?_)
  exact bodyPost_ret (v := f5.eval (.tmp 2)) (ret_slot rfl f5 _ rfl _ _) df ⟨_, rfl, ⟨g3, _, hw3, x2, m3, v5⟩, bl⟩
end Go.Proofs.YtfbfngblocfdlaaDoor
