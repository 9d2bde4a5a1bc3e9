/- Made by gen_uv.py. What collides answers where both lead to one public key. -/
import Derived.Test.YthnaomkkaodbkaaDoorQb
namespace Go.Proofs.YthnaomkkaodbkaaDoor
open Go.RowKit
theorem fk_sum_to {bs : List (BitVec 8)} {v : Value} {w : World} (hT : bs.length ≤ 1000000) (hK : Tab w) (h : (Fk.sl bs).f v w) {y : List (BitVec 8)} (hy : Box (shaOf bs = y)) :
    Calls Tryd.prog 24 #[v] w fun e w' => ∃ u, e = .returned u ∧ (Fk.eq (.agg (y.map V).toArray)).f u w' ∧ Below w.heap.size w w' := by
  rw [← hy.out]; exact fk_sum hT hK h
set_option maxRecDepth 100000 in
set_option maxHeartbeats 2000000 in
theorem collides_any (xh xo : List (BitVec 8)) (A : Option Addr) (C lb lo : Nat) (S : List (List (BitVec 8))) (p : List (BitVec 8)) (w : World) (hh : xh.length = 32) (ho : xo.length = 32) (hl : Hl w A lb lo S) (h67 : S.length = 67) (hpl : p.length = 32) (ep : Box (pub (all67 (recOf xh S)) = p)) (eq : Box (pub (all67 (recOf xo S)) = p)) (hK : Tab w) :
    Calls Tryd.prog 18 #[.agg (xh.map V).toArray, .agg (xo.map V).toArray, .slice A 67 C] w fun e w' => e = .returned (.bool true) ∧ Below w.heap.size w w' := by
  go_enter Tryd.func18, Tryd.ntmps18
  go_upto_region 1 with fail
  rename_i KK hKK
  refine code_both (fun f w1 => f.tmps.size = 134 ∧ f.defers = [] ∧ Fk.f (.hs (S)) (f.eval (.tmp 2)) w1 ∧ Fk.f (.eq (.pointer (some ⟨w.heap.size, 0, none⟩))) (f.eval (.tmp 3)) w1 ∧ Fk.f (.eq (.pointer (some ⟨w.heap.size + 1, 0, none⟩))) (f.eval (.tmp 4)) w1 ∧ HasV w1 w.heap.size 23 xh ∧ HasV w1 (w.heap.size + 1) 23 xo ∧ Below w.heap.size w w1) ?_ ?_
  · have hb := ((Below.refl w.heap.size w).alloc (Nat.le_refl _) (Obj.cells (xh.map V).toArray 23)).alloc (by simp) (Obj.cells (xo.map V).toArray 23)
    exact ⟨rfl, rfl, ⟨A, C, lb, lo, by rw [h67]; rfl, hl.below hb⟩, rfl, rfl, heap_alloc2_old _ _ _, heap_alloc2_new _ _ _, hb⟩
  rintro f0 w0 ⟨sz, df, x2, x3, x4, m3, m4, bl⟩
  have tb := hK.below bl
  obtain ⟨g4, hg4⟩ : ∃ g4, g4 = w.heap.size + 1 := ⟨_, rfl⟩
  rw [← hg4] at x4 m4
  obtain ⟨g3, hg3⟩ : ∃ g3, g3 = w.heap.size := ⟨_, rfl⟩
  rw [← hg3] at x3 m3
  have h32 : ∀ (i : Nat) (x : List (BitVec 8)), S[i]? = some x → x.length = 32 := fun i x hi => (hl.all i x hi).1
  clear hl
  refine wp_all [.eq (.agg ((xh).map V).toArray), .ds (dig (xh)), .eq (.agg ((xo).map V).toArray), .ds (dig (xo)), .ds (dig (xh)), .ds (dig (xo))] Tryd.mixed (by kernel_rfl) (by kernel_rfl) (by rw [sz]; kernel_rfl) (by kernel_rfl) ⟨fun hw ac w' K => ?_, fun hw ac w' K => ?_, fun hw ac w' K => ?_, fun hw ac w' K => ?_, fun hw ac w' K => ?_, fun hw ac w' K => ?_, trivial⟩ ?_
  · exact st_load23 (.tmp 3) rfl _ (xh) ((K.old 3 rfl).trans x3) hh (HasV.below m3 K.grow (HasV.lt m3))
  · exact st_call 9 (.func 9) _ _ #[.agg ((xh).map V).toArray] rfl rfl (one_arg (K.dep 0 20 rfl)) Tryd.enter9 (fk_ref hh)
  · exact st_load23 (.tmp 4) rfl _ (xo) ((K.old 4 rfl).trans x4) ho (HasV.below m4 K.grow (HasV.lt m4))
  · exact st_call 9 (.func 9) _ _ #[.agg ((xo).map V).toArray] rfl rfl (one_arg (K.dep 2 22 rfl)) Tryd.enter9 (fk_ref ho)
  · exact st_assign (.tmp 21) rfl (K.dep 1 21 rfl)
  · exact st_assign (.tmp 23) rfl (K.dep 3 23 rfl)
  intro f1 w1 A hb
  replace x2 : Fk.f (.hs (S)) (f1.eval (.tmp 2)) w1 := f_at (A.old 2 rfl) (Fk.mono _ _ _ _ x2 hb)
  replace x3 : Fk.f (.eq (.pointer (some ⟨g3, 0, none⟩))) (f1.eval (.tmp 3)) w1 := f_at (A.old 3 rfl) (Fk.mono _ _ _ _ x3 hb)
  replace x4 : Fk.f (.eq (.pointer (some ⟨g4, 0, none⟩))) (f1.eval (.tmp 4)) w1 := f_at (A.old 4 rfl) (Fk.mono _ _ _ _ x4 hb)
  have x7 : Fk.f (.ds (dig (xh))) (f1.eval (.tmp 7)) w1 := A.has 4 7 rfl
  have x8 : Fk.f (.ds (dig (xo))) (f1.eval (.tmp 8)) w1 := A.has 5 8 rfl
  replace m3 := HasV.below m3 hb (HasV.lt m3)
  replace m4 := HasV.below m4 hb (HasV.lt m4)
  replace tb := tb.below hb
  replace bl := bl.trans (Below.mono hb bl.size)
  replace sz := A.size.trans sz
  replace df := A.defs.trans df
  clear A hb
  refine hKK _ _ ?_
  refine wp_seq ?_
  refine wp_all_seq [.eq (.slice none 0 0), .eq (.slice none 0 0)] (by kernel_rfl) (by kernel_rfl) (by rw [sz]; kernel_rfl) (by kernel_rfl) ⟨fun hw ac w' K => ?_, fun hw ac w' K => ?_, trivial⟩ ?_
  · exact st_assign (.const (.slice none 0 0)) rfl rfl
  · exact st_assign (.const (.slice none 0 0)) rfl rfl
  intro f2 w2 A hb
  replace x2 : Fk.f (.hs (S)) (f2.eval (.tmp 2)) w2 := f_at (A.old 2 rfl) (Fk.mono _ _ _ _ x2 hb)
  replace x3 : Fk.f (.eq (.pointer (some ⟨g3, 0, none⟩))) (f2.eval (.tmp 3)) w2 := f_at (A.old 3 rfl) (Fk.mono _ _ _ _ x3 hb)
  replace x4 : Fk.f (.eq (.pointer (some ⟨g4, 0, none⟩))) (f2.eval (.tmp 4)) w2 := f_at (A.old 4 rfl) (Fk.mono _ _ _ _ x4 hb)
  replace x7 : Fk.f (.ds (dig (xh))) (f2.eval (.tmp 7)) w2 := f_at (A.old 7 rfl) (Fk.mono _ _ _ _ x7 hb)
  replace x8 : Fk.f (.ds (dig (xo))) (f2.eval (.tmp 8)) w2 := f_at (A.old 8 rfl) (Fk.mono _ _ _ _ x8 hb)
  have x9 : Fk.f (.eq (.slice none 0 0)) (f2.eval (.tmp 9)) w2 := A.has 0 9 rfl
  have x10 : Fk.f (.eq (.slice none 0 0)) (f2.eval (.tmp 10)) w2 := A.has 1 10 rfl
  replace m3 := HasV.below m3 hb (HasV.lt m3)
  replace m4 := HasV.below m4 hb (HasV.lt m4)
  replace tb := tb.below hb
  replace bl := bl.trans (Below.mono hb bl.size)
  replace sz := A.size.trans sz
  replace df := A.defs.trans df
  clear A hb
  show Code.wp _ _ _ _ _
  refine wp_seq ?_
  refine wp_seq ?_
  refine wp_all_seq [.hs (S), .eq (.int .i64 (((S).length : Nat) : Int)), .eq (.int .i64 0)] (by kernel_rfl) (by kernel_rfl) (by rw [sz]; kernel_rfl) (by kernel_rfl) ⟨fun hw ac w' K => ?_, fun hw ac w' K => ?_, fun hw ac w' K => ?_, trivial⟩ ?_
  · exact st_move (.tmp 2) rfl (f_at (K.old 2 rfl) (Fk.mono _ _ _ _ x2 K.grow))
  · exact st_lenh (.tmp 24) rfl (K.dep 0 24 rfl)
  · exact st_move (.const (.int .i64 0)) rfl rfl
  intro f3 w3 A hb
  replace x2 : Fk.f (.hs (S)) (f3.eval (.tmp 2)) w3 := f_at (A.old 2 rfl) (Fk.mono _ _ _ _ x2 hb)
  replace x3 : Fk.f (.eq (.pointer (some ⟨g3, 0, none⟩))) (f3.eval (.tmp 3)) w3 := f_at (A.old 3 rfl) (Fk.mono _ _ _ _ x3 hb)
  replace x4 : Fk.f (.eq (.pointer (some ⟨g4, 0, none⟩))) (f3.eval (.tmp 4)) w3 := f_at (A.old 4 rfl) (Fk.mono _ _ _ _ x4 hb)
  replace x7 : Fk.f (.ds (dig (xh))) (f3.eval (.tmp 7)) w3 := f_at (A.old 7 rfl) (Fk.mono _ _ _ _ x7 hb)
  replace x8 : Fk.f (.ds (dig (xo))) (f3.eval (.tmp 8)) w3 := f_at (A.old 8 rfl) (Fk.mono _ _ _ _ x8 hb)
  replace x9 : Fk.f (.eq (.slice none 0 0)) (f3.eval (.tmp 9)) w3 := f_at (A.old 9 rfl) (Fk.mono _ _ _ _ x9 hb)
  replace x10 : Fk.f (.eq (.slice none 0 0)) (f3.eval (.tmp 10)) w3 := f_at (A.old 10 rfl) (Fk.mono _ _ _ _ x10 hb)
  have x25 : Fk.f (.eq (.int .i64 (((S).length : Nat) : Int))) (f3.eval (.tmp 25)) w3 := A.has 1 25 rfl
  have x26 : Fk.f (.eq (.int .i64 0)) (f3.eval (.tmp 26)) w3 := A.has 2 26 rfl
  replace m3 := HasV.below m3 hb (HasV.lt m3)
  replace m4 := HasV.below m4 hb (HasV.lt m4)
  replace tb := tb.below hb
  replace bl := bl.trans (Below.mono hb bl.size)
  replace sz := A.size.trans sz
  replace df := A.defs.trans df
  clear A hb
  show Code.wp _ _ _ _ _
  clear m3 m4
  clear x3
  clear x4
  refine wp_block ?_
  have xLp2 := x2
  have xLp7 := x7
  have xLp8 := x8
  have xLp25 := x25
  have tbLp := tb
  refine wp_loop (fun f v1 => ∃ k : Nat, k ≤ 67 ∧ f.tmps.size = 134 ∧ f.defers = [] ∧ f.eval (.tmp 2) = f3.eval (.tmp 2) ∧ f.eval (.tmp 7) = f3.eval (.tmp 7) ∧ f.eval (.tmp 8) = f3.eval (.tmp 8) ∧ f.eval (.tmp 25) = f3.eval (.tmp 25) ∧ Fk.f (.eq (.int .i64 ((k : Nat) : Int))) (f.eval (.tmp 26)) v1 ∧ Tw w3.heap.size (f.eval (.tmp 9)) (f.eval (.tmp 10)) ((firsts (recOf xh S) k).flatten) ((firsts (recOf xo S) k).flatten) v1 ∧ Below w3.heap.size w3 v1) (fun f _ => 67 - (intOf (f.eval (.tmp 26))).toNat) ⟨0, by omega, sz, df, rfl, rfl, rfl, rfl, x26, (by rw [show _ = _ from x9, show _ = _ from x10]; exact Tw.nil _ _), Below.refl _ _⟩ ?_
  intro f4 w4 hI
  clear sz df tb x26 x2 x7 x8 x25 x9 x10
  obtain ⟨k, hk, sz, df, a2, a7, a8, a25, x26, tw, hL⟩ := hI
  have x2 : Fk.f (.hs (S)) (f4.eval (.tmp 2)) w4 := f_at a2 (Fk.mono _ _ _ _ xLp2 hL)
  have x7 : Fk.f (.ds (dig (xh))) (f4.eval (.tmp 7)) w4 := f_at a7 (Fk.mono _ _ _ _ xLp7 hL)
  have x8 : Fk.f (.ds (dig (xo))) (f4.eval (.tmp 8)) w4 := f_at a8 (Fk.mono _ _ _ _ xLp8 hL)
  have x25 : Fk.f (.eq (.int .i64 (((S).length : Nat) : Int))) (f4.eval (.tmp 25)) w4 := f_at a25 (Fk.mono _ _ _ _ xLp25 hL)
  have tb := tbLp.below hL
  have c26 := x26
  by_cases hlt : k < 67
  · obtain ⟨z, ez⟩ : ∃ z, S[k]? = some z := ⟨_, List.getElem?_eq_getElem (by omega)⟩
    have hzl := h32 k z ez
    obtain ⟨d, ed⟩ : ∃ d, (dig xh)[k]? = some d := ⟨_, dg_at xh k hlt⟩
    have hd15 := dig_le xh k d ed
    obtain ⟨e, ee⟩ : ∃ e, (dig xo)[k]? = some e := ⟨_, dg_at xo k hlt⟩
    have he15 := dig_le xo k e ee
    obtain ⟨y, ey⟩ : ∃ y, Box (wk ((k : Nat) : Int) d z (15 - d) = y) := ⟨_, ⟨rfl⟩⟩
    obtain ⟨y2, ey2⟩ : ∃ y, Box (wk ((k : Nat) : Int) e z (15 - e) = y) := ⟨_, ⟨rfl⟩⟩
    have hyl : y.length = 32 := by rw [← ey.out]; exact wk_len _ _ _ _ hzl
    have hyl2 : y2.length = 32 := by rw [← ey2.out]; exact wk_len _ _ _ _ hzl
    have eF : recOf xh S k = y := by
      unfold recOf
      rw [show dg xh k = d by (unfold dg; simp [ed]), show S.getD k [] = z by simp [ez]]; exact ey.out
    have eF2 : recOf xo S k = y2 := by
      unfold recOf
      rw [show dg xo k = e by (unfold dg; simp [ee]), show S.getD k [] = z by simp [ez]]; exact ey2.out
    refine wp_seq ?_
    refine wp_all_seq [.eq (.bool true)] (by kernel_rfl) (by kernel_rfl) (by rw [sz]; kernel_rfl) (by kernel_rfl) ⟨fun hw ac w' K => ?_, trivial⟩ ?_
    · exact st_lss 3 (.tmp 26) (.tmp 25) rfl .i64 (((k : Nat) : Int)) ((((S).length : Nat) : Int)) ((K.old 26 rfl).trans x26) ((K.old 25 rfl).trans x25) _ (by rw [h67]; simp; omega)
    intro f5 w5 A hb
    replace x2 : Fk.f (.hs (S)) (f5.eval (.tmp 2)) w5 := f_at (A.old 2 rfl) (Fk.mono _ _ _ _ x2 hb)
    replace x7 : Fk.f (.ds (dig (xh))) (f5.eval (.tmp 7)) w5 := f_at (A.old 7 rfl) (Fk.mono _ _ _ _ x7 hb)
    replace x8 : Fk.f (.ds (dig (xo))) (f5.eval (.tmp 8)) w5 := f_at (A.old 8 rfl) (Fk.mono _ _ _ _ x8 hb)
    replace x25 : Fk.f (.eq (.int .i64 (((S).length : Nat) : Int))) (f5.eval (.tmp 25)) w5 := f_at (A.old 25 rfl) (Fk.mono _ _ _ _ x25 hb)
    replace x26 : Fk.f (.eq (.int .i64 ((k : Nat) : Int))) (f5.eval (.tmp 26)) w5 := f_at (A.old 26 rfl) (Fk.mono _ _ _ _ x26 hb)
    have x27 : Fk.f (.eq (.bool true)) (f5.eval (.tmp 27)) w5 := A.has 0 27 rfl
    replace tb := tb.below hb
    replace sz := A.size.trans sz
    replace df := A.defs.trans df
    replace a2 := (A.old 2 rfl).trans a2
    replace a7 := (A.old 7 rfl).trans a7
    replace a8 := (A.old 8 rfl).trans a8
    replace a25 := (A.old 25 rfl).trans a25
    replace hL := hL.trans (Below.mono hb hL.size)
    replace tw : Tw w3.heap.size (f5.eval (.tmp 9)) (f5.eval (.tmp 10)) ((firsts (recOf xh S) k).flatten) ((firsts (recOf xo S) k).flatten) w5 := by rw [A.old 9 rfl, A.old 10 rfl]; exact Tw.below tw hb
    clear A hb
    show Code.wp _ _ _ _ _
    refine wp_seq ?_
    refine wp_cond_true x27 ?_
    refine wp_skip ?_
    show Code.wp _ _ _ _ _
    clear x27
    refine wp_seq ?_
    refine wp_block ?_
    refine wp_seq ?_
    refine wp_all_seq [.eq (.int .i64 ((k : Nat) : Int)), .eq (.int .i64 ((k : Nat) : Int))] (by kernel_rfl) (by kernel_rfl) (by rw [sz]; kernel_rfl) (by kernel_rfl) ⟨fun hw ac w' K => ?_, fun hw ac w' K => ?_, trivial⟩ ?_
    · exact st_move (.tmp 26) rfl ((K.old 26 rfl).trans x26)
    · exact st_assign (.tmp 28) rfl (K.dep 0 28 rfl)
    intro f6 w6 A hb
    replace x2 : Fk.f (.hs (S)) (f6.eval (.tmp 2)) w6 := f_at (A.old 2 rfl) (Fk.mono _ _ _ _ x2 hb)
    replace x7 : Fk.f (.ds (dig (xh))) (f6.eval (.tmp 7)) w6 := f_at (A.old 7 rfl) (Fk.mono _ _ _ _ x7 hb)
    replace x8 : Fk.f (.ds (dig (xo))) (f6.eval (.tmp 8)) w6 := f_at (A.old 8 rfl) (Fk.mono _ _ _ _ x8 hb)
    replace x25 : Fk.f (.eq (.int .i64 (((S).length : Nat) : Int))) (f6.eval (.tmp 25)) w6 := f_at (A.old 25 rfl) (Fk.mono _ _ _ _ x25 hb)
    replace x26 : Fk.f (.eq (.int .i64 ((k : Nat) : Int))) (f6.eval (.tmp 26)) w6 := f_at (A.old 26 rfl) (Fk.mono _ _ _ _ x26 hb)
    have x11 : Fk.f (.eq (.int .i64 ((k : Nat) : Int))) (f6.eval (.tmp 11)) w6 := A.has 1 11 rfl
    replace tb := tb.below hb
    replace sz := A.size.trans sz
    replace df := A.defs.trans df
    replace a2 := (A.old 2 rfl).trans a2
    replace a7 := (A.old 7 rfl).trans a7
    replace a8 := (A.old 8 rfl).trans a8
    replace a25 := (A.old 25 rfl).trans a25
    replace hL := hL.trans (Below.mono hb hL.size)
    replace tw : Tw w3.heap.size (f6.eval (.tmp 9)) (f6.eval (.tmp 10)) ((firsts (recOf xh S) k).flatten) ((firsts (recOf xo S) k).flatten) w6 := by rw [A.old 9 rfl, A.old 10 rfl]; exact Tw.below tw hb
    clear A hb
    show Code.wp _ _ _ _ _
    refine wp_seq ?_
    refine wp_region_two [.hs (S), .eq (.int .i64 ((k : Nat) : Int)), .ph (z), .eq (.agg ((z).map V).toArray), .eq (.int .i64 ((k : Nat) : Int)), .ds (dig (xh)), .eq (.int .i64 ((k : Nat) : Int)), .pi ((d : Nat) : Int), .eq (.int .i64 ((d : Nat) : Int)), .eq (.agg ((y).map V).toArray), .hs (S), .eq (.int .i64 ((k : Nat) : Int)), .ph (z), .eq (.agg ((z).map V).toArray), .eq (.int .i64 ((k : Nat) : Int)), .ds (dig (xo)), .eq (.int .i64 ((k : Nat) : Int)), .pi ((e : Nat) : Int), .eq (.int .i64 ((e : Nat) : Int)), .eq (.agg ((y2).map V).toArray), .pn w6.heap.size hz, .pn w6.heap.size hz] [22, 23] 20 21 12 13 (by kernel_rfl) (by kernel_rfl) rfl rfl rfl rfl rfl (by kernel_rfl) (by kernel_rfl) (by kernel_rfl) (by kernel_rfl) (by rw [sz]; kernel_rfl) (by kernel_rfl) ⟨fun hw ac w' K => ?_, fun hw ac w' K => ?_, fun hw ac w' K => ?_, fun hw ac w' K => ?_, fun hw ac w' K => ?_, fun hw ac w' K => ?_, fun hw ac w' K => ?_, fun hw ac w' K => ?_, fun hw ac w' K => ?_, fun hw ac w' K => ?_, fun hw ac w' K => ?_, fun hw ac w' K => ?_, fun hw ac w' K => ?_, fun hw ac w' K => ?_, fun hw ac w' K => ?_, fun hw ac w' K => ?_, fun hw ac w' K => ?_, fun hw ac w' K => ?_, fun hw ac w' K => ?_, fun hw ac w' K => ?_, fun hw ac w' K => ?_, fun hw ac w' K => ?_, trivial⟩ ?_
    · exact st_move (.tmp 2) rfl (f_at (K.old 2 rfl) (Fk.mono _ _ _ _ x2 K.grow))
    · exact st_move (.tmp 11) rfl ((K.old 11 rfl).trans x11)
    · exact st_idxh (.tmp 29) (.tmp 30) rfl (K.dep 0 29 rfl) (k) (z) (K.dep 1 30 rfl) ez
    · exact st_loadh (.tmp 31) rfl (K.dep 2 31 rfl)
    · exact st_move (.tmp 11) rfl ((K.old 11 rfl).trans x11)
    · exact st_move (.tmp 7) rfl (f_at (K.old 7 rfl) (Fk.mono _ _ _ _ x7 K.grow))
    · exact st_move (.tmp 11) rfl ((K.old 11 rfl).trans x11)
    · exact st_idxi (.tmp 34) (.tmp 35) rfl (K.dep 5 34 rfl) (k) (d) (K.dep 6 35 rfl) ed
    · exact st_loadi (.tmp 36) rfl (K.dep 7 36 rfl)
    · exact st_call 13 (.func 13) _ _ #[.agg ((z).map V).toArray, .int .i64 ((k : Nat) : Int), .int .i64 ((d : Nat) : Int), .int .i64 15] rfl rfl (arg4 (K.dep 3 32 rfl) (K.dep 4 33 rfl) (K.dep 8 37 rfl) rfl) Tryd.enter13 (fk_of (walked_to (z) (((k : Nat) : Int)) (d) (15) _ hzl (by omega) (tb.below K.grow) ey))
    · exact st_move (.tmp 2) rfl (f_at (K.old 2 rfl) (Fk.mono _ _ _ _ x2 K.grow))
    · exact st_move (.tmp 11) rfl ((K.old 11 rfl).trans x11)
    · exact st_idxh (.tmp 39) (.tmp 40) rfl (K.dep 10 39 rfl) (k) (z) (K.dep 11 40 rfl) ez
    · exact st_loadh (.tmp 41) rfl (K.dep 12 41 rfl)
    · exact st_move (.tmp 11) rfl ((K.old 11 rfl).trans x11)
    · exact st_move (.tmp 8) rfl (f_at (K.old 8 rfl) (Fk.mono _ _ _ _ x8 K.grow))
    · exact st_move (.tmp 11) rfl ((K.old 11 rfl).trans x11)
    · exact st_idxi (.tmp 44) (.tmp 45) rfl (K.dep 15 44 rfl) (k) (e) (K.dep 16 45 rfl) ee
    · exact st_loadi (.tmp 46) rfl (K.dep 17 46 rfl)
    · exact st_call 13 (.func 13) _ _ #[.agg ((z).map V).toArray, .int .i64 ((k : Nat) : Int), .int .i64 ((e : Nat) : Int), .int .i64 15] rfl rfl (arg4 (K.dep 13 42 rfl) (K.dep 14 43 rfl) (K.dep 18 47 rfl) rfl) Tryd.enter13 (fk_of (walked_to (z) (((k : Nat) : Int)) (e) (15) _ hzl (by omega) (tb.below K.grow) ey2))
    · exact st_alloc23 rfl _ K.grow.size
    · exact st_alloc23 rfl _ K.grow.size
    intro f7 w7 A hne hb
    obtain ⟨g12, hg12, e12, m12⟩ := A.has 20 12 rfl
    obtain ⟨g13, hg13, e13, m13⟩ := A.has 21 13 rfl
    have hgne : g12 ≠ g13 := fun h => hne (by rw [e12, e13, h])
    refine wl_store rfl (.tmp 12) (.tmp 38) rfl rfl g12 (y) hz e12 (A.has 9 38 rfl) m12 hz_len hyl ?_
    refine wl_store rfl (.tmp 13) (.tmp 48) rfl rfl g13 (y2) hz e13 (A.has 19 48 rfl) (HasV.setRow_other m13 hgne.symm) hz_len hyl2 ?_
    replace hb : Below w6.heap.size w6 ((w7.setRow g12 ((y).map V).toArray).setRow g13 ((y2).map V).toArray) := (Below.trans hb (below_setRow _ _ _ _ hg12)).trans (below_setRow _ _ _ _ hg13)
    replace m12 : HasV ((w7.setRow g12 ((y).map V).toArray).setRow g13 ((y2).map V).toArray) g12 23 (y) := HasV.setRow_other (HasV.setRow m12) hgne
    replace m13 : HasV ((w7.setRow g12 ((y).map V).toArray).setRow g13 ((y2).map V).toArray) g13 23 (y2) := HasV.setRow (HasV.setRow_other m13 hgne.symm)
    generalize (w7.setRow g12 ((y).map V).toArray).setRow g13 ((y2).map V).toArray = w7b at hb m12 m13 ⊢
    replace x2 : Fk.f (.hs (S)) (f7.eval (.tmp 2)) w7b := f_at (A.old 2 rfl) (Fk.mono _ _ _ _ x2 hb)
    replace x7 : Fk.f (.ds (dig (xh))) (f7.eval (.tmp 7)) w7b := f_at (A.old 7 rfl) (Fk.mono _ _ _ _ x7 hb)
    replace x8 : Fk.f (.ds (dig (xo))) (f7.eval (.tmp 8)) w7b := f_at (A.old 8 rfl) (Fk.mono _ _ _ _ x8 hb)
    replace x25 : Fk.f (.eq (.int .i64 (((S).length : Nat) : Int))) (f7.eval (.tmp 25)) w7b := f_at (A.old 25 rfl) (Fk.mono _ _ _ _ x25 hb)
    replace x26 : Fk.f (.eq (.int .i64 ((k : Nat) : Int))) (f7.eval (.tmp 26)) w7b := f_at (A.old 26 rfl) (Fk.mono _ _ _ _ x26 hb)
    replace x11 : Fk.f (.eq (.int .i64 ((k : Nat) : Int))) (f7.eval (.tmp 11)) w7b := f_at (A.old 11 rfl) (Fk.mono _ _ _ _ x11 hb)
    have x12 : Fk.f (.eq (.pointer (some ⟨g12, 0, none⟩))) (f7.eval (.tmp 12)) w7b := e12
    have x13 : Fk.f (.eq (.pointer (some ⟨g13, 0, none⟩))) (f7.eval (.tmp 13)) w7b := e13
    replace tb := tb.below hb
    replace sz := A.size.trans sz
    replace df := A.defs.trans df
    replace a2 := (A.old 2 rfl).trans a2
    replace a7 := (A.old 7 rfl).trans a7
    replace a8 := (A.old 8 rfl).trans a8
    replace a25 := (A.old 25 rfl).trans a25
    replace hL := hL.trans (Below.mono hb hL.size)
    replace tw : Tw w3.heap.size (f7.eval (.tmp 9)) (f7.eval (.tmp 10)) ((firsts (recOf xh S) k).flatten) ((firsts (recOf xo S) k).flatten) w7b := by rw [A.old 9 rfl, A.old 10 rfl]; exact Tw.below tw hb
    clear A hb hne hgne e12 e13 hg12 hg13
    refine wpList_nil ?_
    show Code.wp _ _ _ _ _
    refine wp_region_any Tryd.mixed ?_
    change wpAny _ _ _ _ _ _ _ (World.drew _)
    replace tw := Tw.below tw (Below.refl _ _).drew
    replace hL := Below.drew hL
    replace m12 := HasV.drew m12
    replace m13 := HasV.drew m13
    generalize hW : World.drew w7b = wd at *
    obtain ⟨u9, q9⟩ : ∃ u, f7.eval (.tmp 9) = u := ⟨_, rfl⟩
    obtain ⟨u10, q10⟩ : ∃ u, f7.eval (.tmp 10) = u := ⟨_, rfl⟩
    rw [q9, q10] at tw
    replace x26 : _ = _ := x26
    replace x12 : _ = _ := x12
    replace x13 : _ = _ := x13
    clear x11 x2 x7 x8 x25
    refine any_take (i := 0) 49 rfl rfl (by rw [sz]; decide) (by kernel_rfl) (by kernel_rfl) (by kernel_rfl) (fun _ _ _ h => h) rfl (run_move (.tmp 9) rfl q9) ?_
    intro fa0 dfa sza olda newa
    replace q9 := (olda 9 rfl).trans q9
    replace q10 := (olda 10 rfl).trans q10
    replace x12 := (olda 12 rfl).trans x12
    replace x13 := (olda 13 rfl).trans x13
    replace a2 := (olda 2 rfl).trans a2
    replace a7 := (olda 7 rfl).trans a7
    replace a8 := (olda 8 rfl).trans a8
    replace a25 := (olda 25 rfl).trans a25
    replace x26 := (olda 26 rfl).trans x26
    replace sz := sza.trans sz
    replace df := dfa.trans df
    have q49 := newa
    clear dfa sza olda newa
    refine any_take (i := 1) 50 rfl rfl (by rw [sz]; decide) (by kernel_rfl) (by kernel_rfl) (by kernel_rfl) (fun _ _ _ h => h) rfl (run_slice23 (.tmp 12) rfl g12 x12) ?_
    intro fa1 dfa sza olda newa
    replace q9 := (olda 9 rfl).trans q9
    replace q10 := (olda 10 rfl).trans q10
    replace x12 := (olda 12 rfl).trans x12
    replace x13 := (olda 13 rfl).trans x13
    replace q49 := (olda 49 rfl).trans q49
    replace a2 := (olda 2 rfl).trans a2
    replace a7 := (olda 7 rfl).trans a7
    replace a8 := (olda 8 rfl).trans a8
    replace a25 := (olda 25 rfl).trans a25
    replace x26 := (olda 26 rfl).trans x26
    replace sz := sza.trans sz
    replace df := dfa.trans df
    have q50 := newa
    clear dfa sza olda newa
    refine any_take (i := 3) 52 rfl rfl (by rw [sz]; decide) (by kernel_rfl) (by kernel_rfl) (by kernel_rfl) (fun _ _ _ h => h) rfl (run_move (.tmp 10) rfl q10) ?_
    intro fa3 dfa sza olda newa
    replace q9 := (olda 9 rfl).trans q9
    replace q10 := (olda 10 rfl).trans q10
    replace x12 := (olda 12 rfl).trans x12
    replace x13 := (olda 13 rfl).trans x13
    replace q49 := (olda 49 rfl).trans q49
    replace q50 := (olda 50 rfl).trans q50
    replace a2 := (olda 2 rfl).trans a2
    replace a7 := (olda 7 rfl).trans a7
    replace a8 := (olda 8 rfl).trans a8
    replace a25 := (olda 25 rfl).trans a25
    replace x26 := (olda 26 rfl).trans x26
    replace sz := sza.trans sz
    replace df := dfa.trans df
    have q52 := newa
    clear dfa sza olda newa
    refine any_take (i := 4) 53 rfl rfl (by rw [sz]; decide) (by kernel_rfl) (by kernel_rfl) (by kernel_rfl) (fun _ _ _ h => h) rfl (run_slice23 (.tmp 13) rfl g13 x13) ?_
    intro fa4 dfa sza olda newa
    replace q9 := (olda 9 rfl).trans q9
    replace q10 := (olda 10 rfl).trans q10
    replace x12 := (olda 12 rfl).trans x12
    replace x13 := (olda 13 rfl).trans x13
    replace q49 := (olda 49 rfl).trans q49
    replace q50 := (olda 50 rfl).trans q50
    replace q52 := (olda 52 rfl).trans q52
    replace a2 := (olda 2 rfl).trans a2
    replace a7 := (olda 7 rfl).trans a7
    replace a8 := (olda 8 rfl).trans a8
    replace a25 := (olda 25 rfl).trans a25
    replace x26 := (olda 26 rfl).trans x26
    replace sz := sza.trans sz
    replace df := dfa.trans df
    have q53 := newa
    clear dfa sza olda newa
    refine any_list [2, 5, 6, 7] _ _ _ _ (by kernel_rfl) (by decide) ?_
    have l1 := firsts_flat_len (h := xh) h67 h32 k hk
    have l2 := firsts_flat_len (h := xo) h67 h32 k hk
    refine wl_appb rfl (.tmp 49) (.tmp 50) rfl 51 rfl (by rw [sz]; decide) q49 tw.one q50 m12 hyl (by omega) hL.size ?_
    intro fb wx2 df2 sz2 old2 own9 at9 gr2
    have own10 := own_grown tw.two gr2 (fun g h e => tw.apart g e h)
    have m13b := hasV_grown m13 gr2 (fun e => own_not23 tw.one m13 e.symm)
    have hL2 : Below w3.heap.size w3 wx2 := hL.grown gr2 hL.size (fun q e => (World.ownsRow.lt tw.one q e).1)
    refine wl_appb rfl (.tmp 52) (.tmp 53) rfl 54 rfl (by rw [sz2, sz]; decide) ((old2 52 rfl).trans q52) own10 ((old2 53 rfl).trans q53) m13b hyl2 (by omega) hL2.size ?_
    intro fc wx3 df3 sz3 old3 own10b at10 gr3
    have hap9 : ∀ g, (fb.eval (.tmp 51)).ownBlock = some g → u10.ownBlock ≠ some g := fun g h1 h2 => by
      rcases at9 with h | h
      · exact tw.apart g (h.symm.trans h1) h2
      · have := (World.ownsRow.lt tw.two g h2).2
        rw [h] at h1
        have := Option.some.inj h1
        omega
    have own9c := own_grown own9 gr3 (fun g h e => hap9 g h e)
    have hL3 : Below w3.heap.size w3 wx3 := hL2.grown gr3 hL2.size (fun q e => (World.ownsRow.lt own10 q e).1)
    have hap : ∀ g, (fb.eval (.tmp 51)).ownBlock = some g → (fc.eval (.tmp 54)).ownBlock ≠ some g := fun g h1 h2 => by
      rcases at10 with h | h
      · exact hap9 g h1 (h.symm.trans h2)
      · have := (World.ownsRow.lt own9 g h1).2
        rw [h] at h2
        have := Option.some.inj h2
        omega
    have q51 : fc.eval (.tmp 51) = fb.eval (.tmp 51) := old3 51 rfl
    refine wl_assign rfl (.tmp 51) rfl 9 rfl (by rw [sz3, sz2, sz]; decide) ?_
    intro fd df4 sz4 old4 new4
    refine wl_assign rfl (.tmp 54) rfl 10 rfl (by rw [sz4, sz3, sz2, sz]; decide) ?_
    intro fe df5 sz5 old5 new5
    refine wpList_nil ?_
    have tw' : Tw w3.heap.size (fe.eval (.tmp 9)) (fe.eval (.tmp 10)) ((firsts (recOf xh S) (k + 1)).flatten) ((firsts (recOf xo S) (k + 1)).flatten) wx3 := by
      rw [old5 9 rfl, new4, q51, new5, old4 54 rfl, firsts_succ, firsts_succ, eF, eF2, List.flatten_append, List.flatten_append, show [y].flatten = y by simp, show [y2].flatten = y2 by simp]
      exact ⟨own9c, own10b, hap⟩
    replace a2 := ((old5 2 rfl).trans ((old4 2 rfl).trans ((old3 2 rfl).trans (old2 2 rfl)))).trans a2
    replace a7 := ((old5 7 rfl).trans ((old4 7 rfl).trans ((old3 7 rfl).trans (old2 7 rfl)))).trans a7
    replace a8 := ((old5 8 rfl).trans ((old4 8 rfl).trans ((old3 8 rfl).trans (old2 8 rfl)))).trans a8
    replace a25 := ((old5 25 rfl).trans ((old4 25 rfl).trans ((old3 25 rfl).trans (old2 25 rfl)))).trans a25
    replace x26 : Fk.f (.eq (.int .i64 ((k : Nat) : Int))) (fe.eval (.tmp 26)) wx3 := ((old5 26 rfl).trans ((old4 26 rfl).trans ((old3 26 rfl).trans (old2 26 rfl)))).trans x26
    replace sz := sz5.trans (sz4.trans (sz3.trans (sz2.trans sz)))
    replace df := df5.trans (df4.trans (df3.trans (df2.trans df)))
    clear hL tw tb hW
    have hL := hL3
    have tw := tw'
    clear tw' hL3 hL2
    have x2 : Fk.f (.hs (S)) (fe.eval (.tmp 2)) wx3 := f_at a2 (Fk.mono _ _ _ _ xLp2 hL)
    have x7 : Fk.f (.ds (dig (xh))) (fe.eval (.tmp 7)) wx3 := f_at a7 (Fk.mono _ _ _ _ xLp7 hL)
    have x8 : Fk.f (.ds (dig (xo))) (fe.eval (.tmp 8)) wx3 := f_at a8 (Fk.mono _ _ _ _ xLp8 hL)
    have x25 : Fk.f (.eq (.int .i64 (((S).length : Nat) : Int))) (fe.eval (.tmp 25)) wx3 := f_at a25 (Fk.mono _ _ _ _ xLp25 hL)
    have tb := tbLp.below hL
    show Code.wp _ _ _ _ _
    refine wp_region_seq [.eq (.int .i64 ((k + 1 : Nat) : Int))] (by kernel_rfl) (by kernel_rfl) (by rw [sz]; kernel_rfl) (by kernel_rfl) ⟨fun hw ac w' K => ?_, trivial⟩ ?_
    · exact st_add1 (.tmp 26) rfl k (by omega) ((K.old 26 rfl).trans x26)
    intro f8 w8 A hb
    replace x2 : Fk.f (.hs (S)) (f8.eval (.tmp 2)) w8 := f_at (A.old 2 rfl) (Fk.mono _ _ _ _ x2 hb)
    replace x7 : Fk.f (.ds (dig (xh))) (f8.eval (.tmp 7)) w8 := f_at (A.old 7 rfl) (Fk.mono _ _ _ _ x7 hb)
    replace x8 : Fk.f (.ds (dig (xo))) (f8.eval (.tmp 8)) w8 := f_at (A.old 8 rfl) (Fk.mono _ _ _ _ x8 hb)
    replace x25 : Fk.f (.eq (.int .i64 (((S).length : Nat) : Int))) (f8.eval (.tmp 25)) w8 := f_at (A.old 25 rfl) (Fk.mono _ _ _ _ x25 hb)
    replace x26 : Fk.f (.eq (.int .i64 ((k : Nat) : Int))) (f8.eval (.tmp 26)) w8 := f_at (A.old 26 rfl) (Fk.mono _ _ _ _ x26 hb)
    have x55 : Fk.f (.eq (.int .i64 ((k + 1 : Nat) : Int))) (f8.eval (.tmp 55)) w8 := A.has 0 55 rfl
    replace tb := tb.below hb
    replace sz := A.size.trans sz
    replace df := A.defs.trans df
    replace a2 := (A.old 2 rfl).trans a2
    replace a7 := (A.old 7 rfl).trans a7
    replace a8 := (A.old 8 rfl).trans a8
    replace a25 := (A.old 25 rfl).trans a25
    replace hL := hL.trans (Below.mono hb hL.size)
    replace tw : Tw w3.heap.size (f8.eval (.tmp 9)) (f8.eval (.tmp 10)) ((firsts (recOf xh S) (k + 1)).flatten) ((firsts (recOf xo S) (k + 1)).flatten) w8 := by rw [A.old 9 rfl, A.old 10 rfl]; exact Tw.below tw hb
    clear A hb
    refine wl_move rfl (.tmp 55) rfl 26 rfl (by rw [sz]; decide) ?_
    intro f9 df2 sz2 old2 new2
    have nx26 : Fk.f (.eq (.int .i64 ((k + 1 : Nat) : Int))) (f9.eval (.tmp 26)) w8 := f_at new2 x55
    replace x2 : Fk.f (.hs (S)) (f9.eval (.tmp 2)) w8 := f_at (old2 2 rfl) x2
    replace x7 : Fk.f (.ds (dig (xh))) (f9.eval (.tmp 7)) w8 := f_at (old2 7 rfl) x7
    replace x8 : Fk.f (.ds (dig (xo))) (f9.eval (.tmp 8)) w8 := f_at (old2 8 rfl) x8
    replace x25 : Fk.f (.eq (.int .i64 (((S).length : Nat) : Int))) (f9.eval (.tmp 25)) w8 := f_at (old2 25 rfl) x25
    replace x55 : Fk.f (.eq (.int .i64 ((k + 1 : Nat) : Int))) (f9.eval (.tmp 55)) w8 := f_at (old2 55 rfl) x55
    have x26 := nx26
    replace sz := sz2.trans sz
    replace df := df2.trans df
    replace a2 := (old2 2 rfl).trans a2
    replace a7 := (old2 7 rfl).trans a7
    replace a8 := (old2 8 rfl).trans a8
    replace a25 := (old2 25 rfl).trans a25
    replace tw : Tw w3.heap.size (f9.eval (.tmp 9)) (f9.eval (.tmp 10)) ((firsts (recOf xh S) (k + 1)).flatten) ((firsts (recOf xo S) (k + 1)).flatten) w8 := by rw [old2 9 rfl, old2 10 rfl]; exact tw
    clear df2 sz2 old2 new2 nx26
    clear x55
    refine wpList_nil ?_
    show (∃ _, _) ∧ _
    refine ⟨⟨k + 1, by omega, sz, df, a2, a7, a8, a25, x26, tw, hL⟩, ?_⟩
    rw [show f9.eval (.tmp 26) = _ from x26, show _ = _ from c26]
    simp [intOf]
    omega
  · have hk67 : k = 67 := by omega
    refine wp_seq ?_
    refine wp_all_seq [.eq (.bool false)] (by kernel_rfl) (by kernel_rfl) (by rw [sz]; kernel_rfl) (by kernel_rfl) ⟨fun hw ac w' K => ?_, trivial⟩ ?_
    · exact st_lss 3 (.tmp 26) (.tmp 25) rfl .i64 (((k : Nat) : Int)) ((((S).length : Nat) : Int)) ((K.old 26 rfl).trans x26) ((K.old 25 rfl).trans x25) _ (by rw [h67]; simp; omega)
    intro f5 w5 A hb
    replace x2 : Fk.f (.hs (S)) (f5.eval (.tmp 2)) w5 := f_at (A.old 2 rfl) (Fk.mono _ _ _ _ x2 hb)
    replace x7 : Fk.f (.ds (dig (xh))) (f5.eval (.tmp 7)) w5 := f_at (A.old 7 rfl) (Fk.mono _ _ _ _ x7 hb)
    replace x8 : Fk.f (.ds (dig (xo))) (f5.eval (.tmp 8)) w5 := f_at (A.old 8 rfl) (Fk.mono _ _ _ _ x8 hb)
    replace x25 : Fk.f (.eq (.int .i64 (((S).length : Nat) : Int))) (f5.eval (.tmp 25)) w5 := f_at (A.old 25 rfl) (Fk.mono _ _ _ _ x25 hb)
    replace x26 : Fk.f (.eq (.int .i64 ((k : Nat) : Int))) (f5.eval (.tmp 26)) w5 := f_at (A.old 26 rfl) (Fk.mono _ _ _ _ x26 hb)
    have x27 : Fk.f (.eq (.bool false)) (f5.eval (.tmp 27)) w5 := A.has 0 27 rfl
    replace tb := tb.below hb
    replace sz := A.size.trans sz
    replace df := A.defs.trans df
    replace a2 := (A.old 2 rfl).trans a2
    replace a7 := (A.old 7 rfl).trans a7
    replace a8 := (A.old 8 rfl).trans a8
    replace a25 := (A.old 25 rfl).trans a25
    replace hL := hL.trans (Below.mono hb hL.size)
    replace tw : Tw w3.heap.size (f5.eval (.tmp 9)) (f5.eval (.tmp 10)) ((firsts (recOf xh S) k).flatten) ((firsts (recOf xo S) k).flatten) w5 := by rw [A.old 9 rfl, A.old 10 rfl]; exact Tw.below tw hb
    clear A hb
    show Code.wp _ _ _ _ _
    refine wp_seq ?_
    refine wp_cond_false x27 ?_
    refine wp_exit ?_
    clear x27
    show Code.wp _ _ _ _ _
    refine wp_seq ?_
    replace bl := bl.trans (Below.mono hL bl.size)
    rw [hk67, firsts_all, firsts_all] at tw
    have l1 := firsts_flat_len (h := xh) h67 h32 67 (by omega)
    have l2 := firsts_flat_len (h := xo) h67 h32 67 (by omega)
    rw [firsts_all] at l1 l2
    obtain ⟨X, eX⟩ : ∃ X, Box ((all67 (recOf xh S)).flatten = X) := ⟨_, ⟨rfl⟩⟩
    obtain ⟨Y, eY⟩ : ∃ Y, Box ((all67 (recOf xo S)).flatten = Y) := ⟨_, ⟨rfl⟩⟩
    rw [eX.out, eY.out] at tw
    rw [eX.out] at l1
    rw [eY.out] at l2
    have x9 : Fk.f (.sl X) (f5.eval (.tmp 9)) w5 := own_sl tw.one
    have x10 : Fk.f (.sl Y) (f5.eval (.tmp 10)) w5 := own_sl tw.two
    clear tw
    clear x26
    refine wp_all_seq [.sl X, .ls 1 X, .sl (kb 4 :: X), .sl Y, .ls 1 Y, .sl (kb 4 :: Y), .sl (kb 4 :: X), .sl (kb 4 :: Y)] (by kernel_rfl) (by kernel_rfl) (by rw [sz]; kernel_rfl) (by kernel_rfl) ⟨fun hw ac w' K => ?_, fun hw ac w' K => ?_, fun hw ac w' K => ?_, fun hw ac w' K => ?_, fun hw ac w' K => ?_, fun hw ac w' K => ?_, fun hw ac w' K => ?_, fun hw ac w' K => ?_, trivial⟩ ?_
    · exact st_move (.tmp 9) rfl (f_at (K.old 9 rfl) (Fk.mono _ _ _ _ x9 K.grow))
    · exact st_build1 (.tmp 56) rfl (K.dep 0 56 rfl)
    · exact st_call 23 (.func 23) _ _ #[.int .i64 4, ac.eval (.tmp 57)] rfl rfl rfl Tryd.enter23 (fk_input 4 (by omega) (by omega) (K.dep 1 57 rfl))
    · exact st_move (.tmp 10) rfl (f_at (K.old 10 rfl) (Fk.mono _ _ _ _ x10 K.grow))
    · exact st_build1 (.tmp 59) rfl (K.dep 3 59 rfl)
    · exact st_call 23 (.func 23) _ _ #[.int .i64 4, ac.eval (.tmp 60)] rfl rfl rfl Tryd.enter23 (fk_input 4 (by omega) (by omega) (K.dep 4 60 rfl))
    · exact st_assign (.tmp 58) rfl (K.dep 2 58 rfl)
    · exact st_assign (.tmp 61) rfl (K.dep 5 61 rfl)
    intro f6 w6 A hb
    replace x2 : Fk.f (.hs (S)) (f6.eval (.tmp 2)) w6 := f_at (A.old 2 rfl) (Fk.mono _ _ _ _ x2 hb)
    replace x7 : Fk.f (.ds (dig (xh))) (f6.eval (.tmp 7)) w6 := f_at (A.old 7 rfl) (Fk.mono _ _ _ _ x7 hb)
    replace x8 : Fk.f (.ds (dig (xo))) (f6.eval (.tmp 8)) w6 := f_at (A.old 8 rfl) (Fk.mono _ _ _ _ x8 hb)
    replace x25 : Fk.f (.eq (.int .i64 (((S).length : Nat) : Int))) (f6.eval (.tmp 25)) w6 := f_at (A.old 25 rfl) (Fk.mono _ _ _ _ x25 hb)
    replace x9 : Fk.f (.sl X) (f6.eval (.tmp 9)) w6 := f_at (A.old 9 rfl) (Fk.mono _ _ _ _ x9 hb)
    replace x10 : Fk.f (.sl Y) (f6.eval (.tmp 10)) w6 := f_at (A.old 10 rfl) (Fk.mono _ _ _ _ x10 hb)
    have x14 : Fk.f (.sl (kb 4 :: X)) (f6.eval (.tmp 14)) w6 := A.has 6 14 rfl
    have x15 : Fk.f (.sl (kb 4 :: Y)) (f6.eval (.tmp 15)) w6 := A.has 7 15 rfl
    replace tb := tb.below hb
    replace bl := bl.trans (Below.mono hb bl.size)
    replace sz := A.size.trans sz
    replace df := A.defs.trans df
    clear A hb
    clear x9
    clear x10
    show Code.wp _ _ _ _ _
    refine wp_seq ?_
    refine wp_seq ?_
    by_cases hXY : X = Y
    · have hall : ∀ i, i < 67 → recOf xh S i = recOf xo S i := rec_eq h67 h32 (by rw [eX.out, eY.out]; exact hXY)
      refine wp_all_seq [.sl (kb 4 :: X), .eq (.string (str (kb 4 :: X))), .sl (kb 4 :: Y), .eq (.string (str (kb 4 :: Y))), .eq (.bool false)] (by kernel_rfl) (by kernel_rfl) (by rw [sz]; kernel_rfl) (by kernel_rfl) ⟨fun hw ac w' K => ?_, fun hw ac w' K => ?_, fun hw ac w' K => ?_, fun hw ac w' K => ?_, fun hw ac w' K => ?_, trivial⟩ ?_
      · exact st_move (.tmp 14) rfl (f_at (K.old 14 rfl) (Fk.mono _ _ _ _ x14 K.grow))
      · exact st_str (.tmp 62) rfl (by simp) (K.dep 0 62 rfl)
      · exact st_move (.tmp 15) rfl (f_at (K.old 15 rfl) (Fk.mono _ _ _ _ x15 K.grow))
      · exact st_str (.tmp 64) rfl (by simp) (K.dep 2 64 rfl)
      · exact st_neqs (.tmp 63) (.tmp 65) rfl _ _ (K.dep 1 63 rfl) (K.dep 3 65 rfl) _ (by rw [hXY]; simp)
      intro f7 w7 A hb
      replace x2 : Fk.f (.hs (S)) (f7.eval (.tmp 2)) w7 := f_at (A.old 2 rfl) (Fk.mono _ _ _ _ x2 hb)
      replace x7 : Fk.f (.ds (dig (xh))) (f7.eval (.tmp 7)) w7 := f_at (A.old 7 rfl) (Fk.mono _ _ _ _ x7 hb)
      replace x8 : Fk.f (.ds (dig (xo))) (f7.eval (.tmp 8)) w7 := f_at (A.old 8 rfl) (Fk.mono _ _ _ _ x8 hb)
      replace x25 : Fk.f (.eq (.int .i64 (((S).length : Nat) : Int))) (f7.eval (.tmp 25)) w7 := f_at (A.old 25 rfl) (Fk.mono _ _ _ _ x25 hb)
      replace x14 : Fk.f (.sl (kb 4 :: X)) (f7.eval (.tmp 14)) w7 := f_at (A.old 14 rfl) (Fk.mono _ _ _ _ x14 hb)
      replace x15 : Fk.f (.sl (kb 4 :: Y)) (f7.eval (.tmp 15)) w7 := f_at (A.old 15 rfl) (Fk.mono _ _ _ _ x15 hb)
      have x66 : Fk.f (.eq (.bool false)) (f7.eval (.tmp 66)) w7 := A.has 4 66 rfl
      replace tb := tb.below hb
      replace bl := bl.trans (Below.mono hb bl.size)
      replace sz := A.size.trans sz
      replace df := A.defs.trans df
      clear A hb
      show Code.wp _ _ _ _ _
      refine wp_cond_false x66 ?_
      refine wp_skip ?_
      show Code.wp _ _ _ _ _
      clear x66
      clear x14
      clear x15
      refine wp_seq ?_
      refine wp_seq ?_
      refine wp_all_seq [.hs (S), .eq (.int .i64 (((S).length : Nat) : Int)), .eq (.int .i64 0)] (by kernel_rfl) (by kernel_rfl) (by rw [sz]; kernel_rfl) (by kernel_rfl) ⟨fun hw ac w' K => ?_, fun hw ac w' K => ?_, fun hw ac w' K => ?_, trivial⟩ ?_
      · exact st_move (.tmp 2) rfl (f_at (K.old 2 rfl) (Fk.mono _ _ _ _ x2 K.grow))
      · exact st_lenh (.tmp 72) rfl (K.dep 0 72 rfl)
      · exact st_move (.const (.int .i64 0)) rfl rfl
      intro f8 w8 A hb
      replace x2 : Fk.f (.hs (S)) (f8.eval (.tmp 2)) w8 := f_at (A.old 2 rfl) (Fk.mono _ _ _ _ x2 hb)
      replace x7 : Fk.f (.ds (dig (xh))) (f8.eval (.tmp 7)) w8 := f_at (A.old 7 rfl) (Fk.mono _ _ _ _ x7 hb)
      replace x8 : Fk.f (.ds (dig (xo))) (f8.eval (.tmp 8)) w8 := f_at (A.old 8 rfl) (Fk.mono _ _ _ _ x8 hb)
      replace x25 : Fk.f (.eq (.int .i64 (((S).length : Nat) : Int))) (f8.eval (.tmp 25)) w8 := f_at (A.old 25 rfl) (Fk.mono _ _ _ _ x25 hb)
      have x73 : Fk.f (.eq (.int .i64 (((S).length : Nat) : Int))) (f8.eval (.tmp 73)) w8 := A.has 1 73 rfl
      have x74 : Fk.f (.eq (.int .i64 0)) (f8.eval (.tmp 74)) w8 := A.has 2 74 rfl
      replace tb := tb.below hb
      replace bl := bl.trans (Below.mono hb bl.size)
      replace sz := A.size.trans sz
      replace df := A.defs.trans df
      clear A hb
      show Code.wp _ _ _ _ _
      refine wp_block ?_
      have xLq2 := x2
      have xLq7 := x7
      have xLq8 := x8
      have xLq25 := x25
      have xLq73 := x73
      have tbLq := tb
      refine wp_loop (fun f v1 => ∃ k : Nat, k ≤ 67 ∧ f.tmps.size = 134 ∧ f.defers = [] ∧ f.eval (.tmp 2) = f8.eval (.tmp 2) ∧ f.eval (.tmp 7) = f8.eval (.tmp 7) ∧ f.eval (.tmp 8) = f8.eval (.tmp 8) ∧ f.eval (.tmp 25) = f8.eval (.tmp 25) ∧ f.eval (.tmp 73) = f8.eval (.tmp 73) ∧ Fk.f (.eq (.int .i64 ((k : Nat) : Int))) (f.eval (.tmp 74)) v1 ∧ Below w8.heap.size w8 v1) (fun f _ => 67 - (intOf (f.eval (.tmp 74))).toNat) ⟨0, by omega, sz, df, rfl, rfl, rfl, rfl, rfl, x74, Below.refl _ _⟩ ?_
      intro f9 w9 hI
      clear sz df tb x74 x2 x7 x8 x25 x73
      obtain ⟨k, hk, sz, df, a2, a7, a8, a25, a73, x74, hL⟩ := hI
      have x2 : Fk.f (.hs (S)) (f9.eval (.tmp 2)) w9 := f_at a2 (Fk.mono _ _ _ _ xLq2 hL)
      have x7 : Fk.f (.ds (dig (xh))) (f9.eval (.tmp 7)) w9 := f_at a7 (Fk.mono _ _ _ _ xLq7 hL)
      have x8 : Fk.f (.ds (dig (xo))) (f9.eval (.tmp 8)) w9 := f_at a8 (Fk.mono _ _ _ _ xLq8 hL)
      have x25 : Fk.f (.eq (.int .i64 (((S).length : Nat) : Int))) (f9.eval (.tmp 25)) w9 := f_at a25 (Fk.mono _ _ _ _ xLq25 hL)
      have x73 : Fk.f (.eq (.int .i64 (((S).length : Nat) : Int))) (f9.eval (.tmp 73)) w9 := f_at a73 (Fk.mono _ _ _ _ xLq73 hL)
      have tb := tbLq.below hL
      have c74 := x74
      by_cases hlt : k < 67
      · obtain ⟨z, ez⟩ : ∃ z, S[k]? = some z := ⟨_, List.getElem?_eq_getElem (by omega)⟩
        have hzl := h32 k z ez
        obtain ⟨d, ed⟩ : ∃ d, (dig xh)[k]? = some d := ⟨_, dg_at xh k hlt⟩
        have hd15 := dig_le xh k d ed
        obtain ⟨e, ee⟩ : ∃ e, (dig xo)[k]? = some e := ⟨_, dg_at xo k hlt⟩
        have he15 := dig_le xo k e ee
        have hend : Box (wk ((k : Nat) : Int) d z (15 - d) = wk ((k : Nat) : Int) e z (15 - e)) := ⟨by
          have := hall k hlt
          unfold recOf at this
          rw [show dg xh k = d by (unfold dg; simp [ed]), show dg xo k = e by (unfold dg; simp [ee]), show S.getD k [] = z by simp [ez]] at this
          exact this⟩
        refine wp_seq ?_
        refine wp_all_seq [.eq (.bool true)] (by kernel_rfl) (by kernel_rfl) (by rw [sz]; kernel_rfl) (by kernel_rfl) ⟨fun hw ac w' K => ?_, trivial⟩ ?_
        · exact st_lss 3 (.tmp 74) (.tmp 73) rfl .i64 (((k : Nat) : Int)) ((((S).length : Nat) : Int)) ((K.old 74 rfl).trans x74) ((K.old 73 rfl).trans x73) _ (by rw [h67]; simp; omega)
        intro f10 w10 A hb
        replace x2 : Fk.f (.hs (S)) (f10.eval (.tmp 2)) w10 := f_at (A.old 2 rfl) (Fk.mono _ _ _ _ x2 hb)
        replace x7 : Fk.f (.ds (dig (xh))) (f10.eval (.tmp 7)) w10 := f_at (A.old 7 rfl) (Fk.mono _ _ _ _ x7 hb)
        replace x8 : Fk.f (.ds (dig (xo))) (f10.eval (.tmp 8)) w10 := f_at (A.old 8 rfl) (Fk.mono _ _ _ _ x8 hb)
        replace x25 : Fk.f (.eq (.int .i64 (((S).length : Nat) : Int))) (f10.eval (.tmp 25)) w10 := f_at (A.old 25 rfl) (Fk.mono _ _ _ _ x25 hb)
        replace x73 : Fk.f (.eq (.int .i64 (((S).length : Nat) : Int))) (f10.eval (.tmp 73)) w10 := f_at (A.old 73 rfl) (Fk.mono _ _ _ _ x73 hb)
        replace x74 : Fk.f (.eq (.int .i64 ((k : Nat) : Int))) (f10.eval (.tmp 74)) w10 := f_at (A.old 74 rfl) (Fk.mono _ _ _ _ x74 hb)
        have x75 : Fk.f (.eq (.bool true)) (f10.eval (.tmp 75)) w10 := A.has 0 75 rfl
        replace tb := tb.below hb
        replace sz := A.size.trans sz
        replace df := A.defs.trans df
        replace a2 := (A.old 2 rfl).trans a2
        replace a7 := (A.old 7 rfl).trans a7
        replace a8 := (A.old 8 rfl).trans a8
        replace a25 := (A.old 25 rfl).trans a25
        replace a73 := (A.old 73 rfl).trans a73
        replace hL := hL.trans (Below.mono hb hL.size)
        clear A hb
        show Code.wp _ _ _ _ _
        refine wp_seq ?_
        refine wp_cond_true x75 ?_
        refine wp_skip ?_
        show Code.wp _ _ _ _ _
        clear x75
        refine wp_seq ?_
        refine wp_block ?_
        refine wp_seq ?_
        refine wp_all_seq [.eq (.int .i64 ((k : Nat) : Int)), .eq (.int .i64 ((k : Nat) : Int))] (by kernel_rfl) (by kernel_rfl) (by rw [sz]; kernel_rfl) (by kernel_rfl) ⟨fun hw ac w' K => ?_, fun hw ac w' K => ?_, trivial⟩ ?_
        · exact st_move (.tmp 74) rfl ((K.old 74 rfl).trans x74)
        · exact st_assign (.tmp 76) rfl (K.dep 0 76 rfl)
        intro f11 w11 A hb
        replace x2 : Fk.f (.hs (S)) (f11.eval (.tmp 2)) w11 := f_at (A.old 2 rfl) (Fk.mono _ _ _ _ x2 hb)
        replace x7 : Fk.f (.ds (dig (xh))) (f11.eval (.tmp 7)) w11 := f_at (A.old 7 rfl) (Fk.mono _ _ _ _ x7 hb)
        replace x8 : Fk.f (.ds (dig (xo))) (f11.eval (.tmp 8)) w11 := f_at (A.old 8 rfl) (Fk.mono _ _ _ _ x8 hb)
        replace x25 : Fk.f (.eq (.int .i64 (((S).length : Nat) : Int))) (f11.eval (.tmp 25)) w11 := f_at (A.old 25 rfl) (Fk.mono _ _ _ _ x25 hb)
        replace x73 : Fk.f (.eq (.int .i64 (((S).length : Nat) : Int))) (f11.eval (.tmp 73)) w11 := f_at (A.old 73 rfl) (Fk.mono _ _ _ _ x73 hb)
        replace x74 : Fk.f (.eq (.int .i64 ((k : Nat) : Int))) (f11.eval (.tmp 74)) w11 := f_at (A.old 74 rfl) (Fk.mono _ _ _ _ x74 hb)
        have x16 : Fk.f (.eq (.int .i64 ((k : Nat) : Int))) (f11.eval (.tmp 16)) w11 := A.has 1 16 rfl
        replace tb := tb.below hb
        replace sz := A.size.trans sz
        replace df := A.defs.trans df
        replace a2 := (A.old 2 rfl).trans a2
        replace a7 := (A.old 7 rfl).trans a7
        replace a8 := (A.old 8 rfl).trans a8
        replace a25 := (A.old 25 rfl).trans a25
        replace a73 := (A.old 73 rfl).trans a73
        replace hL := hL.trans (Below.mono hb hL.size)
        clear A hb
        show Code.wp _ _ _ _ _
        refine wp_seq ?_
        refine wp_seq ?_
        by_cases hde : d = e
        · refine wp_all [.ds (dig (xh)), .eq (.int .i64 ((k : Nat) : Int)), .pi ((d : Nat) : Int), .eq (.int .i64 ((d : Nat) : Int)), .ds (dig (xo)), .eq (.int .i64 ((k : Nat) : Int)), .pi ((e : Nat) : Int), .eq (.int .i64 ((e : Nat) : Int)), .eq (.bool true)] Tryd.mixed (by kernel_rfl) (by kernel_rfl) (by rw [sz]; kernel_rfl) (by kernel_rfl) ⟨fun hw ac w' K => ?_, fun hw ac w' K => ?_, fun hw ac w' K => ?_, fun hw ac w' K => ?_, fun hw ac w' K => ?_, fun hw ac w' K => ?_, fun hw ac w' K => ?_, fun hw ac w' K => ?_, fun hw ac w' K => ?_, trivial⟩ ?_
          · exact st_move (.tmp 7) rfl (f_at (K.old 7 rfl) (Fk.mono _ _ _ _ x7 K.grow))
          · exact st_move (.tmp 16) rfl ((K.old 16 rfl).trans x16)
          · exact st_idxi (.tmp 77) (.tmp 78) rfl (K.dep 0 77 rfl) (k) (d) (K.dep 1 78 rfl) ed
          · exact st_loadi (.tmp 79) rfl (K.dep 2 79 rfl)
          · exact st_move (.tmp 8) rfl (f_at (K.old 8 rfl) (Fk.mono _ _ _ _ x8 K.grow))
          · exact st_move (.tmp 16) rfl ((K.old 16 rfl).trans x16)
          · exact st_idxi (.tmp 81) (.tmp 82) rfl (K.dep 4 81 rfl) (k) (e) (K.dep 5 82 rfl) ee
          · exact st_loadi (.tmp 83) rfl (K.dep 6 83 rfl)
          · exact st_eqi 3 (.tmp 80) (.tmp 84) rfl .i64 (((d : Nat) : Int)) (((e : Nat) : Int)) (K.dep 3 80 rfl) (K.dep 7 84 rfl) _ (by simp [hde])
          intro f12 w12 A hb
          replace x2 : Fk.f (.hs (S)) (f12.eval (.tmp 2)) w12 := f_at (A.old 2 rfl) (Fk.mono _ _ _ _ x2 hb)
          replace x7 : Fk.f (.ds (dig (xh))) (f12.eval (.tmp 7)) w12 := f_at (A.old 7 rfl) (Fk.mono _ _ _ _ x7 hb)
          replace x8 : Fk.f (.ds (dig (xo))) (f12.eval (.tmp 8)) w12 := f_at (A.old 8 rfl) (Fk.mono _ _ _ _ x8 hb)
          replace x25 : Fk.f (.eq (.int .i64 (((S).length : Nat) : Int))) (f12.eval (.tmp 25)) w12 := f_at (A.old 25 rfl) (Fk.mono _ _ _ _ x25 hb)
          replace x73 : Fk.f (.eq (.int .i64 (((S).length : Nat) : Int))) (f12.eval (.tmp 73)) w12 := f_at (A.old 73 rfl) (Fk.mono _ _ _ _ x73 hb)
          replace x74 : Fk.f (.eq (.int .i64 ((k : Nat) : Int))) (f12.eval (.tmp 74)) w12 := f_at (A.old 74 rfl) (Fk.mono _ _ _ _ x74 hb)
          replace x16 : Fk.f (.eq (.int .i64 ((k : Nat) : Int))) (f12.eval (.tmp 16)) w12 := f_at (A.old 16 rfl) (Fk.mono _ _ _ _ x16 hb)
          have x85 : Fk.f (.eq (.bool true)) (f12.eval (.tmp 85)) w12 := A.has 8 85 rfl
          replace tb := tb.below hb
          replace sz := A.size.trans sz
          replace df := A.defs.trans df
          replace a2 := (A.old 2 rfl).trans a2
          replace a7 := (A.old 7 rfl).trans a7
          replace a8 := (A.old 8 rfl).trans a8
          replace a25 := (A.old 25 rfl).trans a25
          replace a73 := (A.old 73 rfl).trans a73
          replace hL := hL.trans (Below.mono hb hL.size)
          clear A hb
          show Code.wp _ _ _ _ _
          refine wp_cond_true x85 ?_
          refine wp_exit ?_
          clear x85
          clear x16
          show Code.wp _ _ _ _ _
          refine wp_region_seq [.eq (.int .i64 ((k + 1 : Nat) : Int))] (by kernel_rfl) (by kernel_rfl) (by rw [sz]; kernel_rfl) (by kernel_rfl) ⟨fun hw ac w' K => ?_, trivial⟩ ?_
          · exact st_add1 (.tmp 74) rfl k (by omega) ((K.old 74 rfl).trans x74)
          intro f13 w13 A hb
          replace x2 : Fk.f (.hs (S)) (f13.eval (.tmp 2)) w13 := f_at (A.old 2 rfl) (Fk.mono _ _ _ _ x2 hb)
          replace x7 : Fk.f (.ds (dig (xh))) (f13.eval (.tmp 7)) w13 := f_at (A.old 7 rfl) (Fk.mono _ _ _ _ x7 hb)
          replace x8 : Fk.f (.ds (dig (xo))) (f13.eval (.tmp 8)) w13 := f_at (A.old 8 rfl) (Fk.mono _ _ _ _ x8 hb)
          replace x25 : Fk.f (.eq (.int .i64 (((S).length : Nat) : Int))) (f13.eval (.tmp 25)) w13 := f_at (A.old 25 rfl) (Fk.mono _ _ _ _ x25 hb)
          replace x73 : Fk.f (.eq (.int .i64 (((S).length : Nat) : Int))) (f13.eval (.tmp 73)) w13 := f_at (A.old 73 rfl) (Fk.mono _ _ _ _ x73 hb)
          replace x74 : Fk.f (.eq (.int .i64 ((k : Nat) : Int))) (f13.eval (.tmp 74)) w13 := f_at (A.old 74 rfl) (Fk.mono _ _ _ _ x74 hb)
          have x133 : Fk.f (.eq (.int .i64 ((k + 1 : Nat) : Int))) (f13.eval (.tmp 133)) w13 := A.has 0 133 rfl
          replace tb := tb.below hb
          replace sz := A.size.trans sz
          replace df := A.defs.trans df
          replace a2 := (A.old 2 rfl).trans a2
          replace a7 := (A.old 7 rfl).trans a7
          replace a8 := (A.old 8 rfl).trans a8
          replace a25 := (A.old 25 rfl).trans a25
          replace a73 := (A.old 73 rfl).trans a73
          replace hL := hL.trans (Below.mono hb hL.size)
          clear A hb
          refine wl_move rfl (.tmp 133) rfl 74 rfl (by rw [sz]; decide) ?_
          intro f14 df2 sz2 old2 new2
          have nx74 : Fk.f (.eq (.int .i64 ((k + 1 : Nat) : Int))) (f14.eval (.tmp 74)) w13 := f_at new2 x133
          replace x2 : Fk.f (.hs (S)) (f14.eval (.tmp 2)) w13 := f_at (old2 2 rfl) x2
          replace x7 : Fk.f (.ds (dig (xh))) (f14.eval (.tmp 7)) w13 := f_at (old2 7 rfl) x7
          replace x8 : Fk.f (.ds (dig (xo))) (f14.eval (.tmp 8)) w13 := f_at (old2 8 rfl) x8
          replace x25 : Fk.f (.eq (.int .i64 (((S).length : Nat) : Int))) (f14.eval (.tmp 25)) w13 := f_at (old2 25 rfl) x25
          replace x73 : Fk.f (.eq (.int .i64 (((S).length : Nat) : Int))) (f14.eval (.tmp 73)) w13 := f_at (old2 73 rfl) x73
          replace x133 : Fk.f (.eq (.int .i64 ((k + 1 : Nat) : Int))) (f14.eval (.tmp 133)) w13 := f_at (old2 133 rfl) x133
          have x74 := nx74
          replace sz := sz2.trans sz
          replace df := df2.trans df
          replace a2 := (old2 2 rfl).trans a2
          replace a7 := (old2 7 rfl).trans a7
          replace a8 := (old2 8 rfl).trans a8
          replace a25 := (old2 25 rfl).trans a25
          replace a73 := (old2 73 rfl).trans a73
          clear df2 sz2 old2 new2 nx74
          clear x133
          refine wpList_nil ?_
          show (∃ _, _) ∧ _
          refine ⟨⟨k + 1, by omega, sz, df, a2, a7, a8, a25, a73, x74, hL⟩, ?_⟩
          rw [show f14.eval (.tmp 74) = _ from x74, show _ = _ from c74]
          simp [intOf]
          omega
        · refine wp_all [.ds (dig (xh)), .eq (.int .i64 ((k : Nat) : Int)), .pi ((d : Nat) : Int), .eq (.int .i64 ((d : Nat) : Int)), .ds (dig (xo)), .eq (.int .i64 ((k : Nat) : Int)), .pi ((e : Nat) : Int), .eq (.int .i64 ((e : Nat) : Int)), .eq (.bool false)] Tryd.mixed (by kernel_rfl) (by kernel_rfl) (by rw [sz]; kernel_rfl) (by kernel_rfl) ⟨fun hw ac w' K => ?_, fun hw ac w' K => ?_, fun hw ac w' K => ?_, fun hw ac w' K => ?_, fun hw ac w' K => ?_, fun hw ac w' K => ?_, fun hw ac w' K => ?_, fun hw ac w' K => ?_, fun hw ac w' K => ?_, trivial⟩ ?_
          · exact st_move (.tmp 7) rfl (f_at (K.old 7 rfl) (Fk.mono _ _ _ _ x7 K.grow))
          · exact st_move (.tmp 16) rfl ((K.old 16 rfl).trans x16)
          · exact st_idxi (.tmp 77) (.tmp 78) rfl (K.dep 0 77 rfl) (k) (d) (K.dep 1 78 rfl) ed
          · exact st_loadi (.tmp 79) rfl (K.dep 2 79 rfl)
          · exact st_move (.tmp 8) rfl (f_at (K.old 8 rfl) (Fk.mono _ _ _ _ x8 K.grow))
          · exact st_move (.tmp 16) rfl ((K.old 16 rfl).trans x16)
          · exact st_idxi (.tmp 81) (.tmp 82) rfl (K.dep 4 81 rfl) (k) (e) (K.dep 5 82 rfl) ee
          · exact st_loadi (.tmp 83) rfl (K.dep 6 83 rfl)
          · exact st_eqi 3 (.tmp 80) (.tmp 84) rfl .i64 (((d : Nat) : Int)) (((e : Nat) : Int)) (K.dep 3 80 rfl) (K.dep 7 84 rfl) _ (by simp; omega)
          intro f12 w12 A hb
          replace x2 : Fk.f (.hs (S)) (f12.eval (.tmp 2)) w12 := f_at (A.old 2 rfl) (Fk.mono _ _ _ _ x2 hb)
          replace x7 : Fk.f (.ds (dig (xh))) (f12.eval (.tmp 7)) w12 := f_at (A.old 7 rfl) (Fk.mono _ _ _ _ x7 hb)
          replace x8 : Fk.f (.ds (dig (xo))) (f12.eval (.tmp 8)) w12 := f_at (A.old 8 rfl) (Fk.mono _ _ _ _ x8 hb)
          replace x25 : Fk.f (.eq (.int .i64 (((S).length : Nat) : Int))) (f12.eval (.tmp 25)) w12 := f_at (A.old 25 rfl) (Fk.mono _ _ _ _ x25 hb)
          replace x73 : Fk.f (.eq (.int .i64 (((S).length : Nat) : Int))) (f12.eval (.tmp 73)) w12 := f_at (A.old 73 rfl) (Fk.mono _ _ _ _ x73 hb)
          replace x74 : Fk.f (.eq (.int .i64 ((k : Nat) : Int))) (f12.eval (.tmp 74)) w12 := f_at (A.old 74 rfl) (Fk.mono _ _ _ _ x74 hb)
          replace x16 : Fk.f (.eq (.int .i64 ((k : Nat) : Int))) (f12.eval (.tmp 16)) w12 := f_at (A.old 16 rfl) (Fk.mono _ _ _ _ x16 hb)
          have x85 : Fk.f (.eq (.bool false)) (f12.eval (.tmp 85)) w12 := A.has 8 85 rfl
          replace tb := tb.below hb
          replace sz := A.size.trans sz
          replace df := A.defs.trans df
          replace a2 := (A.old 2 rfl).trans a2
          replace a7 := (A.old 7 rfl).trans a7
          replace a8 := (A.old 8 rfl).trans a8
          replace a25 := (A.old 25 rfl).trans a25
          replace a73 := (A.old 73 rfl).trans a73
          replace hL := hL.trans (Below.mono hb hL.size)
          clear A hb
          show Code.wp _ _ _ _ _
          refine wp_cond_false x85 ?_
          refine wp_skip ?_
          show Code.wp _ _ _ _ _
          clear x85
          refine wp_seq ?_
          refine wp_all_seq [.eq (.int .i64 14)] (by kernel_rfl) (by kernel_rfl) (by rw [sz]; kernel_rfl) (by kernel_rfl) ⟨fun hw ac w' K => ?_, trivial⟩ ?_
          · exact st_assign (.const (.int .i64 14)) rfl rfl
          intro f13 w13 A hb
          replace x2 : Fk.f (.hs (S)) (f13.eval (.tmp 2)) w13 := f_at (A.old 2 rfl) (Fk.mono _ _ _ _ x2 hb)
          replace x7 : Fk.f (.ds (dig (xh))) (f13.eval (.tmp 7)) w13 := f_at (A.old 7 rfl) (Fk.mono _ _ _ _ x7 hb)
          replace x8 : Fk.f (.ds (dig (xo))) (f13.eval (.tmp 8)) w13 := f_at (A.old 8 rfl) (Fk.mono _ _ _ _ x8 hb)
          replace x25 : Fk.f (.eq (.int .i64 (((S).length : Nat) : Int))) (f13.eval (.tmp 25)) w13 := f_at (A.old 25 rfl) (Fk.mono _ _ _ _ x25 hb)
          replace x73 : Fk.f (.eq (.int .i64 (((S).length : Nat) : Int))) (f13.eval (.tmp 73)) w13 := f_at (A.old 73 rfl) (Fk.mono _ _ _ _ x73 hb)
          replace x74 : Fk.f (.eq (.int .i64 ((k : Nat) : Int))) (f13.eval (.tmp 74)) w13 := f_at (A.old 74 rfl) (Fk.mono _ _ _ _ x74 hb)
          replace x16 : Fk.f (.eq (.int .i64 ((k : Nat) : Int))) (f13.eval (.tmp 16)) w13 := f_at (A.old 16 rfl) (Fk.mono _ _ _ _ x16 hb)
          have x17 : Fk.f (.eq (.int .i64 14)) (f13.eval (.tmp 17)) w13 := A.has 0 17 rfl
          replace tb := tb.below hb
          replace sz := A.size.trans sz
          replace df := A.defs.trans df
          replace a2 := (A.old 2 rfl).trans a2
          replace a7 := (A.old 7 rfl).trans a7
          replace a8 := (A.old 8 rfl).trans a8
          replace a25 := (A.old 25 rfl).trans a25
          replace a73 := (A.old 73 rfl).trans a73
          replace hL := hL.trans (Below.mono hb hL.size)
          clear A hb
          show Code.wp _ _ _ _ _
          have oa2 := a2
          have oa7 := a7
          have oa8 := a8
          have oa25 := a25
          have oa73 := a73
          have ohL := hL
          clear hL a2 a7 a8 a25 a73
          refine wp_block ?_
          have xLr2 := x2
          have xLr7 := x7
          have xLr8 := x8
          have xLr25 := x25
          have xLr73 := x73
          have xLr74 := x74
          have xLr16 := x16
          have tbLr := tb
          refine wp_loop (fun f v1 => ∃ s : Nat, s ≤ 14 ∧ max d e ≤ s + 1 ∧ Box (wk ((k : Nat) : Int) d z (s + 1 - d) = wk ((k : Nat) : Int) e z (s + 1 - e)) ∧ f.tmps.size = 134 ∧ f.defers = [] ∧ f.eval (.tmp 2) = f13.eval (.tmp 2) ∧ f.eval (.tmp 7) = f13.eval (.tmp 7) ∧ f.eval (.tmp 8) = f13.eval (.tmp 8) ∧ f.eval (.tmp 25) = f13.eval (.tmp 25) ∧ f.eval (.tmp 73) = f13.eval (.tmp 73) ∧ f.eval (.tmp 74) = f13.eval (.tmp 74) ∧ f.eval (.tmp 16) = f13.eval (.tmp 16) ∧ Fk.f (.eq (.int .i64 ((s : Nat) : Int))) (f.eval (.tmp 17)) v1 ∧ Below w13.heap.size w13 v1) (fun f _ => (intOf (f.eval (.tmp 17))).toNat) ⟨14, by omega, by omega, hend, sz, df, rfl, rfl, rfl, rfl, rfl, rfl, rfl, x17, Below.refl _ _⟩ ?_
          intro f14 w14 hI
          clear sz df tb x17 x2 x7 x8 x25 x73 x74 x16
          obtain ⟨s, hs14, hsM, hsE, sz, df, a2, a7, a8, a25, a73, a74, a16, x17, hL⟩ := hI
          have x2 : Fk.f (.hs (S)) (f14.eval (.tmp 2)) w14 := f_at a2 (Fk.mono _ _ _ _ xLr2 hL)
          have x7 : Fk.f (.ds (dig (xh))) (f14.eval (.tmp 7)) w14 := f_at a7 (Fk.mono _ _ _ _ xLr7 hL)
          have x8 : Fk.f (.ds (dig (xo))) (f14.eval (.tmp 8)) w14 := f_at a8 (Fk.mono _ _ _ _ xLr8 hL)
          have x25 : Fk.f (.eq (.int .i64 (((S).length : Nat) : Int))) (f14.eval (.tmp 25)) w14 := f_at a25 (Fk.mono _ _ _ _ xLr25 hL)
          have x73 : Fk.f (.eq (.int .i64 (((S).length : Nat) : Int))) (f14.eval (.tmp 73)) w14 := f_at a73 (Fk.mono _ _ _ _ xLr73 hL)
          have x74 : Fk.f (.eq (.int .i64 ((k : Nat) : Int))) (f14.eval (.tmp 74)) w14 := f_at a74 (Fk.mono _ _ _ _ xLr74 hL)
          have x16 : Fk.f (.eq (.int .i64 ((k : Nat) : Int))) (f14.eval (.tmp 16)) w14 := f_at a16 (Fk.mono _ _ _ _ xLr16 hL)
          have tb := tbLr.below hL
          have c17 := x17
          refine wp_seq ?_
          refine wp_seq ?_
          by_cases hge : max d e ≤ s
          · obtain ⟨u, eu⟩ : ∃ u, Box (wk ((k : Nat) : Int) d z (s - d) = u) := ⟨_, ⟨rfl⟩⟩
            obtain ⟨v, ev⟩ : ∃ v, Box (wk ((k : Nat) : Int) e z (s - e) = v) := ⟨_, ⟨rfl⟩⟩
            have hul : u.length = 32 := by rw [← eu.out]; exact wk_len _ _ _ _ hzl
            have hvl : v.length = 32 := by rw [← ev.out]; exact wk_len _ _ _ _ hzl
            obtain ⟨c, ec⟩ : ∃ c, Box (chn ((k : Nat) : Int) ((s : Nat) : Int) u = c) := ⟨_, ⟨rfl⟩⟩
            have hcl : c.length = 32 := by rw [← ec.out]; exact chn_len _ _ _
            have ec2 : Box (chn ((k : Nat) : Int) ((s : Nat) : Int) v = c) := ⟨by
              have h1 := hsE.out
              rw [show s + 1 - d = (s - d) + 1 by omega, show s + 1 - e = (s - e) + 1 by omega, wk, wk, eu.out, ev.out, show d + (s - d) = s by omega, show e + (s - e) = s by omega, ec.out] at h1
              exact h1.symm⟩
            refine wp_all [.eq (.int .i64 ((s : Nat) : Int)), .ds (dig (xh)), .eq (.int .i64 ((k : Nat) : Int)), .pi ((d : Nat) : Int), .eq (.int .i64 ((d : Nat) : Int)), .ds (dig (xo)), .eq (.int .i64 ((k : Nat) : Int)), .pi ((e : Nat) : Int), .eq (.int .i64 ((e : Nat) : Int)), .eq (.int .i64 ((max d e : Nat) : Int)), .eq (.bool true)] Tryd.mixed (by kernel_rfl) (by kernel_rfl) (by rw [sz]; kernel_rfl) (by kernel_rfl) ⟨fun hw ac w' K => ?_, fun hw ac w' K => ?_, fun hw ac w' K => ?_, fun hw ac w' K => ?_, fun hw ac w' K => ?_, fun hw ac w' K => ?_, fun hw ac w' K => ?_, fun hw ac w' K => ?_, fun hw ac w' K => ?_, fun hw ac w' K => ?_, fun hw ac w' K => ?_, trivial⟩ ?_
            · exact st_move (.tmp 17) rfl ((K.old 17 rfl).trans x17)
            · exact st_move (.tmp 7) rfl (f_at (K.old 7 rfl) (Fk.mono _ _ _ _ x7 K.grow))
            · exact st_move (.tmp 16) rfl ((K.old 16 rfl).trans x16)
            · exact st_idxi (.tmp 87) (.tmp 88) rfl (K.dep 1 87 rfl) (k) (d) (K.dep 2 88 rfl) ed
            · exact st_loadi (.tmp 89) rfl (K.dep 3 89 rfl)
            · exact st_move (.tmp 8) rfl (f_at (K.old 8 rfl) (Fk.mono _ _ _ _ x8 K.grow))
            · exact st_move (.tmp 16) rfl ((K.old 16 rfl).trans x16)
            · exact st_idxi (.tmp 91) (.tmp 92) rfl (K.dep 5 91 rfl) (k) (e) (K.dep 6 92 rfl) ee
            · exact st_loadi (.tmp 93) rfl (K.dep 7 93 rfl)
            · exact st_max (.tmp 90) (.tmp 94) rfl d e (K.dep 4 90 rfl) (K.dep 8 94 rfl)
            · exact st_geq 3 (.tmp 86) (.tmp 95) rfl .i64 _ _ (K.dep 0 86 rfl) (K.dep 9 95 rfl) _ (by simp; omega)
            intro f15 w15 A hb
            replace x2 : Fk.f (.hs (S)) (f15.eval (.tmp 2)) w15 := f_at (A.old 2 rfl) (Fk.mono _ _ _ _ x2 hb)
            replace x7 : Fk.f (.ds (dig (xh))) (f15.eval (.tmp 7)) w15 := f_at (A.old 7 rfl) (Fk.mono _ _ _ _ x7 hb)
            replace x8 : Fk.f (.ds (dig (xo))) (f15.eval (.tmp 8)) w15 := f_at (A.old 8 rfl) (Fk.mono _ _ _ _ x8 hb)
            replace x25 : Fk.f (.eq (.int .i64 (((S).length : Nat) : Int))) (f15.eval (.tmp 25)) w15 := f_at (A.old 25 rfl) (Fk.mono _ _ _ _ x25 hb)
            replace x73 : Fk.f (.eq (.int .i64 (((S).length : Nat) : Int))) (f15.eval (.tmp 73)) w15 := f_at (A.old 73 rfl) (Fk.mono _ _ _ _ x73 hb)
            replace x74 : Fk.f (.eq (.int .i64 ((k : Nat) : Int))) (f15.eval (.tmp 74)) w15 := f_at (A.old 74 rfl) (Fk.mono _ _ _ _ x74 hb)
            replace x16 : Fk.f (.eq (.int .i64 ((k : Nat) : Int))) (f15.eval (.tmp 16)) w15 := f_at (A.old 16 rfl) (Fk.mono _ _ _ _ x16 hb)
            replace x17 : Fk.f (.eq (.int .i64 ((s : Nat) : Int))) (f15.eval (.tmp 17)) w15 := f_at (A.old 17 rfl) (Fk.mono _ _ _ _ x17 hb)
            have x96 : Fk.f (.eq (.bool true)) (f15.eval (.tmp 96)) w15 := A.has 10 96 rfl
            replace tb := tb.below hb
            replace sz := A.size.trans sz
            replace df := A.defs.trans df
            replace a2 := (A.old 2 rfl).trans a2
            replace a7 := (A.old 7 rfl).trans a7
            replace a8 := (A.old 8 rfl).trans a8
            replace a25 := (A.old 25 rfl).trans a25
            replace a73 := (A.old 73 rfl).trans a73
            replace a74 := (A.old 74 rfl).trans a74
            replace a16 := (A.old 16 rfl).trans a16
            replace hL := hL.trans (Below.mono hb hL.size)
            clear A hb
            show Code.wp _ _ _ _ _
            refine wp_cond_true x96 ?_
            refine wp_skip ?_
            show Code.wp _ _ _ _ _
            clear x96
            refine wp_seq ?_
            refine wp_block ?_
            refine wp_seq ?_
            refine wp_region_two [.hs (S), .eq (.int .i64 ((k : Nat) : Int)), .ph (z), .eq (.agg ((z).map V).toArray), .eq (.int .i64 ((k : Nat) : Int)), .ds (dig (xh)), .eq (.int .i64 ((k : Nat) : Int)), .pi ((d : Nat) : Int), .eq (.int .i64 ((d : Nat) : Int)), .eq (.int .i64 ((s : Nat) : Int)), .eq (.agg ((u).map V).toArray), .hs (S), .eq (.int .i64 ((k : Nat) : Int)), .ph (z), .eq (.agg ((z).map V).toArray), .eq (.int .i64 ((k : Nat) : Int)), .ds (dig (xo)), .eq (.int .i64 ((k : Nat) : Int)), .pi ((e : Nat) : Int), .eq (.int .i64 ((e : Nat) : Int)), .eq (.int .i64 ((s : Nat) : Int)), .eq (.agg ((v).map V).toArray), .pn w15.heap.size hz, .pn w15.heap.size hz] [24, 25] 22 23 18 19 (by kernel_rfl) (by kernel_rfl) rfl rfl rfl rfl rfl (by kernel_rfl) (by kernel_rfl) (by kernel_rfl) (by kernel_rfl) (by rw [sz]; kernel_rfl) (by kernel_rfl) ⟨fun hw ac w' K => ?_, fun hw ac w' K => ?_, fun hw ac w' K => ?_, fun hw ac w' K => ?_, fun hw ac w' K => ?_, fun hw ac w' K => ?_, fun hw ac w' K => ?_, fun hw ac w' K => ?_, fun hw ac w' K => ?_, fun hw ac w' K => ?_, fun hw ac w' K => ?_, fun hw ac w' K => ?_, fun hw ac w' K => ?_, fun hw ac w' K => ?_, fun hw ac w' K => ?_, fun hw ac w' K => ?_, fun hw ac w' K => ?_, fun hw ac w' K => ?_, fun hw ac w' K => ?_, fun hw ac w' K => ?_, fun hw ac w' K => ?_, fun hw ac w' K => ?_, fun hw ac w' K => ?_, fun hw ac w' K => ?_, trivial⟩ ?_
            · exact st_move (.tmp 2) rfl (f_at (K.old 2 rfl) (Fk.mono _ _ _ _ x2 K.grow))
            · exact st_move (.tmp 16) rfl ((K.old 16 rfl).trans x16)
            · exact st_idxh (.tmp 99) (.tmp 100) rfl (K.dep 0 99 rfl) (k) (z) (K.dep 1 100 rfl) ez
            · exact st_loadh (.tmp 101) rfl (K.dep 2 101 rfl)
            · exact st_move (.tmp 16) rfl ((K.old 16 rfl).trans x16)
            · exact st_move (.tmp 7) rfl (f_at (K.old 7 rfl) (Fk.mono _ _ _ _ x7 K.grow))
            · exact st_move (.tmp 16) rfl ((K.old 16 rfl).trans x16)
            · exact st_idxi (.tmp 104) (.tmp 105) rfl (K.dep 5 104 rfl) (k) (d) (K.dep 6 105 rfl) ed
            · exact st_loadi (.tmp 106) rfl (K.dep 7 106 rfl)
            · exact st_move (.tmp 17) rfl ((K.old 17 rfl).trans x17)
            · exact st_call 13 (.func 13) _ _ #[.agg ((z).map V).toArray, .int .i64 ((k : Nat) : Int), .int .i64 ((d : Nat) : Int), .int .i64 ((s : Nat) : Int)] rfl rfl (arg4 (K.dep 3 102 rfl) (K.dep 4 103 rfl) (K.dep 8 107 rfl) (K.dep 9 108 rfl)) Tryd.enter13 (fk_of (walked_to (z) (((k : Nat) : Int)) (d) (s) _ hzl (by omega) (tb.below K.grow) eu))
            · exact st_move (.tmp 2) rfl (f_at (K.old 2 rfl) (Fk.mono _ _ _ _ x2 K.grow))
            · exact st_move (.tmp 16) rfl ((K.old 16 rfl).trans x16)
            · exact st_idxh (.tmp 110) (.tmp 111) rfl (K.dep 11 110 rfl) (k) (z) (K.dep 12 111 rfl) ez
            · exact st_loadh (.tmp 112) rfl (K.dep 13 112 rfl)
            · exact st_move (.tmp 16) rfl ((K.old 16 rfl).trans x16)
            · exact st_move (.tmp 8) rfl (f_at (K.old 8 rfl) (Fk.mono _ _ _ _ x8 K.grow))
            · exact st_move (.tmp 16) rfl ((K.old 16 rfl).trans x16)
            · exact st_idxi (.tmp 115) (.tmp 116) rfl (K.dep 16 115 rfl) (k) (e) (K.dep 17 116 rfl) ee
            · exact st_loadi (.tmp 117) rfl (K.dep 18 117 rfl)
            · exact st_move (.tmp 17) rfl ((K.old 17 rfl).trans x17)
            · exact st_call 13 (.func 13) _ _ #[.agg ((z).map V).toArray, .int .i64 ((k : Nat) : Int), .int .i64 ((e : Nat) : Int), .int .i64 ((s : Nat) : Int)] rfl rfl (arg4 (K.dep 14 113 rfl) (K.dep 15 114 rfl) (K.dep 19 118 rfl) (K.dep 20 119 rfl)) Tryd.enter13 (fk_of (walked_to (z) (((k : Nat) : Int)) (e) (s) _ hzl (by omega) (tb.below K.grow) ev))
            · exact st_alloc23 rfl _ K.grow.size
            · exact st_alloc23 rfl _ K.grow.size
            intro f16 w16 A hne hb
            obtain ⟨g18, hg18, e18, m18⟩ := A.has 22 18 rfl
            obtain ⟨g19, hg19, e19, m19⟩ := A.has 23 19 rfl
            have hgne : g18 ≠ g19 := fun h => hne (by rw [e18, e19, h])
            refine wl_store rfl (.tmp 18) (.tmp 109) rfl rfl g18 (u) hz e18 (A.has 10 109 rfl) m18 hz_len hul ?_
            refine wl_store rfl (.tmp 19) (.tmp 120) rfl rfl g19 (v) hz e19 (A.has 21 120 rfl) (HasV.setRow_other m19 hgne.symm) hz_len hvl ?_
            replace hb : Below w15.heap.size w15 ((w16.setRow g18 ((u).map V).toArray).setRow g19 ((v).map V).toArray) := (Below.trans hb (below_setRow _ _ _ _ hg18)).trans (below_setRow _ _ _ _ hg19)
            replace m18 : HasV ((w16.setRow g18 ((u).map V).toArray).setRow g19 ((v).map V).toArray) g18 23 (u) := HasV.setRow_other (HasV.setRow m18) hgne
            replace m19 : HasV ((w16.setRow g18 ((u).map V).toArray).setRow g19 ((v).map V).toArray) g19 23 (v) := HasV.setRow (HasV.setRow_other m19 hgne.symm)
            generalize (w16.setRow g18 ((u).map V).toArray).setRow g19 ((v).map V).toArray = w16b at hb m18 m19 ⊢
            replace x2 : Fk.f (.hs (S)) (f16.eval (.tmp 2)) w16b := f_at (A.old 2 rfl) (Fk.mono _ _ _ _ x2 hb)
            replace x7 : Fk.f (.ds (dig (xh))) (f16.eval (.tmp 7)) w16b := f_at (A.old 7 rfl) (Fk.mono _ _ _ _ x7 hb)
            replace x8 : Fk.f (.ds (dig (xo))) (f16.eval (.tmp 8)) w16b := f_at (A.old 8 rfl) (Fk.mono _ _ _ _ x8 hb)
            replace x25 : Fk.f (.eq (.int .i64 (((S).length : Nat) : Int))) (f16.eval (.tmp 25)) w16b := f_at (A.old 25 rfl) (Fk.mono _ _ _ _ x25 hb)
            replace x73 : Fk.f (.eq (.int .i64 (((S).length : Nat) : Int))) (f16.eval (.tmp 73)) w16b := f_at (A.old 73 rfl) (Fk.mono _ _ _ _ x73 hb)
            replace x74 : Fk.f (.eq (.int .i64 ((k : Nat) : Int))) (f16.eval (.tmp 74)) w16b := f_at (A.old 74 rfl) (Fk.mono _ _ _ _ x74 hb)
            replace x16 : Fk.f (.eq (.int .i64 ((k : Nat) : Int))) (f16.eval (.tmp 16)) w16b := f_at (A.old 16 rfl) (Fk.mono _ _ _ _ x16 hb)
            replace x17 : Fk.f (.eq (.int .i64 ((s : Nat) : Int))) (f16.eval (.tmp 17)) w16b := f_at (A.old 17 rfl) (Fk.mono _ _ _ _ x17 hb)
            have x18 : Fk.f (.eq (.pointer (some ⟨g18, 0, none⟩))) (f16.eval (.tmp 18)) w16b := e18
            have x19 : Fk.f (.eq (.pointer (some ⟨g19, 0, none⟩))) (f16.eval (.tmp 19)) w16b := e19
            replace tb := tb.below hb
            replace sz := A.size.trans sz
            replace df := A.defs.trans df
            replace a2 := (A.old 2 rfl).trans a2
            replace a7 := (A.old 7 rfl).trans a7
            replace a8 := (A.old 8 rfl).trans a8
            replace a25 := (A.old 25 rfl).trans a25
            replace a73 := (A.old 73 rfl).trans a73
            replace a74 := (A.old 74 rfl).trans a74
            replace a16 := (A.old 16 rfl).trans a16
            replace hL := hL.trans (Below.mono hb hL.size)
            clear A hb hne hgne e18 e19 hg18 hg19
            refine wpList_nil ?_
            show Code.wp _ _ _ _ _
            refine wp_seq ?_
            by_cases huv : u = v
            · refine wp_all_seq [.eq (.agg ((u).map V).toArray), .eq (.agg ((v).map V).toArray), .eq (.bool false)] (by kernel_rfl) (by kernel_rfl) (by rw [sz]; kernel_rfl) (by kernel_rfl) ⟨fun hw ac w' K => ?_, fun hw ac w' K => ?_, fun hw ac w' K => ?_, trivial⟩ ?_
              · exact st_load23 (.tmp 18) rfl _ (u) ((K.old 18 rfl).trans x18) hul (HasV.below m18 K.grow (HasV.lt m18))
              · exact st_load23 (.tmp 19) rfl _ (v) ((K.old 19 rfl).trans x19) hvl (HasV.below m19 K.grow (HasV.lt m19))
              · exact st_neqh (.tmp 121) (.tmp 122) rfl (u) (v) hul hvl (K.dep 0 121 rfl) (K.dep 1 122 rfl) _ (by simp [huv])
              intro f17 w17 A hb
              replace x2 : Fk.f (.hs (S)) (f17.eval (.tmp 2)) w17 := f_at (A.old 2 rfl) (Fk.mono _ _ _ _ x2 hb)
              replace x7 : Fk.f (.ds (dig (xh))) (f17.eval (.tmp 7)) w17 := f_at (A.old 7 rfl) (Fk.mono _ _ _ _ x7 hb)
              replace x8 : Fk.f (.ds (dig (xo))) (f17.eval (.tmp 8)) w17 := f_at (A.old 8 rfl) (Fk.mono _ _ _ _ x8 hb)
              replace x25 : Fk.f (.eq (.int .i64 (((S).length : Nat) : Int))) (f17.eval (.tmp 25)) w17 := f_at (A.old 25 rfl) (Fk.mono _ _ _ _ x25 hb)
              replace x73 : Fk.f (.eq (.int .i64 (((S).length : Nat) : Int))) (f17.eval (.tmp 73)) w17 := f_at (A.old 73 rfl) (Fk.mono _ _ _ _ x73 hb)
              replace x74 : Fk.f (.eq (.int .i64 ((k : Nat) : Int))) (f17.eval (.tmp 74)) w17 := f_at (A.old 74 rfl) (Fk.mono _ _ _ _ x74 hb)
              replace x16 : Fk.f (.eq (.int .i64 ((k : Nat) : Int))) (f17.eval (.tmp 16)) w17 := f_at (A.old 16 rfl) (Fk.mono _ _ _ _ x16 hb)
              replace x17 : Fk.f (.eq (.int .i64 ((s : Nat) : Int))) (f17.eval (.tmp 17)) w17 := f_at (A.old 17 rfl) (Fk.mono _ _ _ _ x17 hb)
              replace x18 : Fk.f (.eq (.pointer (some ⟨g18, 0, none⟩))) (f17.eval (.tmp 18)) w17 := f_at (A.old 18 rfl) (Fk.mono _ _ _ _ x18 hb)
              replace x19 : Fk.f (.eq (.pointer (some ⟨g19, 0, none⟩))) (f17.eval (.tmp 19)) w17 := f_at (A.old 19 rfl) (Fk.mono _ _ _ _ x19 hb)
              have x123 : Fk.f (.eq (.bool false)) (f17.eval (.tmp 123)) w17 := A.has 2 123 rfl
              replace m18 := HasV.below m18 hb (HasV.lt m18)
              replace m19 := HasV.below m19 hb (HasV.lt m19)
              replace tb := tb.below hb
              replace sz := A.size.trans sz
              replace df := A.defs.trans df
              replace a2 := (A.old 2 rfl).trans a2
              replace a7 := (A.old 7 rfl).trans a7
              replace a8 := (A.old 8 rfl).trans a8
              replace a25 := (A.old 25 rfl).trans a25
              replace a73 := (A.old 73 rfl).trans a73
              replace a74 := (A.old 74 rfl).trans a74
              replace a16 := (A.old 16 rfl).trans a16
              replace hL := hL.trans (Below.mono hb hL.size)
              clear A hb
              show Code.wp _ _ _ _ _
              refine wp_cond_false x123 ?_
              refine wp_skip ?_
              show Code.wp _ _ _ _ _
              clear x123
              clear x18
              clear x19
              clear m18 m19
              refine wp_region_seq [.eq (.int .i64 ((s : Nat) : Int)), .eq (.int .i64 ((s - 1 : Nat) : Int))] (by kernel_rfl) (by kernel_rfl) (by rw [sz]; kernel_rfl) (by kernel_rfl) ⟨fun hw ac w' K => ?_, fun hw ac w' K => ?_, trivial⟩ ?_
              · exact st_move (.tmp 17) rfl ((K.old 17 rfl).trans x17)
              · exact st_sub1 (.tmp 97) rfl s (by omega) (by omega) (K.dep 0 97 rfl)
              intro f18 w18 A hb
              replace x2 : Fk.f (.hs (S)) (f18.eval (.tmp 2)) w18 := f_at (A.old 2 rfl) (Fk.mono _ _ _ _ x2 hb)
              replace x7 : Fk.f (.ds (dig (xh))) (f18.eval (.tmp 7)) w18 := f_at (A.old 7 rfl) (Fk.mono _ _ _ _ x7 hb)
              replace x8 : Fk.f (.ds (dig (xo))) (f18.eval (.tmp 8)) w18 := f_at (A.old 8 rfl) (Fk.mono _ _ _ _ x8 hb)
              replace x25 : Fk.f (.eq (.int .i64 (((S).length : Nat) : Int))) (f18.eval (.tmp 25)) w18 := f_at (A.old 25 rfl) (Fk.mono _ _ _ _ x25 hb)
              replace x73 : Fk.f (.eq (.int .i64 (((S).length : Nat) : Int))) (f18.eval (.tmp 73)) w18 := f_at (A.old 73 rfl) (Fk.mono _ _ _ _ x73 hb)
              replace x74 : Fk.f (.eq (.int .i64 ((k : Nat) : Int))) (f18.eval (.tmp 74)) w18 := f_at (A.old 74 rfl) (Fk.mono _ _ _ _ x74 hb)
              replace x16 : Fk.f (.eq (.int .i64 ((k : Nat) : Int))) (f18.eval (.tmp 16)) w18 := f_at (A.old 16 rfl) (Fk.mono _ _ _ _ x16 hb)
              replace x17 : Fk.f (.eq (.int .i64 ((s : Nat) : Int))) (f18.eval (.tmp 17)) w18 := f_at (A.old 17 rfl) (Fk.mono _ _ _ _ x17 hb)
              have x98 : Fk.f (.eq (.int .i64 ((s - 1 : Nat) : Int))) (f18.eval (.tmp 98)) w18 := A.has 1 98 rfl
              replace tb := tb.below hb
              replace sz := A.size.trans sz
              replace df := A.defs.trans df
              replace a2 := (A.old 2 rfl).trans a2
              replace a7 := (A.old 7 rfl).trans a7
              replace a8 := (A.old 8 rfl).trans a8
              replace a25 := (A.old 25 rfl).trans a25
              replace a73 := (A.old 73 rfl).trans a73
              replace a74 := (A.old 74 rfl).trans a74
              replace a16 := (A.old 16 rfl).trans a16
              replace hL := hL.trans (Below.mono hb hL.size)
              clear A hb
              refine wl_assign rfl (.tmp 98) rfl 17 rfl (by rw [sz]; decide) ?_
              intro f19 df2 sz2 old2 new2
              have nx17 : Fk.f (.eq (.int .i64 ((s - 1 : Nat) : Int))) (f19.eval (.tmp 17)) w18 := f_at new2 x98
              replace x2 : Fk.f (.hs (S)) (f19.eval (.tmp 2)) w18 := f_at (old2 2 rfl) x2
              replace x7 : Fk.f (.ds (dig (xh))) (f19.eval (.tmp 7)) w18 := f_at (old2 7 rfl) x7
              replace x8 : Fk.f (.ds (dig (xo))) (f19.eval (.tmp 8)) w18 := f_at (old2 8 rfl) x8
              replace x25 : Fk.f (.eq (.int .i64 (((S).length : Nat) : Int))) (f19.eval (.tmp 25)) w18 := f_at (old2 25 rfl) x25
              replace x73 : Fk.f (.eq (.int .i64 (((S).length : Nat) : Int))) (f19.eval (.tmp 73)) w18 := f_at (old2 73 rfl) x73
              replace x74 : Fk.f (.eq (.int .i64 ((k : Nat) : Int))) (f19.eval (.tmp 74)) w18 := f_at (old2 74 rfl) x74
              replace x16 : Fk.f (.eq (.int .i64 ((k : Nat) : Int))) (f19.eval (.tmp 16)) w18 := f_at (old2 16 rfl) x16
              replace x98 : Fk.f (.eq (.int .i64 ((s - 1 : Nat) : Int))) (f19.eval (.tmp 98)) w18 := f_at (old2 98 rfl) x98
              have x17 := nx17
              replace sz := sz2.trans sz
              replace df := df2.trans df
              replace a2 := (old2 2 rfl).trans a2
              replace a7 := (old2 7 rfl).trans a7
              replace a8 := (old2 8 rfl).trans a8
              replace a25 := (old2 25 rfl).trans a25
              replace a73 := (old2 73 rfl).trans a73
              replace a74 := (old2 74 rfl).trans a74
              replace a16 := (old2 16 rfl).trans a16
              clear df2 sz2 old2 new2 nx17
              clear x98
              refine wpList_nil ?_
              show (∃ _, _) ∧ _
              refine ⟨⟨s - 1, by omega, by omega, ⟨by rw [show s - 1 + 1 - d = s - d by omega, show s - 1 + 1 - e = s - e by omega, eu.out, ev.out]; exact huv⟩, sz, df, a2, a7, a8, a25, a73, a74, a16, x17, hL⟩, ?_⟩
              rw [show f19.eval (.tmp 17) = _ from x17, show _ = _ from c17]
              simp [intOf]
              omega
            · refine wp_all_seq [.eq (.agg ((u).map V).toArray), .eq (.agg ((v).map V).toArray), .eq (.bool true)] (by kernel_rfl) (by kernel_rfl) (by rw [sz]; kernel_rfl) (by kernel_rfl) ⟨fun hw ac w' K => ?_, fun hw ac w' K => ?_, fun hw ac w' K => ?_, trivial⟩ ?_
              · exact st_load23 (.tmp 18) rfl _ (u) ((K.old 18 rfl).trans x18) hul (HasV.below m18 K.grow (HasV.lt m18))
              · exact st_load23 (.tmp 19) rfl _ (v) ((K.old 19 rfl).trans x19) hvl (HasV.below m19 K.grow (HasV.lt m19))
              · exact st_neqh (.tmp 121) (.tmp 122) rfl (u) (v) hul hvl (K.dep 0 121 rfl) (K.dep 1 122 rfl) _ (by simp [huv])
              intro f17 w17 A hb
              replace x2 : Fk.f (.hs (S)) (f17.eval (.tmp 2)) w17 := f_at (A.old 2 rfl) (Fk.mono _ _ _ _ x2 hb)
              replace x7 : Fk.f (.ds (dig (xh))) (f17.eval (.tmp 7)) w17 := f_at (A.old 7 rfl) (Fk.mono _ _ _ _ x7 hb)
              replace x8 : Fk.f (.ds (dig (xo))) (f17.eval (.tmp 8)) w17 := f_at (A.old 8 rfl) (Fk.mono _ _ _ _ x8 hb)
              replace x25 : Fk.f (.eq (.int .i64 (((S).length : Nat) : Int))) (f17.eval (.tmp 25)) w17 := f_at (A.old 25 rfl) (Fk.mono _ _ _ _ x25 hb)
              replace x73 : Fk.f (.eq (.int .i64 (((S).length : Nat) : Int))) (f17.eval (.tmp 73)) w17 := f_at (A.old 73 rfl) (Fk.mono _ _ _ _ x73 hb)
              replace x74 : Fk.f (.eq (.int .i64 ((k : Nat) : Int))) (f17.eval (.tmp 74)) w17 := f_at (A.old 74 rfl) (Fk.mono _ _ _ _ x74 hb)
              replace x16 : Fk.f (.eq (.int .i64 ((k : Nat) : Int))) (f17.eval (.tmp 16)) w17 := f_at (A.old 16 rfl) (Fk.mono _ _ _ _ x16 hb)
              replace x17 : Fk.f (.eq (.int .i64 ((s : Nat) : Int))) (f17.eval (.tmp 17)) w17 := f_at (A.old 17 rfl) (Fk.mono _ _ _ _ x17 hb)
              replace x18 : Fk.f (.eq (.pointer (some ⟨g18, 0, none⟩))) (f17.eval (.tmp 18)) w17 := f_at (A.old 18 rfl) (Fk.mono _ _ _ _ x18 hb)
              replace x19 : Fk.f (.eq (.pointer (some ⟨g19, 0, none⟩))) (f17.eval (.tmp 19)) w17 := f_at (A.old 19 rfl) (Fk.mono _ _ _ _ x19 hb)
              have x123 : Fk.f (.eq (.bool true)) (f17.eval (.tmp 123)) w17 := A.has 2 123 rfl
              replace m18 := HasV.below m18 hb (HasV.lt m18)
              replace m19 := HasV.below m19 hb (HasV.lt m19)
              replace tb := tb.below hb
              replace sz := A.size.trans sz
              replace df := A.defs.trans df
              replace a2 := (A.old 2 rfl).trans a2
              replace a7 := (A.old 7 rfl).trans a7
              replace a8 := (A.old 8 rfl).trans a8
              replace a25 := (A.old 25 rfl).trans a25
              replace a73 := (A.old 73 rfl).trans a73
              replace a74 := (A.old 74 rfl).trans a74
              replace a16 := (A.old 16 rfl).trans a16
              replace hL := hL.trans (Below.mono hb hL.size)
              clear A hb
              show Code.wp _ _ _ _ _
              refine wp_cond_true x123 ?_
              refine wp_seq ?_
              refine wp_all [.eq (.agg ((u).map V).toArray), .eq (.int .i64 ((k : Nat) : Int)), .eq (.int .i64 ((s : Nat) : Int)), .eq (.agg ((c).map V).toArray), .eq (.agg ((v).map V).toArray), .eq (.int .i64 ((k : Nat) : Int)), .eq (.int .i64 ((s : Nat) : Int)), .eq (.agg ((c).map V).toArray), .eq (.bool true), .eq (.bool true)] Tryd.mixed (by kernel_rfl) (by kernel_rfl) (by rw [sz]; kernel_rfl) (by kernel_rfl) ⟨fun hw ac w' K => ?_, fun hw ac w' K => ?_, fun hw ac w' K => ?_, fun hw ac w' K => ?_, fun hw ac w' K => ?_, fun hw ac w' K => ?_, fun hw ac w' K => ?_, fun hw ac w' K => ?_, fun hw ac w' K => ?_, fun hw ac w' K => ?_, trivial⟩ ?_
              · exact st_load23 (.tmp 18) rfl _ (u) ((K.old 18 rfl).trans x18) hul (HasV.below m18 K.grow (HasV.lt m18))
              · exact st_move (.tmp 16) rfl ((K.old 16 rfl).trans x16)
              · exact st_move (.tmp 17) rfl ((K.old 17 rfl).trans x17)
              · exact st_call 19 (.func 19) _ _ #[.agg ((u).map V).toArray, .int .i64 ((k : Nat) : Int), .int .i64 ((s : Nat) : Int)] rfl rfl (arg3 (K.dep 0 124 rfl) (K.dep 1 125 rfl) (K.dep 2 126 rfl)) Tryd.enter19 (fk_of (chn_to (u) (((k : Nat) : Int)) (((s : Nat) : Int)) _ hul (tb.below K.grow) ec))
              · exact st_load23 (.tmp 19) rfl _ (v) ((K.old 19 rfl).trans x19) hvl (HasV.below m19 K.grow (HasV.lt m19))
              · exact st_move (.tmp 16) rfl ((K.old 16 rfl).trans x16)
              · exact st_move (.tmp 17) rfl ((K.old 17 rfl).trans x17)
              · exact st_call 19 (.func 19) _ _ #[.agg ((v).map V).toArray, .int .i64 ((k : Nat) : Int), .int .i64 ((s : Nat) : Int)] rfl rfl (arg3 (K.dep 4 128 rfl) (K.dep 5 129 rfl) (K.dep 6 130 rfl)) Tryd.enter19 (fk_of (chn_to (v) (((k : Nat) : Int)) (((s : Nat) : Int)) _ hvl (tb.below K.grow) ec2))
              · exact st_eqh (.tmp 127) (.tmp 131) rfl (c) (c) hcl hcl (K.dep 3 127 rfl) (K.dep 7 131 rfl) _ (by simp)
              · exact st_assign (.tmp 132) rfl (K.dep 8 132 rfl)
              intro f18 w18 A hb
              replace x2 : Fk.f (.hs (S)) (f18.eval (.tmp 2)) w18 := f_at (A.old 2 rfl) (Fk.mono _ _ _ _ x2 hb)
              replace x7 : Fk.f (.ds (dig (xh))) (f18.eval (.tmp 7)) w18 := f_at (A.old 7 rfl) (Fk.mono _ _ _ _ x7 hb)
              replace x8 : Fk.f (.ds (dig (xo))) (f18.eval (.tmp 8)) w18 := f_at (A.old 8 rfl) (Fk.mono _ _ _ _ x8 hb)
              replace x25 : Fk.f (.eq (.int .i64 (((S).length : Nat) : Int))) (f18.eval (.tmp 25)) w18 := f_at (A.old 25 rfl) (Fk.mono _ _ _ _ x25 hb)
              replace x73 : Fk.f (.eq (.int .i64 (((S).length : Nat) : Int))) (f18.eval (.tmp 73)) w18 := f_at (A.old 73 rfl) (Fk.mono _ _ _ _ x73 hb)
              replace x74 : Fk.f (.eq (.int .i64 ((k : Nat) : Int))) (f18.eval (.tmp 74)) w18 := f_at (A.old 74 rfl) (Fk.mono _ _ _ _ x74 hb)
              replace x16 : Fk.f (.eq (.int .i64 ((k : Nat) : Int))) (f18.eval (.tmp 16)) w18 := f_at (A.old 16 rfl) (Fk.mono _ _ _ _ x16 hb)
              replace x17 : Fk.f (.eq (.int .i64 ((s : Nat) : Int))) (f18.eval (.tmp 17)) w18 := f_at (A.old 17 rfl) (Fk.mono _ _ _ _ x17 hb)
              replace x18 : Fk.f (.eq (.pointer (some ⟨g18, 0, none⟩))) (f18.eval (.tmp 18)) w18 := f_at (A.old 18 rfl) (Fk.mono _ _ _ _ x18 hb)
              replace x19 : Fk.f (.eq (.pointer (some ⟨g19, 0, none⟩))) (f18.eval (.tmp 19)) w18 := f_at (A.old 19 rfl) (Fk.mono _ _ _ _ x19 hb)
              replace x123 : Fk.f (.eq (.bool true)) (f18.eval (.tmp 123)) w18 := f_at (A.old 123 rfl) (Fk.mono _ _ _ _ x123 hb)
              have x6 : Fk.f (.eq (.bool true)) (f18.eval (.tmp 6)) w18 := A.has 9 6 rfl
              replace m18 := HasV.below m18 hb (HasV.lt m18)
              replace m19 := HasV.below m19 hb (HasV.lt m19)
              replace tb := tb.below hb
              replace sz := A.size.trans sz
              replace df := A.defs.trans df
              replace a2 := (A.old 2 rfl).trans a2
              replace a7 := (A.old 7 rfl).trans a7
              replace a8 := (A.old 8 rfl).trans a8
              replace a25 := (A.old 25 rfl).trans a25
              replace a73 := (A.old 73 rfl).trans a73
              replace a74 := (A.old 74 rfl).trans a74
              replace a16 := (A.old 16 rfl).trans a16
              replace hL := hL.trans (Below.mono hb hL.size)
              clear A hb
              show Code.wp _ _ _ _ _
              refine wp_ret ?_
              repeat (first | with_reducible refine then_ret ?_ | with_reducible refine block_ret ?_)
              exact bodyPost_ret (v := .bool true) (ret_slot rfl f18 _ x6 _ _) df ⟨rfl, bl.trans (Below.mono (ohL.trans (Below.mono hL ohL.size)) bl.size)⟩
          · refine wp_all [.eq (.int .i64 ((s : Nat) : Int)), .ds (dig (xh)), .eq (.int .i64 ((k : Nat) : Int)), .pi ((d : Nat) : Int), .eq (.int .i64 ((d : Nat) : Int)), .ds (dig (xo)), .eq (.int .i64 ((k : Nat) : Int)), .pi ((e : Nat) : Int), .eq (.int .i64 ((e : Nat) : Int)), .eq (.int .i64 ((max d e : Nat) : Int)), .eq (.bool false)] Tryd.mixed (by kernel_rfl) (by kernel_rfl) (by rw [sz]; kernel_rfl) (by kernel_rfl) ⟨fun hw ac w' K => ?_, fun hw ac w' K => ?_, fun hw ac w' K => ?_, fun hw ac w' K => ?_, fun hw ac w' K => ?_, fun hw ac w' K => ?_, fun hw ac w' K => ?_, fun hw ac w' K => ?_, fun hw ac w' K => ?_, fun hw ac w' K => ?_, fun hw ac w' K => ?_, trivial⟩ ?_
            · exact st_move (.tmp 17) rfl ((K.old 17 rfl).trans x17)
            · exact st_move (.tmp 7) rfl (f_at (K.old 7 rfl) (Fk.mono _ _ _ _ x7 K.grow))
            · exact st_move (.tmp 16) rfl ((K.old 16 rfl).trans x16)
            · exact st_idxi (.tmp 87) (.tmp 88) rfl (K.dep 1 87 rfl) (k) (d) (K.dep 2 88 rfl) ed
            · exact st_loadi (.tmp 89) rfl (K.dep 3 89 rfl)
            · exact st_move (.tmp 8) rfl (f_at (K.old 8 rfl) (Fk.mono _ _ _ _ x8 K.grow))
            · exact st_move (.tmp 16) rfl ((K.old 16 rfl).trans x16)
            · exact st_idxi (.tmp 91) (.tmp 92) rfl (K.dep 5 91 rfl) (k) (e) (K.dep 6 92 rfl) ee
            · exact st_loadi (.tmp 93) rfl (K.dep 7 93 rfl)
            · exact st_max (.tmp 90) (.tmp 94) rfl d e (K.dep 4 90 rfl) (K.dep 8 94 rfl)
            · exact st_geq 3 (.tmp 86) (.tmp 95) rfl .i64 _ _ (K.dep 0 86 rfl) (K.dep 9 95 rfl) _ (by simp; omega)
            intro f15 w15 A hb
            replace x2 : Fk.f (.hs (S)) (f15.eval (.tmp 2)) w15 := f_at (A.old 2 rfl) (Fk.mono _ _ _ _ x2 hb)
            replace x7 : Fk.f (.ds (dig (xh))) (f15.eval (.tmp 7)) w15 := f_at (A.old 7 rfl) (Fk.mono _ _ _ _ x7 hb)
            replace x8 : Fk.f (.ds (dig (xo))) (f15.eval (.tmp 8)) w15 := f_at (A.old 8 rfl) (Fk.mono _ _ _ _ x8 hb)
            replace x25 : Fk.f (.eq (.int .i64 (((S).length : Nat) : Int))) (f15.eval (.tmp 25)) w15 := f_at (A.old 25 rfl) (Fk.mono _ _ _ _ x25 hb)
            replace x73 : Fk.f (.eq (.int .i64 (((S).length : Nat) : Int))) (f15.eval (.tmp 73)) w15 := f_at (A.old 73 rfl) (Fk.mono _ _ _ _ x73 hb)
            replace x74 : Fk.f (.eq (.int .i64 ((k : Nat) : Int))) (f15.eval (.tmp 74)) w15 := f_at (A.old 74 rfl) (Fk.mono _ _ _ _ x74 hb)
            replace x16 : Fk.f (.eq (.int .i64 ((k : Nat) : Int))) (f15.eval (.tmp 16)) w15 := f_at (A.old 16 rfl) (Fk.mono _ _ _ _ x16 hb)
            replace x17 : Fk.f (.eq (.int .i64 ((s : Nat) : Int))) (f15.eval (.tmp 17)) w15 := f_at (A.old 17 rfl) (Fk.mono _ _ _ _ x17 hb)
            have x96 : Fk.f (.eq (.bool false)) (f15.eval (.tmp 96)) w15 := A.has 10 96 rfl
            replace tb := tb.below hb
            replace sz := A.size.trans sz
            replace df := A.defs.trans df
            replace a2 := (A.old 2 rfl).trans a2
            replace a7 := (A.old 7 rfl).trans a7
            replace a8 := (A.old 8 rfl).trans a8
            replace a25 := (A.old 25 rfl).trans a25
            replace a73 := (A.old 73 rfl).trans a73
            replace a74 := (A.old 74 rfl).trans a74
            replace a16 := (A.old 16 rfl).trans a16
            replace hL := hL.trans (Below.mono hb hL.size)
            clear A hb
            show Code.wp _ _ _ _ _
            refine wp_cond_false x96 ?_
            refine wp_exit ?_
            clear x96
            replace a2 := a2.trans oa2
            replace a7 := a7.trans oa7
            replace a8 := a8.trans oa8
            replace a25 := a25.trans oa25
            replace a73 := a73.trans oa73
            replace hL := ohL.trans (Below.mono hL ohL.size)
            clear x16
            clear x17
            show Code.wp _ _ _ _ _
            refine wp_region_seq [.eq (.int .i64 ((k + 1 : Nat) : Int))] (by kernel_rfl) (by kernel_rfl) (by rw [sz]; kernel_rfl) (by kernel_rfl) ⟨fun hw ac w' K => ?_, trivial⟩ ?_
            · exact st_add1 (.tmp 74) rfl k (by omega) ((K.old 74 rfl).trans x74)
            intro f16 w16 A hb
            replace x2 : Fk.f (.hs (S)) (f16.eval (.tmp 2)) w16 := f_at (A.old 2 rfl) (Fk.mono _ _ _ _ x2 hb)
            replace x7 : Fk.f (.ds (dig (xh))) (f16.eval (.tmp 7)) w16 := f_at (A.old 7 rfl) (Fk.mono _ _ _ _ x7 hb)
            replace x8 : Fk.f (.ds (dig (xo))) (f16.eval (.tmp 8)) w16 := f_at (A.old 8 rfl) (Fk.mono _ _ _ _ x8 hb)
            replace x25 : Fk.f (.eq (.int .i64 (((S).length : Nat) : Int))) (f16.eval (.tmp 25)) w16 := f_at (A.old 25 rfl) (Fk.mono _ _ _ _ x25 hb)
            replace x73 : Fk.f (.eq (.int .i64 (((S).length : Nat) : Int))) (f16.eval (.tmp 73)) w16 := f_at (A.old 73 rfl) (Fk.mono _ _ _ _ x73 hb)
            replace x74 : Fk.f (.eq (.int .i64 ((k : Nat) : Int))) (f16.eval (.tmp 74)) w16 := f_at (A.old 74 rfl) (Fk.mono _ _ _ _ x74 hb)
            have x133 : Fk.f (.eq (.int .i64 ((k + 1 : Nat) : Int))) (f16.eval (.tmp 133)) w16 := A.has 0 133 rfl
            replace tb := tb.below hb
            replace sz := A.size.trans sz
            replace df := A.defs.trans df
            replace a2 := (A.old 2 rfl).trans a2
            replace a7 := (A.old 7 rfl).trans a7
            replace a8 := (A.old 8 rfl).trans a8
            replace a25 := (A.old 25 rfl).trans a25
            replace a73 := (A.old 73 rfl).trans a73
            replace hL := hL.trans (Below.mono hb hL.size)
            clear A hb
            refine wl_move rfl (.tmp 133) rfl 74 rfl (by rw [sz]; decide) ?_
            intro f17 df2 sz2 old2 new2
            have nx74 : Fk.f (.eq (.int .i64 ((k + 1 : Nat) : Int))) (f17.eval (.tmp 74)) w16 := f_at new2 x133
            replace x2 : Fk.f (.hs (S)) (f17.eval (.tmp 2)) w16 := f_at (old2 2 rfl) x2
            replace x7 : Fk.f (.ds (dig (xh))) (f17.eval (.tmp 7)) w16 := f_at (old2 7 rfl) x7
            replace x8 : Fk.f (.ds (dig (xo))) (f17.eval (.tmp 8)) w16 := f_at (old2 8 rfl) x8
            replace x25 : Fk.f (.eq (.int .i64 (((S).length : Nat) : Int))) (f17.eval (.tmp 25)) w16 := f_at (old2 25 rfl) x25
            replace x73 : Fk.f (.eq (.int .i64 (((S).length : Nat) : Int))) (f17.eval (.tmp 73)) w16 := f_at (old2 73 rfl) x73
            replace x133 : Fk.f (.eq (.int .i64 ((k + 1 : Nat) : Int))) (f17.eval (.tmp 133)) w16 := f_at (old2 133 rfl) x133
            have x74 := nx74
            replace sz := sz2.trans sz
            replace df := df2.trans df
            replace a2 := (old2 2 rfl).trans a2
            replace a7 := (old2 7 rfl).trans a7
            replace a8 := (old2 8 rfl).trans a8
            replace a25 := (old2 25 rfl).trans a25
            replace a73 := (old2 73 rfl).trans a73
            clear df2 sz2 old2 new2 nx74
            clear x133
            refine wpList_nil ?_
            show (∃ _, _) ∧ _
            refine ⟨⟨k + 1, by omega, sz, df, a2, a7, a8, a25, a73, x74, hL⟩, ?_⟩
            rw [show f17.eval (.tmp 74) = _ from x74, show _ = _ from c74]
            simp [intOf]
            omega
      · have hk67b : k = 67 := by omega
        refine wp_seq ?_
        refine wp_all_seq [.eq (.bool false)] (by kernel_rfl) (by kernel_rfl) (by rw [sz]; kernel_rfl) (by kernel_rfl) ⟨fun hw ac w' K => ?_, trivial⟩ ?_
        · exact st_lss 3 (.tmp 74) (.tmp 73) rfl .i64 (((k : Nat) : Int)) ((((S).length : Nat) : Int)) ((K.old 74 rfl).trans x74) ((K.old 73 rfl).trans x73) _ (by rw [h67]; simp; omega)
        intro f10 w10 A hb
        replace x2 : Fk.f (.hs (S)) (f10.eval (.tmp 2)) w10 := f_at (A.old 2 rfl) (Fk.mono _ _ _ _ x2 hb)
        replace x7 : Fk.f (.ds (dig (xh))) (f10.eval (.tmp 7)) w10 := f_at (A.old 7 rfl) (Fk.mono _ _ _ _ x7 hb)
        replace x8 : Fk.f (.ds (dig (xo))) (f10.eval (.tmp 8)) w10 := f_at (A.old 8 rfl) (Fk.mono _ _ _ _ x8 hb)
        replace x25 : Fk.f (.eq (.int .i64 (((S).length : Nat) : Int))) (f10.eval (.tmp 25)) w10 := f_at (A.old 25 rfl) (Fk.mono _ _ _ _ x25 hb)
        replace x73 : Fk.f (.eq (.int .i64 (((S).length : Nat) : Int))) (f10.eval (.tmp 73)) w10 := f_at (A.old 73 rfl) (Fk.mono _ _ _ _ x73 hb)
        replace x74 : Fk.f (.eq (.int .i64 ((k : Nat) : Int))) (f10.eval (.tmp 74)) w10 := f_at (A.old 74 rfl) (Fk.mono _ _ _ _ x74 hb)
        have x75 : Fk.f (.eq (.bool false)) (f10.eval (.tmp 75)) w10 := A.has 0 75 rfl
        replace tb := tb.below hb
        replace sz := A.size.trans sz
        replace df := A.defs.trans df
        replace a2 := (A.old 2 rfl).trans a2
        replace a7 := (A.old 7 rfl).trans a7
        replace a8 := (A.old 8 rfl).trans a8
        replace a25 := (A.old 25 rfl).trans a25
        replace a73 := (A.old 73 rfl).trans a73
        replace hL := hL.trans (Below.mono hb hL.size)
        clear A hb
        show Code.wp _ _ _ _ _
        refine wp_seq ?_
        refine wp_cond_false x75 ?_
        refine wp_exit ?_
        clear x75
        show Code.wp _ _ _ _ _
        refine wp_seq ?_
        refine wp_all_seq [.eq (.bool true)] (by kernel_rfl) (by kernel_rfl) (by rw [sz]; kernel_rfl) (by kernel_rfl) ⟨fun hw ac w' K => ?_, trivial⟩ ?_
        · exact st_assign (.const (.bool true)) rfl rfl
        intro f11 w11 A hb
        replace x2 : Fk.f (.hs (S)) (f11.eval (.tmp 2)) w11 := f_at (A.old 2 rfl) (Fk.mono _ _ _ _ x2 hb)
        replace x7 : Fk.f (.ds (dig (xh))) (f11.eval (.tmp 7)) w11 := f_at (A.old 7 rfl) (Fk.mono _ _ _ _ x7 hb)
        replace x8 : Fk.f (.ds (dig (xo))) (f11.eval (.tmp 8)) w11 := f_at (A.old 8 rfl) (Fk.mono _ _ _ _ x8 hb)
        replace x25 : Fk.f (.eq (.int .i64 (((S).length : Nat) : Int))) (f11.eval (.tmp 25)) w11 := f_at (A.old 25 rfl) (Fk.mono _ _ _ _ x25 hb)
        replace x73 : Fk.f (.eq (.int .i64 (((S).length : Nat) : Int))) (f11.eval (.tmp 73)) w11 := f_at (A.old 73 rfl) (Fk.mono _ _ _ _ x73 hb)
        replace x74 : Fk.f (.eq (.int .i64 ((k : Nat) : Int))) (f11.eval (.tmp 74)) w11 := f_at (A.old 74 rfl) (Fk.mono _ _ _ _ x74 hb)
        have x6 : Fk.f (.eq (.bool true)) (f11.eval (.tmp 6)) w11 := A.has 0 6 rfl
        replace tb := tb.below hb
        replace sz := A.size.trans sz
        replace df := A.defs.trans df
        replace a2 := (A.old 2 rfl).trans a2
        replace a7 := (A.old 7 rfl).trans a7
        replace a8 := (A.old 8 rfl).trans a8
        replace a25 := (A.old 25 rfl).trans a25
        replace a73 := (A.old 73 rfl).trans a73
        replace hL := hL.trans (Below.mono hb hL.size)
        clear A hb
        show Code.wp _ _ _ _ _
        refine wp_ret ?_
        repeat (first | with_reducible refine then_ret ?_ | with_reducible refine block_ret ?_)
        exact bodyPost_ret (v := .bool true) (ret_slot rfl f11 _ x6 _ _) df ⟨rfl, bl.trans (Below.mono hL bl.size)⟩
    · have hpp : Box (shaOf (kb 4 :: X) = p) := ⟨by rw [← eX.out]; exact ep.out⟩
      have hpq : Box (shaOf (kb 4 :: Y) = p) := ⟨by rw [← eY.out]; exact eq.out⟩
      refine wp_all_seq [.sl (kb 4 :: X), .eq (.string (str (kb 4 :: X))), .sl (kb 4 :: Y), .eq (.string (str (kb 4 :: Y))), .eq (.bool true)] (by kernel_rfl) (by kernel_rfl) (by rw [sz]; kernel_rfl) (by kernel_rfl) ⟨fun hw ac w' K => ?_, fun hw ac w' K => ?_, fun hw ac w' K => ?_, fun hw ac w' K => ?_, fun hw ac w' K => ?_, trivial⟩ ?_
      · exact st_move (.tmp 14) rfl (f_at (K.old 14 rfl) (Fk.mono _ _ _ _ x14 K.grow))
      · exact st_str (.tmp 62) rfl (by simp) (K.dep 0 62 rfl)
      · exact st_move (.tmp 15) rfl (f_at (K.old 15 rfl) (Fk.mono _ _ _ _ x15 K.grow))
      · exact st_str (.tmp 64) rfl (by simp) (K.dep 2 64 rfl)
      · exact st_neqs (.tmp 63) (.tmp 65) rfl _ _ (K.dep 1 63 rfl) (K.dep 3 65 rfl) _ (by simp; intro h; exact hXY (by have := str_inj h; simpa using this))
      intro f7 w7 A hb
      replace x2 : Fk.f (.hs (S)) (f7.eval (.tmp 2)) w7 := f_at (A.old 2 rfl) (Fk.mono _ _ _ _ x2 hb)
      replace x7 : Fk.f (.ds (dig (xh))) (f7.eval (.tmp 7)) w7 := f_at (A.old 7 rfl) (Fk.mono _ _ _ _ x7 hb)
      replace x8 : Fk.f (.ds (dig (xo))) (f7.eval (.tmp 8)) w7 := f_at (A.old 8 rfl) (Fk.mono _ _ _ _ x8 hb)
      replace x25 : Fk.f (.eq (.int .i64 (((S).length : Nat) : Int))) (f7.eval (.tmp 25)) w7 := f_at (A.old 25 rfl) (Fk.mono _ _ _ _ x25 hb)
      replace x14 : Fk.f (.sl (kb 4 :: X)) (f7.eval (.tmp 14)) w7 := f_at (A.old 14 rfl) (Fk.mono _ _ _ _ x14 hb)
      replace x15 : Fk.f (.sl (kb 4 :: Y)) (f7.eval (.tmp 15)) w7 := f_at (A.old 15 rfl) (Fk.mono _ _ _ _ x15 hb)
      have x66 : Fk.f (.eq (.bool true)) (f7.eval (.tmp 66)) w7 := A.has 4 66 rfl
      replace tb := tb.below hb
      replace bl := bl.trans (Below.mono hb bl.size)
      replace sz := A.size.trans sz
      replace df := A.defs.trans df
      clear A hb
      show Code.wp _ _ _ _ _
      refine wp_cond_true x66 ?_
      refine wp_seq ?_
      refine wp_all_seq [.sl (kb 4 :: X), .eq (.agg ((p).map V).toArray), .sl (kb 4 :: Y), .eq (.agg ((p).map V).toArray), .eq (.bool true), .eq (.bool true)] (by kernel_rfl) (by kernel_rfl) (by rw [sz]; kernel_rfl) (by kernel_rfl) ⟨fun hw ac w' K => ?_, fun hw ac w' K => ?_, fun hw ac w' K => ?_, fun hw ac w' K => ?_, fun hw ac w' K => ?_, fun hw ac w' K => ?_, trivial⟩ ?_
      · exact st_move (.tmp 14) rfl (f_at (K.old 14 rfl) (Fk.mono _ _ _ _ x14 K.grow))
      · exact st_call 24 (.func 24) _ _ #[ac.eval (.tmp 67)] rfl rfl rfl Tryd.enter24 (fk_sum_to (by simp; omega) (tb.below K.grow) (K.dep 0 67 rfl) hpp)
      · exact st_move (.tmp 15) rfl (f_at (K.old 15 rfl) (Fk.mono _ _ _ _ x15 K.grow))
      · exact st_call 24 (.func 24) _ _ #[ac.eval (.tmp 69)] rfl rfl rfl Tryd.enter24 (fk_sum_to (by simp; omega) (tb.below K.grow) (K.dep 2 69 rfl) hpq)
      · exact st_eqh (.tmp 68) (.tmp 70) rfl (p) (p) hpl hpl (K.dep 1 68 rfl) (K.dep 3 70 rfl) _ (by simp)
      · exact st_assign (.tmp 71) rfl (K.dep 4 71 rfl)
      intro f8 w8 A hb
      replace x2 : Fk.f (.hs (S)) (f8.eval (.tmp 2)) w8 := f_at (A.old 2 rfl) (Fk.mono _ _ _ _ x2 hb)
      replace x7 : Fk.f (.ds (dig (xh))) (f8.eval (.tmp 7)) w8 := f_at (A.old 7 rfl) (Fk.mono _ _ _ _ x7 hb)
      replace x8 : Fk.f (.ds (dig (xo))) (f8.eval (.tmp 8)) w8 := f_at (A.old 8 rfl) (Fk.mono _ _ _ _ x8 hb)
      replace x25 : Fk.f (.eq (.int .i64 (((S).length : Nat) : Int))) (f8.eval (.tmp 25)) w8 := f_at (A.old 25 rfl) (Fk.mono _ _ _ _ x25 hb)
      replace x14 : Fk.f (.sl (kb 4 :: X)) (f8.eval (.tmp 14)) w8 := f_at (A.old 14 rfl) (Fk.mono _ _ _ _ x14 hb)
      replace x15 : Fk.f (.sl (kb 4 :: Y)) (f8.eval (.tmp 15)) w8 := f_at (A.old 15 rfl) (Fk.mono _ _ _ _ x15 hb)
      replace x66 : Fk.f (.eq (.bool true)) (f8.eval (.tmp 66)) w8 := f_at (A.old 66 rfl) (Fk.mono _ _ _ _ x66 hb)
      have x6 : Fk.f (.eq (.bool true)) (f8.eval (.tmp 6)) w8 := A.has 5 6 rfl
      replace tb := tb.below hb
      replace bl := bl.trans (Below.mono hb bl.size)
      replace sz := A.size.trans sz
      replace df := A.defs.trans df
      clear A hb
      show Code.wp _ _ _ _ _
      refine wp_ret ?_
      repeat (first | with_reducible refine then_ret ?_ | with_reducible refine block_ret ?_)
      exact bodyPost_ret (v := .bool true) (ret_slot rfl f8 _ x6 _ _) df ⟨rfl, bl⟩
end Go.Proofs.YthnaomkkaodbkaaDoor
