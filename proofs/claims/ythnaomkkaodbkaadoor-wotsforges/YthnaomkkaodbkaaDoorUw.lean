/- Made by gen_uw.py. The walk of WotsForges. -/
import Derived.Test.YthnaomkkaodbkaaDoorUv
namespace Go.Proofs.YthnaomkkaodbkaaDoor
open Go.RowKit
theorem fk_collides {xh xo : List (BitVec 8)} {S : List (List (BitVec 8))} {p : List (BitVec 8)} {v : Value} {w : World} (hh : xh.length = 32) (ho : xo.length = 32) (h67 : S.length = 67) (hpl : p.length = 32) (hK : Tab w) (hv : (Fk.hs S).f v w) (ep : Box (pub (all67 (recOf xh S)) = p)) (eq : Box (pub (all67 (recOf xo S)) = p)) :
    Calls Tryd.prog 18 #[.agg (xh.map V).toArray, .agg (xo.map V).toArray, v] w fun e w' => ∃ u, e = .returned u ∧ (Fk.eq (.bool true)).f u w' ∧ Below w.heap.size w w' := by
  obtain ⟨A, C, lb, lo, rfl, hl⟩ := hv
  rw [h67]
  exact fk_of (collides_any xh xo A C lb lo S p w hh ho hl h67 hpl ep eq hK)
set_option maxHeartbeats 1000000 in
theorem forges_law (seed xh xo : List (BitVec 8)) (w : World) (hx : seed.length = 32) (hh : xh.length = 32) (ho : xo.length = 32) (hK : Tab w) :
    Calls Tryd.prog 7 #[.agg (seed.map V).toArray, .agg (xh.map V).toArray, .agg (xo.map V).toArray] w fun e w' => e = .returned (.bool true) ∧ Below w.heap.size w w' := by
  obtain ⟨S, eS⟩ : ∃ S, Box (all67 (sigOf seed 0 xh) = S) := ⟨_, ⟨rfl⟩⟩
  have hSl : S.length = 67 := by rw [← eS.out]; exact all_len _
  obtain ⟨p, ep⟩ : ∃ p, Box (pub (all67 (endOf seed 0)) = p) := ⟨_, ⟨rfl⟩⟩
  have hpl : p.length = 32 := by rw [← ep.out]; exact pub_len _
  have ep2 : Box (pub (all67 (recOf xh S)) = p) := ⟨by rw [← eS.out, rec_sig]; exact ep.out⟩
  obtain ⟨q, eq⟩ : ∃ q, Box (pub (all67 (recOf xo S)) = q) := ⟨_, ⟨rfl⟩⟩
  have hql : q.length = 32 := by rw [← eq.out]; exact pub_len _
  go_enter Tryd.func7, Tryd.ntmps7
  go_upto_region 1 with fail
  rename_i KK hKK
  refine code_both (fun f w1 => f.tmps.size = 70 ∧ f.defers = [] ∧ Fk.f (.eq (.pointer (some ⟨w.heap.size, 0, none⟩))) (f.eval (.tmp 3)) w1 ∧ Fk.f (.eq (.pointer (some ⟨w.heap.size + 1, 0, none⟩))) (f.eval (.tmp 4)) w1 ∧ Fk.f (.eq (.pointer (some ⟨w.heap.size + 1 + 1, 0, none⟩))) (f.eval (.tmp 5)) w1 ∧ HasV w1 w.heap.size 23 seed ∧ HasV w1 (w.heap.size + 1) 23 xh ∧ HasV w1 (w.heap.size + 1 + 1) 23 xo ∧ Below w.heap.size w w1) ?_ ?_
  · exact ⟨rfl, rfl, rfl, rfl, rfl, HasV.alloc (heap_alloc2_old _ _ _) _, HasV.alloc (heap_alloc2_new _ _ _) _, heap_alloc3_new _ _ _ _, (((Below.refl _ _).alloc (Nat.le_refl _) _).alloc (by simp) _).alloc (by simp; omega) _⟩
  rintro f0 w0 ⟨sz, df, x3, x4, x5, m3, m4, m5, bl⟩
  have tb := hK.below bl
  obtain ⟨g5, hg5⟩ : ∃ g5, g5 = w.heap.size + 1 + 1 := ⟨_, rfl⟩
  rw [← hg5] at x5 m5
  obtain ⟨g4, hg4⟩ : ∃ g4, g4 = w.heap.size + 1 := ⟨_, rfl⟩
  rw [← hg4] at x4 m4
  obtain ⟨g3, hg3⟩ : ∃ g3, g3 = w.heap.size := ⟨_, rfl⟩
  rw [← hg3] at x3 m3
  refine wp_all_seq [.eq (.agg ((seed).map V).toArray), .eq (.agg ((xh).map V).toArray), .th (S) 0, .th (S) 0, .hs (S), .eq (.int .i64 0), .hs (S), .eq (.int .i64 0)] (by kernel_rfl) (by kernel_rfl) (by rw [sz]; kernel_rfl) (by kernel_rfl) ⟨fun hw ac w' K => ?_, fun hw ac w' K => ?_, fun hw ac w' K => ?_, fun hw ac w' K => ?_, fun hw ac w' K => ?_, fun hw ac w' K => ?_, fun hw ac w' K => ?_, fun hw ac w' K => ?_, trivial⟩ ?_
  · exact st_load23 (.tmp 3) rfl _ (seed) ((K.old 3 rfl).trans x3) hx (HasV.below m3 K.grow (HasV.lt m3))
  · exact st_load23 (.tmp 4) rfl _ (xh) ((K.old 4 rfl).trans x4) hh (HasV.below m4 K.grow (HasV.lt m4))
  · exact st_call 12 (.func 12) _ _ #[.agg ((seed).map V).toArray, .int .i64 ((0 : Nat) : Int), .agg ((xh).map V).toArray] rfl rfl (arg3 (K.dep 0 14 rfl) rfl (K.dep 1 15 rfl)) Tryd.enter12 (fk_sign_ok hx hh (by omega) (tb.below K.grow) eS)
  · exact st_move (.tmp 16) rfl (K.dep 2 16 rfl)
  · exact st_exth (.tmp 13) rfl (K.dep 3 13 rfl)
  · exact st_extn (.tmp 13) rfl (K.dep 3 13 rfl)
  · exact st_assign (.tmp 17) rfl (K.dep 4 17 rfl)
  · exact st_assign (.tmp 18) rfl (K.dep 5 18 rfl)
  intro f1 w1 A hb
  replace x3 : Fk.f (.eq (.pointer (some ⟨g3, 0, none⟩))) (f1.eval (.tmp 3)) w1 := f_at (A.old 3 rfl) (Fk.mono _ _ _ _ x3 hb)
  replace x4 : Fk.f (.eq (.pointer (some ⟨g4, 0, none⟩))) (f1.eval (.tmp 4)) w1 := f_at (A.old 4 rfl) (Fk.mono _ _ _ _ x4 hb)
  replace x5 : Fk.f (.eq (.pointer (some ⟨g5, 0, none⟩))) (f1.eval (.tmp 5)) w1 := f_at (A.old 5 rfl) (Fk.mono _ _ _ _ x5 hb)
  have x7 : Fk.f (.hs (S)) (f1.eval (.tmp 7)) w1 := A.has 6 7 rfl
  have x8 : Fk.f (.eq (.int .i64 0)) (f1.eval (.tmp 8)) w1 := A.has 7 8 rfl
  replace m3 := HasV.below m3 hb (HasV.lt m3)
  replace m4 := HasV.below m4 hb (HasV.lt m4)
  replace m5 := HasV.below m5 hb (HasV.lt m5)
  replace tb := tb.below hb
  replace bl := bl.trans (Below.mono hb bl.size)
  replace sz := A.size.trans sz
  replace df := A.defs.trans df
  clear A hb
  refine hKK _ _ ?_
  refine wp_seq ?_
  refine wp_region_seq [.eq (.agg ((seed).map V).toArray), .eq (.tuple #[.agg ((p).map V).toArray, .int .i64 0]), .eq (.tuple #[.agg ((p).map V).toArray, .int .i64 0]), .eq (.agg ((p).map V).toArray), .eq (.int .i64 0), .pn w1.heap.size hz] (by kernel_rfl) (by kernel_rfl) (by rw [sz]; kernel_rfl) (by kernel_rfl) ⟨fun hw ac w' K => ?_, fun hw ac w' K => ?_, fun hw ac w' K => ?_, fun hw ac w' K => ?_, fun hw ac w' K => ?_, fun hw ac w' K => ?_, trivial⟩ ?_
  · exact st_load23 (.tmp 3) rfl _ (seed) ((K.old 3 rfl).trans x3) hx (HasV.below m3 K.grow (HasV.lt m3))
  · exact st_call 11 (.func 11) _ _ #[.agg ((seed).map V).toArray, .int .i64 ((0 : Nat) : Int)] rfl rfl (arg2 (K.dep 0 20 rfl) rfl) Tryd.enter11 (fk_public_ok hx (by omega) (tb.below K.grow) ep)
  · exact st_move (.tmp 21) rfl (K.dep 1 21 rfl)
  · exact st_ext0 (.tmp 19) rfl (K.dep 2 19 rfl) rfl
  · exact st_ext1 (.tmp 19) rfl (K.dep 2 19 rfl) rfl
  · exact st_alloc23 rfl _ K.grow.size
  intro f2 w2 A hb
  obtain ⟨g9, hg9, e9, m9⟩ := A.has 5 9 rfl
  refine wl_store rfl (.tmp 9) (.tmp 22) rfl rfl g9 (p) hz e9 (A.has 3 22 rfl) m9 hz_len hpl ?_
  replace hb := Below.trans hb (below_setRow _ _ _ ((p).map V).toArray hg9)
  replace m9 : HasV (w2.setRow g9 ((p).map V).toArray) g9 23 (p) := HasV.setRow m9
  generalize w2.setRow g9 ((p).map V).toArray = w2b at hb m9 ⊢
  replace x3 : Fk.f (.eq (.pointer (some ⟨g3, 0, none⟩))) (f2.eval (.tmp 3)) w2b := f_at (A.old 3 rfl) (Fk.mono _ _ _ _ x3 hb)
  replace x4 : Fk.f (.eq (.pointer (some ⟨g4, 0, none⟩))) (f2.eval (.tmp 4)) w2b := f_at (A.old 4 rfl) (Fk.mono _ _ _ _ x4 hb)
  replace x5 : Fk.f (.eq (.pointer (some ⟨g5, 0, none⟩))) (f2.eval (.tmp 5)) w2b := f_at (A.old 5 rfl) (Fk.mono _ _ _ _ x5 hb)
  replace x7 : Fk.f (.hs (S)) (f2.eval (.tmp 7)) w2b := f_at (A.old 7 rfl) (Fk.mono _ _ _ _ x7 hb)
  replace x8 : Fk.f (.eq (.int .i64 0)) (f2.eval (.tmp 8)) w2b := f_at (A.old 8 rfl) (Fk.mono _ _ _ _ x8 hb)
  have x9 : Fk.f (.eq (.pointer (some ⟨g9, 0, none⟩))) (f2.eval (.tmp 9)) w2b := e9
  have x23 : Fk.f (.eq (.int .i64 0)) (f2.eval (.tmp 23)) w2b := A.has 4 23 rfl
  replace m3 := HasV.below m3 hb (HasV.lt m3)
  replace m4 := HasV.below m4 hb (HasV.lt m4)
  replace m5 := HasV.below m5 hb (HasV.lt m5)
  replace tb := tb.below hb
  replace bl := bl.trans (Below.mono hb bl.size)
  replace sz := A.size.trans sz
  replace df := A.defs.trans df
  clear A hb
  refine wl_assign rfl (.tmp 23) rfl 10 rfl (by rw [sz]; decide) ?_
  intro f3 df2 sz2 old2 new2
  have nx10 : Fk.f (.eq (.int .i64 0)) (f3.eval (.tmp 10)) w2b := f_at new2 x23
  replace x3 : Fk.f (.eq (.pointer (some ⟨g3, 0, none⟩))) (f3.eval (.tmp 3)) w2b := f_at (old2 3 rfl) x3
  replace x4 : Fk.f (.eq (.pointer (some ⟨g4, 0, none⟩))) (f3.eval (.tmp 4)) w2b := f_at (old2 4 rfl) x4
  replace x5 : Fk.f (.eq (.pointer (some ⟨g5, 0, none⟩))) (f3.eval (.tmp 5)) w2b := f_at (old2 5 rfl) x5
  replace x7 : Fk.f (.hs (S)) (f3.eval (.tmp 7)) w2b := f_at (old2 7 rfl) x7
  replace x8 : Fk.f (.eq (.int .i64 0)) (f3.eval (.tmp 8)) w2b := f_at (old2 8 rfl) x8
  replace x9 : Fk.f (.eq (.pointer (some ⟨g9, 0, none⟩))) (f3.eval (.tmp 9)) w2b := f_at (old2 9 rfl) x9
  replace x23 : Fk.f (.eq (.int .i64 0)) (f3.eval (.tmp 23)) w2b := f_at (old2 23 rfl) x23
  have x10 := nx10
  replace sz := sz2.trans sz
  replace df := df2.trans df
  clear df2 sz2 old2 new2 nx10
  refine wpList_nil ?_
  clear x23
  show Code.wp _ _ _ _ _
  refine wp_seq ?_
  refine wp_seq ?_
  refine wp_all_seq [.eq (.int .i64 0), .eq (.bool false), .eq (.bool false), .eq (.int .i64 0), .eq (.bool false), .eq (.bool false)] (by kernel_rfl) (by kernel_rfl) (by rw [sz]; kernel_rfl) (by kernel_rfl) ⟨fun hw ac w' K => ?_, fun hw ac w' K => ?_, fun hw ac w' K => ?_, fun hw ac w' K => ?_, fun hw ac w' K => ?_, fun hw ac w' K => ?_, trivial⟩ ?_
  · exact st_move (.tmp 8) rfl ((K.old 8 rfl).trans x8)
  · exact st_neqi 29 (.tmp 24) (.const (.int .i64 0)) rfl .i64 (0) (0) (K.dep 0 24 rfl) rfl _ (by rfl)
  · exact st_move (.tmp 25) rfl (K.dep 1 25 rfl)
  · exact st_move (.tmp 10) rfl ((K.old 10 rfl).trans x10)
  · exact st_neqi 29 (.tmp 27) (.const (.int .i64 0)) rfl .i64 (0) (0) (K.dep 3 27 rfl) rfl _ (by rfl)
  · exact st_pick_f (.tmp 26) (.const (.bool true)) (.tmp 28) rfl (K.dep 2 26 rfl) (K.dep 4 28 rfl)
  intro f4 w4 A hb
  replace x3 : Fk.f (.eq (.pointer (some ⟨g3, 0, none⟩))) (f4.eval (.tmp 3)) w4 := f_at (A.old 3 rfl) (Fk.mono _ _ _ _ x3 hb)
  replace x4 : Fk.f (.eq (.pointer (some ⟨g4, 0, none⟩))) (f4.eval (.tmp 4)) w4 := f_at (A.old 4 rfl) (Fk.mono _ _ _ _ x4 hb)
  replace x5 : Fk.f (.eq (.pointer (some ⟨g5, 0, none⟩))) (f4.eval (.tmp 5)) w4 := f_at (A.old 5 rfl) (Fk.mono _ _ _ _ x5 hb)
  replace x7 : Fk.f (.hs (S)) (f4.eval (.tmp 7)) w4 := f_at (A.old 7 rfl) (Fk.mono _ _ _ _ x7 hb)
  replace x8 : Fk.f (.eq (.int .i64 0)) (f4.eval (.tmp 8)) w4 := f_at (A.old 8 rfl) (Fk.mono _ _ _ _ x8 hb)
  replace x9 : Fk.f (.eq (.pointer (some ⟨g9, 0, none⟩))) (f4.eval (.tmp 9)) w4 := f_at (A.old 9 rfl) (Fk.mono _ _ _ _ x9 hb)
  replace x10 : Fk.f (.eq (.int .i64 0)) (f4.eval (.tmp 10)) w4 := f_at (A.old 10 rfl) (Fk.mono _ _ _ _ x10 hb)
  have x29 : Fk.f (.eq (.bool false)) (f4.eval (.tmp 29)) w4 := A.has 5 29 rfl
  replace m3 := HasV.below m3 hb (HasV.lt m3)
  replace m4 := HasV.below m4 hb (HasV.lt m4)
  replace m5 := HasV.below m5 hb (HasV.lt m5)
  replace m9 := HasV.below m9 hb (HasV.lt m9)
  replace tb := tb.below hb
  replace bl := bl.trans (Below.mono hb bl.size)
  replace sz := A.size.trans sz
  replace df := A.defs.trans df
  clear A hb
  show Code.wp _ _ _ _ _
  refine wp_cond_false x29 ?_
  refine wp_skip ?_
  show Code.wp _ _ _ _ _
  clear x29
  refine wp_seq ?_
  refine wp_region_seq [.eq (.agg ((xo).map V).toArray), .hs (S), .eq (.tuple #[.agg ((q).map V).toArray, .int .i64 0]), .eq (.tuple #[.agg ((q).map V).toArray, .int .i64 0]), .eq (.agg ((q).map V).toArray), .eq (.int .i64 0), .pn w4.heap.size hz] (by kernel_rfl) (by kernel_rfl) (by rw [sz]; kernel_rfl) (by kernel_rfl) ⟨fun hw ac w' K => ?_, fun hw ac w' K => ?_, fun hw ac w' K => ?_, fun hw ac w' K => ?_, fun hw ac w' K => ?_, fun hw ac w' K => ?_, fun hw ac w' K => ?_, trivial⟩ ?_
  · exact st_load23 (.tmp 5) rfl _ (xo) ((K.old 5 rfl).trans x5) ho (HasV.below m5 K.grow (HasV.lt m5))
  · exact st_move (.tmp 7) rfl (f_at (K.old 7 rfl) (Fk.mono _ _ _ _ x7 K.grow))
  · exact st_call 15 (.func 15) _ _ #[.agg ((xo).map V).toArray, ac.eval (.tmp 32)] rfl rfl (arg2 (K.dep 0 31 rfl) rfl) Tryd.enter15 (fk_recover_ok ho hSl (tb.below K.grow) (K.dep 1 32 rfl) eq)
  · exact st_move (.tmp 33) rfl (K.dep 2 33 rfl)
  · exact st_ext0 (.tmp 30) rfl (K.dep 3 30 rfl) rfl
  · exact st_ext1 (.tmp 30) rfl (K.dep 3 30 rfl) rfl
  · exact st_alloc23 rfl _ K.grow.size
  intro f5 w5 A hb
  obtain ⟨g11, hg11, e11, m11⟩ := A.has 6 11 rfl
  refine wl_store rfl (.tmp 11) (.tmp 34) rfl rfl g11 (q) hz e11 (A.has 4 34 rfl) m11 hz_len hql ?_
  replace hb := Below.trans hb (below_setRow _ _ _ ((q).map V).toArray hg11)
  replace m11 : HasV (w5.setRow g11 ((q).map V).toArray) g11 23 (q) := HasV.setRow m11
  generalize w5.setRow g11 ((q).map V).toArray = w5b at hb m11 ⊢
  replace x3 : Fk.f (.eq (.pointer (some ⟨g3, 0, none⟩))) (f5.eval (.tmp 3)) w5b := f_at (A.old 3 rfl) (Fk.mono _ _ _ _ x3 hb)
  replace x4 : Fk.f (.eq (.pointer (some ⟨g4, 0, none⟩))) (f5.eval (.tmp 4)) w5b := f_at (A.old 4 rfl) (Fk.mono _ _ _ _ x4 hb)
  replace x5 : Fk.f (.eq (.pointer (some ⟨g5, 0, none⟩))) (f5.eval (.tmp 5)) w5b := f_at (A.old 5 rfl) (Fk.mono _ _ _ _ x5 hb)
  replace x7 : Fk.f (.hs (S)) (f5.eval (.tmp 7)) w5b := f_at (A.old 7 rfl) (Fk.mono _ _ _ _ x7 hb)
  replace x8 : Fk.f (.eq (.int .i64 0)) (f5.eval (.tmp 8)) w5b := f_at (A.old 8 rfl) (Fk.mono _ _ _ _ x8 hb)
  replace x9 : Fk.f (.eq (.pointer (some ⟨g9, 0, none⟩))) (f5.eval (.tmp 9)) w5b := f_at (A.old 9 rfl) (Fk.mono _ _ _ _ x9 hb)
  replace x10 : Fk.f (.eq (.int .i64 0)) (f5.eval (.tmp 10)) w5b := f_at (A.old 10 rfl) (Fk.mono _ _ _ _ x10 hb)
  have x11 : Fk.f (.eq (.pointer (some ⟨g11, 0, none⟩))) (f5.eval (.tmp 11)) w5b := e11
  have x35 : Fk.f (.eq (.int .i64 0)) (f5.eval (.tmp 35)) w5b := A.has 5 35 rfl
  replace m3 := HasV.below m3 hb (HasV.lt m3)
  replace m4 := HasV.below m4 hb (HasV.lt m4)
  replace m5 := HasV.below m5 hb (HasV.lt m5)
  replace m9 := HasV.below m9 hb (HasV.lt m9)
  replace tb := tb.below hb
  replace bl := bl.trans (Below.mono hb bl.size)
  replace sz := A.size.trans sz
  replace df := A.defs.trans df
  clear A hb
  refine wl_assign rfl (.tmp 35) rfl 12 rfl (by rw [sz]; decide) ?_
  intro f6 df2 sz2 old2 new2
  have nx12 : Fk.f (.eq (.int .i64 0)) (f6.eval (.tmp 12)) w5b := f_at new2 x35
  replace x3 : Fk.f (.eq (.pointer (some ⟨g3, 0, none⟩))) (f6.eval (.tmp 3)) w5b := f_at (old2 3 rfl) x3
  replace x4 : Fk.f (.eq (.pointer (some ⟨g4, 0, none⟩))) (f6.eval (.tmp 4)) w5b := f_at (old2 4 rfl) x4
  replace x5 : Fk.f (.eq (.pointer (some ⟨g5, 0, none⟩))) (f6.eval (.tmp 5)) w5b := f_at (old2 5 rfl) x5
  replace x7 : Fk.f (.hs (S)) (f6.eval (.tmp 7)) w5b := f_at (old2 7 rfl) x7
  replace x8 : Fk.f (.eq (.int .i64 0)) (f6.eval (.tmp 8)) w5b := f_at (old2 8 rfl) x8
  replace x9 : Fk.f (.eq (.pointer (some ⟨g9, 0, none⟩))) (f6.eval (.tmp 9)) w5b := f_at (old2 9 rfl) x9
  replace x10 : Fk.f (.eq (.int .i64 0)) (f6.eval (.tmp 10)) w5b := f_at (old2 10 rfl) x10
  replace x11 : Fk.f (.eq (.pointer (some ⟨g11, 0, none⟩))) (f6.eval (.tmp 11)) w5b := f_at (old2 11 rfl) x11
  replace x35 : Fk.f (.eq (.int .i64 0)) (f6.eval (.tmp 35)) w5b := f_at (old2 35 rfl) x35
  have x12 := nx12
  replace sz := sz2.trans sz
  replace df := df2.trans df
  clear df2 sz2 old2 new2 nx12
  refine wpList_nil ?_
  clear x35
  show Code.wp _ _ _ _ _
  refine wp_seq ?_
  refine wp_seq ?_
  by_cases hab : xh = xo
  · have hqp : q = p := by rw [← eq.out, ← ep2.out, hab]
    refine wp_all_seq [.eq (.int .i64 0), .eq (.bool false), .eq (.bool false), .eq (.agg ((xh).map V).toArray), .eq (.agg ((xo).map V).toArray), .eq (.bool true), .eq (.bool true), .eq (.bool true), .any, .any, .any, .eq (.bool true)] (by kernel_rfl) (by kernel_rfl) (by rw [sz]; kernel_rfl) (by kernel_rfl) ⟨fun hw ac w' K => ?_, fun hw ac w' K => ?_, fun hw ac w' K => ?_, fun hw ac w' K => ?_, fun hw ac w' K => ?_, fun hw ac w' K => ?_, fun hw ac w' K => ?_, fun hw ac w' K => ?_, fun hw ac w' K => ?_, fun hw ac w' K => ?_, fun hw ac w' K => ?_, fun hw ac w' K => ?_, trivial⟩ ?_
    · exact st_move (.tmp 12) rfl ((K.old 12 rfl).trans x12)
    · exact st_neqi 29 (.tmp 36) (.const (.int .i64 0)) rfl .i64 (0) (0) (K.dep 0 36 rfl) rfl _ (by rfl)
    · exact st_move (.tmp 37) rfl (K.dep 1 37 rfl)
    · exact st_load23 (.tmp 4) rfl _ (xh) ((K.old 4 rfl).trans x4) hh (HasV.below m4 K.grow (HasV.lt m4))
    · exact st_load23 (.tmp 5) rfl _ (xo) ((K.old 5 rfl).trans x5) ho (HasV.below m5 K.grow (HasV.lt m5))
    · exact st_eqh (.tmp 39) (.tmp 40) rfl (xh) (xo) hh ho (K.dep 3 39 rfl) (K.dep 4 40 rfl) _ (by simp [hab])
    · exact st_pick_f (.tmp 38) (.const (.bool true)) (.tmp 41) rfl (K.dep 2 38 rfl) (K.dep 5 41 rfl)
    · exact st_move (.tmp 42) rfl (K.dep 6 42 rfl)
    · exact (Bool.false_ne_true hw).elim
    · exact (Bool.false_ne_true hw).elim
    · exact (Bool.false_ne_true hw).elim
    · exact st_pick_t (.tmp 43) (.const (.bool true)) (.tmp 46) rfl (K.dep 7 43 rfl) rfl
    intro f7 w7 A hb
    replace x3 : Fk.f (.eq (.pointer (some ⟨g3, 0, none⟩))) (f7.eval (.tmp 3)) w7 := f_at (A.old 3 rfl) (Fk.mono _ _ _ _ x3 hb)
    replace x4 : Fk.f (.eq (.pointer (some ⟨g4, 0, none⟩))) (f7.eval (.tmp 4)) w7 := f_at (A.old 4 rfl) (Fk.mono _ _ _ _ x4 hb)
    replace x5 : Fk.f (.eq (.pointer (some ⟨g5, 0, none⟩))) (f7.eval (.tmp 5)) w7 := f_at (A.old 5 rfl) (Fk.mono _ _ _ _ x5 hb)
    replace x7 : Fk.f (.hs (S)) (f7.eval (.tmp 7)) w7 := f_at (A.old 7 rfl) (Fk.mono _ _ _ _ x7 hb)
    replace x8 : Fk.f (.eq (.int .i64 0)) (f7.eval (.tmp 8)) w7 := f_at (A.old 8 rfl) (Fk.mono _ _ _ _ x8 hb)
    replace x9 : Fk.f (.eq (.pointer (some ⟨g9, 0, none⟩))) (f7.eval (.tmp 9)) w7 := f_at (A.old 9 rfl) (Fk.mono _ _ _ _ x9 hb)
    replace x10 : Fk.f (.eq (.int .i64 0)) (f7.eval (.tmp 10)) w7 := f_at (A.old 10 rfl) (Fk.mono _ _ _ _ x10 hb)
    replace x11 : Fk.f (.eq (.pointer (some ⟨g11, 0, none⟩))) (f7.eval (.tmp 11)) w7 := f_at (A.old 11 rfl) (Fk.mono _ _ _ _ x11 hb)
    replace x12 : Fk.f (.eq (.int .i64 0)) (f7.eval (.tmp 12)) w7 := f_at (A.old 12 rfl) (Fk.mono _ _ _ _ x12 hb)
    have x47 : Fk.f (.eq (.bool true)) (f7.eval (.tmp 47)) w7 := A.has 11 47 rfl
    replace m3 := HasV.below m3 hb (HasV.lt m3)
    replace m4 := HasV.below m4 hb (HasV.lt m4)
    replace m5 := HasV.below m5 hb (HasV.lt m5)
    replace m9 := HasV.below m9 hb (HasV.lt m9)
    replace m11 := HasV.below m11 hb (HasV.lt m11)
    replace tb := tb.below hb
    replace bl := bl.trans (Below.mono hb bl.size)
    replace sz := A.size.trans sz
    replace df := A.defs.trans df
    clear A hb
    show Code.wp _ _ _ _ _
    refine wp_cond_true x47 ?_
    refine wp_seq ?_
    refine wp_all_seq [.eq (.int .i64 0), .eq (.bool true), .eq (.bool true), .eq (.agg ((xh).map V).toArray), .eq (.agg ((xo).map V).toArray), .eq (.bool false), .eq (.bool false), .eq (.agg ((q).map V).toArray), .eq (.agg ((p).map V).toArray), .eq (.bool true), .eq (.bool true), .eq (.bool true), .eq (.bool true), .eq (.bool true), .eq (.bool true), .eq (.bool true)] (by kernel_rfl) (by kernel_rfl) (by rw [sz]; kernel_rfl) (by kernel_rfl) ⟨fun hw ac w' K => ?_, fun hw ac w' K => ?_, fun hw ac w' K => ?_, fun hw ac w' K => ?_, fun hw ac w' K => ?_, fun hw ac w' K => ?_, fun hw ac w' K => ?_, fun hw ac w' K => ?_, fun hw ac w' K => ?_, fun hw ac w' K => ?_, fun hw ac w' K => ?_, fun hw ac w' K => ?_, fun hw ac w' K => ?_, fun hw ac w' K => ?_, fun hw ac w' K => ?_, fun hw ac w' K => ?_, trivial⟩ ?_
    · exact st_move (.tmp 12) rfl ((K.old 12 rfl).trans x12)
    · exact st_eqi 29 (.tmp 48) (.const (.int .i64 0)) rfl .i64 (0) (0) (K.dep 0 48 rfl) rfl _ (by rfl)
    · exact st_move (.tmp 49) rfl (K.dep 1 49 rfl)
    · exact st_load23 (.tmp 4) rfl _ (xh) ((K.old 4 rfl).trans x4) hh (HasV.below m4 K.grow (HasV.lt m4))
    · exact st_load23 (.tmp 5) rfl _ (xo) ((K.old 5 rfl).trans x5) ho (HasV.below m5 K.grow (HasV.lt m5))
    · exact st_neqh (.tmp 51) (.tmp 52) rfl (xh) (xo) hh ho (K.dep 3 51 rfl) (K.dep 4 52 rfl) _ (by simp [hab])
    · exact st_move (.tmp 53) rfl (K.dep 5 53 rfl)
    · exact st_load23 (.tmp 11) rfl _ (q) ((K.old 11 rfl).trans x11) hql (HasV.below m11 K.grow (HasV.lt m11))
    · exact st_load23 (.tmp 9) rfl _ (p) ((K.old 9 rfl).trans x9) hpl (HasV.below m9 K.grow (HasV.lt m9))
    · exact st_eqh (.tmp 55) (.tmp 56) rfl (q) (p) hql hpl (K.dep 7 55 rfl) (K.dep 8 56 rfl) _ (by simp [hqp])
    · exact st_pick_f (.tmp 54) (.const (.bool true)) (.tmp 57) rfl (K.dep 6 54 rfl) (K.dep 9 57 rfl)
    · exact st_pick_t (.tmp 50) (.tmp 58) (.const (.bool false)) rfl (K.dep 2 50 rfl) (K.dep 10 58 rfl)
    · exact st_move (.tmp 59) rfl (K.dep 11 59 rfl)
    · exact st_call 10 (.func 10) _ _ #[] rfl rfl rfl Tryd.enter10 (fk_of (awake_any _ (tb.below K.grow)))
    · exact st_pick_t (.tmp 60) (.tmp 61) (.const (.bool false)) rfl (K.dep 12 60 rfl) (K.dep 13 61 rfl)
    · exact st_assign (.tmp 62) rfl (K.dep 14 62 rfl)
    intro f8 w8 A hb
    replace x3 : Fk.f (.eq (.pointer (some ⟨g3, 0, none⟩))) (f8.eval (.tmp 3)) w8 := f_at (A.old 3 rfl) (Fk.mono _ _ _ _ x3 hb)
    replace x4 : Fk.f (.eq (.pointer (some ⟨g4, 0, none⟩))) (f8.eval (.tmp 4)) w8 := f_at (A.old 4 rfl) (Fk.mono _ _ _ _ x4 hb)
    replace x5 : Fk.f (.eq (.pointer (some ⟨g5, 0, none⟩))) (f8.eval (.tmp 5)) w8 := f_at (A.old 5 rfl) (Fk.mono _ _ _ _ x5 hb)
    replace x7 : Fk.f (.hs (S)) (f8.eval (.tmp 7)) w8 := f_at (A.old 7 rfl) (Fk.mono _ _ _ _ x7 hb)
    replace x8 : Fk.f (.eq (.int .i64 0)) (f8.eval (.tmp 8)) w8 := f_at (A.old 8 rfl) (Fk.mono _ _ _ _ x8 hb)
    replace x9 : Fk.f (.eq (.pointer (some ⟨g9, 0, none⟩))) (f8.eval (.tmp 9)) w8 := f_at (A.old 9 rfl) (Fk.mono _ _ _ _ x9 hb)
    replace x10 : Fk.f (.eq (.int .i64 0)) (f8.eval (.tmp 10)) w8 := f_at (A.old 10 rfl) (Fk.mono _ _ _ _ x10 hb)
    replace x11 : Fk.f (.eq (.pointer (some ⟨g11, 0, none⟩))) (f8.eval (.tmp 11)) w8 := f_at (A.old 11 rfl) (Fk.mono _ _ _ _ x11 hb)
    replace x12 : Fk.f (.eq (.int .i64 0)) (f8.eval (.tmp 12)) w8 := f_at (A.old 12 rfl) (Fk.mono _ _ _ _ x12 hb)
    replace x47 : Fk.f (.eq (.bool true)) (f8.eval (.tmp 47)) w8 := f_at (A.old 47 rfl) (Fk.mono _ _ _ _ x47 hb)
    have x6 : Fk.f (.eq (.bool true)) (f8.eval (.tmp 6)) w8 := A.has 15 6 rfl
    replace m3 := HasV.below m3 hb (HasV.lt m3)
    replace m4 := HasV.below m4 hb (HasV.lt m4)
    replace m5 := HasV.below m5 hb (HasV.lt m5)
    replace m9 := HasV.below m9 hb (HasV.lt m9)
    replace m11 := HasV.below m11 hb (HasV.lt m11)
    replace tb := tb.below hb
    replace bl := bl.trans (Below.mono hb bl.size)
    replace sz := A.size.trans sz
    replace df := A.defs.trans df
    clear A hb
    show Code.wp _ _ _ _ _
    refine wp_ret ?_
    repeat (first | with_reducible refine then_ret ?_ | with_reducible refine block_ret ?_)
    exact bodyPost_ret (v := .bool true) (ret_slot rfl f8 _ x6 _ _) df ⟨rfl, bl⟩
  · by_cases hqp : q = p
    · refine wp_all_seq [.eq (.int .i64 0), .eq (.bool false), .eq (.bool false), .eq (.agg ((xh).map V).toArray), .eq (.agg ((xo).map V).toArray), .eq (.bool false), .eq (.bool false), .eq (.bool false), .eq (.agg ((q).map V).toArray), .eq (.agg ((p).map V).toArray), .eq (.bool false), .eq (.bool false)] (by kernel_rfl) (by kernel_rfl) (by rw [sz]; kernel_rfl) (by kernel_rfl) ⟨fun hw ac w' K => ?_, fun hw ac w' K => ?_, fun hw ac w' K => ?_, fun hw ac w' K => ?_, fun hw ac w' K => ?_, fun hw ac w' K => ?_, fun hw ac w' K => ?_, fun hw ac w' K => ?_, fun hw ac w' K => ?_, fun hw ac w' K => ?_, fun hw ac w' K => ?_, fun hw ac w' K => ?_, trivial⟩ ?_
      · exact st_move (.tmp 12) rfl ((K.old 12 rfl).trans x12)
      · exact st_neqi 29 (.tmp 36) (.const (.int .i64 0)) rfl .i64 (0) (0) (K.dep 0 36 rfl) rfl _ (by rfl)
      · exact st_move (.tmp 37) rfl (K.dep 1 37 rfl)
      · exact st_load23 (.tmp 4) rfl _ (xh) ((K.old 4 rfl).trans x4) hh (HasV.below m4 K.grow (HasV.lt m4))
      · exact st_load23 (.tmp 5) rfl _ (xo) ((K.old 5 rfl).trans x5) ho (HasV.below m5 K.grow (HasV.lt m5))
      · exact st_eqh (.tmp 39) (.tmp 40) rfl (xh) (xo) hh ho (K.dep 3 39 rfl) (K.dep 4 40 rfl) _ (by simp [hab])
      · exact st_pick_f (.tmp 38) (.const (.bool true)) (.tmp 41) rfl (K.dep 2 38 rfl) (K.dep 5 41 rfl)
      · exact st_move (.tmp 42) rfl (K.dep 6 42 rfl)
      · exact st_load23 (.tmp 11) rfl _ (q) ((K.old 11 rfl).trans x11) hql (HasV.below m11 K.grow (HasV.lt m11))
      · exact st_load23 (.tmp 9) rfl _ (p) ((K.old 9 rfl).trans x9) hpl (HasV.below m9 K.grow (HasV.lt m9))
      · exact st_neqh (.tmp 44) (.tmp 45) rfl (q) (p) hql hpl (K.dep 8 44 rfl) (K.dep 9 45 rfl) _ (by simp [hqp])
      · exact st_pick_f (.tmp 43) (.const (.bool true)) (.tmp 46) rfl (K.dep 7 43 rfl) (K.dep 10 46 rfl)
      intro f7 w7 A hb
      replace x3 : Fk.f (.eq (.pointer (some ⟨g3, 0, none⟩))) (f7.eval (.tmp 3)) w7 := f_at (A.old 3 rfl) (Fk.mono _ _ _ _ x3 hb)
      replace x4 : Fk.f (.eq (.pointer (some ⟨g4, 0, none⟩))) (f7.eval (.tmp 4)) w7 := f_at (A.old 4 rfl) (Fk.mono _ _ _ _ x4 hb)
      replace x5 : Fk.f (.eq (.pointer (some ⟨g5, 0, none⟩))) (f7.eval (.tmp 5)) w7 := f_at (A.old 5 rfl) (Fk.mono _ _ _ _ x5 hb)
      replace x7 : Fk.f (.hs (S)) (f7.eval (.tmp 7)) w7 := f_at (A.old 7 rfl) (Fk.mono _ _ _ _ x7 hb)
      replace x8 : Fk.f (.eq (.int .i64 0)) (f7.eval (.tmp 8)) w7 := f_at (A.old 8 rfl) (Fk.mono _ _ _ _ x8 hb)
      replace x9 : Fk.f (.eq (.pointer (some ⟨g9, 0, none⟩))) (f7.eval (.tmp 9)) w7 := f_at (A.old 9 rfl) (Fk.mono _ _ _ _ x9 hb)
      replace x10 : Fk.f (.eq (.int .i64 0)) (f7.eval (.tmp 10)) w7 := f_at (A.old 10 rfl) (Fk.mono _ _ _ _ x10 hb)
      replace x11 : Fk.f (.eq (.pointer (some ⟨g11, 0, none⟩))) (f7.eval (.tmp 11)) w7 := f_at (A.old 11 rfl) (Fk.mono _ _ _ _ x11 hb)
      replace x12 : Fk.f (.eq (.int .i64 0)) (f7.eval (.tmp 12)) w7 := f_at (A.old 12 rfl) (Fk.mono _ _ _ _ x12 hb)
      have x47 : Fk.f (.eq (.bool false)) (f7.eval (.tmp 47)) w7 := A.has 11 47 rfl
      replace m3 := HasV.below m3 hb (HasV.lt m3)
      replace m4 := HasV.below m4 hb (HasV.lt m4)
      replace m5 := HasV.below m5 hb (HasV.lt m5)
      replace m9 := HasV.below m9 hb (HasV.lt m9)
      replace m11 := HasV.below m11 hb (HasV.lt m11)
      replace tb := tb.below hb
      replace bl := bl.trans (Below.mono hb bl.size)
      replace sz := A.size.trans sz
      replace df := A.defs.trans df
      clear A hb
      show Code.wp _ _ _ _ _
      refine wp_cond_false x47 ?_
      refine wp_skip ?_
      show Code.wp _ _ _ _ _
      refine wp_seq ?_
      clear x47
      refine wp_all_seq [.eq (.agg ((xh).map V).toArray), .eq (.agg ((xo).map V).toArray), .hs (S), .eq (.bool true), .eq (.bool true), .eq (.bool true), .eq (.bool true), .eq (.bool true)] (by kernel_rfl) (by kernel_rfl) (by rw [sz]; kernel_rfl) (by kernel_rfl) ⟨fun hw ac w' K => ?_, fun hw ac w' K => ?_, fun hw ac w' K => ?_, fun hw ac w' K => ?_, fun hw ac w' K => ?_, fun hw ac w' K => ?_, fun hw ac w' K => ?_, fun hw ac w' K => ?_, trivial⟩ ?_
      · exact st_load23 (.tmp 4) rfl _ (xh) ((K.old 4 rfl).trans x4) hh (HasV.below m4 K.grow (HasV.lt m4))
      · exact st_load23 (.tmp 5) rfl _ (xo) ((K.old 5 rfl).trans x5) ho (HasV.below m5 K.grow (HasV.lt m5))
      · exact st_move (.tmp 7) rfl (f_at (K.old 7 rfl) (Fk.mono _ _ _ _ x7 K.grow))
      · exact st_call 18 (.func 18) _ _ #[.agg ((xh).map V).toArray, .agg ((xo).map V).toArray, ac.eval (.tmp 65)] rfl rfl (arg3 (K.dep 0 63 rfl) (K.dep 1 64 rfl) rfl) Tryd.enter18 (fk_collides hh ho hSl hpl (tb.below K.grow) (K.dep 2 65 rfl) ep2 (by rw [← hqp]; exact eq))
      · exact st_move (.tmp 66) rfl (K.dep 3 66 rfl)
      · exact st_call 10 (.func 10) _ _ #[] rfl rfl rfl Tryd.enter10 (fk_of (awake_any _ (tb.below K.grow)))
      · exact st_pick_t (.tmp 67) (.tmp 68) (.const (.bool false)) rfl (K.dep 4 67 rfl) (K.dep 5 68 rfl)
      · exact st_assign (.tmp 69) rfl (K.dep 6 69 rfl)
      intro f8 w8 A hb
      replace x3 : Fk.f (.eq (.pointer (some ⟨g3, 0, none⟩))) (f8.eval (.tmp 3)) w8 := f_at (A.old 3 rfl) (Fk.mono _ _ _ _ x3 hb)
      replace x4 : Fk.f (.eq (.pointer (some ⟨g4, 0, none⟩))) (f8.eval (.tmp 4)) w8 := f_at (A.old 4 rfl) (Fk.mono _ _ _ _ x4 hb)
      replace x5 : Fk.f (.eq (.pointer (some ⟨g5, 0, none⟩))) (f8.eval (.tmp 5)) w8 := f_at (A.old 5 rfl) (Fk.mono _ _ _ _ x5 hb)
      replace x7 : Fk.f (.hs (S)) (f8.eval (.tmp 7)) w8 := f_at (A.old 7 rfl) (Fk.mono _ _ _ _ x7 hb)
      replace x8 : Fk.f (.eq (.int .i64 0)) (f8.eval (.tmp 8)) w8 := f_at (A.old 8 rfl) (Fk.mono _ _ _ _ x8 hb)
      replace x9 : Fk.f (.eq (.pointer (some ⟨g9, 0, none⟩))) (f8.eval (.tmp 9)) w8 := f_at (A.old 9 rfl) (Fk.mono _ _ _ _ x9 hb)
      replace x10 : Fk.f (.eq (.int .i64 0)) (f8.eval (.tmp 10)) w8 := f_at (A.old 10 rfl) (Fk.mono _ _ _ _ x10 hb)
      replace x11 : Fk.f (.eq (.pointer (some ⟨g11, 0, none⟩))) (f8.eval (.tmp 11)) w8 := f_at (A.old 11 rfl) (Fk.mono _ _ _ _ x11 hb)
      replace x12 : Fk.f (.eq (.int .i64 0)) (f8.eval (.tmp 12)) w8 := f_at (A.old 12 rfl) (Fk.mono _ _ _ _ x12 hb)
      have x6 : Fk.f (.eq (.bool true)) (f8.eval (.tmp 6)) w8 := A.has 7 6 rfl
      replace m3 := HasV.below m3 hb (HasV.lt m3)
      replace m4 := HasV.below m4 hb (HasV.lt m4)
      replace m5 := HasV.below m5 hb (HasV.lt m5)
      replace m9 := HasV.below m9 hb (HasV.lt m9)
      replace m11 := HasV.below m11 hb (HasV.lt m11)
      replace tb := tb.below hb
      replace bl := bl.trans (Below.mono hb bl.size)
      replace sz := A.size.trans sz
      replace df := A.defs.trans df
      clear A hb
      show Code.wp _ _ _ _ _
      refine wp_ret ?_
      repeat (first | with_reducible refine then_ret ?_ | with_reducible refine block_ret ?_)
      exact bodyPost_ret (v := .bool true) (ret_slot rfl f8 _ x6 _ _) df ⟨rfl, bl⟩
    · refine wp_all_seq [.eq (.int .i64 0), .eq (.bool false), .eq (.bool false), .eq (.agg ((xh).map V).toArray), .eq (.agg ((xo).map V).toArray), .eq (.bool false), .eq (.bool false), .eq (.bool false), .eq (.agg ((q).map V).toArray), .eq (.agg ((p).map V).toArray), .eq (.bool true), .eq (.bool true)] (by kernel_rfl) (by kernel_rfl) (by rw [sz]; kernel_rfl) (by kernel_rfl) ⟨fun hw ac w' K => ?_, fun hw ac w' K => ?_, fun hw ac w' K => ?_, fun hw ac w' K => ?_, fun hw ac w' K => ?_, fun hw ac w' K => ?_, fun hw ac w' K => ?_, fun hw ac w' K => ?_, fun hw ac w' K => ?_, fun hw ac w' K => ?_, fun hw ac w' K => ?_, fun hw ac w' K => ?_, trivial⟩ ?_
      · exact st_move (.tmp 12) rfl ((K.old 12 rfl).trans x12)
      · exact st_neqi 29 (.tmp 36) (.const (.int .i64 0)) rfl .i64 (0) (0) (K.dep 0 36 rfl) rfl _ (by rfl)
      · exact st_move (.tmp 37) rfl (K.dep 1 37 rfl)
      · exact st_load23 (.tmp 4) rfl _ (xh) ((K.old 4 rfl).trans x4) hh (HasV.below m4 K.grow (HasV.lt m4))
      · exact st_load23 (.tmp 5) rfl _ (xo) ((K.old 5 rfl).trans x5) ho (HasV.below m5 K.grow (HasV.lt m5))
      · exact st_eqh (.tmp 39) (.tmp 40) rfl (xh) (xo) hh ho (K.dep 3 39 rfl) (K.dep 4 40 rfl) _ (by simp [hab])
      · exact st_pick_f (.tmp 38) (.const (.bool true)) (.tmp 41) rfl (K.dep 2 38 rfl) (K.dep 5 41 rfl)
      · exact st_move (.tmp 42) rfl (K.dep 6 42 rfl)
      · exact st_load23 (.tmp 11) rfl _ (q) ((K.old 11 rfl).trans x11) hql (HasV.below m11 K.grow (HasV.lt m11))
      · exact st_load23 (.tmp 9) rfl _ (p) ((K.old 9 rfl).trans x9) hpl (HasV.below m9 K.grow (HasV.lt m9))
      · exact st_neqh (.tmp 44) (.tmp 45) rfl (q) (p) hql hpl (K.dep 8 44 rfl) (K.dep 9 45 rfl) _ (by simp [hqp])
      · exact st_pick_f (.tmp 43) (.const (.bool true)) (.tmp 46) rfl (K.dep 7 43 rfl) (K.dep 10 46 rfl)
      intro f7 w7 A hb
      replace x3 : Fk.f (.eq (.pointer (some ⟨g3, 0, none⟩))) (f7.eval (.tmp 3)) w7 := f_at (A.old 3 rfl) (Fk.mono _ _ _ _ x3 hb)
      replace x4 : Fk.f (.eq (.pointer (some ⟨g4, 0, none⟩))) (f7.eval (.tmp 4)) w7 := f_at (A.old 4 rfl) (Fk.mono _ _ _ _ x4 hb)
      replace x5 : Fk.f (.eq (.pointer (some ⟨g5, 0, none⟩))) (f7.eval (.tmp 5)) w7 := f_at (A.old 5 rfl) (Fk.mono _ _ _ _ x5 hb)
      replace x7 : Fk.f (.hs (S)) (f7.eval (.tmp 7)) w7 := f_at (A.old 7 rfl) (Fk.mono _ _ _ _ x7 hb)
      replace x8 : Fk.f (.eq (.int .i64 0)) (f7.eval (.tmp 8)) w7 := f_at (A.old 8 rfl) (Fk.mono _ _ _ _ x8 hb)
      replace x9 : Fk.f (.eq (.pointer (some ⟨g9, 0, none⟩))) (f7.eval (.tmp 9)) w7 := f_at (A.old 9 rfl) (Fk.mono _ _ _ _ x9 hb)
      replace x10 : Fk.f (.eq (.int .i64 0)) (f7.eval (.tmp 10)) w7 := f_at (A.old 10 rfl) (Fk.mono _ _ _ _ x10 hb)
      replace x11 : Fk.f (.eq (.pointer (some ⟨g11, 0, none⟩))) (f7.eval (.tmp 11)) w7 := f_at (A.old 11 rfl) (Fk.mono _ _ _ _ x11 hb)
      replace x12 : Fk.f (.eq (.int .i64 0)) (f7.eval (.tmp 12)) w7 := f_at (A.old 12 rfl) (Fk.mono _ _ _ _ x12 hb)
      have x47 : Fk.f (.eq (.bool true)) (f7.eval (.tmp 47)) w7 := A.has 11 47 rfl
      replace m3 := HasV.below m3 hb (HasV.lt m3)
      replace m4 := HasV.below m4 hb (HasV.lt m4)
      replace m5 := HasV.below m5 hb (HasV.lt m5)
      replace m9 := HasV.below m9 hb (HasV.lt m9)
      replace m11 := HasV.below m11 hb (HasV.lt m11)
      replace tb := tb.below hb
      replace bl := bl.trans (Below.mono hb bl.size)
      replace sz := A.size.trans sz
      replace df := A.defs.trans df
      clear A hb
      show Code.wp _ _ _ _ _
      refine wp_cond_true x47 ?_
      refine wp_seq ?_
      refine wp_all_seq [.eq (.int .i64 0), .eq (.bool true), .eq (.bool true), .eq (.agg ((xh).map V).toArray), .eq (.agg ((xo).map V).toArray), .eq (.bool true), .eq (.bool true), .any, .any, .any, .eq (.bool true), .eq (.bool true), .eq (.bool true), .eq (.bool true), .eq (.bool true), .eq (.bool true)] (by kernel_rfl) (by kernel_rfl) (by rw [sz]; kernel_rfl) (by kernel_rfl) ⟨fun hw ac w' K => ?_, fun hw ac w' K => ?_, fun hw ac w' K => ?_, fun hw ac w' K => ?_, fun hw ac w' K => ?_, fun hw ac w' K => ?_, fun hw ac w' K => ?_, fun hw ac w' K => ?_, fun hw ac w' K => ?_, fun hw ac w' K => ?_, fun hw ac w' K => ?_, fun hw ac w' K => ?_, fun hw ac w' K => ?_, fun hw ac w' K => ?_, fun hw ac w' K => ?_, fun hw ac w' K => ?_, trivial⟩ ?_
      · exact st_move (.tmp 12) rfl ((K.old 12 rfl).trans x12)
      · exact st_eqi 29 (.tmp 48) (.const (.int .i64 0)) rfl .i64 (0) (0) (K.dep 0 48 rfl) rfl _ (by rfl)
      · exact st_move (.tmp 49) rfl (K.dep 1 49 rfl)
      · exact st_load23 (.tmp 4) rfl _ (xh) ((K.old 4 rfl).trans x4) hh (HasV.below m4 K.grow (HasV.lt m4))
      · exact st_load23 (.tmp 5) rfl _ (xo) ((K.old 5 rfl).trans x5) ho (HasV.below m5 K.grow (HasV.lt m5))
      · exact st_neqh (.tmp 51) (.tmp 52) rfl (xh) (xo) hh ho (K.dep 3 51 rfl) (K.dep 4 52 rfl) _ (by simp [hab])
      · exact st_move (.tmp 53) rfl (K.dep 5 53 rfl)
      · exact (Bool.false_ne_true hw).elim
      · exact (Bool.false_ne_true hw).elim
      · exact (Bool.false_ne_true hw).elim
      · exact st_pick_t (.tmp 54) (.const (.bool true)) (.tmp 57) rfl (K.dep 6 54 rfl) rfl
      · exact st_pick_t (.tmp 50) (.tmp 58) (.const (.bool false)) rfl (K.dep 2 50 rfl) (K.dep 10 58 rfl)
      · exact st_move (.tmp 59) rfl (K.dep 11 59 rfl)
      · exact st_call 10 (.func 10) _ _ #[] rfl rfl rfl Tryd.enter10 (fk_of (awake_any _ (tb.below K.grow)))
      · exact st_pick_t (.tmp 60) (.tmp 61) (.const (.bool false)) rfl (K.dep 12 60 rfl) (K.dep 13 61 rfl)
      · exact st_assign (.tmp 62) rfl (K.dep 14 62 rfl)
      intro f8 w8 A hb
      replace x3 : Fk.f (.eq (.pointer (some ⟨g3, 0, none⟩))) (f8.eval (.tmp 3)) w8 := f_at (A.old 3 rfl) (Fk.mono _ _ _ _ x3 hb)
      replace x4 : Fk.f (.eq (.pointer (some ⟨g4, 0, none⟩))) (f8.eval (.tmp 4)) w8 := f_at (A.old 4 rfl) (Fk.mono _ _ _ _ x4 hb)
      replace x5 : Fk.f (.eq (.pointer (some ⟨g5, 0, none⟩))) (f8.eval (.tmp 5)) w8 := f_at (A.old 5 rfl) (Fk.mono _ _ _ _ x5 hb)
      replace x7 : Fk.f (.hs (S)) (f8.eval (.tmp 7)) w8 := f_at (A.old 7 rfl) (Fk.mono _ _ _ _ x7 hb)
      replace x8 : Fk.f (.eq (.int .i64 0)) (f8.eval (.tmp 8)) w8 := f_at (A.old 8 rfl) (Fk.mono _ _ _ _ x8 hb)
      replace x9 : Fk.f (.eq (.pointer (some ⟨g9, 0, none⟩))) (f8.eval (.tmp 9)) w8 := f_at (A.old 9 rfl) (Fk.mono _ _ _ _ x9 hb)
      replace x10 : Fk.f (.eq (.int .i64 0)) (f8.eval (.tmp 10)) w8 := f_at (A.old 10 rfl) (Fk.mono _ _ _ _ x10 hb)
      replace x11 : Fk.f (.eq (.pointer (some ⟨g11, 0, none⟩))) (f8.eval (.tmp 11)) w8 := f_at (A.old 11 rfl) (Fk.mono _ _ _ _ x11 hb)
      replace x12 : Fk.f (.eq (.int .i64 0)) (f8.eval (.tmp 12)) w8 := f_at (A.old 12 rfl) (Fk.mono _ _ _ _ x12 hb)
      replace x47 : Fk.f (.eq (.bool true)) (f8.eval (.tmp 47)) w8 := f_at (A.old 47 rfl) (Fk.mono _ _ _ _ x47 hb)
      have x6 : Fk.f (.eq (.bool true)) (f8.eval (.tmp 6)) w8 := A.has 15 6 rfl
      replace m3 := HasV.below m3 hb (HasV.lt m3)
      replace m4 := HasV.below m4 hb (HasV.lt m4)
      replace m5 := HasV.below m5 hb (HasV.lt m5)
      replace m9 := HasV.below m9 hb (HasV.lt m9)
      replace m11 := HasV.below m11 hb (HasV.lt m11)
      replace tb := tb.below hb
      replace bl := bl.trans (Below.mono hb bl.size)
      replace sz := A.size.trans sz
      replace df := A.defs.trans df
      clear A hb
      show Code.wp _ _ _ _ _
      refine wp_ret ?_
      repeat (first | with_reducible refine then_ret ?_ | with_reducible refine block_ret ?_)
      exact bodyPost_ret (v := .bool true) (ret_slot rfl f8 _ x6 _ _) df ⟨rfl, bl⟩
end Go.Proofs.YthnaomkkaodbkaaDoor
