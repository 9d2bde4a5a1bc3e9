/- Made by gen_rk.py. The walk of LamportRecovers. -/
import Derived.Test.YtfhhlkbcoofemaaDoorRh
namespace Go.Proofs.YtfhhlkbcoofemaaDoor
open Go.RowKit
set_option maxRecDepth 100000 in
set_option maxHeartbeats 1000000 in
theorem recovers_law (xs : List (BitVec 8)) (Ap : Option Addr) (n C lb lo : Nat) (S : List (List (BitVec 8))) (w : World) (hx : xs.length = 32) (hl : Hl w Ap lb lo S) (hn : n = S.length) (hK : Tab w) :
    Calls Tryd.prog 4 #[.agg (xs.map V).toArray, .slice Ap n C] w fun e w' => e = .returned (.bool true) ∧ Below w.heap.size w w' := by
  go_enter Tryd.func4, Tryd.ntmps4
  go_upto_region 1 with fail
  rename_i K1 hK1 KK hKK
  refine code_both (fun f w1 => f.tmps.size = 80 ∧ f.defers = [] ∧ Fk.f (.eq (.slice Ap n C)) (f.eval (.tmp 1)) w1 ∧ Fk.f (.eq (.pointer (some ⟨w.heap.size, 0, none⟩))) (f.eval (.tmp 2)) w1 ∧ HasV w1 w.heap.size 23 xs ∧ Below w.heap.size w w1) ?_ ?_
  · have hb := (Below.refl w.heap.size w).alloc (Nat.le_refl _) (Obj.cells (xs.map V).toArray 23)
    exact ⟨rfl, rfl, rfl, rfl, heap_alloc_new _ _, hb⟩
  rintro f0 w0 ⟨sz, df, x1, x2, m2, bl⟩
  have tb := hK.below bl
  obtain ⟨g2, hg2⟩ : ∃ g2, g2 = w.heap.size := ⟨_, rfl⟩
  rw [← hg2] at x2 m2
  have h32 : ∀ (i : Nat) (x : List (BitVec 8)), S[i]? = some x → x.length = 32 := fun i x hi => (hl.all i x hi).1
  have ZS : (Fk.hs S).f (.slice Ap n C) w := ⟨Ap, C, lb, lo, by rw [← hn], hl⟩
  clear hl
  by_cases q600 : 600 < S.length
  · refine wp_all_seq [.hs (S), .eq (.int .i64 (((S).length : Nat) : Int)), .eq (.bool true)] (by kernel_rfl) (by kernel_rfl) (by rw [sz]; kernel_rfl) (by kernel_rfl) ⟨fun hw ac w' K => ?_, fun hw ac w' K => ?_, fun hw ac w' K => ?_, trivial⟩ ?_
    · exact st_move (.tmp 1) rfl (by rw [show ac.eval (.tmp 1) = _ from (K.old 1 rfl).trans x1]; exact Fk.mono _ _ _ _ (Fk.mono _ _ _ _ ZS bl) K.grow)
    · exact st_lenh (.tmp 10) rfl (K.dep 0 10 rfl)
    · exact st_gtr 3 (.tmp 11) (.const (.int .i64 600)) rfl .i64 ((((S).length : Nat) : Int)) (600) (K.dep 1 11 rfl) rfl _ (by simp; omega)
    intro f1 w1 A hb
    replace x1 : Fk.f (.eq (.slice Ap n C)) (f1.eval (.tmp 1)) w1 := f_at (A.old 1 rfl) (Fk.mono _ _ _ _ x1 hb)
    replace x2 : Fk.f (.eq (.pointer (some ⟨g2, 0, none⟩))) (f1.eval (.tmp 2)) w1 := f_at (A.old 2 rfl) (Fk.mono _ _ _ _ x2 hb)
    have x12 : Fk.f (.eq (.bool true)) (f1.eval (.tmp 12)) w1 := A.has 2 12 rfl
    replace m2 := HasV.below m2 hb (HasV.lt m2)
    replace tb := tb.below hb
    replace bl := bl.trans (Below.mono hb bl.size)
    replace sz := A.size.trans sz
    replace df := A.defs.trans df
    clear A hb
    refine hKK _ _ ?_
    refine wp_cond_true x12 ?_
    refine wp_seq ?_
    refine wp_all_seq [.eq (.bool true), .eq (.bool true)] (by kernel_rfl) (by kernel_rfl) (by rw [sz]; kernel_rfl) (by kernel_rfl) ⟨fun hw ac w' K => ?_, fun hw ac w' K => ?_, trivial⟩ ?_
    · exact st_call 8 (.func 8) _ _ #[] rfl rfl rfl Tryd.enter8 (fk_of (awake_any _))
    · exact st_assign (.tmp 13) rfl (K.dep 0 13 rfl)
    intro f2 w2 A hb
    replace x1 : Fk.f (.eq (.slice Ap n C)) (f2.eval (.tmp 1)) w2 := f_at (A.old 1 rfl) (Fk.mono _ _ _ _ x1 hb)
    replace x2 : Fk.f (.eq (.pointer (some ⟨g2, 0, none⟩))) (f2.eval (.tmp 2)) w2 := f_at (A.old 2 rfl) (Fk.mono _ _ _ _ x2 hb)
    replace x12 : Fk.f (.eq (.bool true)) (f2.eval (.tmp 12)) w2 := f_at (A.old 12 rfl) (Fk.mono _ _ _ _ x12 hb)
    have x4 : Fk.f (.eq (.bool true)) (f2.eval (.tmp 4)) w2 := A.has 1 4 rfl
    replace m2 := HasV.below m2 hb (HasV.lt m2)
    replace tb := tb.below hb
    replace bl := bl.trans (Below.mono hb bl.size)
    replace sz := A.size.trans sz
    replace df := A.defs.trans df
    clear A hb
    show Code.wp _ _ _ _ _
    refine wp_ret (then_ret ?_)
    exact bodyPost_ret (v := .bool true) (ret_slot rfl f2 _ x4 _ _) df ⟨rfl, bl⟩
  · refine wp_all_seq [.hs (S), .eq (.int .i64 (((S).length : Nat) : Int)), .eq (.bool false)] (by kernel_rfl) (by kernel_rfl) (by rw [sz]; kernel_rfl) (by kernel_rfl) ⟨fun hw ac w' K => ?_, fun hw ac w' K => ?_, fun hw ac w' K => ?_, trivial⟩ ?_
    · exact st_move (.tmp 1) rfl (by rw [show ac.eval (.tmp 1) = _ from (K.old 1 rfl).trans x1]; exact Fk.mono _ _ _ _ (Fk.mono _ _ _ _ ZS bl) K.grow)
    · exact st_lenh (.tmp 10) rfl (K.dep 0 10 rfl)
    · exact st_gtr 3 (.tmp 11) (.const (.int .i64 600)) rfl .i64 ((((S).length : Nat) : Int)) (600) (K.dep 1 11 rfl) rfl _ (by simp; omega)
    intro f1 w1 A hb
    replace x1 : Fk.f (.eq (.slice Ap n C)) (f1.eval (.tmp 1)) w1 := f_at (A.old 1 rfl) (Fk.mono _ _ _ _ x1 hb)
    replace x2 : Fk.f (.eq (.pointer (some ⟨g2, 0, none⟩))) (f1.eval (.tmp 2)) w1 := f_at (A.old 2 rfl) (Fk.mono _ _ _ _ x2 hb)
    have x12 : Fk.f (.eq (.bool false)) (f1.eval (.tmp 12)) w1 := A.has 2 12 rfl
    replace m2 := HasV.below m2 hb (HasV.lt m2)
    replace tb := tb.below hb
    replace bl := bl.trans (Below.mono hb bl.size)
    replace sz := A.size.trans sz
    replace df := A.defs.trans df
    clear A hb
    refine hKK _ _ ?_
    refine wp_cond_false x12 ?_
    refine wp_skip ?_
    refine hK1 _ _ ?_
    refine wp_seq ?_
    clear x12
    by_cases q512 : S.length = 512
    · obtain ⟨p, ep⟩ : ∃ p, Box (pub (all512 (rcOf xs S)) = p) := ⟨_, ⟨rfl⟩⟩
      have hpl : p.length = 32 := by rw [← ep.out]; exact pub_len _
      refine wp_region_seq [.eq (.agg ((xs).map V).toArray), .hs (S), .eq (.tuple #[.agg ((p).map V).toArray, .int .i64 0]), .eq (.tuple #[.agg ((p).map V).toArray, .int .i64 0]), .eq (.agg ((p).map V).toArray), .eq (.int .i64 0), .pn w1.heap.size hz] (by kernel_rfl) (by kernel_rfl) (by rw [sz]; kernel_rfl) (by kernel_rfl) ⟨fun hw ac w' K => ?_, fun hw ac w' K => ?_, fun hw ac w' K => ?_, fun hw ac w' K => ?_, fun hw ac w' K => ?_, fun hw ac w' K => ?_, fun hw ac w' K => ?_, trivial⟩ ?_
      · exact st_load23 (.tmp 2) rfl _ (xs) ((K.old 2 rfl).trans x2) hx (HasV.below m2 K.grow (HasV.lt m2))
      · exact st_move (.tmp 1) rfl (by rw [show ac.eval (.tmp 1) = _ from (K.old 1 rfl).trans x1]; exact Fk.mono _ _ _ _ (Fk.mono _ _ _ _ ZS bl) K.grow)
      · exact st_call 13 (.func 13) _ _ #[.agg ((xs).map V).toArray, ac.eval (.tmp 16)] rfl rfl (arg2 (K.dep 0 15 rfl) rfl) Tryd.enter13 (fk_recover_ok hx q512 (tb.below K.grow) (K.dep 1 16 rfl) ep)
      · exact st_move (.tmp 17) rfl (K.dep 2 17 rfl)
      · exact st_ext0 (.tmp 14) rfl (K.dep 3 14 rfl) rfl
      · exact st_ext1 (.tmp 14) rfl (K.dep 3 14 rfl) rfl
      · exact st_alloc23 rfl _ K.grow.size
      intro f2 w2 A hb
      obtain ⟨g5, hg5, e5, m5⟩ := A.has 6 5 rfl
      refine wl_store rfl (.tmp 5) (.tmp 18) rfl rfl g5 (p) hz e5 (A.has 4 18 rfl) m5 hz_len hpl ?_
      replace hb := Below.trans hb (below_setRow _ _ _ ((p).map V).toArray hg5)
      replace m5 : HasV (w2.setRow g5 ((p).map V).toArray) g5 23 (p) := HasV.setRow m5
      generalize w2.setRow g5 ((p).map V).toArray = w2b at hb m5 ⊢
      replace x1 : Fk.f (.eq (.slice Ap n C)) (f2.eval (.tmp 1)) w2b := f_at (A.old 1 rfl) (Fk.mono _ _ _ _ x1 hb)
      replace x2 : Fk.f (.eq (.pointer (some ⟨g2, 0, none⟩))) (f2.eval (.tmp 2)) w2b := f_at (A.old 2 rfl) (Fk.mono _ _ _ _ x2 hb)
      have x5 : Fk.f (.eq (.pointer (some ⟨g5, 0, none⟩))) (f2.eval (.tmp 5)) w2b := e5
      have x19 : Fk.f (.eq (.int .i64 0)) (f2.eval (.tmp 19)) w2b := A.has 5 19 rfl
      replace m2 := HasV.below m2 hb (HasV.lt m2)
      replace tb := tb.below hb
      replace bl := bl.trans (Below.mono hb bl.size)
      replace sz := A.size.trans sz
      replace df := A.defs.trans df
      clear A hb
      refine wl_assign rfl (.tmp 19) rfl 6 rfl (by rw [sz]; decide) ?_
      intro f3 df2 sz2 old2 new2
      have nx6 : Fk.f (.eq (.int .i64 0)) (f3.eval (.tmp 6)) w2b := f_at new2 x19
      replace x1 : Fk.f (.eq (.slice Ap n C)) (f3.eval (.tmp 1)) w2b := f_at (old2 1 rfl) x1
      replace x2 : Fk.f (.eq (.pointer (some ⟨g2, 0, none⟩))) (f3.eval (.tmp 2)) w2b := f_at (old2 2 rfl) x2
      replace x5 : Fk.f (.eq (.pointer (some ⟨g5, 0, none⟩))) (f3.eval (.tmp 5)) w2b := f_at (old2 5 rfl) x5
      replace x19 : Fk.f (.eq (.int .i64 0)) (f3.eval (.tmp 19)) w2b := f_at (old2 19 rfl) x19
      have x6 := nx6
      replace sz := sz2.trans sz
      replace df := df2.trans df
      clear df2 sz2 old2 new2 nx6
      refine wpList_nil ?_
      clear x19
      show Code.wp _ _ _ _ _
      refine wp_seq ?_
      refine wp_seq ?_
      refine wp_all_seq [.hs (S), .eq (.int .i64 (((S).length : Nat) : Int)), .eq (.bool false)] (by kernel_rfl) (by kernel_rfl) (by rw [sz]; kernel_rfl) (by kernel_rfl) ⟨fun hw ac w' K => ?_, fun hw ac w' K => ?_, fun hw ac w' K => ?_, trivial⟩ ?_
      · exact st_move (.tmp 1) rfl (by rw [show ac.eval (.tmp 1) = _ from (K.old 1 rfl).trans x1]; exact Fk.mono _ _ _ _ (Fk.mono _ _ _ _ ZS bl) K.grow)
      · exact st_lenh (.tmp 20) rfl (K.dep 0 20 rfl)
      · exact st_neqi 3 (.tmp 21) (.const (.int .i64 512)) rfl .i64 ((((S).length : Nat) : Int)) (512) (K.dep 1 21 rfl) rfl _ (by simp; omega)
      intro f4 w4 A hb
      replace x1 : Fk.f (.eq (.slice Ap n C)) (f4.eval (.tmp 1)) w4 := f_at (A.old 1 rfl) (Fk.mono _ _ _ _ x1 hb)
      replace x2 : Fk.f (.eq (.pointer (some ⟨g2, 0, none⟩))) (f4.eval (.tmp 2)) w4 := f_at (A.old 2 rfl) (Fk.mono _ _ _ _ x2 hb)
      replace x5 : Fk.f (.eq (.pointer (some ⟨g5, 0, none⟩))) (f4.eval (.tmp 5)) w4 := f_at (A.old 5 rfl) (Fk.mono _ _ _ _ x5 hb)
      replace x6 : Fk.f (.eq (.int .i64 0)) (f4.eval (.tmp 6)) w4 := f_at (A.old 6 rfl) (Fk.mono _ _ _ _ x6 hb)
      have x22 : Fk.f (.eq (.bool false)) (f4.eval (.tmp 22)) w4 := A.has 2 22 rfl
      replace m2 := HasV.below m2 hb (HasV.lt m2)
      replace m5 := HasV.below m5 hb (HasV.lt m5)
      replace tb := tb.below hb
      replace bl := bl.trans (Below.mono hb bl.size)
      replace sz := A.size.trans sz
      replace df := A.defs.trans df
      clear A hb
      show Code.wp _ _ _ _ _
      refine wp_cond_false x22 ?_
      refine wp_skip ?_
      show Code.wp _ _ _ _ _
      refine wp_seq ?_
      clear x22
      have lt2 := m2.lt
      have lt5 := m5.lt
      have ltB := bl.size
      refine wp_all_seq [.nr w4.heap.size, .nr w4.heap.size] (by kernel_rfl) (by kernel_rfl) (by rw [sz]; kernel_rfl) (by kernel_rfl) ⟨fun hw ac w' K => ?_, fun hw ac w' K => ?_, trivial⟩ ?_
      · exact st_make27 rfl _ K.grow.size
      · exact st_assign (.tmp 33) rfl (K.dep 0 33 rfl)
      intro f5 w5 A hb
      replace x1 : Fk.f (.eq (.slice Ap n C)) (f5.eval (.tmp 1)) w5 := f_at (A.old 1 rfl) (Fk.mono _ _ _ _ x1 hb)
      replace x2 : Fk.f (.eq (.pointer (some ⟨g2, 0, none⟩))) (f5.eval (.tmp 2)) w5 := f_at (A.old 2 rfl) (Fk.mono _ _ _ _ x2 hb)
      replace x5 : Fk.f (.eq (.pointer (some ⟨g5, 0, none⟩))) (f5.eval (.tmp 5)) w5 := f_at (A.old 5 rfl) (Fk.mono _ _ _ _ x5 hb)
      replace x6 : Fk.f (.eq (.int .i64 0)) (f5.eval (.tmp 6)) w5 := f_at (A.old 6 rfl) (Fk.mono _ _ _ _ x6 hb)
      have x7 : Fk.f (.nr w4.heap.size) (f5.eval (.tmp 7)) w5 := A.has 1 7 rfl
      replace m2 := HasV.below m2 hb (HasV.lt m2)
      replace m5 := HasV.below m5 hb (HasV.lt m5)
      replace tb := tb.below hb
      replace bl := bl.trans (Below.mono hb bl.size)
      replace sz := A.size.trans sz
      replace df := A.defs.trans df
      clear A hb
      show Code.wp _ _ _ _ _
      refine wp_seq ?_
      refine wp_seq ?_
      refine wp_all_seq [.eq (.int .i64 0)] (by kernel_rfl) (by kernel_rfl) (by rw [sz]; kernel_rfl) (by kernel_rfl) ⟨fun hw ac w' K => ?_, trivial⟩ ?_
      · exact st_move (.const (.int .i64 0)) rfl rfl
      intro f6 w6 A hb
      replace x1 : Fk.f (.eq (.slice Ap n C)) (f6.eval (.tmp 1)) w6 := f_at (A.old 1 rfl) (Fk.mono _ _ _ _ x1 hb)
      replace x2 : Fk.f (.eq (.pointer (some ⟨g2, 0, none⟩))) (f6.eval (.tmp 2)) w6 := f_at (A.old 2 rfl) (Fk.mono _ _ _ _ x2 hb)
      replace x5 : Fk.f (.eq (.pointer (some ⟨g5, 0, none⟩))) (f6.eval (.tmp 5)) w6 := f_at (A.old 5 rfl) (Fk.mono _ _ _ _ x5 hb)
      replace x6 : Fk.f (.eq (.int .i64 0)) (f6.eval (.tmp 6)) w6 := f_at (A.old 6 rfl) (Fk.mono _ _ _ _ x6 hb)
      replace x7 : Fk.f (.nr w4.heap.size) (f6.eval (.tmp 7)) w6 := f_at (A.old 7 rfl) (Fk.mono _ _ _ _ x7 hb)
      have x34 : Fk.f (.eq (.int .i64 0)) (f6.eval (.tmp 34)) w6 := A.has 0 34 rfl
      replace m2 := HasV.below m2 hb (HasV.lt m2)
      replace m5 := HasV.below m5 hb (HasV.lt m5)
      replace tb := tb.below hb
      replace bl := bl.trans (Below.mono hb bl.size)
      replace sz := A.size.trans sz
      replace df := A.defs.trans df
      clear A hb
      show Code.wp _ _ _ _ _
      obtain ⟨G, hG, x7, R⟩ := x7
      have Zm2 := m2
      have Zm5 := m5
      have Zb := bl
      have n2 : g2 ≠ G := by omega
      have n5 : g5 ≠ G := by omega
      have nB : w.heap.size ≤ G := by omega
      clear m2 m5 bl tb
      refine wp_block ?_
      refine wp_loop (fun f v1 => ∃ (k : Nat) (hs : List (List (BitVec 8))), k ≤ 256 ∧ f.tmps.size = 80 ∧ f.defers = [] ∧ f.eval (.tmp 1) = .slice Ap n C ∧ f.eval (.tmp 2) = .pointer (some ⟨g2, 0, none⟩) ∧ f.eval (.tmp 5) = .pointer (some ⟨g5, 0, none⟩) ∧ f.eval (.tmp 6) = .int .i64 0 ∧ f.eval (.tmp 7) = .slice (some ⟨G, 0, none⟩) 512 512 ∧ f.eval (.tmp 34) = .int .i64 ((k : Nat) : Int) ∧ Box (ToldH (rcOf xs S) (ups k) hs) ∧ Rw v1 G hs ∧ Only G w6 v1) (fun f _ => 256 - (intOf (f.eval (.tmp 34))).toNat) ⟨0, z512, by omega, sz, df, x1, x2, x5, x6, x7, x34, ⟨toldH_nil _⟩, R, Only.refl _ _⟩ ?_
      intro f7 w7 hI
      clear sz df x34 R x1 x2 x5 x6 x7
      obtain ⟨k, hs, hk, sz, df, x1, x2, x5, x6, x7, x34, ht, R, O⟩ := hI
      have c34 := x34
      have hl := ht.out.1
      have m2 := HasV.onlyV Zm2 O n2
      have m5 := HasV.onlyV Zm5 O n5
      have bw := O.below w.heap.size nB (Nat.le_trans Zb.size (Nat.le_refl _))
      have bl := Zb.trans bw
      have tb := hK.below bl
      by_cases hlt : k < 256
      · obtain ⟨b, eb⟩ : ∃ b, bt xs k = b := ⟨_, rfl⟩
        have hb1 : b ≤ 1 := by rw [← eb]; exact bt_le xs k
        obtain ⟨y0, ey0⟩ : ∃ y, S[2 * k]? = some y := ⟨_, List.getElem?_eq_getElem (by omega)⟩
        obtain ⟨y1, ey1⟩ : ∃ y, S[2 * k + 1]? = some y := ⟨_, List.getElem?_eq_getElem (by omega)⟩
        have hy0 := h32 _ _ ey0
        have hy1 := h32 _ _ ey1
        obtain ⟨z, ez⟩ : ∃ z, Box (chn ((67 + k : Nat) : Int) ((b : Nat) : Int) y0 = z) := ⟨_, ⟨rfl⟩⟩
        have hzl : z.length = 32 := by rw [← ez.out]; exact chn_len _ _ _
        have e1 : rcOf xs S (2 * k + b) = z := (rcOf_same xs S k b eb y0 ey0).trans ez.out
        have e2 : rcOf xs S (2 * k + 1 - b) = y1 := by rw [show 2 * k + 1 - b = 2 * k + (1 - b) by omega]; exact rcOf_other xs S k (1 - b) (by rw [eb]) y1 ey1
        refine wp_seq ?_
        refine wp_region_seq [.eq (.bool true)] (by kernel_rfl) (by kernel_rfl) (by rw [sz]; kernel_rfl) (by kernel_rfl) ⟨fun hw ac w' K => ?_, trivial⟩ ?_
        · exact st_lss 3 (.tmp 34) (.const (.int .i64 256)) rfl .i64 (((k : Nat) : Int)) (256) ((K.old 34 rfl).trans x34) rfl _ (by simp; omega)
        intro f8 w8 A hb
        replace O := only_below O (Below.mono hb O.size)
        replace R := R.below hb
        replace x1 := (A.old 1 rfl).trans x1
        replace x2 := (A.old 2 rfl).trans x2
        replace x5 := (A.old 5 rfl).trans x5
        replace x6 := (A.old 6 rfl).trans x6
        replace x7 := (A.old 7 rfl).trans x7
        replace x34 := (A.old 34 rfl).trans x34
        have x35 : f8.eval (.tmp 35) = .bool true := A.has 0 35 rfl
        replace sz := A.size.trans sz
        replace df := A.defs.trans df
        clear A hb
        have m2 := HasV.onlyV Zm2 O n2
        have m5 := HasV.onlyV Zm5 O n5
        have bw := O.below w.heap.size nB (Nat.le_trans Zb.size (Nat.le_refl _))
        have bl := Zb.trans bw
        have tb := hK.below bl
        refine wpList_nil ?_
        show Code.wp _ _ _ _ _
        refine wp_seq ?_
        refine wp_cond_true x35 ?_
        refine wp_skip ?_
        show Code.wp _ _ _ _ _
        clear x35
        refine wp_seq ?_
        refine wp_block ?_
        refine wp_seq ?_
        refine wp_region_seq [.eq (.int .i64 ((k : Nat) : Int)), .eq (.int .i64 ((k : Nat) : Int))] (by kernel_rfl) (by kernel_rfl) (by rw [sz]; kernel_rfl) (by kernel_rfl) ⟨fun hw ac w' K => ?_, fun hw ac w' K => ?_, trivial⟩ ?_
        · exact st_move (.tmp 34) rfl ((K.old 34 rfl).trans x34)
        · exact st_assign (.tmp 36) rfl (K.dep 0 36 rfl)
        intro f9 w9 A hb
        replace O := only_below O (Below.mono hb O.size)
        replace R := R.below hb
        replace x1 := (A.old 1 rfl).trans x1
        replace x2 := (A.old 2 rfl).trans x2
        replace x5 := (A.old 5 rfl).trans x5
        replace x6 := (A.old 6 rfl).trans x6
        replace x7 := (A.old 7 rfl).trans x7
        replace x34 := (A.old 34 rfl).trans x34
        have x8 : f9.eval (.tmp 8) = .int .i64 ((k : Nat) : Int) := A.has 1 8 rfl
        replace sz := A.size.trans sz
        replace df := A.defs.trans df
        clear A hb
        have m2 := HasV.onlyV Zm2 O n2
        have m5 := HasV.onlyV Zm5 O n5
        have bw := O.below w.heap.size nB (Nat.le_trans Zb.size (Nat.le_refl _))
        have bl := Zb.trans bw
        have tb := hK.below bl
        refine wpList_nil ?_
        show Code.wp _ _ _ _ _
        refine wp_seq ?_
        refine wp_region_seq [.eq (.agg ((xs).map V).toArray), .eq (.int .i64 ((k : Nat) : Int)), .eq (.int .i64 ((b : Nat) : Int)), .eq (.int .i64 ((b : Nat) : Int))] (by kernel_rfl) (by kernel_rfl) (by rw [sz]; kernel_rfl) (by kernel_rfl) ⟨fun hw ac w' K => ?_, fun hw ac w' K => ?_, fun hw ac w' K => ?_, fun hw ac w' K => ?_, trivial⟩ ?_
        · exact st_load23 (.tmp 2) rfl _ (xs) ((K.old 2 rfl).trans x2) hx (HasV.below m2 K.grow (HasV.lt m2))
        · exact st_move (.tmp 8) rfl ((K.old 8 rfl).trans x8)
        · exact st_call 11 (.func 11) _ _ #[.agg ((xs).map V).toArray, .int .i64 ((k : Nat) : Int)] rfl rfl (arg2 (K.dep 0 37 rfl) (K.dep 1 38 rfl)) Tryd.enter11 (fk_of (ref_to (xs) (k) _ hx (by omega) eb))
        · exact st_assign (.tmp 39) rfl (K.dep 2 39 rfl)
        intro f10 w10 A hb
        replace O := only_below O (Below.mono hb O.size)
        replace R := R.below hb
        replace x1 := (A.old 1 rfl).trans x1
        replace x2 := (A.old 2 rfl).trans x2
        replace x5 := (A.old 5 rfl).trans x5
        replace x6 := (A.old 6 rfl).trans x6
        replace x7 := (A.old 7 rfl).trans x7
        replace x34 := (A.old 34 rfl).trans x34
        replace x8 := (A.old 8 rfl).trans x8
        have x9 : f10.eval (.tmp 9) = .int .i64 ((b : Nat) : Int) := A.has 3 9 rfl
        replace sz := A.size.trans sz
        replace df := A.defs.trans df
        clear A hb
        have m2 := HasV.onlyV Zm2 O n2
        have m5 := HasV.onlyV Zm5 O n5
        have bw := O.below w.heap.size nB (Nat.le_trans Zb.size (Nat.le_refl _))
        have bl := Zb.trans bw
        have tb := hK.below bl
        refine wpList_nil ?_
        show Code.wp _ _ _ _ _
        refine wp_seq ?_
        refine wp_region_seq [.eq (.slice (some ⟨G, 0, none⟩) 512 512), .eq (.int .i64 ((k : Nat) : Int)), .eq (.int .i64 ((2 * k : Nat) : Int)), .eq (.int .i64 ((b : Nat) : Int)), .eq (.int .i64 (((2 * k) + b : Nat) : Int)), .hs (S), .eq (.int .i64 ((k : Nat) : Int)), .eq (.int .i64 ((2 * k : Nat) : Int)), .ph (y0), .eq (.agg ((y0).map V).toArray), .eq (.int .i64 ((k : Nat) : Int)), .eq (.int .i64 ((67 + k : Nat) : Int)), .eq (.int .i64 ((b : Nat) : Int)), .eq (.agg ((z).map V).toArray), .eq (.pointer (some ⟨G, ((2 * k) + b) * 32, none⟩))] (by kernel_rfl) (by kernel_rfl) (by rw [sz]; kernel_rfl) (by kernel_rfl) ⟨fun hw ac w' K => ?_, fun hw ac w' K => ?_, fun hw ac w' K => ?_, fun hw ac w' K => ?_, fun hw ac w' K => ?_, fun hw ac w' K => ?_, fun hw ac w' K => ?_, fun hw ac w' K => ?_, fun hw ac w' K => ?_, fun hw ac w' K => ?_, fun hw ac w' K => ?_, fun hw ac w' K => ?_, fun hw ac w' K => ?_, fun hw ac w' K => ?_, fun hw ac w' K => ?_, trivial⟩ ?_
        · exact st_move (.tmp 7) rfl ((K.old 7 rfl).trans x7)
        · exact st_move (.tmp 8) rfl ((K.old 8 rfl).trans x8)
        · exact st_mul (.const (.int .i64 2)) (.tmp 41) rfl (2) (k) (2 * k) rfl (K.dep 1 41 rfl) (by omega) (by omega)
        · exact st_move (.tmp 9) rfl ((K.old 9 rfl).trans x9)
        · exact st_add (.tmp 42) (.tmp 43) rfl (2 * k) (b) ((2 * k) + b) (K.dep 2 42 rfl) (K.dep 3 43 rfl) (by omega) (by omega)
        · exact st_move (.tmp 1) rfl (by rw [show ac.eval (.tmp 1) = _ from (K.old 1 rfl).trans x1]; exact Fk.mono _ _ _ _ (Fk.mono _ _ _ _ ZS bl) K.grow)
        · exact st_move (.tmp 8) rfl ((K.old 8 rfl).trans x8)
        · exact st_mul (.const (.int .i64 2)) (.tmp 46) rfl (2) (k) (2 * k) rfl (K.dep 6 46 rfl) (by omega) (by omega)
        · exact st_idxh (.tmp 45) (.tmp 47) rfl (K.dep 5 45 rfl) (2 * k) (y0) (K.dep 7 47 rfl) ey0
        · exact st_loadh (.tmp 48) rfl (K.dep 8 48 rfl)
        · exact st_move (.tmp 8) rfl ((K.old 8 rfl).trans x8)
        · exact st_add (.const (.int .i64 67)) (.tmp 50) rfl (67) (k) (67 + k) rfl (K.dep 10 50 rfl) (by omega) (by omega)
        · exact st_move (.tmp 9) rfl ((K.old 9 rfl).trans x9)
        · exact st_call 14 (.func 14) _ _ #[.agg ((y0).map V).toArray, .int .i64 ((67 + k : Nat) : Int), .int .i64 ((b : Nat) : Int)] rfl rfl (arg3 (K.dep 9 49 rfl) (K.dep 11 51 rfl) (K.dep 12 52 rfl)) Tryd.enter14 (fk_of (chn_to (y0) (((67 + k : Nat) : Int)) (((b : Nat) : Int)) _ hy0 (tb.below K.grow) ez))
        · exact st_idxrow (.tmp 40) (.tmp 44) rfl (G) ((2 * k) + b) (K.dep 0 40 rfl) (K.dep 4 44 rfl) (by omega)
        intro f11 w11 A hb
        replace O := only_below O (Below.mono hb O.size)
        replace R := R.below hb
        refine wl_storew rfl (.tmp 54) (.tmp 53) rfl rfl G ((2 * k) + b) (z) _ (A.has 14 54 rfl) (A.has 13 53 rfl) R (by (try simp only [List.length_set]); omega) hzl ?_
        replace R := Rw.store R ((2 * k) + b) (z) (by (try simp only [List.length_set]); omega) hzl
        replace O := only_setCells ((z).map V) (((2 * k) + b) * 32) _ O
        generalize w11.setCells G (((2 * k) + b) * 32) ((z).map V) = w11b at R O ⊢
        replace x1 := (A.old 1 rfl).trans x1
        replace x2 := (A.old 2 rfl).trans x2
        replace x5 := (A.old 5 rfl).trans x5
        replace x6 := (A.old 6 rfl).trans x6
        replace x7 := (A.old 7 rfl).trans x7
        replace x34 := (A.old 34 rfl).trans x34
        replace x8 := (A.old 8 rfl).trans x8
        replace x9 := (A.old 9 rfl).trans x9
        replace sz := A.size.trans sz
        replace df := A.defs.trans df
        clear A hb
        have m2 := HasV.onlyV Zm2 O n2
        have m5 := HasV.onlyV Zm5 O n5
        have bw := O.below w.heap.size nB (Nat.le_trans Zb.size (Nat.le_refl _))
        have bl := Zb.trans bw
        have tb := hK.below bl
        refine wpList_nil ?_
        show Code.wp _ _ _ _ _
        refine wp_region_seq [.eq (.slice (some ⟨G, 0, none⟩) 512 512), .eq (.int .i64 ((k : Nat) : Int)), .eq (.int .i64 ((2 * k : Nat) : Int)), .eq (.int .i64 (((2 * k) + 1 : Nat) : Int)), .eq (.int .i64 ((b : Nat) : Int)), .eq (.int .i64 ((((2 * k) + 1) - b : Nat) : Int)), .hs (S), .eq (.int .i64 ((k : Nat) : Int)), .eq (.int .i64 ((2 * k : Nat) : Int)), .eq (.int .i64 (((2 * k) + 1 : Nat) : Int)), .ph (y1), .eq (.agg ((y1).map V).toArray), .eq (.pointer (some ⟨G, (((2 * k) + 1) - b) * 32, none⟩))] (by kernel_rfl) (by kernel_rfl) (by rw [sz]; kernel_rfl) (by kernel_rfl) ⟨fun hw ac w' K => ?_, fun hw ac w' K => ?_, fun hw ac w' K => ?_, fun hw ac w' K => ?_, fun hw ac w' K => ?_, fun hw ac w' K => ?_, fun hw ac w' K => ?_, fun hw ac w' K => ?_, fun hw ac w' K => ?_, fun hw ac w' K => ?_, fun hw ac w' K => ?_, fun hw ac w' K => ?_, fun hw ac w' K => ?_, trivial⟩ ?_
        · exact st_move (.tmp 7) rfl ((K.old 7 rfl).trans x7)
        · exact st_move (.tmp 8) rfl ((K.old 8 rfl).trans x8)
        · exact st_mul (.const (.int .i64 2)) (.tmp 56) rfl (2) (k) (2 * k) rfl (K.dep 1 56 rfl) (by omega) (by omega)
        · exact st_add1 (.tmp 57) rfl (2 * k) (by omega) (K.dep 2 57 rfl)
        · exact st_move (.tmp 9) rfl ((K.old 9 rfl).trans x9)
        · exact st_sub (.tmp 58) (.tmp 59) rfl ((2 * k) + 1) (b) (((2 * k) + 1) - b) (K.dep 3 58 rfl) (K.dep 4 59 rfl) (by omega) (by omega)
        · exact st_move (.tmp 1) rfl (by rw [show ac.eval (.tmp 1) = _ from (K.old 1 rfl).trans x1]; exact Fk.mono _ _ _ _ (Fk.mono _ _ _ _ ZS bl) K.grow)
        · exact st_move (.tmp 8) rfl ((K.old 8 rfl).trans x8)
        · exact st_mul (.const (.int .i64 2)) (.tmp 62) rfl (2) (k) (2 * k) rfl (K.dep 7 62 rfl) (by omega) (by omega)
        · exact st_add1 (.tmp 63) rfl (2 * k) (by omega) (K.dep 8 63 rfl)
        · exact st_idxh (.tmp 61) (.tmp 64) rfl (K.dep 6 61 rfl) (2 * k + 1) (y1) (K.dep 9 64 rfl) ey1
        · exact st_loadh (.tmp 65) rfl (K.dep 10 65 rfl)
        · exact st_idxrow (.tmp 55) (.tmp 60) rfl (G) (((2 * k) + 1) - b) (K.dep 0 55 rfl) (K.dep 5 60 rfl) (by omega)
        intro f12 w12 A hb
        replace O := only_below O (Below.mono hb O.size)
        replace R := R.below hb
        refine wl_storew rfl (.tmp 67) (.tmp 66) rfl rfl G (((2 * k) + 1) - b) (y1) _ (A.has 12 67 rfl) (A.has 11 66 rfl) R (by (try simp only [List.length_set]); omega) hy1 ?_
        replace R := Rw.store R (((2 * k) + 1) - b) (y1) (by (try simp only [List.length_set]); omega) hy1
        replace O := only_setCells ((y1).map V) ((((2 * k) + 1) - b) * 32) _ O
        generalize w12.setCells G ((((2 * k) + 1) - b) * 32) ((y1).map V) = w12b at R O ⊢
        replace x1 := (A.old 1 rfl).trans x1
        replace x2 := (A.old 2 rfl).trans x2
        replace x5 := (A.old 5 rfl).trans x5
        replace x6 := (A.old 6 rfl).trans x6
        replace x7 := (A.old 7 rfl).trans x7
        replace x34 := (A.old 34 rfl).trans x34
        replace x8 := (A.old 8 rfl).trans x8
        replace x9 := (A.old 9 rfl).trans x9
        replace sz := A.size.trans sz
        replace df := A.defs.trans df
        clear A hb
        have m2 := HasV.onlyV Zm2 O n2
        have m5 := HasV.onlyV Zm5 O n5
        have bw := O.below w.heap.size nB (Nat.le_trans Zb.size (Nat.le_refl _))
        have bl := Zb.trans bw
        have tb := hK.below bl
        refine wpList_nil ?_
        show Code.wp _ _ _ _ _
        clear x8
        clear x9
        have ht2 := toldH_snoc ht.out ⟨k, hlt⟩ (2 * k + b) (2 * k + 1 - b) (by dsimp only; omega)
        rw [e1, e2, ← ups_succ k hlt] at ht2
        refine wp_region_seq [.eq (.int .i64 ((k + 1 : Nat) : Int))] (by kernel_rfl) (by kernel_rfl) (by rw [sz]; kernel_rfl) (by kernel_rfl) ⟨fun hw ac w' K => ?_, trivial⟩ ?_
        · exact st_add1 (.tmp 34) rfl k (by omega) ((K.old 34 rfl).trans x34)
        intro f13 w13 A hb
        replace O := only_below O (Below.mono hb O.size)
        replace R := R.below hb
        replace x1 := (A.old 1 rfl).trans x1
        replace x2 := (A.old 2 rfl).trans x2
        replace x5 := (A.old 5 rfl).trans x5
        replace x6 := (A.old 6 rfl).trans x6
        replace x7 := (A.old 7 rfl).trans x7
        replace x34 := (A.old 34 rfl).trans x34
        have x68 : f13.eval (.tmp 68) = .int .i64 ((k + 1 : Nat) : Int) := A.has 0 68 rfl
        replace sz := A.size.trans sz
        replace df := A.defs.trans df
        clear A hb
        refine wl_move rfl (.tmp 68) rfl 34 rfl (by rw [sz]; decide) ?_
        intro f14 df2 sz2 old2 new2
        have nx := new2.trans x68
        replace x1 := (old2 1 rfl).trans x1
        replace x2 := (old2 2 rfl).trans x2
        replace x5 := (old2 5 rfl).trans x5
        replace x6 := (old2 6 rfl).trans x6
        replace x7 := (old2 7 rfl).trans x7
        replace x68 := (old2 68 rfl).trans x68
        replace x34 := nx
        clear nx
        replace sz := sz2.trans sz
        replace df := df2.trans df
        clear df2 sz2 old2 new2
        clear x68
        have m2 := HasV.onlyV Zm2 O n2
        have m5 := HasV.onlyV Zm5 O n5
        have bw := O.below w.heap.size nB (Nat.le_trans Zb.size (Nat.le_refl _))
        have bl := Zb.trans bw
        have tb := hK.below bl
        refine wpList_nil ?_
        show (∃ _, _) ∧ _
        refine ⟨⟨k + 1, _, by omega, sz, df, x1, x2, x5, x6, x7, x34, ⟨ht2⟩, R, O⟩, ?_⟩
        rw [x34, c34]
        simp [intOf]
        omega
      · obtain rfl : k = 256 := by omega
        refine wp_seq ?_
        refine wp_region_seq [.eq (.bool false)] (by kernel_rfl) (by kernel_rfl) (by rw [sz]; kernel_rfl) (by kernel_rfl) ⟨fun hw ac w' K => ?_, trivial⟩ ?_
        · exact st_lss 3 (.tmp 34) (.const (.int .i64 256)) rfl .i64 (((256 : Nat) : Int)) (256) ((K.old 34 rfl).trans x34) rfl _ (by simp)
        intro f8 w8 A hb
        replace O := only_below O (Below.mono hb O.size)
        replace R := R.below hb
        replace x1 := (A.old 1 rfl).trans x1
        replace x2 := (A.old 2 rfl).trans x2
        replace x5 := (A.old 5 rfl).trans x5
        replace x6 := (A.old 6 rfl).trans x6
        replace x7 := (A.old 7 rfl).trans x7
        replace x34 := (A.old 34 rfl).trans x34
        have x35 : f8.eval (.tmp 35) = .bool false := A.has 0 35 rfl
        replace sz := A.size.trans sz
        replace df := A.defs.trans df
        clear A hb
        have m2 := HasV.onlyV Zm2 O n2
        have m5 := HasV.onlyV Zm5 O n5
        have bw := O.below w.heap.size nB (Nat.le_trans Zb.size (Nat.le_refl _))
        have bl := Zb.trans bw
        have tb := hK.below bl
        refine wpList_nil ?_
        show Code.wp _ _ _ _ _
        refine wp_seq ?_
        refine wp_cond_false x35 ?_
        refine wp_exit ?_
        clear x35
        show Code.wp _ _ _ _ _
        refine wp_seq ?_
        obtain rfl := toldH_all ht.out
        clear x34
        clear x1
        clear x2
        replace x5 : Fk.f (.eq (.pointer (some ⟨g5, 0, none⟩))) (f8.eval (.tmp 5)) w8 := x5
        replace x6 : Fk.f (.eq (.int .i64 0)) (f8.eval (.tmp 6)) w8 := x6
        clear m2
        refine wp_all [.eq (.int .i64 0), .eq (.bool true), .eq (.bool true), .eq (.agg ((p).map V).toArray), .hs (all512 (rcOf xs S)), .eq (.agg ((p).map V).toArray), .eq (.bool true), .eq (.bool true), .eq (.bool true), .eq (.bool true), .eq (.bool true), .eq (.bool true)] Tryd.mixed (by kernel_rfl) (by kernel_rfl) (by rw [sz]; kernel_rfl) (by kernel_rfl) ⟨fun hw ac w' K => ?_, fun hw ac w' K => ?_, fun hw ac w' K => ?_, fun hw ac w' K => ?_, fun hw ac w' K => ?_, fun hw ac w' K => ?_, fun hw ac w' K => ?_, fun hw ac w' K => ?_, fun hw ac w' K => ?_, fun hw ac w' K => ?_, fun hw ac w' K => ?_, fun hw ac w' K => ?_, trivial⟩ ?_
        · exact st_move (.tmp 6) rfl ((K.old 6 rfl).trans x6)
        · exact st_eqi 24 (.tmp 69) (.const (.int .i64 0)) rfl .i64 (0) (0) (K.dep 0 69 rfl) rfl _ (by rfl)
        · exact st_move (.tmp 70) rfl (K.dep 1 70 rfl)
        · exact st_load23 (.tmp 5) rfl _ (p) ((K.old 5 rfl).trans x5) hpl (HasV.below m5 K.grow (HasV.lt m5))
        · exact st_move (.tmp 7) rfl (by rw [K.old 7 rfl, x7]; exact Fk.mono _ _ _ _ (rw_hs R hl) K.grow)
        · exact st_call 10 (.func 10) _ _ #[ac.eval (.tmp 73)] rfl rfl rfl Tryd.enter10 (fk_public_to (by rw [all_len]; omega) (tb.below K.grow) (K.dep 4 73 rfl) ep)
        · exact st_eqh (.tmp 72) (.tmp 74) rfl (p) (p) hpl hpl (K.dep 3 72 rfl) (K.dep 5 74 rfl) _ (by simp)
        · exact st_pick_t (.tmp 71) (.tmp 75) (.const (.bool false)) rfl (K.dep 2 71 rfl) (K.dep 6 75 rfl)
        · exact st_move (.tmp 76) rfl (K.dep 7 76 rfl)
        · exact st_call 8 (.func 8) _ _ #[] rfl rfl rfl Tryd.enter8 (fk_of (awake_any _))
        · exact st_pick_t (.tmp 77) (.tmp 78) (.const (.bool false)) rfl (K.dep 8 77 rfl) (K.dep 9 78 rfl)
        · exact st_assign (.tmp 79) rfl (K.dep 10 79 rfl)
        intro f9 w9 A hb
        replace x5 : Fk.f (.eq (.pointer (some ⟨g5, 0, none⟩))) (f9.eval (.tmp 5)) w9 := f_at (A.old 5 rfl) (Fk.mono _ _ _ _ x5 hb)
        replace x6 : Fk.f (.eq (.int .i64 0)) (f9.eval (.tmp 6)) w9 := f_at (A.old 6 rfl) (Fk.mono _ _ _ _ x6 hb)
        replace x7 : Fk.f (.eq (.slice (some ⟨G, 0, none⟩) 512 512)) (f9.eval (.tmp 7)) w9 := f_at (A.old 7 rfl) (Fk.mono _ _ _ _ x7 hb)
        have x4 : Fk.f (.eq (.bool true)) (f9.eval (.tmp 4)) w9 := A.has 11 4 rfl
        replace m5 := HasV.below m5 hb (HasV.lt m5)
        replace tb := tb.below hb
        replace bl := bl.trans (Below.mono hb bl.size)
        replace sz := A.size.trans sz
        replace df := A.defs.trans df
        clear A hb
        show Code.wp _ _ _ _ _
        refine wp_ret ?_
        exact bodyPost_ret (v := .bool true) (ret_slot rfl f9 _ x4 _ _) df ⟨rfl, bl⟩
    · refine wp_region_seq [.eq (.agg ((xs).map V).toArray), .hs (S), .eq (.tuple #[.agg ((hz).map V).toArray, .int .i64 10]), .eq (.tuple #[.agg ((hz).map V).toArray, .int .i64 10]), .eq (.agg ((hz).map V).toArray), .eq (.int .i64 10), .pn w1.heap.size hz] (by kernel_rfl) (by kernel_rfl) (by rw [sz]; kernel_rfl) (by kernel_rfl) ⟨fun hw ac w' K => ?_, fun hw ac w' K => ?_, fun hw ac w' K => ?_, fun hw ac w' K => ?_, fun hw ac w' K => ?_, fun hw ac w' K => ?_, fun hw ac w' K => ?_, trivial⟩ ?_
      · exact st_load23 (.tmp 2) rfl _ (xs) ((K.old 2 rfl).trans x2) hx (HasV.below m2 K.grow (HasV.lt m2))
      · exact st_move (.tmp 1) rfl (by rw [show ac.eval (.tmp 1) = _ from (K.old 1 rfl).trans x1]; exact Fk.mono _ _ _ _ (Fk.mono _ _ _ _ ZS bl) K.grow)
      · exact st_call 13 (.func 13) _ _ #[.agg ((xs).map V).toArray, ac.eval (.tmp 16)] rfl rfl (arg2 (K.dep 0 15 rfl) rfl) Tryd.enter13 (fk_recover_no q512 (K.dep 1 16 rfl))
      · exact st_move (.tmp 17) rfl (K.dep 2 17 rfl)
      · exact st_ext0 (.tmp 14) rfl (K.dep 3 14 rfl) rfl
      · exact st_ext1 (.tmp 14) rfl (K.dep 3 14 rfl) rfl
      · exact st_alloc23 rfl _ K.grow.size
      intro f2 w2 A hb
      obtain ⟨g5, hg5, e5, m5⟩ := A.has 6 5 rfl
      refine wl_store rfl (.tmp 5) (.tmp 18) rfl rfl g5 (hz) hz e5 (A.has 4 18 rfl) m5 hz_len hz_len ?_
      replace hb := Below.trans hb (below_setRow _ _ _ ((hz).map V).toArray hg5)
      replace m5 : HasV (w2.setRow g5 ((hz).map V).toArray) g5 23 (hz) := HasV.setRow m5
      generalize w2.setRow g5 ((hz).map V).toArray = w2b at hb m5 ⊢
      replace x1 : Fk.f (.eq (.slice Ap n C)) (f2.eval (.tmp 1)) w2b := f_at (A.old 1 rfl) (Fk.mono _ _ _ _ x1 hb)
      replace x2 : Fk.f (.eq (.pointer (some ⟨g2, 0, none⟩))) (f2.eval (.tmp 2)) w2b := f_at (A.old 2 rfl) (Fk.mono _ _ _ _ x2 hb)
      have x5 : Fk.f (.eq (.pointer (some ⟨g5, 0, none⟩))) (f2.eval (.tmp 5)) w2b := e5
      have x19 : Fk.f (.eq (.int .i64 10)) (f2.eval (.tmp 19)) w2b := A.has 5 19 rfl
      replace m2 := HasV.below m2 hb (HasV.lt m2)
      replace tb := tb.below hb
      replace bl := bl.trans (Below.mono hb bl.size)
      replace sz := A.size.trans sz
      replace df := A.defs.trans df
      clear A hb
      refine wl_assign rfl (.tmp 19) rfl 6 rfl (by rw [sz]; decide) ?_
      intro f3 df2 sz2 old2 new2
      have nx6 : Fk.f (.eq (.int .i64 10)) (f3.eval (.tmp 6)) w2b := f_at new2 x19
      replace x1 : Fk.f (.eq (.slice Ap n C)) (f3.eval (.tmp 1)) w2b := f_at (old2 1 rfl) x1
      replace x2 : Fk.f (.eq (.pointer (some ⟨g2, 0, none⟩))) (f3.eval (.tmp 2)) w2b := f_at (old2 2 rfl) x2
      replace x5 : Fk.f (.eq (.pointer (some ⟨g5, 0, none⟩))) (f3.eval (.tmp 5)) w2b := f_at (old2 5 rfl) x5
      replace x19 : Fk.f (.eq (.int .i64 10)) (f3.eval (.tmp 19)) w2b := f_at (old2 19 rfl) x19
      have x6 := nx6
      replace sz := sz2.trans sz
      replace df := df2.trans df
      clear df2 sz2 old2 new2 nx6
      refine wpList_nil ?_
      clear x19
      show Code.wp _ _ _ _ _
      refine wp_seq ?_
      refine wp_seq ?_
      refine wp_all_seq [.hs (S), .eq (.int .i64 (((S).length : Nat) : Int)), .eq (.bool true)] (by kernel_rfl) (by kernel_rfl) (by rw [sz]; kernel_rfl) (by kernel_rfl) ⟨fun hw ac w' K => ?_, fun hw ac w' K => ?_, fun hw ac w' K => ?_, trivial⟩ ?_
      · exact st_move (.tmp 1) rfl (by rw [show ac.eval (.tmp 1) = _ from (K.old 1 rfl).trans x1]; exact Fk.mono _ _ _ _ (Fk.mono _ _ _ _ ZS bl) K.grow)
      · exact st_lenh (.tmp 20) rfl (K.dep 0 20 rfl)
      · exact st_neqi 3 (.tmp 21) (.const (.int .i64 512)) rfl .i64 ((((S).length : Nat) : Int)) (512) (K.dep 1 21 rfl) rfl _ (by simp; omega)
      intro f4 w4 A hb
      replace x1 : Fk.f (.eq (.slice Ap n C)) (f4.eval (.tmp 1)) w4 := f_at (A.old 1 rfl) (Fk.mono _ _ _ _ x1 hb)
      replace x2 : Fk.f (.eq (.pointer (some ⟨g2, 0, none⟩))) (f4.eval (.tmp 2)) w4 := f_at (A.old 2 rfl) (Fk.mono _ _ _ _ x2 hb)
      replace x5 : Fk.f (.eq (.pointer (some ⟨g5, 0, none⟩))) (f4.eval (.tmp 5)) w4 := f_at (A.old 5 rfl) (Fk.mono _ _ _ _ x5 hb)
      replace x6 : Fk.f (.eq (.int .i64 10)) (f4.eval (.tmp 6)) w4 := f_at (A.old 6 rfl) (Fk.mono _ _ _ _ x6 hb)
      have x22 : Fk.f (.eq (.bool true)) (f4.eval (.tmp 22)) w4 := A.has 2 22 rfl
      replace m2 := HasV.below m2 hb (HasV.lt m2)
      replace m5 := HasV.below m5 hb (HasV.lt m5)
      replace tb := tb.below hb
      replace bl := bl.trans (Below.mono hb bl.size)
      replace sz := A.size.trans sz
      replace df := A.defs.trans df
      clear A hb
      show Code.wp _ _ _ _ _
      refine wp_cond_true x22 ?_
      refine wp_seq ?_
      refine wp_all_seq [.eq (.int .i64 10), .eq (.bool true), .eq (.bool true), .eq (.agg ((hz).map V).toArray), .eq (.agg ((hz).map V).toArray), .eq (.bool true), .eq (.bool true), .eq (.bool true), .eq (.bool true), .eq (.bool true), .eq (.bool true)] (by kernel_rfl) (by kernel_rfl) (by rw [sz]; kernel_rfl) (by kernel_rfl) ⟨fun hw ac w' K => ?_, fun hw ac w' K => ?_, fun hw ac w' K => ?_, fun hw ac w' K => ?_, fun hw ac w' K => ?_, fun hw ac w' K => ?_, fun hw ac w' K => ?_, fun hw ac w' K => ?_, fun hw ac w' K => ?_, fun hw ac w' K => ?_, fun hw ac w' K => ?_, trivial⟩ ?_
      · exact st_move (.tmp 6) rfl ((K.old 6 rfl).trans x6)
      · exact st_eqi 24 (.tmp 23) (.const (.int .i64 10)) rfl .i64 (10) (10) (K.dep 0 23 rfl) rfl _ (by rfl)
      · exact st_move (.tmp 24) rfl (K.dep 1 24 rfl)
      · exact st_load23 (.tmp 5) rfl _ (hz) ((K.old 5 rfl).trans x5) hz_len (HasV.below m5 K.grow (HasV.lt m5))
      · exact st_zero23 rfl
      · exact st_eqh (.tmp 26) (.tmp 27) rfl (hz) (hz) hz_len hz_len (K.dep 3 26 rfl) (K.dep 4 27 rfl) _ (by simp)
      · exact st_pick_t (.tmp 25) (.tmp 28) (.const (.bool false)) rfl (K.dep 2 25 rfl) (K.dep 5 28 rfl)
      · exact st_move (.tmp 29) rfl (K.dep 6 29 rfl)
      · exact st_call 8 (.func 8) _ _ #[] rfl rfl rfl Tryd.enter8 (fk_of (awake_any _))
      · exact st_pick_t (.tmp 30) (.tmp 31) (.const (.bool false)) rfl (K.dep 7 30 rfl) (K.dep 8 31 rfl)
      · exact st_assign (.tmp 32) rfl (K.dep 9 32 rfl)
      intro f5 w5 A hb
      replace x1 : Fk.f (.eq (.slice Ap n C)) (f5.eval (.tmp 1)) w5 := f_at (A.old 1 rfl) (Fk.mono _ _ _ _ x1 hb)
      replace x2 : Fk.f (.eq (.pointer (some ⟨g2, 0, none⟩))) (f5.eval (.tmp 2)) w5 := f_at (A.old 2 rfl) (Fk.mono _ _ _ _ x2 hb)
      replace x5 : Fk.f (.eq (.pointer (some ⟨g5, 0, none⟩))) (f5.eval (.tmp 5)) w5 := f_at (A.old 5 rfl) (Fk.mono _ _ _ _ x5 hb)
      replace x6 : Fk.f (.eq (.int .i64 10)) (f5.eval (.tmp 6)) w5 := f_at (A.old 6 rfl) (Fk.mono _ _ _ _ x6 hb)
      replace x22 : Fk.f (.eq (.bool true)) (f5.eval (.tmp 22)) w5 := f_at (A.old 22 rfl) (Fk.mono _ _ _ _ x22 hb)
      have x4 : Fk.f (.eq (.bool true)) (f5.eval (.tmp 4)) w5 := A.has 10 4 rfl
      replace m2 := HasV.below m2 hb (HasV.lt m2)
      replace m5 := HasV.below m5 hb (HasV.lt m5)
      replace tb := tb.below hb
      replace bl := bl.trans (Below.mono hb bl.size)
      replace sz := A.size.trans sz
      replace df := A.defs.trans df
      clear A hb
      show Code.wp _ _ _ _ _
      refine wp_ret (then_ret ?_)
      exact bodyPost_ret (v := .bool true) (ret_slot rfl f5 _ x4 _ _) df ⟨rfl, bl⟩
end Go.Proofs.YtfhhlkbcoofemaaDoor
