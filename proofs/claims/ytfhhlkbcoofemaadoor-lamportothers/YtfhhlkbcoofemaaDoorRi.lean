/- Made by gen_ri.py. The walk of LamportOthers. -/
import Derived.Test.YtfhhlkbcoofemaaDoorRh
namespace Go.Proofs.YtfhhlkbcoofemaaDoor
open Go.RowKit
set_option maxHeartbeats 1000000 in
theorem others_law (seed h o : List (BitVec 8)) (w : World) (hx : seed.length = 32) (hh : h.length = 32) (ho : o.length = 32) (hK : Tab w) :
    Calls Tryd.prog 5 #[.agg (seed.map V).toArray, .agg (h.map V).toArray, .agg (o.map V).toArray] w fun e w' => e = .returned (.bool true) ∧ Below w.heap.size w w' := by
  go_enter Tryd.func5, Tryd.ntmps5
  go_upto_region 1 with fail
  rename_i KK hKK
  refine code_both (fun f w1 => f.tmps.size = 82 ∧ f.defers = [] ∧ Fk.f (.eq (.pointer (some ⟨w.heap.size, 0, none⟩))) (f.eval (.tmp 3)) w1 ∧ Fk.f (.eq (.pointer (some ⟨w.heap.size + 1, 0, none⟩))) (f.eval (.tmp 4)) w1 ∧ Fk.f (.eq (.pointer (some ⟨w.heap.size + 1 + 1, 0, none⟩))) (f.eval (.tmp 5)) w1 ∧ HasV w1 w.heap.size 23 seed ∧ HasV w1 (w.heap.size + 1) 23 h ∧ HasV w1 (w.heap.size + 1 + 1) 23 o ∧ Below w.heap.size w w1) ?_ ?_
  · exact ⟨rfl, rfl, rfl, rfl, rfl, HasV.alloc (heap_alloc2_old _ _ _) _, HasV.alloc (heap_alloc2_new _ _ _) _, by have := heap_alloc_new ((w.alloc (Obj.cells (seed.map V).toArray 23)).alloc (Obj.cells (h.map V).toArray 23)) (Obj.cells (o.map V).toArray 23); rw [World.size_alloc, World.size_alloc] at this; exact this, (((Below.refl _ _).alloc (Nat.le_refl _) _).alloc (by simp) _).alloc (by simp; omega) _⟩
  rintro f0 w0 ⟨sz, df, x3, x4, x5, m3, m4, m5, bl⟩
  have tb := hK.below bl
  obtain ⟨g5, hg5⟩ : ∃ g5, g5 = w.heap.size + 1 + 1 := ⟨_, rfl⟩
  rw [← hg5] at x5 m5
  obtain ⟨g4, hg4⟩ : ∃ g4, g4 = w.heap.size + 1 := ⟨_, rfl⟩
  rw [← hg4] at x4 m4
  obtain ⟨g3, hg3⟩ : ∃ g3, g3 = w.heap.size := ⟨_, rfl⟩
  rw [← hg3] at x3 m3
  obtain ⟨S, eS⟩ : ∃ S, Box (all512 (sgOf seed ((0 : Nat) : Int) h) = S) := ⟨_, ⟨rfl⟩⟩
  have hSl : S.length = 512 := by rw [← eS.out]; exact all_len _
  refine wp_all_seq [.eq (.agg ((seed).map V).toArray), .eq (.agg ((h).map V).toArray), .th (S) 0, .th (S) 0, .hs (S), .eq (.int .i64 0), .hs (S), .eq (.int .i64 0)] (by kernel_rfl) (by kernel_rfl) (by rw [sz]; kernel_rfl) (by kernel_rfl) ⟨fun hw ac w' K => ?_, fun hw ac w' K => ?_, fun hw ac w' K => ?_, fun hw ac w' K => ?_, fun hw ac w' K => ?_, fun hw ac w' K => ?_, fun hw ac w' K => ?_, fun hw ac w' K => ?_, trivial⟩ ?_
  · exact st_load23 (.tmp 3) rfl _ (seed) ((K.old 3 rfl).trans x3) hx (HasV.below m3 K.grow (HasV.lt m3))
  · exact st_load23 (.tmp 4) rfl _ (h) ((K.old 4 rfl).trans x4) hh (HasV.below m4 K.grow (HasV.lt m4))
  · exact st_call 7 (.func 7) _ _ #[.agg ((seed).map V).toArray, .int .i64 ((0 : Nat) : Int), .agg ((h).map V).toArray] rfl rfl (arg3 (K.dep 0 13 rfl) rfl (K.dep 1 14 rfl)) Tryd.enter7 (fk_sign_ok hx hh (by omega) (tb.below K.grow) eS)
  · exact st_move (.tmp 15) rfl (K.dep 2 15 rfl)
  · exact st_exth (.tmp 12) rfl (K.dep 3 12 rfl)
  · exact st_extn (.tmp 12) rfl (K.dep 3 12 rfl)
  · exact st_assign (.tmp 16) rfl (K.dep 4 16 rfl)
  · exact st_assign (.tmp 17) rfl (K.dep 5 17 rfl)
  intro f1 w1 A hb
  replace x3 : Fk.f (.eq (.pointer (some ⟨g3, 0, none⟩))) (f1.eval (.tmp 3)) w1 := f_at (A.old 3 rfl) (Fk.mono _ _ _ _ x3 hb)
  replace x4 : Fk.f (.eq (.pointer (some ⟨g4, 0, none⟩))) (f1.eval (.tmp 4)) w1 := f_at (A.old 4 rfl) (Fk.mono _ _ _ _ x4 hb)
  replace x5 : Fk.f (.eq (.pointer (some ⟨g5, 0, none⟩))) (f1.eval (.tmp 5)) w1 := f_at (A.old 5 rfl) (Fk.mono _ _ _ _ x5 hb)
  have x7 : Fk.f (.hs (S)) (f1.eval (.tmp 7)) w1 := A.has 6 7 rfl
  have x8 : Fk.f (.eq (.int .i64 0)) (f1.eval (.tmp 8)) w1 := A.has 7 8 rfl
  replace m3 := HasV.below m3 hb (HasV.lt m3)
  replace m4 := HasV.below m4 hb (HasV.lt m4)
  replace m5 := HasV.below m5 hb (HasV.lt m5)
  replace tb := tb.below hb
  replace bl := bl.trans (Below.mono hb bl.size)
  replace sz := A.size.trans sz
  replace df := A.defs.trans df
  clear A hb
  refine hKK _ _ ?_
  refine wp_seq ?_
  refine wp_seq ?_
  refine wp_all_seq [.eq (.int .i64 0), .eq (.bool false), .eq (.bool false), .hs (S), .eq (.int .i64 (((S).length : Nat) : Int)), .eq (.bool false), .eq (.bool false)] (by kernel_rfl) (by kernel_rfl) (by rw [sz]; kernel_rfl) (by kernel_rfl) ⟨fun hw ac w' K => ?_, fun hw ac w' K => ?_, fun hw ac w' K => ?_, fun hw ac w' K => ?_, fun hw ac w' K => ?_, fun hw ac w' K => ?_, fun hw ac w' K => ?_, trivial⟩ ?_
  · exact st_move (.tmp 8) rfl ((K.old 8 rfl).trans x8)
  · exact st_neqi 24 (.tmp 18) (.const (.int .i64 0)) rfl .i64 (0) (0) (K.dep 0 18 rfl) rfl _ (by rfl)
  · exact st_move (.tmp 19) rfl (K.dep 1 19 rfl)
  · exact st_move (.tmp 7) rfl (f_at (K.old 7 rfl) (Fk.mono _ _ _ _ x7 K.grow))
  · exact st_lenh (.tmp 21) rfl (K.dep 3 21 rfl)
  · exact st_neqi 3 (.tmp 22) (.const (.int .i64 512)) rfl .i64 ((((S).length : Nat) : Int)) (512) (K.dep 4 22 rfl) rfl _ (by rw [hSl]; rfl)
  · exact st_pick_f (.tmp 20) (.const (.bool true)) (.tmp 23) rfl (K.dep 2 20 rfl) (K.dep 5 23 rfl)
  intro f2 w2 A hb
  replace x3 : Fk.f (.eq (.pointer (some ⟨g3, 0, none⟩))) (f2.eval (.tmp 3)) w2 := f_at (A.old 3 rfl) (Fk.mono _ _ _ _ x3 hb)
  replace x4 : Fk.f (.eq (.pointer (some ⟨g4, 0, none⟩))) (f2.eval (.tmp 4)) w2 := f_at (A.old 4 rfl) (Fk.mono _ _ _ _ x4 hb)
  replace x5 : Fk.f (.eq (.pointer (some ⟨g5, 0, none⟩))) (f2.eval (.tmp 5)) w2 := f_at (A.old 5 rfl) (Fk.mono _ _ _ _ x5 hb)
  replace x7 : Fk.f (.hs (S)) (f2.eval (.tmp 7)) w2 := f_at (A.old 7 rfl) (Fk.mono _ _ _ _ x7 hb)
  replace x8 : Fk.f (.eq (.int .i64 0)) (f2.eval (.tmp 8)) w2 := f_at (A.old 8 rfl) (Fk.mono _ _ _ _ x8 hb)
  have x24 : Fk.f (.eq (.bool false)) (f2.eval (.tmp 24)) w2 := A.has 6 24 rfl
  replace m3 := HasV.below m3 hb (HasV.lt m3)
  replace m4 := HasV.below m4 hb (HasV.lt m4)
  replace m5 := HasV.below m5 hb (HasV.lt m5)
  replace tb := tb.below hb
  replace bl := bl.trans (Below.mono hb bl.size)
  replace sz := A.size.trans sz
  replace df := A.defs.trans df
  clear A hb
  show Code.wp _ _ _ _ _
  refine wp_cond_false x24 ?_
  refine wp_skip ?_
  show Code.wp _ _ _ _ _
  clear x24
  clear x8
  refine wp_seq ?_
  refine wp_seq ?_
  refine wp_all_seq [.eq (.int .i64 0)] (by kernel_rfl) (by kernel_rfl) (by rw [sz]; kernel_rfl) (by kernel_rfl) ⟨fun hw ac w' K => ?_, trivial⟩ ?_
  · exact st_move (.const (.int .i64 0)) rfl rfl
  intro f3 w3 A hb
  replace x3 : Fk.f (.eq (.pointer (some ⟨g3, 0, none⟩))) (f3.eval (.tmp 3)) w3 := f_at (A.old 3 rfl) (Fk.mono _ _ _ _ x3 hb)
  replace x4 : Fk.f (.eq (.pointer (some ⟨g4, 0, none⟩))) (f3.eval (.tmp 4)) w3 := f_at (A.old 4 rfl) (Fk.mono _ _ _ _ x4 hb)
  replace x5 : Fk.f (.eq (.pointer (some ⟨g5, 0, none⟩))) (f3.eval (.tmp 5)) w3 := f_at (A.old 5 rfl) (Fk.mono _ _ _ _ x5 hb)
  replace x7 : Fk.f (.hs (S)) (f3.eval (.tmp 7)) w3 := f_at (A.old 7 rfl) (Fk.mono _ _ _ _ x7 hb)
  have x25 : Fk.f (.eq (.int .i64 0)) (f3.eval (.tmp 25)) w3 := A.has 0 25 rfl
  replace m3 := HasV.below m3 hb (HasV.lt m3)
  replace m4 := HasV.below m4 hb (HasV.lt m4)
  replace m5 := HasV.below m5 hb (HasV.lt m5)
  replace tb := tb.below hb
  replace bl := bl.trans (Below.mono hb bl.size)
  replace sz := A.size.trans sz
  replace df := A.defs.trans df
  clear A hb
  show Code.wp _ _ _ _ _
  refine wp_block ?_
  have xL3 := x3
  have xL4 := x4
  have xL5 := x5
  have xL7 := x7
  have Lm3 := m3
  have Lm4 := m4
  have Lm5 := m5
  have tbL := tb
  have blL := bl
  refine wp_loop (fun f v1 => ∃ k : Nat, k ≤ 256 ∧ f.tmps.size = 82 ∧ f.defers = [] ∧ f.eval (.tmp 3) = f3.eval (.tmp 3) ∧ f.eval (.tmp 4) = f3.eval (.tmp 4) ∧ f.eval (.tmp 5) = f3.eval (.tmp 5) ∧ f.eval (.tmp 7) = f3.eval (.tmp 7) ∧ Fk.f (.eq (.int .i64 ((k : Nat) : Int))) (f.eval (.tmp 25)) v1 ∧ Below w3.heap.size w3 v1) (fun f _ => 256 - (intOf (f.eval (.tmp 25))).toNat) ⟨0, by omega, sz, df, rfl, rfl, rfl, rfl, x25, Below.refl _ _⟩ ?_
  intro f4 w4 hI
  clear sz df x25 tb bl  x3 x4 x5 x7 m3 m4 m5
  obtain ⟨k, hk, sz, df, a3, a4, a5, a7, x25, hL⟩ := hI
  have c25 := x25
  have x3 : Fk.f (.eq (.pointer (some ⟨g3, 0, none⟩))) (f4.eval (.tmp 3)) w4 := f_at a3 (Fk.mono _ _ _ _ xL3 hL)
  have x4 : Fk.f (.eq (.pointer (some ⟨g4, 0, none⟩))) (f4.eval (.tmp 4)) w4 := f_at a4 (Fk.mono _ _ _ _ xL4 hL)
  have x5 : Fk.f (.eq (.pointer (some ⟨g5, 0, none⟩))) (f4.eval (.tmp 5)) w4 := f_at a5 (Fk.mono _ _ _ _ xL5 hL)
  have x7 : Fk.f (.hs (S)) (f4.eval (.tmp 7)) w4 := f_at a7 (Fk.mono _ _ _ _ xL7 hL)
  have m3 := HasV.below Lm3 hL (HasV.lt Lm3)
  have m4 := HasV.below Lm4 hL (HasV.lt Lm4)
  have m5 := HasV.below Lm5 hL (HasV.lt Lm5)
  have tb := tbL.below hL
  by_cases hlt : k < 256
  · obtain ⟨b, eb⟩ : ∃ b, bt h k = b := ⟨_, rfl⟩
    have hb1 : b ≤ 1 := by rw [← eb]; exact bt_le h k
    obtain ⟨c, ec⟩ : ∃ c, bt o k = c := ⟨_, rfl⟩
    have hc1 : c ≤ 1 := by rw [← ec]; exact bt_le o k
    obtain ⟨z0, ez0⟩ : ∃ z, Box (sec seed ((0 : Nat) : Int) ((67 + 2 * k + b : Nat) : Int) = z) := ⟨_, ⟨rfl⟩⟩
    have hz0 : z0.length = 32 := by rw [← ez0.out]; exact sec_len _ _ _
    obtain ⟨y0, ey0⟩ : ∃ z, Box (chn ((67 + k : Nat) : Int) ((b : Nat) : Int) z0 = z) := ⟨_, ⟨rfl⟩⟩
    have hy0 : y0.length = 32 := by rw [← ey0.out]; exact chn_len _ _ _
    obtain ⟨z1, ez1⟩ : ∃ z, Box (sec seed ((0 : Nat) : Int) ((67 + 2 * k + c : Nat) : Int) = z) := ⟨_, ⟨rfl⟩⟩
    have hz1 : z1.length = 32 := by rw [← ez1.out]; exact sec_len _ _ _
    obtain ⟨y1, ey1⟩ : ∃ z, Box (chn ((67 + k : Nat) : Int) ((c : Nat) : Int) z1 = z) := ⟨_, ⟨rfl⟩⟩
    have hy1 : y1.length = 32 := by rw [← ey1.out]; exact chn_len _ _ _
    have at0 : S[2 * k]? = some z0 := by rw [← eS.out, all_at _ _ (by omega), sgOf_even, eb]; exact congrArg some ez0.out
    have at1 : b ≠ c → S[2 * k + 1]? = some y1 := by
      intro hne
      have e1 : 1 - b = c := by omega
      rw [← eS.out, all_at _ _ (by omega), sgOf_odd, eb, e1]
      have : sc seed ((0 : Nat) : Int) k c = z1 := ez1.out
      rw [this]
      exact congrArg some ey1.out
    refine wp_seq ?_
    refine wp_all_seq [.eq (.bool true)] (by kernel_rfl) (by kernel_rfl) (by rw [sz]; kernel_rfl) (by kernel_rfl) ⟨fun hw ac w' K => ?_, trivial⟩ ?_
    · exact st_lss 3 (.tmp 25) (.const (.int .i64 256)) rfl .i64 (((k : Nat) : Int)) (256) ((K.old 25 rfl).trans x25) rfl _ (by simp; omega)
    intro f5 w5 A hb
    replace x3 : Fk.f (.eq (.pointer (some ⟨g3, 0, none⟩))) (f5.eval (.tmp 3)) w5 := f_at (A.old 3 rfl) (Fk.mono _ _ _ _ x3 hb)
    replace x4 : Fk.f (.eq (.pointer (some ⟨g4, 0, none⟩))) (f5.eval (.tmp 4)) w5 := f_at (A.old 4 rfl) (Fk.mono _ _ _ _ x4 hb)
    replace x5 : Fk.f (.eq (.pointer (some ⟨g5, 0, none⟩))) (f5.eval (.tmp 5)) w5 := f_at (A.old 5 rfl) (Fk.mono _ _ _ _ x5 hb)
    replace x7 : Fk.f (.hs (S)) (f5.eval (.tmp 7)) w5 := f_at (A.old 7 rfl) (Fk.mono _ _ _ _ x7 hb)
    replace x25 : Fk.f (.eq (.int .i64 ((k : Nat) : Int))) (f5.eval (.tmp 25)) w5 := f_at (A.old 25 rfl) (Fk.mono _ _ _ _ x25 hb)
    have x26 : Fk.f (.eq (.bool true)) (f5.eval (.tmp 26)) w5 := A.has 0 26 rfl
    replace m3 := HasV.below m3 hb (HasV.lt m3)
    replace m4 := HasV.below m4 hb (HasV.lt m4)
    replace m5 := HasV.below m5 hb (HasV.lt m5)
    replace tb := tb.below hb
    replace sz := A.size.trans sz
    replace df := A.defs.trans df
    replace a3 := (A.old 3 rfl).trans a3
    replace a4 := (A.old 4 rfl).trans a4
    replace a5 := (A.old 5 rfl).trans a5
    replace a7 := (A.old 7 rfl).trans a7
    replace hL := hL.trans (Below.mono hb hL.size)
    clear A hb
    show Code.wp _ _ _ _ _
    refine wp_seq ?_
    refine wp_cond_true x26 ?_
    refine wp_skip ?_
    show Code.wp _ _ _ _ _
    clear x26
    refine wp_seq ?_
    refine wp_block ?_
    refine wp_seq ?_
    refine wp_all_seq [.eq (.int .i64 ((k : Nat) : Int)), .eq (.int .i64 ((k : Nat) : Int))] (by kernel_rfl) (by kernel_rfl) (by rw [sz]; kernel_rfl) (by kernel_rfl) ⟨fun hw ac w' K => ?_, fun hw ac w' K => ?_, trivial⟩ ?_
    · exact st_move (.tmp 25) rfl ((K.old 25 rfl).trans x25)
    · exact st_assign (.tmp 27) rfl (K.dep 0 27 rfl)
    intro f6 w6 A hb
    replace x3 : Fk.f (.eq (.pointer (some ⟨g3, 0, none⟩))) (f6.eval (.tmp 3)) w6 := f_at (A.old 3 rfl) (Fk.mono _ _ _ _ x3 hb)
    replace x4 : Fk.f (.eq (.pointer (some ⟨g4, 0, none⟩))) (f6.eval (.tmp 4)) w6 := f_at (A.old 4 rfl) (Fk.mono _ _ _ _ x4 hb)
    replace x5 : Fk.f (.eq (.pointer (some ⟨g5, 0, none⟩))) (f6.eval (.tmp 5)) w6 := f_at (A.old 5 rfl) (Fk.mono _ _ _ _ x5 hb)
    replace x7 : Fk.f (.hs (S)) (f6.eval (.tmp 7)) w6 := f_at (A.old 7 rfl) (Fk.mono _ _ _ _ x7 hb)
    replace x25 : Fk.f (.eq (.int .i64 ((k : Nat) : Int))) (f6.eval (.tmp 25)) w6 := f_at (A.old 25 rfl) (Fk.mono _ _ _ _ x25 hb)
    have x9 : Fk.f (.eq (.int .i64 ((k : Nat) : Int))) (f6.eval (.tmp 9)) w6 := A.has 1 9 rfl
    replace m3 := HasV.below m3 hb (HasV.lt m3)
    replace m4 := HasV.below m4 hb (HasV.lt m4)
    replace m5 := HasV.below m5 hb (HasV.lt m5)
    replace tb := tb.below hb
    replace sz := A.size.trans sz
    replace df := A.defs.trans df
    replace a3 := (A.old 3 rfl).trans a3
    replace a4 := (A.old 4 rfl).trans a4
    replace a5 := (A.old 5 rfl).trans a5
    replace a7 := (A.old 7 rfl).trans a7
    replace hL := hL.trans (Below.mono hb hL.size)
    clear A hb
    show Code.wp _ _ _ _ _
    refine wp_seq ?_
    refine wp_all [.eq (.agg ((h).map V).toArray), .eq (.int .i64 ((k : Nat) : Int)), .eq (.int .i64 ((b : Nat) : Int)), .eq (.agg ((o).map V).toArray), .eq (.int .i64 ((k : Nat) : Int)), .eq (.int .i64 ((c : Nat) : Int)), .eq (.int .i64 ((b : Nat) : Int)), .eq (.int .i64 ((c : Nat) : Int))] Tryd.mixed (by kernel_rfl) (by kernel_rfl) (by rw [sz]; kernel_rfl) (by kernel_rfl) ⟨fun hw ac w' K => ?_, fun hw ac w' K => ?_, fun hw ac w' K => ?_, fun hw ac w' K => ?_, fun hw ac w' K => ?_, fun hw ac w' K => ?_, fun hw ac w' K => ?_, fun hw ac w' K => ?_, trivial⟩ ?_
    · exact st_load23 (.tmp 4) rfl _ (h) ((K.old 4 rfl).trans x4) hh (HasV.below m4 K.grow (HasV.lt m4))
    · exact st_move (.tmp 9) rfl ((K.old 9 rfl).trans x9)
    · exact st_call 11 (.func 11) _ _ #[.agg ((h).map V).toArray, .int .i64 ((k : Nat) : Int)] rfl rfl (arg2 (K.dep 0 28 rfl) (K.dep 1 29 rfl)) Tryd.enter11 (fk_of (ref_to (h) (k) _ hh (by omega) eb))
    · exact st_load23 (.tmp 5) rfl _ (o) ((K.old 5 rfl).trans x5) ho (HasV.below m5 K.grow (HasV.lt m5))
    · exact st_move (.tmp 9) rfl ((K.old 9 rfl).trans x9)
    · exact st_call 11 (.func 11) _ _ #[.agg ((o).map V).toArray, .int .i64 ((k : Nat) : Int)] rfl rfl (arg2 (K.dep 3 31 rfl) (K.dep 4 32 rfl)) Tryd.enter11 (fk_of (ref_to (o) (k) _ ho (by omega) ec))
    · exact st_assign (.tmp 30) rfl (K.dep 2 30 rfl)
    · exact st_assign (.tmp 33) rfl (K.dep 5 33 rfl)
    intro f7 w7 A hb
    replace x3 : Fk.f (.eq (.pointer (some ⟨g3, 0, none⟩))) (f7.eval (.tmp 3)) w7 := f_at (A.old 3 rfl) (Fk.mono _ _ _ _ x3 hb)
    replace x4 : Fk.f (.eq (.pointer (some ⟨g4, 0, none⟩))) (f7.eval (.tmp 4)) w7 := f_at (A.old 4 rfl) (Fk.mono _ _ _ _ x4 hb)
    replace x5 : Fk.f (.eq (.pointer (some ⟨g5, 0, none⟩))) (f7.eval (.tmp 5)) w7 := f_at (A.old 5 rfl) (Fk.mono _ _ _ _ x5 hb)
    replace x7 : Fk.f (.hs (S)) (f7.eval (.tmp 7)) w7 := f_at (A.old 7 rfl) (Fk.mono _ _ _ _ x7 hb)
    replace x25 : Fk.f (.eq (.int .i64 ((k : Nat) : Int))) (f7.eval (.tmp 25)) w7 := f_at (A.old 25 rfl) (Fk.mono _ _ _ _ x25 hb)
    replace x9 : Fk.f (.eq (.int .i64 ((k : Nat) : Int))) (f7.eval (.tmp 9)) w7 := f_at (A.old 9 rfl) (Fk.mono _ _ _ _ x9 hb)
    have x10 : Fk.f (.eq (.int .i64 ((b : Nat) : Int))) (f7.eval (.tmp 10)) w7 := A.has 6 10 rfl
    have x11 : Fk.f (.eq (.int .i64 ((c : Nat) : Int))) (f7.eval (.tmp 11)) w7 := A.has 7 11 rfl
    replace m3 := HasV.below m3 hb (HasV.lt m3)
    replace m4 := HasV.below m4 hb (HasV.lt m4)
    replace m5 := HasV.below m5 hb (HasV.lt m5)
    replace tb := tb.below hb
    replace sz := A.size.trans sz
    replace df := A.defs.trans df
    replace a3 := (A.old 3 rfl).trans a3
    replace a4 := (A.old 4 rfl).trans a4
    replace a5 := (A.old 5 rfl).trans a5
    replace a7 := (A.old 7 rfl).trans a7
    replace hL := hL.trans (Below.mono hb hL.size)
    clear A hb
    show Code.wp _ _ _ _ _
    refine wp_seq ?_
    by_cases hbc : b = c
    · refine wp_all [.hs (S), .eq (.int .i64 ((k : Nat) : Int)), .eq (.int .i64 ((2 * k : Nat) : Int)), .ph (z0), .eq (.agg ((z0).map V).toArray), .eq (.int .i64 ((k : Nat) : Int)), .eq (.int .i64 ((67 + k : Nat) : Int)), .eq (.int .i64 ((b : Nat) : Int)), .eq (.agg ((y0).map V).toArray), .eq (.agg ((seed).map V).toArray), .eq (.int .i64 ((k : Nat) : Int)), .eq (.int .i64 ((2 * k : Nat) : Int)), .eq (.int .i64 ((67 + (2 * k) : Nat) : Int)), .eq (.int .i64 ((b : Nat) : Int)), .eq (.int .i64 (((67 + (2 * k)) + b : Nat) : Int)), .eq (.agg ((z0).map V).toArray), .eq (.int .i64 ((k : Nat) : Int)), .eq (.int .i64 ((67 + k : Nat) : Int)), .eq (.int .i64 ((b : Nat) : Int)), .eq (.agg ((y0).map V).toArray), .eq (.bool false), .eq (.bool false), .eq (.int .i64 ((b : Nat) : Int)), .eq (.int .i64 ((c : Nat) : Int)), .eq (.bool false), .eq (.bool false), .any, .any, .any, .any, .any, .any, .any, .any, .any, .any, .any, .any, .any, .any, .any, .any, .any, .any, .eq (.bool false), .eq (.bool false)] Tryd.mixed (by kernel_rfl) (by kernel_rfl) (by rw [sz]; kernel_rfl) (by kernel_rfl) ⟨fun hw ac w' K => ?_, fun hw ac w' K => ?_, fun hw ac w' K => ?_, fun hw ac w' K => ?_, fun hw ac w' K => ?_, fun hw ac w' K => ?_, fun hw ac w' K => ?_, fun hw ac w' K => ?_, fun hw ac w' K => ?_, fun hw ac w' K => ?_, fun hw ac w' K => ?_, fun hw ac w' K => ?_, fun hw ac w' K => ?_, fun hw ac w' K => ?_, fun hw ac w' K => ?_, fun hw ac w' K => ?_, fun hw ac w' K => ?_, fun hw ac w' K => ?_, fun hw ac w' K => ?_, fun hw ac w' K => ?_, fun hw ac w' K => ?_, fun hw ac w' K => ?_, fun hw ac w' K => ?_, fun hw ac w' K => ?_, fun hw ac w' K => ?_, fun hw ac w' K => ?_, fun hw ac w' K => ?_, fun hw ac w' K => ?_, fun hw ac w' K => ?_, fun hw ac w' K => ?_, fun hw ac w' K => ?_, fun hw ac w' K => ?_, fun hw ac w' K => ?_, fun hw ac w' K => ?_, fun hw ac w' K => ?_, fun hw ac w' K => ?_, fun hw ac w' K => ?_, fun hw ac w' K => ?_, fun hw ac w' K => ?_, fun hw ac w' K => ?_, fun hw ac w' K => ?_, fun hw ac w' K => ?_, fun hw ac w' K => ?_, fun hw ac w' K => ?_, fun hw ac w' K => ?_, fun hw ac w' K => ?_, trivial⟩ ?_
      · exact st_move (.tmp 7) rfl (f_at (K.old 7 rfl) (Fk.mono _ _ _ _ x7 K.grow))
      · exact st_move (.tmp 9) rfl ((K.old 9 rfl).trans x9)
      · exact st_mul (.const (.int .i64 2)) (.tmp 35) rfl (2) (k) (2 * k) rfl (K.dep 1 35 rfl) (by omega) (by omega)
      · exact st_idxh (.tmp 34) (.tmp 36) rfl (K.dep 0 34 rfl) (2 * k) (z0) (K.dep 2 36 rfl) at0
      · exact st_loadh (.tmp 37) rfl (K.dep 3 37 rfl)
      · exact st_move (.tmp 9) rfl ((K.old 9 rfl).trans x9)
      · exact st_add (.const (.int .i64 67)) (.tmp 39) rfl (67) (k) (67 + k) rfl (K.dep 5 39 rfl) (by omega) (by omega)
      · exact st_move (.tmp 10) rfl ((K.old 10 rfl).trans x10)
      · exact st_call 14 (.func 14) _ _ #[.agg ((z0).map V).toArray, .int .i64 ((67 + k : Nat) : Int), .int .i64 ((b : Nat) : Int)] rfl rfl (arg3 (K.dep 4 38 rfl) (K.dep 6 40 rfl) (K.dep 7 41 rfl)) Tryd.enter14 (fk_of (chn_to (z0) (((67 + k : Nat) : Int)) (((b : Nat) : Int)) _ hz0 (tb.below K.grow) ey0))
      · exact st_load23 (.tmp 3) rfl _ (seed) ((K.old 3 rfl).trans x3) hx (HasV.below m3 K.grow (HasV.lt m3))
      · exact st_move (.tmp 9) rfl ((K.old 9 rfl).trans x9)
      · exact st_mul (.const (.int .i64 2)) (.tmp 44) rfl (2) (k) (2 * k) rfl (K.dep 10 44 rfl) (by omega) (by omega)
      · exact st_add (.const (.int .i64 67)) (.tmp 45) rfl (67) (2 * k) (67 + (2 * k)) rfl (K.dep 11 45 rfl) (by omega) (by omega)
      · exact st_move (.tmp 10) rfl ((K.old 10 rfl).trans x10)
      · exact st_add (.tmp 46) (.tmp 47) rfl (67 + (2 * k)) (b) ((67 + (2 * k)) + b) (K.dep 12 46 rfl) (K.dep 13 47 rfl) (by omega) (by omega)
      · exact st_call 12 (.func 12) _ _ #[.agg ((seed).map V).toArray, .int .i64 ((0 : Nat) : Int), .int .i64 ((67 + 2 * k + b : Nat) : Int)] rfl rfl (arg3 (K.dep 9 43 rfl) rfl (K.dep 14 48 rfl)) Tryd.enter12 (fk_of (sec_to (seed) ((0 : Nat) : Int) ((67 + 2 * k + b : Nat) : Int) _ hx (tb.below K.grow) ez0))
      · exact st_move (.tmp 9) rfl ((K.old 9 rfl).trans x9)
      · exact st_add (.const (.int .i64 67)) (.tmp 50) rfl (67) (k) (67 + k) rfl (K.dep 16 50 rfl) (by omega) (by omega)
      · exact st_move (.tmp 10) rfl ((K.old 10 rfl).trans x10)
      · exact st_call 14 (.func 14) _ _ #[.agg ((z0).map V).toArray, .int .i64 ((67 + k : Nat) : Int), .int .i64 ((b : Nat) : Int)] rfl rfl (arg3 (K.dep 15 49 rfl) (K.dep 17 51 rfl) (K.dep 18 52 rfl)) Tryd.enter14 (fk_of (chn_to (z0) (((67 + k : Nat) : Int)) (((b : Nat) : Int)) _ hz0 (tb.below K.grow) ey0))
      · exact st_neqh (.tmp 42) (.tmp 53) rfl (y0) (y0) hy0 hy0 (K.dep 8 42 rfl) (K.dep 19 53 rfl) _ (by simp)
      · exact st_move (.tmp 54) rfl (K.dep 20 54 rfl)
      · exact st_move (.tmp 10) rfl ((K.old 10 rfl).trans x10)
      · exact st_move (.tmp 11) rfl ((K.old 11 rfl).trans x11)
      · exact st_neqi 3 (.tmp 56) (.tmp 57) rfl .i64 (((b : Nat) : Int)) (((c : Nat) : Int)) (K.dep 22 56 rfl) (K.dep 23 57 rfl) _ (by simp; omega)
      · exact st_move (.tmp 58) rfl (K.dep 24 58 rfl)
      · exact (Bool.false_ne_true hw).elim
      · exact (Bool.false_ne_true hw).elim
      · exact (Bool.false_ne_true hw).elim
      · exact (Bool.false_ne_true hw).elim
      · exact (Bool.false_ne_true hw).elim
      · exact (Bool.false_ne_true hw).elim
      · exact (Bool.false_ne_true hw).elim
      · exact (Bool.false_ne_true hw).elim
      · exact (Bool.false_ne_true hw).elim
      · exact (Bool.false_ne_true hw).elim
      · exact (Bool.false_ne_true hw).elim
      · exact (Bool.false_ne_true hw).elim
      · exact (Bool.false_ne_true hw).elim
      · exact (Bool.false_ne_true hw).elim
      · exact (Bool.false_ne_true hw).elim
      · exact (Bool.false_ne_true hw).elim
      · exact (Bool.false_ne_true hw).elim
      · exact (Bool.false_ne_true hw).elim
      · exact st_pick_f (.tmp 59) (.tmp 77) (.const (.bool false)) rfl (K.dep 25 59 rfl) rfl
      · exact st_pick_f (.tmp 55) (.const (.bool true)) (.tmp 78) rfl (K.dep 21 55 rfl) (K.dep 44 78 rfl)
      intro f8 w8 A hb
      replace x3 : Fk.f (.eq (.pointer (some ⟨g3, 0, none⟩))) (f8.eval (.tmp 3)) w8 := f_at (A.old 3 rfl) (Fk.mono _ _ _ _ x3 hb)
      replace x4 : Fk.f (.eq (.pointer (some ⟨g4, 0, none⟩))) (f8.eval (.tmp 4)) w8 := f_at (A.old 4 rfl) (Fk.mono _ _ _ _ x4 hb)
      replace x5 : Fk.f (.eq (.pointer (some ⟨g5, 0, none⟩))) (f8.eval (.tmp 5)) w8 := f_at (A.old 5 rfl) (Fk.mono _ _ _ _ x5 hb)
      replace x7 : Fk.f (.hs (S)) (f8.eval (.tmp 7)) w8 := f_at (A.old 7 rfl) (Fk.mono _ _ _ _ x7 hb)
      replace x25 : Fk.f (.eq (.int .i64 ((k : Nat) : Int))) (f8.eval (.tmp 25)) w8 := f_at (A.old 25 rfl) (Fk.mono _ _ _ _ x25 hb)
      replace x9 : Fk.f (.eq (.int .i64 ((k : Nat) : Int))) (f8.eval (.tmp 9)) w8 := f_at (A.old 9 rfl) (Fk.mono _ _ _ _ x9 hb)
      replace x10 : Fk.f (.eq (.int .i64 ((b : Nat) : Int))) (f8.eval (.tmp 10)) w8 := f_at (A.old 10 rfl) (Fk.mono _ _ _ _ x10 hb)
      replace x11 : Fk.f (.eq (.int .i64 ((c : Nat) : Int))) (f8.eval (.tmp 11)) w8 := f_at (A.old 11 rfl) (Fk.mono _ _ _ _ x11 hb)
      have x79 : Fk.f (.eq (.bool false)) (f8.eval (.tmp 79)) w8 := A.has 45 79 rfl
      replace m3 := HasV.below m3 hb (HasV.lt m3)
      replace m4 := HasV.below m4 hb (HasV.lt m4)
      replace m5 := HasV.below m5 hb (HasV.lt m5)
      replace tb := tb.below hb
      replace sz := A.size.trans sz
      replace df := A.defs.trans df
      replace a3 := (A.old 3 rfl).trans a3
      replace a4 := (A.old 4 rfl).trans a4
      replace a5 := (A.old 5 rfl).trans a5
      replace a7 := (A.old 7 rfl).trans a7
      replace hL := hL.trans (Below.mono hb hL.size)
      clear A hb
      show Code.wp _ _ _ _ _
      refine wp_cond_false x79 ?_
      refine wp_skip ?_
      show Code.wp _ _ _ _ _
      clear x79
      clear x9
      clear x10
      clear x11
      refine wp_region_seq [.eq (.int .i64 ((k + 1 : Nat) : Int))] (by kernel_rfl) (by kernel_rfl) (by rw [sz]; kernel_rfl) (by kernel_rfl) ⟨fun hw ac w' K => ?_, trivial⟩ ?_
      · exact st_add1 (.tmp 25) rfl k (by omega) ((K.old 25 rfl).trans x25)
      intro f9 w9 A hb
      replace x3 : Fk.f (.eq (.pointer (some ⟨g3, 0, none⟩))) (f9.eval (.tmp 3)) w9 := f_at (A.old 3 rfl) (Fk.mono _ _ _ _ x3 hb)
      replace x4 : Fk.f (.eq (.pointer (some ⟨g4, 0, none⟩))) (f9.eval (.tmp 4)) w9 := f_at (A.old 4 rfl) (Fk.mono _ _ _ _ x4 hb)
      replace x5 : Fk.f (.eq (.pointer (some ⟨g5, 0, none⟩))) (f9.eval (.tmp 5)) w9 := f_at (A.old 5 rfl) (Fk.mono _ _ _ _ x5 hb)
      replace x7 : Fk.f (.hs (S)) (f9.eval (.tmp 7)) w9 := f_at (A.old 7 rfl) (Fk.mono _ _ _ _ x7 hb)
      replace x25 : Fk.f (.eq (.int .i64 ((k : Nat) : Int))) (f9.eval (.tmp 25)) w9 := f_at (A.old 25 rfl) (Fk.mono _ _ _ _ x25 hb)
      have x80 : Fk.f (.eq (.int .i64 ((k + 1 : Nat) : Int))) (f9.eval (.tmp 80)) w9 := A.has 0 80 rfl
      replace m3 := HasV.below m3 hb (HasV.lt m3)
      replace m4 := HasV.below m4 hb (HasV.lt m4)
      replace m5 := HasV.below m5 hb (HasV.lt m5)
      replace tb := tb.below hb
      replace sz := A.size.trans sz
      replace df := A.defs.trans df
      replace a3 := (A.old 3 rfl).trans a3
      replace a4 := (A.old 4 rfl).trans a4
      replace a5 := (A.old 5 rfl).trans a5
      replace a7 := (A.old 7 rfl).trans a7
      replace hL := hL.trans (Below.mono hb hL.size)
      clear A hb
      refine wl_move rfl (.tmp 80) rfl 25 rfl (by rw [sz]; decide) ?_
      intro f10 df2 sz2 old2 new2
      have nx25 : Fk.f (.eq (.int .i64 ((k + 1 : Nat) : Int))) (f10.eval (.tmp 25)) w9 := f_at new2 x80
      replace x3 : Fk.f (.eq (.pointer (some ⟨g3, 0, none⟩))) (f10.eval (.tmp 3)) w9 := f_at (old2 3 rfl) x3
      replace x4 : Fk.f (.eq (.pointer (some ⟨g4, 0, none⟩))) (f10.eval (.tmp 4)) w9 := f_at (old2 4 rfl) x4
      replace x5 : Fk.f (.eq (.pointer (some ⟨g5, 0, none⟩))) (f10.eval (.tmp 5)) w9 := f_at (old2 5 rfl) x5
      replace x7 : Fk.f (.hs (S)) (f10.eval (.tmp 7)) w9 := f_at (old2 7 rfl) x7
      replace x80 : Fk.f (.eq (.int .i64 ((k + 1 : Nat) : Int))) (f10.eval (.tmp 80)) w9 := f_at (old2 80 rfl) x80
      have x25 := nx25
      replace sz := sz2.trans sz
      replace df := df2.trans df
      replace a3 := (old2 3 rfl).trans a3
      replace a4 := (old2 4 rfl).trans a4
      replace a5 := (old2 5 rfl).trans a5
      replace a7 := (old2 7 rfl).trans a7
      clear df2 sz2 old2 new2 nx25
      clear x80
      refine wpList_nil ?_
      show (∃ _, _) ∧ _
      refine ⟨⟨k + 1, by omega, sz, df, a3, a4, a5, a7, x25, hL⟩, ?_⟩
      rw [show f10.eval (.tmp 25) = _ from x25, show _ = _ from c25]
      simp [intOf]
      omega
    · refine wp_all [.hs (S), .eq (.int .i64 ((k : Nat) : Int)), .eq (.int .i64 ((2 * k : Nat) : Int)), .ph (z0), .eq (.agg ((z0).map V).toArray), .eq (.int .i64 ((k : Nat) : Int)), .eq (.int .i64 ((67 + k : Nat) : Int)), .eq (.int .i64 ((b : Nat) : Int)), .eq (.agg ((y0).map V).toArray), .eq (.agg ((seed).map V).toArray), .eq (.int .i64 ((k : Nat) : Int)), .eq (.int .i64 ((2 * k : Nat) : Int)), .eq (.int .i64 ((67 + (2 * k) : Nat) : Int)), .eq (.int .i64 ((b : Nat) : Int)), .eq (.int .i64 (((67 + (2 * k)) + b : Nat) : Int)), .eq (.agg ((z0).map V).toArray), .eq (.int .i64 ((k : Nat) : Int)), .eq (.int .i64 ((67 + k : Nat) : Int)), .eq (.int .i64 ((b : Nat) : Int)), .eq (.agg ((y0).map V).toArray), .eq (.bool false), .eq (.bool false), .eq (.int .i64 ((b : Nat) : Int)), .eq (.int .i64 ((c : Nat) : Int)), .eq (.bool true), .eq (.bool true), .hs (S), .eq (.int .i64 ((k : Nat) : Int)), .eq (.int .i64 ((2 * k : Nat) : Int)), .eq (.int .i64 (((2 * k) + 1 : Nat) : Int)), .ph (y1), .eq (.agg ((y1).map V).toArray), .eq (.agg ((seed).map V).toArray), .eq (.int .i64 ((k : Nat) : Int)), .eq (.int .i64 ((2 * k : Nat) : Int)), .eq (.int .i64 ((67 + (2 * k) : Nat) : Int)), .eq (.int .i64 ((c : Nat) : Int)), .eq (.int .i64 (((67 + (2 * k)) + c : Nat) : Int)), .eq (.agg ((z1).map V).toArray), .eq (.int .i64 ((k : Nat) : Int)), .eq (.int .i64 ((67 + k : Nat) : Int)), .eq (.int .i64 ((c : Nat) : Int)), .eq (.agg ((y1).map V).toArray), .eq (.bool false), .eq (.bool false), .eq (.bool false)] Tryd.mixed (by kernel_rfl) (by kernel_rfl) (by rw [sz]; kernel_rfl) (by kernel_rfl) ⟨fun hw ac w' K => ?_, fun hw ac w' K => ?_, fun hw ac w' K => ?_, fun hw ac w' K => ?_, fun hw ac w' K => ?_, fun hw ac w' K => ?_, fun hw ac w' K => ?_, fun hw ac w' K => ?_, fun hw ac w' K => ?_, fun hw ac w' K => ?_, fun hw ac w' K => ?_, fun hw ac w' K => ?_, fun hw ac w' K => ?_, fun hw ac w' K => ?_, fun hw ac w' K => ?_, fun hw ac w' K => ?_, fun hw ac w' K => ?_, fun hw ac w' K => ?_, fun hw ac w' K => ?_, fun hw ac w' K => ?_, fun hw ac w' K => ?_, fun hw ac w' K => ?_, fun hw ac w' K => ?_, fun hw ac w' K => ?_, fun hw ac w' K => ?_, fun hw ac w' K => ?_, fun hw ac w' K => ?_, fun hw ac w' K => ?_, fun hw ac w' K => ?_, fun hw ac w' K => ?_, fun hw ac w' K => ?_, fun hw ac w' K => ?_, fun hw ac w' K => ?_, fun hw ac w' K => ?_, fun hw ac w' K => ?_, fun hw ac w' K => ?_, fun hw ac w' K => ?_, fun hw ac w' K => ?_, fun hw ac w' K => ?_, fun hw ac w' K => ?_, fun hw ac w' K => ?_, fun hw ac w' K => ?_, fun hw ac w' K => ?_, fun hw ac w' K => ?_, fun hw ac w' K => ?_, fun hw ac w' K => ?_, trivial⟩ ?_
      · exact st_move (.tmp 7) rfl (f_at (K.old 7 rfl) (Fk.mono _ _ _ _ x7 K.grow))
      · exact st_move (.tmp 9) rfl ((K.old 9 rfl).trans x9)
      · exact st_mul (.const (.int .i64 2)) (.tmp 35) rfl (2) (k) (2 * k) rfl (K.dep 1 35 rfl) (by omega) (by omega)
      · exact st_idxh (.tmp 34) (.tmp 36) rfl (K.dep 0 34 rfl) (2 * k) (z0) (K.dep 2 36 rfl) at0
      · exact st_loadh (.tmp 37) rfl (K.dep 3 37 rfl)
      · exact st_move (.tmp 9) rfl ((K.old 9 rfl).trans x9)
      · exact st_add (.const (.int .i64 67)) (.tmp 39) rfl (67) (k) (67 + k) rfl (K.dep 5 39 rfl) (by omega) (by omega)
      · exact st_move (.tmp 10) rfl ((K.old 10 rfl).trans x10)
      · exact st_call 14 (.func 14) _ _ #[.agg ((z0).map V).toArray, .int .i64 ((67 + k : Nat) : Int), .int .i64 ((b : Nat) : Int)] rfl rfl (arg3 (K.dep 4 38 rfl) (K.dep 6 40 rfl) (K.dep 7 41 rfl)) Tryd.enter14 (fk_of (chn_to (z0) (((67 + k : Nat) : Int)) (((b : Nat) : Int)) _ hz0 (tb.below K.grow) ey0))
      · exact st_load23 (.tmp 3) rfl _ (seed) ((K.old 3 rfl).trans x3) hx (HasV.below m3 K.grow (HasV.lt m3))
      · exact st_move (.tmp 9) rfl ((K.old 9 rfl).trans x9)
      · exact st_mul (.const (.int .i64 2)) (.tmp 44) rfl (2) (k) (2 * k) rfl (K.dep 10 44 rfl) (by omega) (by omega)
      · exact st_add (.const (.int .i64 67)) (.tmp 45) rfl (67) (2 * k) (67 + (2 * k)) rfl (K.dep 11 45 rfl) (by omega) (by omega)
      · exact st_move (.tmp 10) rfl ((K.old 10 rfl).trans x10)
      · exact st_add (.tmp 46) (.tmp 47) rfl (67 + (2 * k)) (b) ((67 + (2 * k)) + b) (K.dep 12 46 rfl) (K.dep 13 47 rfl) (by omega) (by omega)
      · exact st_call 12 (.func 12) _ _ #[.agg ((seed).map V).toArray, .int .i64 ((0 : Nat) : Int), .int .i64 ((67 + 2 * k + b : Nat) : Int)] rfl rfl (arg3 (K.dep 9 43 rfl) rfl (K.dep 14 48 rfl)) Tryd.enter12 (fk_of (sec_to (seed) ((0 : Nat) : Int) ((67 + 2 * k + b : Nat) : Int) _ hx (tb.below K.grow) ez0))
      · exact st_move (.tmp 9) rfl ((K.old 9 rfl).trans x9)
      · exact st_add (.const (.int .i64 67)) (.tmp 50) rfl (67) (k) (67 + k) rfl (K.dep 16 50 rfl) (by omega) (by omega)
      · exact st_move (.tmp 10) rfl ((K.old 10 rfl).trans x10)
      · exact st_call 14 (.func 14) _ _ #[.agg ((z0).map V).toArray, .int .i64 ((67 + k : Nat) : Int), .int .i64 ((b : Nat) : Int)] rfl rfl (arg3 (K.dep 15 49 rfl) (K.dep 17 51 rfl) (K.dep 18 52 rfl)) Tryd.enter14 (fk_of (chn_to (z0) (((67 + k : Nat) : Int)) (((b : Nat) : Int)) _ hz0 (tb.below K.grow) ey0))
      · exact st_neqh (.tmp 42) (.tmp 53) rfl (y0) (y0) hy0 hy0 (K.dep 8 42 rfl) (K.dep 19 53 rfl) _ (by simp)
      · exact st_move (.tmp 54) rfl (K.dep 20 54 rfl)
      · exact st_move (.tmp 10) rfl ((K.old 10 rfl).trans x10)
      · exact st_move (.tmp 11) rfl ((K.old 11 rfl).trans x11)
      · exact st_neqi 3 (.tmp 56) (.tmp 57) rfl .i64 (((b : Nat) : Int)) (((c : Nat) : Int)) (K.dep 22 56 rfl) (K.dep 23 57 rfl) _ (by simp; omega)
      · exact st_move (.tmp 58) rfl (K.dep 24 58 rfl)
      · exact st_move (.tmp 7) rfl (f_at (K.old 7 rfl) (Fk.mono _ _ _ _ x7 K.grow))
      · exact st_move (.tmp 9) rfl ((K.old 9 rfl).trans x9)
      · exact st_mul (.const (.int .i64 2)) (.tmp 61) rfl (2) (k) (2 * k) rfl (K.dep 27 61 rfl) (by omega) (by omega)
      · exact st_add1 (.tmp 62) rfl (2 * k) (by omega) (K.dep 28 62 rfl)
      · exact st_idxh (.tmp 60) (.tmp 63) rfl (K.dep 26 60 rfl) (2 * k + 1) (y1) (K.dep 29 63 rfl) (at1 hbc)
      · exact st_loadh (.tmp 64) rfl (K.dep 30 64 rfl)
      · exact st_load23 (.tmp 3) rfl _ (seed) ((K.old 3 rfl).trans x3) hx (HasV.below m3 K.grow (HasV.lt m3))
      · exact st_move (.tmp 9) rfl ((K.old 9 rfl).trans x9)
      · exact st_mul (.const (.int .i64 2)) (.tmp 67) rfl (2) (k) (2 * k) rfl (K.dep 33 67 rfl) (by omega) (by omega)
      · exact st_add (.const (.int .i64 67)) (.tmp 68) rfl (67) (2 * k) (67 + (2 * k)) rfl (K.dep 34 68 rfl) (by omega) (by omega)
      · exact st_move (.tmp 11) rfl ((K.old 11 rfl).trans x11)
      · exact st_add (.tmp 69) (.tmp 70) rfl (67 + (2 * k)) (c) ((67 + (2 * k)) + c) (K.dep 35 69 rfl) (K.dep 36 70 rfl) (by omega) (by omega)
      · exact st_call 12 (.func 12) _ _ #[.agg ((seed).map V).toArray, .int .i64 ((0 : Nat) : Int), .int .i64 ((67 + 2 * k + c : Nat) : Int)] rfl rfl (arg3 (K.dep 32 66 rfl) rfl (K.dep 37 71 rfl)) Tryd.enter12 (fk_of (sec_to (seed) ((0 : Nat) : Int) ((67 + 2 * k + c : Nat) : Int) _ hx (tb.below K.grow) ez1))
      · exact st_move (.tmp 9) rfl ((K.old 9 rfl).trans x9)
      · exact st_add (.const (.int .i64 67)) (.tmp 73) rfl (67) (k) (67 + k) rfl (K.dep 39 73 rfl) (by omega) (by omega)
      · exact st_move (.tmp 11) rfl ((K.old 11 rfl).trans x11)
      · exact st_call 14 (.func 14) _ _ #[.agg ((z1).map V).toArray, .int .i64 ((67 + k : Nat) : Int), .int .i64 ((c : Nat) : Int)] rfl rfl (arg3 (K.dep 38 72 rfl) (K.dep 40 74 rfl) (K.dep 41 75 rfl)) Tryd.enter14 (fk_of (chn_to (z1) (((67 + k : Nat) : Int)) (((c : Nat) : Int)) _ hz1 (tb.below K.grow) ey1))
      · exact st_neqh (.tmp 65) (.tmp 76) rfl (y1) (y1) hy1 hy1 (K.dep 31 65 rfl) (K.dep 42 76 rfl) _ (by simp)
      · exact st_pick_t (.tmp 59) (.tmp 77) (.const (.bool false)) rfl (K.dep 25 59 rfl) (K.dep 43 77 rfl)
      · exact st_pick_f (.tmp 55) (.const (.bool true)) (.tmp 78) rfl (K.dep 21 55 rfl) (K.dep 44 78 rfl)
      intro f8 w8 A hb
      replace x3 : Fk.f (.eq (.pointer (some ⟨g3, 0, none⟩))) (f8.eval (.tmp 3)) w8 := f_at (A.old 3 rfl) (Fk.mono _ _ _ _ x3 hb)
      replace x4 : Fk.f (.eq (.pointer (some ⟨g4, 0, none⟩))) (f8.eval (.tmp 4)) w8 := f_at (A.old 4 rfl) (Fk.mono _ _ _ _ x4 hb)
      replace x5 : Fk.f (.eq (.pointer (some ⟨g5, 0, none⟩))) (f8.eval (.tmp 5)) w8 := f_at (A.old 5 rfl) (Fk.mono _ _ _ _ x5 hb)
      replace x7 : Fk.f (.hs (S)) (f8.eval (.tmp 7)) w8 := f_at (A.old 7 rfl) (Fk.mono _ _ _ _ x7 hb)
      replace x25 : Fk.f (.eq (.int .i64 ((k : Nat) : Int))) (f8.eval (.tmp 25)) w8 := f_at (A.old 25 rfl) (Fk.mono _ _ _ _ x25 hb)
      replace x9 : Fk.f (.eq (.int .i64 ((k : Nat) : Int))) (f8.eval (.tmp 9)) w8 := f_at (A.old 9 rfl) (Fk.mono _ _ _ _ x9 hb)
      replace x10 : Fk.f (.eq (.int .i64 ((b : Nat) : Int))) (f8.eval (.tmp 10)) w8 := f_at (A.old 10 rfl) (Fk.mono _ _ _ _ x10 hb)
      replace x11 : Fk.f (.eq (.int .i64 ((c : Nat) : Int))) (f8.eval (.tmp 11)) w8 := f_at (A.old 11 rfl) (Fk.mono _ _ _ _ x11 hb)
      have x79 : Fk.f (.eq (.bool false)) (f8.eval (.tmp 79)) w8 := A.has 45 79 rfl
      replace m3 := HasV.below m3 hb (HasV.lt m3)
      replace m4 := HasV.below m4 hb (HasV.lt m4)
      replace m5 := HasV.below m5 hb (HasV.lt m5)
      replace tb := tb.below hb
      replace sz := A.size.trans sz
      replace df := A.defs.trans df
      replace a3 := (A.old 3 rfl).trans a3
      replace a4 := (A.old 4 rfl).trans a4
      replace a5 := (A.old 5 rfl).trans a5
      replace a7 := (A.old 7 rfl).trans a7
      replace hL := hL.trans (Below.mono hb hL.size)
      clear A hb
      show Code.wp _ _ _ _ _
      refine wp_cond_false x79 ?_
      refine wp_skip ?_
      show Code.wp _ _ _ _ _
      clear x79
      clear x9
      clear x10
      clear x11
      refine wp_region_seq [.eq (.int .i64 ((k + 1 : Nat) : Int))] (by kernel_rfl) (by kernel_rfl) (by rw [sz]; kernel_rfl) (by kernel_rfl) ⟨fun hw ac w' K => ?_, trivial⟩ ?_
      · exact st_add1 (.tmp 25) rfl k (by omega) ((K.old 25 rfl).trans x25)
      intro f9 w9 A hb
      replace x3 : Fk.f (.eq (.pointer (some ⟨g3, 0, none⟩))) (f9.eval (.tmp 3)) w9 := f_at (A.old 3 rfl) (Fk.mono _ _ _ _ x3 hb)
      replace x4 : Fk.f (.eq (.pointer (some ⟨g4, 0, none⟩))) (f9.eval (.tmp 4)) w9 := f_at (A.old 4 rfl) (Fk.mono _ _ _ _ x4 hb)
      replace x5 : Fk.f (.eq (.pointer (some ⟨g5, 0, none⟩))) (f9.eval (.tmp 5)) w9 := f_at (A.old 5 rfl) (Fk.mono _ _ _ _ x5 hb)
      replace x7 : Fk.f (.hs (S)) (f9.eval (.tmp 7)) w9 := f_at (A.old 7 rfl) (Fk.mono _ _ _ _ x7 hb)
      replace x25 : Fk.f (.eq (.int .i64 ((k : Nat) : Int))) (f9.eval (.tmp 25)) w9 := f_at (A.old 25 rfl) (Fk.mono _ _ _ _ x25 hb)
      have x80 : Fk.f (.eq (.int .i64 ((k + 1 : Nat) : Int))) (f9.eval (.tmp 80)) w9 := A.has 0 80 rfl
      replace m3 := HasV.below m3 hb (HasV.lt m3)
      replace m4 := HasV.below m4 hb (HasV.lt m4)
      replace m5 := HasV.below m5 hb (HasV.lt m5)
      replace tb := tb.below hb
      replace sz := A.size.trans sz
      replace df := A.defs.trans df
      replace a3 := (A.old 3 rfl).trans a3
      replace a4 := (A.old 4 rfl).trans a4
      replace a5 := (A.old 5 rfl).trans a5
      replace a7 := (A.old 7 rfl).trans a7
      replace hL := hL.trans (Below.mono hb hL.size)
      clear A hb
      refine wl_move rfl (.tmp 80) rfl 25 rfl (by rw [sz]; decide) ?_
      intro f10 df2 sz2 old2 new2
      have nx25 : Fk.f (.eq (.int .i64 ((k + 1 : Nat) : Int))) (f10.eval (.tmp 25)) w9 := f_at new2 x80
      replace x3 : Fk.f (.eq (.pointer (some ⟨g3, 0, none⟩))) (f10.eval (.tmp 3)) w9 := f_at (old2 3 rfl) x3
      replace x4 : Fk.f (.eq (.pointer (some ⟨g4, 0, none⟩))) (f10.eval (.tmp 4)) w9 := f_at (old2 4 rfl) x4
      replace x5 : Fk.f (.eq (.pointer (some ⟨g5, 0, none⟩))) (f10.eval (.tmp 5)) w9 := f_at (old2 5 rfl) x5
      replace x7 : Fk.f (.hs (S)) (f10.eval (.tmp 7)) w9 := f_at (old2 7 rfl) x7
      replace x80 : Fk.f (.eq (.int .i64 ((k + 1 : Nat) : Int))) (f10.eval (.tmp 80)) w9 := f_at (old2 80 rfl) x80
      have x25 := nx25
      replace sz := sz2.trans sz
      replace df := df2.trans df
      replace a3 := (old2 3 rfl).trans a3
      replace a4 := (old2 4 rfl).trans a4
      replace a5 := (old2 5 rfl).trans a5
      replace a7 := (old2 7 rfl).trans a7
      clear df2 sz2 old2 new2 nx25
      clear x80
      refine wpList_nil ?_
      show (∃ _, _) ∧ _
      refine ⟨⟨k + 1, by omega, sz, df, a3, a4, a5, a7, x25, hL⟩, ?_⟩
      rw [show f10.eval (.tmp 25) = _ from x25, show _ = _ from c25]
      simp [intOf]
      omega
  · refine wp_seq ?_
    refine wp_all_seq [.eq (.bool false)] (by kernel_rfl) (by kernel_rfl) (by rw [sz]; kernel_rfl) (by kernel_rfl) ⟨fun hw ac w' K => ?_, trivial⟩ ?_
    · exact st_lss 3 (.tmp 25) (.const (.int .i64 256)) rfl .i64 (((k : Nat) : Int)) (256) ((K.old 25 rfl).trans x25) rfl _ (by simp; omega)
    intro f5 w5 A hb
    replace x3 : Fk.f (.eq (.pointer (some ⟨g3, 0, none⟩))) (f5.eval (.tmp 3)) w5 := f_at (A.old 3 rfl) (Fk.mono _ _ _ _ x3 hb)
    replace x4 : Fk.f (.eq (.pointer (some ⟨g4, 0, none⟩))) (f5.eval (.tmp 4)) w5 := f_at (A.old 4 rfl) (Fk.mono _ _ _ _ x4 hb)
    replace x5 : Fk.f (.eq (.pointer (some ⟨g5, 0, none⟩))) (f5.eval (.tmp 5)) w5 := f_at (A.old 5 rfl) (Fk.mono _ _ _ _ x5 hb)
    replace x7 : Fk.f (.hs (S)) (f5.eval (.tmp 7)) w5 := f_at (A.old 7 rfl) (Fk.mono _ _ _ _ x7 hb)
    replace x25 : Fk.f (.eq (.int .i64 ((k : Nat) : Int))) (f5.eval (.tmp 25)) w5 := f_at (A.old 25 rfl) (Fk.mono _ _ _ _ x25 hb)
    have x26 : Fk.f (.eq (.bool false)) (f5.eval (.tmp 26)) w5 := A.has 0 26 rfl
    replace m3 := HasV.below m3 hb (HasV.lt m3)
    replace m4 := HasV.below m4 hb (HasV.lt m4)
    replace m5 := HasV.below m5 hb (HasV.lt m5)
    replace tb := tb.below hb
    replace sz := A.size.trans sz
    replace df := A.defs.trans df
    replace a3 := (A.old 3 rfl).trans a3
    replace a4 := (A.old 4 rfl).trans a4
    replace a5 := (A.old 5 rfl).trans a5
    replace a7 := (A.old 7 rfl).trans a7
    replace hL := hL.trans (Below.mono hb hL.size)
    clear A hb
    show Code.wp _ _ _ _ _
    refine wp_seq ?_
    refine wp_cond_false x26 ?_
    refine wp_exit ?_
    clear x26
    show Code.wp _ _ _ _ _
    refine wp_seq ?_
    have bl := blL.trans (Below.mono hL blL.size)
    refine wp_all_seq [.eq (.bool true), .eq (.bool true)] (by kernel_rfl) (by kernel_rfl) (by rw [sz]; kernel_rfl) (by kernel_rfl) ⟨fun hw ac w' K => ?_, fun hw ac w' K => ?_, trivial⟩ ?_
    · exact st_call 8 (.func 8) _ _ #[] rfl rfl rfl Tryd.enter8 (fk_of (awake_any _))
    · exact st_assign (.tmp 81) rfl (K.dep 0 81 rfl)
    intro f6 w6 A hb
    replace x3 : Fk.f (.eq (.pointer (some ⟨g3, 0, none⟩))) (f6.eval (.tmp 3)) w6 := f_at (A.old 3 rfl) (Fk.mono _ _ _ _ x3 hb)
    replace x4 : Fk.f (.eq (.pointer (some ⟨g4, 0, none⟩))) (f6.eval (.tmp 4)) w6 := f_at (A.old 4 rfl) (Fk.mono _ _ _ _ x4 hb)
    replace x5 : Fk.f (.eq (.pointer (some ⟨g5, 0, none⟩))) (f6.eval (.tmp 5)) w6 := f_at (A.old 5 rfl) (Fk.mono _ _ _ _ x5 hb)
    replace x7 : Fk.f (.hs (S)) (f6.eval (.tmp 7)) w6 := f_at (A.old 7 rfl) (Fk.mono _ _ _ _ x7 hb)
    replace x25 : Fk.f (.eq (.int .i64 ((k : Nat) : Int))) (f6.eval (.tmp 25)) w6 := f_at (A.old 25 rfl) (Fk.mono _ _ _ _ x25 hb)
    have x6 : Fk.f (.eq (.bool true)) (f6.eval (.tmp 6)) w6 := A.has 1 6 rfl
    replace m3 := HasV.below m3 hb (HasV.lt m3)
    replace m4 := HasV.below m4 hb (HasV.lt m4)
    replace m5 := HasV.below m5 hb (HasV.lt m5)
    replace tb := tb.below hb
    replace bl := bl.trans (Below.mono hb bl.size)
    replace sz := A.size.trans sz
    replace df := A.defs.trans df
    clear A hb
    show Code.wp _ _ _ _ _
    refine wp_ret ?_
    exact bodyPost_ret (v := .bool true) (ret_slot rfl f6 _ x6 _ _) df ⟨rfl, bl⟩
end Go.Proofs.YtfhhlkbcoofemaaDoor
