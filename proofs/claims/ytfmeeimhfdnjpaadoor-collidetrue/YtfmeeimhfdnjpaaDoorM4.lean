/- How many bits a number has. Slices of hashes that are cut: what is told of them. Plain words of layer 7: the split, roots of lists by halves, and how they are put together on a stack. Split, and the reference's. Slices of numbers, and of pairs of numbers: of the call's own, and to be read. The reference's Root. Root. An own slice of hashes that is cut is an own slice. The law's root. What the rows of this seat share: what the listed variable gives a walk, an array of bytes opened, the start that fits. A slice of bytes that came in, opened. -/
import Derived.Test.YtfmeeimhfdnjpaaDoorM3
import Derived.Test.YtfmeeimhfdnjpaaDoorRows
import Derived.Test.YtfmeeimhfdnjpaaDoorM2
import Derived.ProofKit
import Derived.LaidMore
import Derived.OpenShut
import Derived.ShutString
import Derived.ChangeOld
import Derived.Lib.LaidTab
import Derived.SevenTiedAt
namespace Go.Proofs.YtfmeeimhfdnjpaaDoor
set_option maxRecDepth 100000
open Go.RowKit
set_option maxHeartbeats 1000000 in
theorem len64_any (x L : Nat) (hx : x < 18446744073709551616) (hL : bln x = L) (w : World) :
    Calls Tryd.prog 64 #[.int .u64 (x : Int)] w fun e w' => e = .returned (.int .i64 (L : Int)) ∧ Below w.heap.size w w' := by
  go_enter Tryd.func64, Tryd.ntmps64
  refine code_both (fun f w1 => f.tmps.size = 25 ∧ f.defers = [] ∧ f.eval (.tmp 0) = .int .u64 (x : Int) ∧ Below w.heap.size w (w1)) ⟨rfl, rfl, rfl, Below.refl _ _⟩ ?_
  rintro f0 w0 ⟨sz, df, x0, bl⟩
  have sd := And.intro sz df
  clear sz df
  have bl0 := bl
  refine wp_seq ?_
  refine wr_a [.eq (.int .i64 0)] (by rw [sd.1]; kernel_rfl) ⟨fun hw ac u K => ?_, trivial⟩ ?_
  · exact st_assign (.const (.int .i64 0)) rfl rfl
  intro f1 w1 A hb
  replace x0 := A.t x0 rfl
  have x2 := A.e 0 2 rfl rfl
  replace bl := bgo bl hb
  replace sd := A.sd sd
  clear A hb
  show Code.wp _ _ _ _ _
  refine wp_seq ?_
  refine wp_seq ?_
  have e : bln x + 0 = L := hL
  have l : x < 18446744073709551616 := hx
  by_cases h32 : 2 ^ 32 ≤ x
  rotate_left
  · skip
    replace l : x < 4294967296 := by omega
    refine wr_a [.eq (.int .u64 (x : Int)), .eq (.bool false)] (by rw [sd.1]; kernel_rfl) ⟨fun hw ac u K => ?_, fun hw ac u K => ?_, trivial⟩ ?_
    · exact st_move (.tmp 0) rfl (K.t x0 rfl)
    · exact st_geq 104 (.tmp 3) (.const (.int .u64 4294967296)) rfl .u64 _ _ (K.dep 0 3 rfl) rfl _ (by rw [eq_comm, decide_eq_false_iff_not]; omega)
    intro f2 w2 A hb
    replace x0 := A.t x0 rfl
    replace x2 := A.t x2 rfl
    have x4 := A.e 1 4 rfl rfl
    replace bl := bgo bl hb
    replace sd := A.sd sd
    clear A hb
    show Code.wp _ _ _ _ _
    refine wp_cond_false x4 ?_
    refine wp_skip ?_
    show Code.wp _ _ _ _ _
    refine wp_seq ?_
    refine wp_seq ?_
    obtain ⟨y32, hy⟩ : ∃ p, x = p := ⟨_, rfl⟩
    rw [hy] at x0 l e
    clear hy
    replace x2 : Fk.f (.eq (.int .i64 0)) (f2.eval (.tmp 2)) w2 := x2
    by_cases h16 : 2 ^ 16 ≤ y32
    rotate_left
    · skip
      replace l : y32 < 65536 := by omega
      refine wr_a [.eq (.int .u64 (y32 : Int)), .eq (.bool false)] (by rw [sd.1]; kernel_rfl) ⟨fun hw ac u K => ?_, fun hw ac u K => ?_, trivial⟩ ?_
      · exact st_move (.tmp 0) rfl (K.t x0 rfl)
      · exact st_geq 104 (.tmp 7) (.const (.int .u64 65536)) rfl .u64 _ _ (K.dep 0 7 rfl) rfl _ (by rw [eq_comm, decide_eq_false_iff_not]; omega)
      intro f3 w3 A hb
      replace x0 := A.t x0 rfl
      replace x2 := A.t x2 rfl
      replace x4 := A.t x4 rfl
      have x8 := A.e 1 8 rfl rfl
      replace bl := bgo bl hb
      replace sd := A.sd sd
      clear A hb
      clear x4
      show Code.wp _ _ _ _ _
      refine wp_cond_false x8 ?_
      refine wp_skip ?_
      show Code.wp _ _ _ _ _
      refine wp_seq ?_
      refine wp_seq ?_
      obtain ⟨y16, hy⟩ : ∃ p, y32 = p := ⟨_, rfl⟩
      rw [hy] at x0 l e
      clear hy
      replace x2 : Fk.f (.eq (.int .i64 0)) (f3.eval (.tmp 2)) w3 := x2
      by_cases h8 : 2 ^ 8 ≤ y16
      rotate_left
      · skip
        replace l : y16 < 256 := by omega
        refine wr_a [.eq (.int .u64 (y16 : Int)), .eq (.bool false)] (by rw [sd.1]; kernel_rfl) ⟨fun hw ac u K => ?_, fun hw ac u K => ?_, trivial⟩ ?_
        · exact st_move (.tmp 0) rfl (K.t x0 rfl)
        · exact st_geq 104 (.tmp 13) (.const (.int .u64 256)) rfl .u64 _ _ (K.dep 0 13 rfl) rfl _ (by rw [eq_comm, decide_eq_false_iff_not]; omega)
        intro f4 w4 A hb
        replace x0 := A.t x0 rfl
        replace x2 := A.t x2 rfl
        replace x8 := A.t x8 rfl
        have x14 := A.e 1 14 rfl rfl
        replace bl := bgo bl hb
        replace sd := A.sd sd
        clear A hb
        clear x8
        show Code.wp _ _ _ _ _
        refine wp_cond_false x14 ?_
        refine wp_skip ?_
        show Code.wp _ _ _ _ _
        refine wp_seq ?_
        obtain ⟨y8, hy⟩ : ∃ p, y16 = p := ⟨_, rfl⟩
        rw [hy] at x0 l e
        clear hy
        replace x2 : Fk.f (.eq (.int .i64 0)) (f4.eval (.tmp 2)) w4 := x2
        have hq8 := bln8 ⟨y8, l⟩
        dsimp only at hq8
        refine wr_s [.eq (.int .i64 0), .eq (.int .u64 (y8 : Int)), .eq (.int .u8 (y8 : Int)), .eq (.int .u8 ((bln y8 : Nat) : Int)), .eq (.int .i64 ((bln y8 : Nat) : Int)), .eq (.int .i64 (L : Int))] (by rw [sd.1]; kernel_rfl) ⟨fun hw ac u K => ?_, fun hw ac u K => ?_, fun hw ac u K => ?_, fun hw ac u K => ?_, fun hw ac u K => ?_, fun hw ac u K => ?_, trivial⟩ ?_
        · exact st_move (.tmp 2) rfl (K.t x2 rfl)
        · exact st_move (.tmp 0) rfl (K.t x0 rfl)
        · exact st_conv 104 5 (.tmp 20) rfl .u64 .u8 _ _ (K.dep 1 20 rfl) Tryd.under104 Tryd.under5 (by rw [IntKind.wrap_u8]; omega)
        · exact st_len8 _ (.tmp 21) rfl rfl y8 l (K.dep 2 21 rfl)
        · exact st_conv 5 3 (.tmp 22) rfl .u8 .i64 _ _ (K.dep 3 22 rfl) Tryd.under5 Tryd.under3 (by rw [IntKind.wrap_i64]; omega)
        · exact st_add (.tmp 19) (.tmp 23) rfl (0) (bln y8) (L) (K.dep 0 19 rfl) (K.dep 4 23 rfl) (by omega) (by omega)
        intro f5 w5 A hb
        replace x0 := A.t x0 rfl
        replace x2 := A.t x2 rfl
        replace x14 := A.t x14 rfl
        have x24 := A.e 5 24 rfl rfl
        replace bl := bgo bl hb
        replace sd := A.sd sd
        clear A hb
        clear x0
        clear x14
        refine wl_one (.eq (.int .i64 (L : Int))) rfl 2 rfl (by rw [sd.1]; decide) (st_assign (.tmp 24) rfl x24) ?_
        intro f6 w6 df2 sz2 old2 new2 hb
        clear x2
        replace x24 := tr old2 x24 rfl
        have x2 := Fk.e new2
        replace bl := bgo bl hb
        replace sd := sd2 sz2 df2 sd
        clear df2 sz2 old2 new2 hb
        refine wpList_nil ?_
        clear x24
        show Code.wp _ _ _ _ _
        refine wp_ret ?_
        repeat (first | with_reducible refine then_ret ?_ | with_reducible refine block_ret ?_)
        exact bodyPost_ret (v := .int .i64 (L : Int)) (ret_slot rfl f6 _ x2 _ _) sd.2 ⟨rfl, bl⟩
      replace e : bln (y16 / 2 ^ 8) + 8 = L := by have := bln_shift h8; omega
      replace l : y16 / 2 ^ 8 < 256 := by omega
      refine wr_a [.eq (.int .u64 (y16 : Int)), .eq (.bool true)] (by rw [sd.1]; kernel_rfl) ⟨fun hw ac u K => ?_, fun hw ac u K => ?_, trivial⟩ ?_
      · exact st_move (.tmp 0) rfl (K.t x0 rfl)
      · exact st_geq 104 (.tmp 13) (.const (.int .u64 256)) rfl .u64 _ _ (K.dep 0 13 rfl) rfl _ (by rw [eq_comm, decide_eq_true_iff]; omega)
      intro f4 w4 A hb
      replace x0 := A.t x0 rfl
      replace x2 := A.t x2 rfl
      replace x8 := A.t x8 rfl
      have x14 := A.e 1 14 rfl rfl
      replace bl := bgo bl hb
      replace sd := A.sd sd
      clear A hb
      clear x8
      show Code.wp _ _ _ _ _
      refine wp_cond_true x14 ?_
      refine wp_seq ?_
      refine wr_s [.eq (.int .u64 (y16 : Int)), .eq (.int .u64 ((y16 / 2 ^ 8 : Nat) : Int))] (by rw [sd.1]; kernel_rfl) ⟨fun hw ac u K => ?_, fun hw ac u K => ?_, trivial⟩ ?_
      · exact st_move (.tmp 0) rfl (K.t x0 rfl)
      · exact st_shru 104 84 (.tmp 15) (.const (.int .u64 8)) rfl (y16) 8 (K.dep 0 15 rfl) rfl _ rfl (by decide)
      intro f5 w5 A hb
      replace x0 := A.t x0 rfl
      replace x2 := A.t x2 rfl
      replace x14 := A.t x14 rfl
      have x16 := A.e 1 16 rfl rfl
      replace bl := bgo bl hb
      replace sd := A.sd sd
      clear A hb
      clear x14
      refine wl_one (.eq (.int .u64 ((y16 / 2 ^ 8 : Nat) : Int))) rfl 0 rfl (by rw [sd.1]; decide) (st_assign (.tmp 16) rfl x16) ?_
      intro f6 w6 df2 sz2 old2 new2 hb
      clear x0
      replace x2 := tr old2 x2 rfl
      replace x16 := tr old2 x16 rfl
      have x0 := Fk.e new2
      replace bl := bgo bl hb
      replace sd := sd2 sz2 df2 sd
      clear df2 sz2 old2 new2 hb
      refine wpList_nil ?_
      clear x16
      show Code.wp _ _ _ _ _
      refine wr_s [.eq (.int .i64 0), .eq (.int .i64 ((0 + 8 : Nat) : Int))] (by rw [sd.1]; kernel_rfl) ⟨fun hw ac u K => ?_, fun hw ac u K => ?_, trivial⟩ ?_
      · exact st_move (.tmp 2) rfl (K.t x2 rfl)
      · exact st_add (.tmp 17) (.const (.int .i64 8)) rfl (0) (8) (0 + 8) (K.dep 0 17 rfl) rfl (by omega) (by omega)
      intro f7 w7 A hb
      replace x2 := A.t x2 rfl
      replace x0 := A.t x0 rfl
      have x18 := A.e 1 18 rfl rfl
      replace bl := bgo bl hb
      replace sd := A.sd sd
      clear A hb
      refine wl_one (.eq (.int .i64 ((0 + 8 : Nat) : Int))) rfl 2 rfl (by rw [sd.1]; decide) (st_assign (.tmp 18) rfl x18) ?_
      intro f8 w8 df2 sz2 old2 new2 hb
      clear x2
      replace x0 := tr old2 x0 rfl
      replace x18 := tr old2 x18 rfl
      have x2 := Fk.e new2
      replace bl := bgo bl hb
      replace sd := sd2 sz2 df2 sd
      clear df2 sz2 old2 new2 hb
      refine wpList_nil ?_
      clear x18
      show Code.wp _ _ _ _ _
      refine wp_seq ?_
      obtain ⟨y8, hy⟩ : ∃ p, y16 / 2 ^ 8 = p := ⟨_, rfl⟩
      rw [hy] at x0 l e
      clear hy
      replace x2 : Fk.f (.eq (.int .i64 8)) (f8.eval (.tmp 2)) w8 := x2
      have hq8 := bln8 ⟨y8, l⟩
      dsimp only at hq8
      refine wr_s [.eq (.int .i64 8), .eq (.int .u64 (y8 : Int)), .eq (.int .u8 (y8 : Int)), .eq (.int .u8 ((bln y8 : Nat) : Int)), .eq (.int .i64 ((bln y8 : Nat) : Int)), .eq (.int .i64 (L : Int))] (by rw [sd.1]; kernel_rfl) ⟨fun hw ac u K => ?_, fun hw ac u K => ?_, fun hw ac u K => ?_, fun hw ac u K => ?_, fun hw ac u K => ?_, fun hw ac u K => ?_, trivial⟩ ?_
      · exact st_move (.tmp 2) rfl (K.t x2 rfl)
      · exact st_move (.tmp 0) rfl (K.t x0 rfl)
      · exact st_conv 104 5 (.tmp 20) rfl .u64 .u8 _ _ (K.dep 1 20 rfl) Tryd.under104 Tryd.under5 (by rw [IntKind.wrap_u8]; omega)
      · exact st_len8 _ (.tmp 21) rfl rfl y8 l (K.dep 2 21 rfl)
      · exact st_conv 5 3 (.tmp 22) rfl .u8 .i64 _ _ (K.dep 3 22 rfl) Tryd.under5 Tryd.under3 (by rw [IntKind.wrap_i64]; omega)
      · exact st_add (.tmp 19) (.tmp 23) rfl (8) (bln y8) (L) (K.dep 0 19 rfl) (K.dep 4 23 rfl) (by omega) (by omega)
      intro f9 w9 A hb
      replace x0 := A.t x0 rfl
      replace x2 := A.t x2 rfl
      have x24 := A.e 5 24 rfl rfl
      replace bl := bgo bl hb
      replace sd := A.sd sd
      clear A hb
      clear x0
      refine wl_one (.eq (.int .i64 (L : Int))) rfl 2 rfl (by rw [sd.1]; decide) (st_assign (.tmp 24) rfl x24) ?_
      intro f10 w10 df2 sz2 old2 new2 hb
      clear x2
      replace x24 := tr old2 x24 rfl
      have x2 := Fk.e new2
      replace bl := bgo bl hb
      replace sd := sd2 sz2 df2 sd
      clear df2 sz2 old2 new2 hb
      refine wpList_nil ?_
      clear x24
      show Code.wp _ _ _ _ _
      refine wp_ret ?_
      repeat (first | with_reducible refine then_ret ?_ | with_reducible refine block_ret ?_)
      exact bodyPost_ret (v := .int .i64 (L : Int)) (ret_slot rfl f10 _ x2 _ _) sd.2 ⟨rfl, bl⟩
    replace e : bln (y32 / 2 ^ 16) + 16 = L := by have := bln_shift h16; omega
    replace l : y32 / 2 ^ 16 < 65536 := by omega
    refine wr_a [.eq (.int .u64 (y32 : Int)), .eq (.bool true)] (by rw [sd.1]; kernel_rfl) ⟨fun hw ac u K => ?_, fun hw ac u K => ?_, trivial⟩ ?_
    · exact st_move (.tmp 0) rfl (K.t x0 rfl)
    · exact st_geq 104 (.tmp 7) (.const (.int .u64 65536)) rfl .u64 _ _ (K.dep 0 7 rfl) rfl _ (by rw [eq_comm, decide_eq_true_iff]; omega)
    intro f3 w3 A hb
    replace x0 := A.t x0 rfl
    replace x2 := A.t x2 rfl
    replace x4 := A.t x4 rfl
    have x8 := A.e 1 8 rfl rfl
    replace bl := bgo bl hb
    replace sd := A.sd sd
    clear A hb
    clear x4
    show Code.wp _ _ _ _ _
    refine wp_cond_true x8 ?_
    refine wp_seq ?_
    refine wr_s [.eq (.int .u64 (y32 : Int)), .eq (.int .u64 ((y32 / 2 ^ 16 : Nat) : Int))] (by rw [sd.1]; kernel_rfl) ⟨fun hw ac u K => ?_, fun hw ac u K => ?_, trivial⟩ ?_
    · exact st_move (.tmp 0) rfl (K.t x0 rfl)
    · exact st_shru 104 84 (.tmp 9) (.const (.int .u64 16)) rfl (y32) 16 (K.dep 0 9 rfl) rfl _ rfl (by decide)
    intro f4 w4 A hb
    replace x0 := A.t x0 rfl
    replace x2 := A.t x2 rfl
    replace x8 := A.t x8 rfl
    have x10 := A.e 1 10 rfl rfl
    replace bl := bgo bl hb
    replace sd := A.sd sd
    clear A hb
    clear x8
    refine wl_one (.eq (.int .u64 ((y32 / 2 ^ 16 : Nat) : Int))) rfl 0 rfl (by rw [sd.1]; decide) (st_assign (.tmp 10) rfl x10) ?_
    intro f5 w5 df2 sz2 old2 new2 hb
    clear x0
    replace x2 := tr old2 x2 rfl
    replace x10 := tr old2 x10 rfl
    have x0 := Fk.e new2
    replace bl := bgo bl hb
    replace sd := sd2 sz2 df2 sd
    clear df2 sz2 old2 new2 hb
    refine wpList_nil ?_
    clear x10
    show Code.wp _ _ _ _ _
    refine wr_s [.eq (.int .i64 0), .eq (.int .i64 ((0 + 16 : Nat) : Int))] (by rw [sd.1]; kernel_rfl) ⟨fun hw ac u K => ?_, fun hw ac u K => ?_, trivial⟩ ?_
    · exact st_move (.tmp 2) rfl (K.t x2 rfl)
    · exact st_add (.tmp 11) (.const (.int .i64 16)) rfl (0) (16) (0 + 16) (K.dep 0 11 rfl) rfl (by omega) (by omega)
    intro f6 w6 A hb
    replace x2 := A.t x2 rfl
    replace x0 := A.t x0 rfl
    have x12 := A.e 1 12 rfl rfl
    replace bl := bgo bl hb
    replace sd := A.sd sd
    clear A hb
    refine wl_one (.eq (.int .i64 ((0 + 16 : Nat) : Int))) rfl 2 rfl (by rw [sd.1]; decide) (st_assign (.tmp 12) rfl x12) ?_
    intro f7 w7 df2 sz2 old2 new2 hb
    clear x2
    replace x0 := tr old2 x0 rfl
    replace x12 := tr old2 x12 rfl
    have x2 := Fk.e new2
    replace bl := bgo bl hb
    replace sd := sd2 sz2 df2 sd
    clear df2 sz2 old2 new2 hb
    refine wpList_nil ?_
    clear x12
    show Code.wp _ _ _ _ _
    refine wp_seq ?_
    refine wp_seq ?_
    obtain ⟨y16, hy⟩ : ∃ p, y32 / 2 ^ 16 = p := ⟨_, rfl⟩
    rw [hy] at x0 l e
    clear hy
    replace x2 : Fk.f (.eq (.int .i64 16)) (f7.eval (.tmp 2)) w7 := x2
    by_cases h8 : 2 ^ 8 ≤ y16
    rotate_left
    · skip
      replace l : y16 < 256 := by omega
      refine wr_a [.eq (.int .u64 (y16 : Int)), .eq (.bool false)] (by rw [sd.1]; kernel_rfl) ⟨fun hw ac u K => ?_, fun hw ac u K => ?_, trivial⟩ ?_
      · exact st_move (.tmp 0) rfl (K.t x0 rfl)
      · exact st_geq 104 (.tmp 13) (.const (.int .u64 256)) rfl .u64 _ _ (K.dep 0 13 rfl) rfl _ (by rw [eq_comm, decide_eq_false_iff_not]; omega)
      intro f8 w8 A hb
      replace x0 := A.t x0 rfl
      replace x2 := A.t x2 rfl
      have x14 := A.e 1 14 rfl rfl
      replace bl := bgo bl hb
      replace sd := A.sd sd
      clear A hb
      show Code.wp _ _ _ _ _
      refine wp_cond_false x14 ?_
      refine wp_skip ?_
      show Code.wp _ _ _ _ _
      refine wp_seq ?_
      obtain ⟨y8, hy⟩ : ∃ p, y16 = p := ⟨_, rfl⟩
      rw [hy] at x0 l e
      clear hy
      replace x2 : Fk.f (.eq (.int .i64 16)) (f8.eval (.tmp 2)) w8 := x2
      have hq8 := bln8 ⟨y8, l⟩
      dsimp only at hq8
      refine wr_s [.eq (.int .i64 16), .eq (.int .u64 (y8 : Int)), .eq (.int .u8 (y8 : Int)), .eq (.int .u8 ((bln y8 : Nat) : Int)), .eq (.int .i64 ((bln y8 : Nat) : Int)), .eq (.int .i64 (L : Int))] (by rw [sd.1]; kernel_rfl) ⟨fun hw ac u K => ?_, fun hw ac u K => ?_, fun hw ac u K => ?_, fun hw ac u K => ?_, fun hw ac u K => ?_, fun hw ac u K => ?_, trivial⟩ ?_
      · exact st_move (.tmp 2) rfl (K.t x2 rfl)
      · exact st_move (.tmp 0) rfl (K.t x0 rfl)
      · exact st_conv 104 5 (.tmp 20) rfl .u64 .u8 _ _ (K.dep 1 20 rfl) Tryd.under104 Tryd.under5 (by rw [IntKind.wrap_u8]; omega)
      · exact st_len8 _ (.tmp 21) rfl rfl y8 l (K.dep 2 21 rfl)
      · exact st_conv 5 3 (.tmp 22) rfl .u8 .i64 _ _ (K.dep 3 22 rfl) Tryd.under5 Tryd.under3 (by rw [IntKind.wrap_i64]; omega)
      · exact st_add (.tmp 19) (.tmp 23) rfl (16) (bln y8) (L) (K.dep 0 19 rfl) (K.dep 4 23 rfl) (by omega) (by omega)
      intro f9 w9 A hb
      replace x0 := A.t x0 rfl
      replace x2 := A.t x2 rfl
      replace x14 := A.t x14 rfl
      have x24 := A.e 5 24 rfl rfl
      replace bl := bgo bl hb
      replace sd := A.sd sd
      clear A hb
      clear x0
      clear x14
      refine wl_one (.eq (.int .i64 (L : Int))) rfl 2 rfl (by rw [sd.1]; decide) (st_assign (.tmp 24) rfl x24) ?_
      intro f10 w10 df2 sz2 old2 new2 hb
      clear x2
      replace x24 := tr old2 x24 rfl
      have x2 := Fk.e new2
      replace bl := bgo bl hb
      replace sd := sd2 sz2 df2 sd
      clear df2 sz2 old2 new2 hb
      refine wpList_nil ?_
      clear x24
      show Code.wp _ _ _ _ _
      refine wp_ret ?_
      repeat (first | with_reducible refine then_ret ?_ | with_reducible refine block_ret ?_)
      exact bodyPost_ret (v := .int .i64 (L : Int)) (ret_slot rfl f10 _ x2 _ _) sd.2 ⟨rfl, bl⟩
    replace e : bln (y16 / 2 ^ 8) + 24 = L := by have := bln_shift h8; omega
    replace l : y16 / 2 ^ 8 < 256 := by omega
    refine wr_a [.eq (.int .u64 (y16 : Int)), .eq (.bool true)] (by rw [sd.1]; kernel_rfl) ⟨fun hw ac u K => ?_, fun hw ac u K => ?_, trivial⟩ ?_
    · exact st_move (.tmp 0) rfl (K.t x0 rfl)
    · exact st_geq 104 (.tmp 13) (.const (.int .u64 256)) rfl .u64 _ _ (K.dep 0 13 rfl) rfl _ (by rw [eq_comm, decide_eq_true_iff]; omega)
    intro f8 w8 A hb
    replace x0 := A.t x0 rfl
    replace x2 := A.t x2 rfl
    have x14 := A.e 1 14 rfl rfl
    replace bl := bgo bl hb
    replace sd := A.sd sd
    clear A hb
    show Code.wp _ _ _ _ _
    refine wp_cond_true x14 ?_
    refine wp_seq ?_
    refine wr_s [.eq (.int .u64 (y16 : Int)), .eq (.int .u64 ((y16 / 2 ^ 8 : Nat) : Int))] (by rw [sd.1]; kernel_rfl) ⟨fun hw ac u K => ?_, fun hw ac u K => ?_, trivial⟩ ?_
    · exact st_move (.tmp 0) rfl (K.t x0 rfl)
    · exact st_shru 104 84 (.tmp 15) (.const (.int .u64 8)) rfl (y16) 8 (K.dep 0 15 rfl) rfl _ rfl (by decide)
    intro f9 w9 A hb
    replace x0 := A.t x0 rfl
    replace x2 := A.t x2 rfl
    replace x14 := A.t x14 rfl
    have x16 := A.e 1 16 rfl rfl
    replace bl := bgo bl hb
    replace sd := A.sd sd
    clear A hb
    clear x14
    refine wl_one (.eq (.int .u64 ((y16 / 2 ^ 8 : Nat) : Int))) rfl 0 rfl (by rw [sd.1]; decide) (st_assign (.tmp 16) rfl x16) ?_
    intro f10 w10 df2 sz2 old2 new2 hb
    clear x0
    replace x2 := tr old2 x2 rfl
    replace x16 := tr old2 x16 rfl
    have x0 := Fk.e new2
    replace bl := bgo bl hb
    replace sd := sd2 sz2 df2 sd
    clear df2 sz2 old2 new2 hb
    refine wpList_nil ?_
    clear x16
    show Code.wp _ _ _ _ _
    refine wr_s [.eq (.int .i64 16), .eq (.int .i64 ((16 + 8 : Nat) : Int))] (by rw [sd.1]; kernel_rfl) ⟨fun hw ac u K => ?_, fun hw ac u K => ?_, trivial⟩ ?_
    · exact st_move (.tmp 2) rfl (K.t x2 rfl)
    · exact st_add (.tmp 17) (.const (.int .i64 8)) rfl (16) (8) (16 + 8) (K.dep 0 17 rfl) rfl (by omega) (by omega)
    intro f11 w11 A hb
    replace x2 := A.t x2 rfl
    replace x0 := A.t x0 rfl
    have x18 := A.e 1 18 rfl rfl
    replace bl := bgo bl hb
    replace sd := A.sd sd
    clear A hb
    refine wl_one (.eq (.int .i64 ((16 + 8 : Nat) : Int))) rfl 2 rfl (by rw [sd.1]; decide) (st_assign (.tmp 18) rfl x18) ?_
    intro f12 w12 df2 sz2 old2 new2 hb
    clear x2
    replace x0 := tr old2 x0 rfl
    replace x18 := tr old2 x18 rfl
    have x2 := Fk.e new2
    replace bl := bgo bl hb
    replace sd := sd2 sz2 df2 sd
    clear df2 sz2 old2 new2 hb
    refine wpList_nil ?_
    clear x18
    show Code.wp _ _ _ _ _
    refine wp_seq ?_
    obtain ⟨y8, hy⟩ : ∃ p, y16 / 2 ^ 8 = p := ⟨_, rfl⟩
    rw [hy] at x0 l e
    clear hy
    replace x2 : Fk.f (.eq (.int .i64 24)) (f12.eval (.tmp 2)) w12 := x2
    have hq8 := bln8 ⟨y8, l⟩
    dsimp only at hq8
    refine wr_s [.eq (.int .i64 24), .eq (.int .u64 (y8 : Int)), .eq (.int .u8 (y8 : Int)), .eq (.int .u8 ((bln y8 : Nat) : Int)), .eq (.int .i64 ((bln y8 : Nat) : Int)), .eq (.int .i64 (L : Int))] (by rw [sd.1]; kernel_rfl) ⟨fun hw ac u K => ?_, fun hw ac u K => ?_, fun hw ac u K => ?_, fun hw ac u K => ?_, fun hw ac u K => ?_, fun hw ac u K => ?_, trivial⟩ ?_
    · exact st_move (.tmp 2) rfl (K.t x2 rfl)
    · exact st_move (.tmp 0) rfl (K.t x0 rfl)
    · exact st_conv 104 5 (.tmp 20) rfl .u64 .u8 _ _ (K.dep 1 20 rfl) Tryd.under104 Tryd.under5 (by rw [IntKind.wrap_u8]; omega)
    · exact st_len8 _ (.tmp 21) rfl rfl y8 l (K.dep 2 21 rfl)
    · exact st_conv 5 3 (.tmp 22) rfl .u8 .i64 _ _ (K.dep 3 22 rfl) Tryd.under5 Tryd.under3 (by rw [IntKind.wrap_i64]; omega)
    · exact st_add (.tmp 19) (.tmp 23) rfl (24) (bln y8) (L) (K.dep 0 19 rfl) (K.dep 4 23 rfl) (by omega) (by omega)
    intro f13 w13 A hb
    replace x0 := A.t x0 rfl
    replace x2 := A.t x2 rfl
    have x24 := A.e 5 24 rfl rfl
    replace bl := bgo bl hb
    replace sd := A.sd sd
    clear A hb
    clear x0
    refine wl_one (.eq (.int .i64 (L : Int))) rfl 2 rfl (by rw [sd.1]; decide) (st_assign (.tmp 24) rfl x24) ?_
    intro f14 w14 df2 sz2 old2 new2 hb
    clear x2
    replace x24 := tr old2 x24 rfl
    have x2 := Fk.e new2
    replace bl := bgo bl hb
    replace sd := sd2 sz2 df2 sd
    clear df2 sz2 old2 new2 hb
    refine wpList_nil ?_
    clear x24
    show Code.wp _ _ _ _ _
    refine wp_ret ?_
    repeat (first | with_reducible refine then_ret ?_ | with_reducible refine block_ret ?_)
    exact bodyPost_ret (v := .int .i64 (L : Int)) (ret_slot rfl f14 _ x2 _ _) sd.2 ⟨rfl, bl⟩
  replace e : bln (x / 2 ^ 32) + 32 = L := by have := bln_shift h32; omega
  replace l : x / 2 ^ 32 < 4294967296 := by omega
  refine wr_a [.eq (.int .u64 (x : Int)), .eq (.bool true)] (by rw [sd.1]; kernel_rfl) ⟨fun hw ac u K => ?_, fun hw ac u K => ?_, trivial⟩ ?_
  · exact st_move (.tmp 0) rfl (K.t x0 rfl)
  · exact st_geq 104 (.tmp 3) (.const (.int .u64 4294967296)) rfl .u64 _ _ (K.dep 0 3 rfl) rfl _ (by rw [eq_comm, decide_eq_true_iff]; omega)
  intro f2 w2 A hb
  replace x0 := A.t x0 rfl
  replace x2 := A.t x2 rfl
  have x4 := A.e 1 4 rfl rfl
  replace bl := bgo bl hb
  replace sd := A.sd sd
  clear A hb
  show Code.wp _ _ _ _ _
  refine wp_cond_true x4 ?_
  refine wp_seq ?_
  refine wr_s [.eq (.int .u64 (x : Int)), .eq (.int .u64 ((x / 2 ^ 32 : Nat) : Int))] (by rw [sd.1]; kernel_rfl) ⟨fun hw ac u K => ?_, fun hw ac u K => ?_, trivial⟩ ?_
  · exact st_move (.tmp 0) rfl (K.t x0 rfl)
  · exact st_shru 104 84 (.tmp 5) (.const (.int .u64 32)) rfl (x) 32 (K.dep 0 5 rfl) rfl _ rfl (by decide)
  intro f3 w3 A hb
  replace x0 := A.t x0 rfl
  replace x2 := A.t x2 rfl
  replace x4 := A.t x4 rfl
  have x6 := A.e 1 6 rfl rfl
  replace bl := bgo bl hb
  replace sd := A.sd sd
  clear A hb
  clear x2
  clear x4
  refine wl_one (.eq (.int .u64 ((x / 2 ^ 32 : Nat) : Int))) rfl 0 rfl (by rw [sd.1]; decide) (st_assign (.tmp 6) rfl x6) ?_
  intro f4 w4 df2 sz2 old2 new2 hb
  clear x0
  replace x6 := tr old2 x6 rfl
  have x0 := Fk.e new2
  replace bl := bgo bl hb
  replace sd := sd2 sz2 df2 sd
  clear df2 sz2 old2 new2 hb
  refine wpList_nil ?_
  clear x6
  show Code.wp _ _ _ _ _
  refine wr_a [.eq (.int .i64 32)] (by rw [sd.1]; kernel_rfl) ⟨fun hw ac u K => ?_, trivial⟩ ?_
  · exact st_assign (.const (.int .i64 32)) rfl rfl
  intro f5 w5 A hb
  replace x0 := A.t x0 rfl
  have x2 := A.e 0 2 rfl rfl
  replace bl := bgo bl hb
  replace sd := A.sd sd
  clear A hb
  show Code.wp _ _ _ _ _
  refine wp_seq ?_
  refine wp_seq ?_
  obtain ⟨y32, hy⟩ : ∃ p, x / 2 ^ 32 = p := ⟨_, rfl⟩
  rw [hy] at x0 l e
  clear hy
  replace x2 : Fk.f (.eq (.int .i64 32)) (f5.eval (.tmp 2)) w5 := x2
  by_cases h16 : 2 ^ 16 ≤ y32
  rotate_left
  · skip
    replace l : y32 < 65536 := by omega
    refine wr_a [.eq (.int .u64 (y32 : Int)), .eq (.bool false)] (by rw [sd.1]; kernel_rfl) ⟨fun hw ac u K => ?_, fun hw ac u K => ?_, trivial⟩ ?_
    · exact st_move (.tmp 0) rfl (K.t x0 rfl)
    · exact st_geq 104 (.tmp 7) (.const (.int .u64 65536)) rfl .u64 _ _ (K.dep 0 7 rfl) rfl _ (by rw [eq_comm, decide_eq_false_iff_not]; omega)
    intro f6 w6 A hb
    replace x0 := A.t x0 rfl
    replace x2 := A.t x2 rfl
    have x8 := A.e 1 8 rfl rfl
    replace bl := bgo bl hb
    replace sd := A.sd sd
    clear A hb
    show Code.wp _ _ _ _ _
    refine wp_cond_false x8 ?_
    refine wp_skip ?_
    show Code.wp _ _ _ _ _
    refine wp_seq ?_
    refine wp_seq ?_
    obtain ⟨y16, hy⟩ : ∃ p, y32 = p := ⟨_, rfl⟩
    rw [hy] at x0 l e
    clear hy
    replace x2 : Fk.f (.eq (.int .i64 32)) (f6.eval (.tmp 2)) w6 := x2
    by_cases h8 : 2 ^ 8 ≤ y16
    rotate_left
    · skip
      replace l : y16 < 256 := by omega
      refine wr_a [.eq (.int .u64 (y16 : Int)), .eq (.bool false)] (by rw [sd.1]; kernel_rfl) ⟨fun hw ac u K => ?_, fun hw ac u K => ?_, trivial⟩ ?_
      · exact st_move (.tmp 0) rfl (K.t x0 rfl)
      · exact st_geq 104 (.tmp 13) (.const (.int .u64 256)) rfl .u64 _ _ (K.dep 0 13 rfl) rfl _ (by rw [eq_comm, decide_eq_false_iff_not]; omega)
      intro f7 w7 A hb
      replace x0 := A.t x0 rfl
      replace x2 := A.t x2 rfl
      replace x8 := A.t x8 rfl
      have x14 := A.e 1 14 rfl rfl
      replace bl := bgo bl hb
      replace sd := A.sd sd
      clear A hb
      clear x8
      show Code.wp _ _ _ _ _
      refine wp_cond_false x14 ?_
      refine wp_skip ?_
      show Code.wp _ _ _ _ _
      refine wp_seq ?_
      obtain ⟨y8, hy⟩ : ∃ p, y16 = p := ⟨_, rfl⟩
      rw [hy] at x0 l e
      clear hy
      replace x2 : Fk.f (.eq (.int .i64 32)) (f7.eval (.tmp 2)) w7 := x2
      have hq8 := bln8 ⟨y8, l⟩
      dsimp only at hq8
      refine wr_s [.eq (.int .i64 32), .eq (.int .u64 (y8 : Int)), .eq (.int .u8 (y8 : Int)), .eq (.int .u8 ((bln y8 : Nat) : Int)), .eq (.int .i64 ((bln y8 : Nat) : Int)), .eq (.int .i64 (L : Int))] (by rw [sd.1]; kernel_rfl) ⟨fun hw ac u K => ?_, fun hw ac u K => ?_, fun hw ac u K => ?_, fun hw ac u K => ?_, fun hw ac u K => ?_, fun hw ac u K => ?_, trivial⟩ ?_
      · exact st_move (.tmp 2) rfl (K.t x2 rfl)
      · exact st_move (.tmp 0) rfl (K.t x0 rfl)
      · exact st_conv 104 5 (.tmp 20) rfl .u64 .u8 _ _ (K.dep 1 20 rfl) Tryd.under104 Tryd.under5 (by rw [IntKind.wrap_u8]; omega)
      · exact st_len8 _ (.tmp 21) rfl rfl y8 l (K.dep 2 21 rfl)
      · exact st_conv 5 3 (.tmp 22) rfl .u8 .i64 _ _ (K.dep 3 22 rfl) Tryd.under5 Tryd.under3 (by rw [IntKind.wrap_i64]; omega)
      · exact st_add (.tmp 19) (.tmp 23) rfl (32) (bln y8) (L) (K.dep 0 19 rfl) (K.dep 4 23 rfl) (by omega) (by omega)
      intro f8 w8 A hb
      replace x0 := A.t x0 rfl
      replace x2 := A.t x2 rfl
      replace x14 := A.t x14 rfl
      have x24 := A.e 5 24 rfl rfl
      replace bl := bgo bl hb
      replace sd := A.sd sd
      clear A hb
      clear x0
      clear x14
      refine wl_one (.eq (.int .i64 (L : Int))) rfl 2 rfl (by rw [sd.1]; decide) (st_assign (.tmp 24) rfl x24) ?_
      intro f9 w9 df2 sz2 old2 new2 hb
      clear x2
      replace x24 := tr old2 x24 rfl
      have x2 := Fk.e new2
      replace bl := bgo bl hb
      replace sd := sd2 sz2 df2 sd
      clear df2 sz2 old2 new2 hb
      refine wpList_nil ?_
      clear x24
      show Code.wp _ _ _ _ _
      refine wp_ret ?_
      repeat (first | with_reducible refine then_ret ?_ | with_reducible refine block_ret ?_)
      exact bodyPost_ret (v := .int .i64 (L : Int)) (ret_slot rfl f9 _ x2 _ _) sd.2 ⟨rfl, bl⟩
    replace e : bln (y16 / 2 ^ 8) + 40 = L := by have := bln_shift h8; omega
    replace l : y16 / 2 ^ 8 < 256 := by omega
    refine wr_a [.eq (.int .u64 (y16 : Int)), .eq (.bool true)] (by rw [sd.1]; kernel_rfl) ⟨fun hw ac u K => ?_, fun hw ac u K => ?_, trivial⟩ ?_
    · exact st_move (.tmp 0) rfl (K.t x0 rfl)
    · exact st_geq 104 (.tmp 13) (.const (.int .u64 256)) rfl .u64 _ _ (K.dep 0 13 rfl) rfl _ (by rw [eq_comm, decide_eq_true_iff]; omega)
    intro f7 w7 A hb
    replace x0 := A.t x0 rfl
    replace x2 := A.t x2 rfl
    replace x8 := A.t x8 rfl
    have x14 := A.e 1 14 rfl rfl
    replace bl := bgo bl hb
    replace sd := A.sd sd
    clear A hb
    clear x8
    show Code.wp _ _ _ _ _
    refine wp_cond_true x14 ?_
    refine wp_seq ?_
    refine wr_s [.eq (.int .u64 (y16 : Int)), .eq (.int .u64 ((y16 / 2 ^ 8 : Nat) : Int))] (by rw [sd.1]; kernel_rfl) ⟨fun hw ac u K => ?_, fun hw ac u K => ?_, trivial⟩ ?_
    · exact st_move (.tmp 0) rfl (K.t x0 rfl)
    · exact st_shru 104 84 (.tmp 15) (.const (.int .u64 8)) rfl (y16) 8 (K.dep 0 15 rfl) rfl _ rfl (by decide)
    intro f8 w8 A hb
    replace x0 := A.t x0 rfl
    replace x2 := A.t x2 rfl
    replace x14 := A.t x14 rfl
    have x16 := A.e 1 16 rfl rfl
    replace bl := bgo bl hb
    replace sd := A.sd sd
    clear A hb
    clear x14
    refine wl_one (.eq (.int .u64 ((y16 / 2 ^ 8 : Nat) : Int))) rfl 0 rfl (by rw [sd.1]; decide) (st_assign (.tmp 16) rfl x16) ?_
    intro f9 w9 df2 sz2 old2 new2 hb
    clear x0
    replace x2 := tr old2 x2 rfl
    replace x16 := tr old2 x16 rfl
    have x0 := Fk.e new2
    replace bl := bgo bl hb
    replace sd := sd2 sz2 df2 sd
    clear df2 sz2 old2 new2 hb
    refine wpList_nil ?_
    clear x16
    show Code.wp _ _ _ _ _
    refine wr_s [.eq (.int .i64 32), .eq (.int .i64 ((32 + 8 : Nat) : Int))] (by rw [sd.1]; kernel_rfl) ⟨fun hw ac u K => ?_, fun hw ac u K => ?_, trivial⟩ ?_
    · exact st_move (.tmp 2) rfl (K.t x2 rfl)
    · exact st_add (.tmp 17) (.const (.int .i64 8)) rfl (32) (8) (32 + 8) (K.dep 0 17 rfl) rfl (by omega) (by omega)
    intro f10 w10 A hb
    replace x2 := A.t x2 rfl
    replace x0 := A.t x0 rfl
    have x18 := A.e 1 18 rfl rfl
    replace bl := bgo bl hb
    replace sd := A.sd sd
    clear A hb
    refine wl_one (.eq (.int .i64 ((32 + 8 : Nat) : Int))) rfl 2 rfl (by rw [sd.1]; decide) (st_assign (.tmp 18) rfl x18) ?_
    intro f11 w11 df2 sz2 old2 new2 hb
    clear x2
    replace x0 := tr old2 x0 rfl
    replace x18 := tr old2 x18 rfl
    have x2 := Fk.e new2
    replace bl := bgo bl hb
    replace sd := sd2 sz2 df2 sd
    clear df2 sz2 old2 new2 hb
    refine wpList_nil ?_
    clear x18
    show Code.wp _ _ _ _ _
    refine wp_seq ?_
    obtain ⟨y8, hy⟩ : ∃ p, y16 / 2 ^ 8 = p := ⟨_, rfl⟩
    rw [hy] at x0 l e
    clear hy
    replace x2 : Fk.f (.eq (.int .i64 40)) (f11.eval (.tmp 2)) w11 := x2
    have hq8 := bln8 ⟨y8, l⟩
    dsimp only at hq8
    refine wr_s [.eq (.int .i64 40), .eq (.int .u64 (y8 : Int)), .eq (.int .u8 (y8 : Int)), .eq (.int .u8 ((bln y8 : Nat) : Int)), .eq (.int .i64 ((bln y8 : Nat) : Int)), .eq (.int .i64 (L : Int))] (by rw [sd.1]; kernel_rfl) ⟨fun hw ac u K => ?_, fun hw ac u K => ?_, fun hw ac u K => ?_, fun hw ac u K => ?_, fun hw ac u K => ?_, fun hw ac u K => ?_, trivial⟩ ?_
    · exact st_move (.tmp 2) rfl (K.t x2 rfl)
    · exact st_move (.tmp 0) rfl (K.t x0 rfl)
    · exact st_conv 104 5 (.tmp 20) rfl .u64 .u8 _ _ (K.dep 1 20 rfl) Tryd.under104 Tryd.under5 (by rw [IntKind.wrap_u8]; omega)
    · exact st_len8 _ (.tmp 21) rfl rfl y8 l (K.dep 2 21 rfl)
    · exact st_conv 5 3 (.tmp 22) rfl .u8 .i64 _ _ (K.dep 3 22 rfl) Tryd.under5 Tryd.under3 (by rw [IntKind.wrap_i64]; omega)
    · exact st_add (.tmp 19) (.tmp 23) rfl (40) (bln y8) (L) (K.dep 0 19 rfl) (K.dep 4 23 rfl) (by omega) (by omega)
    intro f12 w12 A hb
    replace x0 := A.t x0 rfl
    replace x2 := A.t x2 rfl
    have x24 := A.e 5 24 rfl rfl
    replace bl := bgo bl hb
    replace sd := A.sd sd
    clear A hb
    clear x0
    refine wl_one (.eq (.int .i64 (L : Int))) rfl 2 rfl (by rw [sd.1]; decide) (st_assign (.tmp 24) rfl x24) ?_
    intro f13 w13 df2 sz2 old2 new2 hb
    clear x2
    replace x24 := tr old2 x24 rfl
    have x2 := Fk.e new2
    replace bl := bgo bl hb
    replace sd := sd2 sz2 df2 sd
    clear df2 sz2 old2 new2 hb
    refine wpList_nil ?_
    clear x24
    show Code.wp _ _ _ _ _
    refine wp_ret ?_
    repeat (first | with_reducible refine then_ret ?_ | with_reducible refine block_ret ?_)
    exact bodyPost_ret (v := .int .i64 (L : Int)) (ret_slot rfl f13 _ x2 _ _) sd.2 ⟨rfl, bl⟩
  replace e : bln (y32 / 2 ^ 16) + 48 = L := by have := bln_shift h16; omega
  replace l : y32 / 2 ^ 16 < 65536 := by omega
  refine wr_a [.eq (.int .u64 (y32 : Int)), .eq (.bool true)] (by rw [sd.1]; kernel_rfl) ⟨fun hw ac u K => ?_, fun hw ac u K => ?_, trivial⟩ ?_
  · exact st_move (.tmp 0) rfl (K.t x0 rfl)
  · exact st_geq 104 (.tmp 7) (.const (.int .u64 65536)) rfl .u64 _ _ (K.dep 0 7 rfl) rfl _ (by rw [eq_comm, decide_eq_true_iff]; omega)
  intro f6 w6 A hb
  replace x0 := A.t x0 rfl
  replace x2 := A.t x2 rfl
  have x8 := A.e 1 8 rfl rfl
  replace bl := bgo bl hb
  replace sd := A.sd sd
  clear A hb
  show Code.wp _ _ _ _ _
  refine wp_cond_true x8 ?_
  refine wp_seq ?_
  refine wr_s [.eq (.int .u64 (y32 : Int)), .eq (.int .u64 ((y32 / 2 ^ 16 : Nat) : Int))] (by rw [sd.1]; kernel_rfl) ⟨fun hw ac u K => ?_, fun hw ac u K => ?_, trivial⟩ ?_
  · exact st_move (.tmp 0) rfl (K.t x0 rfl)
  · exact st_shru 104 84 (.tmp 9) (.const (.int .u64 16)) rfl (y32) 16 (K.dep 0 9 rfl) rfl _ rfl (by decide)
  intro f7 w7 A hb
  replace x0 := A.t x0 rfl
  replace x2 := A.t x2 rfl
  replace x8 := A.t x8 rfl
  have x10 := A.e 1 10 rfl rfl
  replace bl := bgo bl hb
  replace sd := A.sd sd
  clear A hb
  clear x8
  refine wl_one (.eq (.int .u64 ((y32 / 2 ^ 16 : Nat) : Int))) rfl 0 rfl (by rw [sd.1]; decide) (st_assign (.tmp 10) rfl x10) ?_
  intro f8 w8 df2 sz2 old2 new2 hb
  clear x0
  replace x2 := tr old2 x2 rfl
  replace x10 := tr old2 x10 rfl
  have x0 := Fk.e new2
  replace bl := bgo bl hb
  replace sd := sd2 sz2 df2 sd
  clear df2 sz2 old2 new2 hb
  refine wpList_nil ?_
  clear x10
  show Code.wp _ _ _ _ _
  refine wr_s [.eq (.int .i64 32), .eq (.int .i64 ((32 + 16 : Nat) : Int))] (by rw [sd.1]; kernel_rfl) ⟨fun hw ac u K => ?_, fun hw ac u K => ?_, trivial⟩ ?_
  · exact st_move (.tmp 2) rfl (K.t x2 rfl)
  · exact st_add (.tmp 11) (.const (.int .i64 16)) rfl (32) (16) (32 + 16) (K.dep 0 11 rfl) rfl (by omega) (by omega)
  intro f9 w9 A hb
  replace x2 := A.t x2 rfl
  replace x0 := A.t x0 rfl
  have x12 := A.e 1 12 rfl rfl
  replace bl := bgo bl hb
  replace sd := A.sd sd
  clear A hb
  refine wl_one (.eq (.int .i64 ((32 + 16 : Nat) : Int))) rfl 2 rfl (by rw [sd.1]; decide) (st_assign (.tmp 12) rfl x12) ?_
  intro f10 w10 df2 sz2 old2 new2 hb
  clear x2
  replace x0 := tr old2 x0 rfl
  replace x12 := tr old2 x12 rfl
  have x2 := Fk.e new2
  replace bl := bgo bl hb
  replace sd := sd2 sz2 df2 sd
  clear df2 sz2 old2 new2 hb
  refine wpList_nil ?_
  clear x12
  show Code.wp _ _ _ _ _
  refine wp_seq ?_
  refine wp_seq ?_
  obtain ⟨y16, hy⟩ : ∃ p, y32 / 2 ^ 16 = p := ⟨_, rfl⟩
  rw [hy] at x0 l e
  clear hy
  replace x2 : Fk.f (.eq (.int .i64 48)) (f10.eval (.tmp 2)) w10 := x2
  by_cases h8 : 2 ^ 8 ≤ y16
  rotate_left
  · skip
    replace l : y16 < 256 := by omega
    refine wr_a [.eq (.int .u64 (y16 : Int)), .eq (.bool false)] (by rw [sd.1]; kernel_rfl) ⟨fun hw ac u K => ?_, fun hw ac u K => ?_, trivial⟩ ?_
    · exact st_move (.tmp 0) rfl (K.t x0 rfl)
    · exact st_geq 104 (.tmp 13) (.const (.int .u64 256)) rfl .u64 _ _ (K.dep 0 13 rfl) rfl _ (by rw [eq_comm, decide_eq_false_iff_not]; omega)
    intro f11 w11 A hb
    replace x0 := A.t x0 rfl
    replace x2 := A.t x2 rfl
    have x14 := A.e 1 14 rfl rfl
    replace bl := bgo bl hb
    replace sd := A.sd sd
    clear A hb
    show Code.wp _ _ _ _ _
    refine wp_cond_false x14 ?_
    refine wp_skip ?_
    show Code.wp _ _ _ _ _
    refine wp_seq ?_
    obtain ⟨y8, hy⟩ : ∃ p, y16 = p := ⟨_, rfl⟩
    rw [hy] at x0 l e
    clear hy
    replace x2 : Fk.f (.eq (.int .i64 48)) (f11.eval (.tmp 2)) w11 := x2
    have hq8 := bln8 ⟨y8, l⟩
    dsimp only at hq8
    refine wr_s [.eq (.int .i64 48), .eq (.int .u64 (y8 : Int)), .eq (.int .u8 (y8 : Int)), .eq (.int .u8 ((bln y8 : Nat) : Int)), .eq (.int .i64 ((bln y8 : Nat) : Int)), .eq (.int .i64 (L : Int))] (by rw [sd.1]; kernel_rfl) ⟨fun hw ac u K => ?_, fun hw ac u K => ?_, fun hw ac u K => ?_, fun hw ac u K => ?_, fun hw ac u K => ?_, fun hw ac u K => ?_, trivial⟩ ?_
    · exact st_move (.tmp 2) rfl (K.t x2 rfl)
    · exact st_move (.tmp 0) rfl (K.t x0 rfl)
    · exact st_conv 104 5 (.tmp 20) rfl .u64 .u8 _ _ (K.dep 1 20 rfl) Tryd.under104 Tryd.under5 (by rw [IntKind.wrap_u8]; omega)
    · exact st_len8 _ (.tmp 21) rfl rfl y8 l (K.dep 2 21 rfl)
    · exact st_conv 5 3 (.tmp 22) rfl .u8 .i64 _ _ (K.dep 3 22 rfl) Tryd.under5 Tryd.under3 (by rw [IntKind.wrap_i64]; omega)
    · exact st_add (.tmp 19) (.tmp 23) rfl (48) (bln y8) (L) (K.dep 0 19 rfl) (K.dep 4 23 rfl) (by omega) (by omega)
    intro f12 w12 A hb
    replace x0 := A.t x0 rfl
    replace x2 := A.t x2 rfl
    replace x14 := A.t x14 rfl
    have x24 := A.e 5 24 rfl rfl
    replace bl := bgo bl hb
    replace sd := A.sd sd
    clear A hb
    clear x0
    clear x14
    refine wl_one (.eq (.int .i64 (L : Int))) rfl 2 rfl (by rw [sd.1]; decide) (st_assign (.tmp 24) rfl x24) ?_
    intro f13 w13 df2 sz2 old2 new2 hb
    clear x2
    replace x24 := tr old2 x24 rfl
    have x2 := Fk.e new2
    replace bl := bgo bl hb
    replace sd := sd2 sz2 df2 sd
    clear df2 sz2 old2 new2 hb
    refine wpList_nil ?_
    clear x24
    show Code.wp _ _ _ _ _
    refine wp_ret ?_
    repeat (first | with_reducible refine then_ret ?_ | with_reducible refine block_ret ?_)
    exact bodyPost_ret (v := .int .i64 (L : Int)) (ret_slot rfl f13 _ x2 _ _) sd.2 ⟨rfl, bl⟩
  replace e : bln (y16 / 2 ^ 8) + 56 = L := by have := bln_shift h8; omega
  replace l : y16 / 2 ^ 8 < 256 := by omega
  refine wr_a [.eq (.int .u64 (y16 : Int)), .eq (.bool true)] (by rw [sd.1]; kernel_rfl) ⟨fun hw ac u K => ?_, fun hw ac u K => ?_, trivial⟩ ?_
  · exact st_move (.tmp 0) rfl (K.t x0 rfl)
  · exact st_geq 104 (.tmp 13) (.const (.int .u64 256)) rfl .u64 _ _ (K.dep 0 13 rfl) rfl _ (by rw [eq_comm, decide_eq_true_iff]; omega)
  intro f11 w11 A hb
  replace x0 := A.t x0 rfl
  replace x2 := A.t x2 rfl
  have x14 := A.e 1 14 rfl rfl
  replace bl := bgo bl hb
  replace sd := A.sd sd
  clear A hb
  show Code.wp _ _ _ _ _
  refine wp_cond_true x14 ?_
  refine wp_seq ?_
  refine wr_s [.eq (.int .u64 (y16 : Int)), .eq (.int .u64 ((y16 / 2 ^ 8 : Nat) : Int))] (by rw [sd.1]; kernel_rfl) ⟨fun hw ac u K => ?_, fun hw ac u K => ?_, trivial⟩ ?_
  · exact st_move (.tmp 0) rfl (K.t x0 rfl)
  · exact st_shru 104 84 (.tmp 15) (.const (.int .u64 8)) rfl (y16) 8 (K.dep 0 15 rfl) rfl _ rfl (by decide)
  intro f12 w12 A hb
  replace x0 := A.t x0 rfl
  replace x2 := A.t x2 rfl
  replace x14 := A.t x14 rfl
  have x16 := A.e 1 16 rfl rfl
  replace bl := bgo bl hb
  replace sd := A.sd sd
  clear A hb
  clear x14
  refine wl_one (.eq (.int .u64 ((y16 / 2 ^ 8 : Nat) : Int))) rfl 0 rfl (by rw [sd.1]; decide) (st_assign (.tmp 16) rfl x16) ?_
  intro f13 w13 df2 sz2 old2 new2 hb
  clear x0
  replace x2 := tr old2 x2 rfl
  replace x16 := tr old2 x16 rfl
  have x0 := Fk.e new2
  replace bl := bgo bl hb
  replace sd := sd2 sz2 df2 sd
  clear df2 sz2 old2 new2 hb
  refine wpList_nil ?_
  clear x16
  show Code.wp _ _ _ _ _
  refine wr_s [.eq (.int .i64 48), .eq (.int .i64 ((48 + 8 : Nat) : Int))] (by rw [sd.1]; kernel_rfl) ⟨fun hw ac u K => ?_, fun hw ac u K => ?_, trivial⟩ ?_
  · exact st_move (.tmp 2) rfl (K.t x2 rfl)
  · exact st_add (.tmp 17) (.const (.int .i64 8)) rfl (48) (8) (48 + 8) (K.dep 0 17 rfl) rfl (by omega) (by omega)
  intro f14 w14 A hb
  replace x2 := A.t x2 rfl
  replace x0 := A.t x0 rfl
  have x18 := A.e 1 18 rfl rfl
  replace bl := bgo bl hb
  replace sd := A.sd sd
  clear A hb
  refine wl_one (.eq (.int .i64 ((48 + 8 : Nat) : Int))) rfl 2 rfl (by rw [sd.1]; decide) (st_assign (.tmp 18) rfl x18) ?_
  intro f15 w15 df2 sz2 old2 new2 hb
  clear x2
  replace x0 := tr old2 x0 rfl
  replace x18 := tr old2 x18 rfl
  have x2 := Fk.e new2
  replace bl := bgo bl hb
  replace sd := sd2 sz2 df2 sd
  clear df2 sz2 old2 new2 hb
  refine wpList_nil ?_
  clear x18
  show Code.wp _ _ _ _ _
  refine wp_seq ?_
  obtain ⟨y8, hy⟩ : ∃ p, y16 / 2 ^ 8 = p := ⟨_, rfl⟩
  rw [hy] at x0 l e
  clear hy
  replace x2 : Fk.f (.eq (.int .i64 56)) (f15.eval (.tmp 2)) w15 := x2
  have hq8 := bln8 ⟨y8, l⟩
  dsimp only at hq8
  refine wr_s [.eq (.int .i64 56), .eq (.int .u64 (y8 : Int)), .eq (.int .u8 (y8 : Int)), .eq (.int .u8 ((bln y8 : Nat) : Int)), .eq (.int .i64 ((bln y8 : Nat) : Int)), .eq (.int .i64 (L : Int))] (by rw [sd.1]; kernel_rfl) ⟨fun hw ac u K => ?_, fun hw ac u K => ?_, fun hw ac u K => ?_, fun hw ac u K => ?_, fun hw ac u K => ?_, fun hw ac u K => ?_, trivial⟩ ?_
  · exact st_move (.tmp 2) rfl (K.t x2 rfl)
  · exact st_move (.tmp 0) rfl (K.t x0 rfl)
  · exact st_conv 104 5 (.tmp 20) rfl .u64 .u8 _ _ (K.dep 1 20 rfl) Tryd.under104 Tryd.under5 (by rw [IntKind.wrap_u8]; omega)
  · exact st_len8 _ (.tmp 21) rfl rfl y8 l (K.dep 2 21 rfl)
  · exact st_conv 5 3 (.tmp 22) rfl .u8 .i64 _ _ (K.dep 3 22 rfl) Tryd.under5 Tryd.under3 (by rw [IntKind.wrap_i64]; omega)
  · exact st_add (.tmp 19) (.tmp 23) rfl (56) (bln y8) (L) (K.dep 0 19 rfl) (K.dep 4 23 rfl) (by omega) (by omega)
  intro f16 w16 A hb
  replace x0 := A.t x0 rfl
  replace x2 := A.t x2 rfl
  have x24 := A.e 5 24 rfl rfl
  replace bl := bgo bl hb
  replace sd := A.sd sd
  clear A hb
  clear x0
  refine wl_one (.eq (.int .i64 (L : Int))) rfl 2 rfl (by rw [sd.1]; decide) (st_assign (.tmp 24) rfl x24) ?_
  intro f17 w17 df2 sz2 old2 new2 hb
  clear x2
  replace x24 := tr old2 x24 rfl
  have x2 := Fk.e new2
  replace bl := bgo bl hb
  replace sd := sd2 sz2 df2 sd
  clear df2 sz2 old2 new2 hb
  refine wpList_nil ?_
  clear x24
  show Code.wp _ _ _ _ _
  refine wp_ret ?_
  repeat (first | with_reducible refine then_ret ?_ | with_reducible refine block_ret ?_)
  exact bodyPost_ret (v := .int .i64 (L : Int)) (ret_slot rfl f17 _ x2 _ _) sd.2 ⟨rfl, bl⟩
theorem len_any (x : Nat) (hx : x < 18446744073709551616) (w : World) :
    Calls Tryd.prog 50 #[.int .u64 (x : Int)] w fun e w' => e = .returned (.int .i64 ((bln x : Nat) : Int)) ∧ Below w.heap.size w w' := by
  go_enter Tryd.func50, Tryd.ntmps50
  refine code_both (fun f w1 => f.tmps.size = 8 ∧ f.defers = [] ∧ f.eval (.tmp 0) = .int .u64 (x : Int) ∧ Below w.heap.size w (w1)) ⟨rfl, rfl, rfl, Below.refl _ _⟩ ?_
  rintro f0 w0 ⟨sz, df, x0, bl⟩
  have sd := And.intro sz df
  clear sz df
  have bl0 := bl
  refine wp_seq ?_
  refine wr_a [.eq (.int .i64 0)] (by rw [sd.1]; kernel_rfl) ⟨fun hw ac u K => ?_, trivial⟩ ?_
  · exact st_assign (.const (.int .i64 0)) rfl rfl
  intro f1 w1 A hb
  replace x0 := A.t x0 rfl
  replace bl := bgo bl hb
  replace sd := A.sd sd
  clear A hb
  show Code.wp _ _ _ _ _
  refine wp_seq ?_
  refine wp_cond_false rfl ?_
  refine wp_skip ?_
  show Code.wp _ _ _ _ _
  refine wp_seq ?_
  refine wr_a [.eq (.int .u64 (x : Int)), .eq (.int .i64 ((bln x : Nat) : Int)), .eq (.int .i64 ((bln x : Nat) : Int))] (by rw [sd.1]; kernel_rfl) ⟨fun hw ac u K => ?_, fun hw ac u K => ?_, fun hw ac u K => ?_, trivial⟩ ?_
  · exact st_move (.tmp 0) rfl (K.t x0 rfl)
  · exact st_call 64 (.func 64) _ _ _ rfl rfl (one_arg (K.dep 0 6 rfl)) Tryd.enter64 (fk_of (len64_any x _ hx rfl _))
  · exact st_assign (.tmp 7) rfl (K.dep 1 7 rfl)
  intro f2 w2 A hb
  replace x0 := A.t x0 rfl
  have x2 := A.e 2 2 rfl rfl
  replace bl := bgo bl hb
  replace sd := A.sd sd
  clear A hb
  clear x0
  show Code.wp _ _ _ _ _
  refine wp_ret ?_
  repeat (first | with_reducible refine then_ret ?_ | with_reducible refine block_ret ?_)
  exact bodyPost_ret (v := .int .i64 ((bln x : Nat) : Int)) (ret_slot rfl f2 _ x2 _ _) sd.2 ⟨rfl, bl⟩
end Go.Proofs.YtfmeeimhfdnjpaaDoor
namespace Go.Proofs.YtfmeeimhfdnjpaaDoor
set_option maxRecDepth 100000
open Go.RowKit
/-- A slice that has these hashes, and room for them. -/
def Fk.hc (hs : List (List (BitVec 8))) : Fk := .inr (.inl ⟨fun v w => ∃ A C lb lo, v = .slice A hs.length C ∧ hs.length ≤ C ∧ Hl w A lb lo hs, by
  rintro v w w' ⟨A, C, lb, lo, e, hg, h⟩ hb
  exact ⟨A, C, lb, lo, e, hg, h.below hb⟩⟩)
theorem hc_hs {hs : List (List (BitVec 8))} {v : Value} {w : World} (h : (Fk.hc hs).f v w) : (Fk.hs hs).f v w := by
  obtain ⟨A, C, lb, lo, e, _, hl⟩ := h
  exact ⟨A, C, lb, lo, e, hl⟩
theorem ow_hc {base : Nat} {hs : List (List (BitVec 8))} {v : Value} {w : World} (h : (Fk.ow base hs).f v w) : (Fk.hc hs).f v w := by
  obtain ⟨A, C, lb, lo, e, hl⟩ := ow_hs h
  refine ⟨A, C, lb, lo, e, ?_, hl⟩
  obtain ⟨⟨h1, h2⟩, h3⟩ := h
  rcases h2 with ⟨h4, hn⟩ | ⟨g, cap, cur, h4, hbg, hg, hnc, _⟩
  · rw [hn]; exact Nat.zero_le _
  · rw [e] at h4
    cases h4
    exact hnc
theorem ow_le {g0 g1 : Nat} (hg : g1 ≤ g0) {hs : List (List (BitVec 8))} {v : Value} {w : World} (h : (Fk.ow g0 hs).f v w) : (Fk.ow g1 hs).f v w := by
  obtain ⟨⟨h1, h2⟩, h3⟩ := h
  refine ⟨⟨h1, ?_⟩, h3⟩
  rcases h2 with h2 | ⟨g, cap, cur, e, hbg, r⟩
  · exact .inl h2
  · exact .inr ⟨g, cap, cur, e, Nat.le_trans hg hbg, r⟩
theorem fk_ow {f : FuncId} {args : Array Value} {w : World} {g0 : Nat} {S : List (List (BitVec 8))} (hg : g0 ≤ w.heap.size) (h : Calls Tryd.prog f args w fun e w' => ∃ u, e = .returned u ∧ (Fk.ow w.heap.size S).f u w' ∧ Below w.heap.size w w') :
    Calls Tryd.prog f args w fun e w' => ∃ u, e = .returned u ∧ (Fk.ow g0 S).f u w' ∧ Below w.heap.size w w' := by
  refine h.mono ?_
  rintro e w' ⟨u, rfl, h1, h3⟩
  exact ⟨u, rfl, ow_le hg h1, h3⟩
section
variable {Q : Exit → Act → World → Prop} {o : Oper} {a : Act} {w : World}
theorem st_cuth (x y : Operand) (ho : o.op = .slice 35 x none (some y) none) {hs : List (List (BitVec 8))} (h : (Fk.hc hs).f (a.eval x) w) (n : Nat) (hy : a.eval y = .int .i64 (n : Int)) (hn : n ≤ hs.length) : o.wp Tryd.prog a w (Ends a o.dst w (Fk.hc (hs.take n)).f) Q := by
  obtain ⟨A, C, lb, lo, e, hc, hl⟩ := h
  refine st_pure (v := sliced A 0 n C 32) ?_ ⟨if C = 0 then A else A.map (·.add (0 * 32)), C, lb, lo, ?_, ?_, fun hp => ?_, fun hp => ?_, fun i x hi => ?_⟩
  · have h1 := run_slice_h (P := Tryd.prog) (w := w) 35 A hs.length C (by rw [Tryd.elem35]; exact Tryd.under35') .i64 (n : Int) (by omega) (by omega)
    rw [Tryd.elem35, Tryd.sizeOf33] at h1
    simp only [Result.andThen_ok, Int.toNat_natCast] at h1
    have h2 := run_sliceAt_slice (P := Tryd.prog) (w := w) 35 (.slice A hs.length C) none (some (.int .i64 (n : Int))) none (by rw [Tryd.elem35]; exact Tryd.under35')
    unfold execOp
    rw [ho]
    simp [e, hy, h2, h1]
  · simp only [sliced, List.length_take, Nat.sub_zero, Nat.min_eq_left hn]
  · rw [List.length_take]; omega
  · rw [List.length_take] at hp
    rw [if_neg (by omega), hl.ptr (by omega)]
    simp [Addr.add_mid]
  · rw [List.length_take] at hp
    exact hl.lt (by omega)
  · rw [List.getElem?_take] at hi
    split at hi
    · exact hl.all i x hi
    · cases hi
theorem st_restc (x y : Operand) (ho : o.op = .slice 35 x (some y) none none) {hs : List (List (BitVec 8))} (h : (Fk.hc hs).f (a.eval x) w) (n : Nat) (hy : a.eval y = .int .i64 (n : Int)) (hn : n ≤ hs.length) : o.wp Tryd.prog a w (Ends a o.dst w (Fk.hc (hs.drop n)).f) Q := by
  obtain ⟨A, C, lb, lo, e, hc, hl⟩ := h
  refine st_pure (v := sliced A n hs.length C 32) ?_ ⟨if C = n then A else A.map (·.add (n * 32)), C - n, lb, lo + n * 32, ?_, ?_, fun hp => ?_, fun hp => ?_, fun i x hi => ?_⟩
  · have h1 := run_slice_l (P := Tryd.prog) (w := w) 35 A hs.length C (by rw [Tryd.elem35]; exact Tryd.under35') .i64 (n : Int) (by omega) (by omega)
    rw [Tryd.elem35, Tryd.sizeOf33] at h1
    simp only [Result.andThen_ok, Int.toNat_natCast] at h1
    have h2 := run_sliceAt_slice (P := Tryd.prog) (w := w) 35 (.slice A hs.length C) (some (.int .i64 (n : Int))) none none (by rw [Tryd.elem35]; exact Tryd.under35')
    unfold execOp
    rw [ho]
    simp [e, hy, h2, h1]
  · simp only [sliced, List.length_drop]
  · rw [List.length_drop]; omega
  · rw [List.length_drop] at hp
    rw [if_neg (by omega), hl.ptr (by omega)]
    simp [Addr.add_mid]
  · rw [List.length_drop] at hp
    exact hl.lt (by omega)
  · rw [List.getElem?_drop] at hi
    have := hl.all (n + i) x hi
    rw [Nat.add_mul, ← Nat.add_assoc] at this
    exact this
theorem st_lenc (x : Operand) (ho : o.op = .call { callee := .builtin .len, args := #[x], argTypes := #[35] }) {hs : List (List (BitVec 8))} (n : Nat) (hn : hs.length = n) (h : (Fk.hc hs).f (a.eval x) w) : o.wp Tryd.prog a w (Ends a o.dst w (Fk.eq (.int .i64 ((n : Nat) : Int))).f) Q := by
  subst hn
  exact st_lenh x ho (hc_hs h)
end
end Go.Proofs.YtfmeeimhfdnjpaaDoor
namespace Go.Proofs.YtfmeeimhfdnjpaaDoor
set_option maxRecDepth 100000
/-- The greatest power of two that is less (of numbers above 1). -/
def spl (n : Nat) : Nat := 2 ^ Nat.log2 (n - 1)
theorem spl_lt {n : Nat} (h : 2 ≤ n) : spl n < n := by
  have := Nat.log2_self_le (n := n - 1) (by omega)
  unfold spl
  omega
theorem spl_pos (n : Nat) : 1 ≤ spl n := Nat.one_le_two_pow
theorem spl_ge {n : Nat} (h : 2 ≤ n) : n ≤ 2 * spl n := by
  have := Nat.lt_log2_self (n := n - 1)
  unfold spl
  rw [Nat.pow_succ] at this
  omega
theorem spl_one {n j : Nat} (h1 : 2 ^ j < n) (h2 : n ≤ 2 * 2 ^ j) : spl n = 2 ^ j := by
  unfold spl
  congr 1
  have hn : n - 1 ≠ 0 := by have := Nat.one_le_two_pow (n := j); omega
  have h3 : j ≤ Nat.log2 (n - 1) := (Nat.le_log2 hn).2 (by omega)
  have h4 : Nat.log2 (n - 1) < j + 1 := (Nat.log2_lt hn).2 (by rw [Nat.pow_succ]; omega)
  omega
/-- The root of a list. -/
def mroot (l : List (List (BitVec 8))) : List (BitVec 8) :=
  if _h : l.length ≤ 1 then (match l with | [] => shaOf [] | x :: _ => x)
  else nd (mroot (l.take (spl l.length))) (mroot (l.drop (spl l.length)))
  termination_by l.length
  decreasing_by
    · have := spl_lt (n := l.length) (by omega)
      rw [List.length_take]; omega
    · have := spl_pos l.length
      rw [List.length_drop]; omega
theorem mroot_nil : mroot [] = shaOf [] := by rw [mroot]; simp
theorem mroot_one (x : List (BitVec 8)) : mroot [x] = x := by rw [mroot]; simp
theorem mroot_two {l : List (List (BitVec 8))} (h : 2 ≤ l.length) : mroot l = nd (mroot (l.take (spl l.length))) (mroot (l.drop (spl l.length))) := by
  rw [mroot, dif_neg (by omega)]
/-- The path of a leaf, from it up. -/
def mpath (l : List (List (BitVec 8))) (i : Nat) : List (List (BitVec 8)) :=
  if _h : l.length ≤ 1 then []
  else if i < spl l.length then mpath (l.take (spl l.length)) i ++ [mroot (l.drop (spl l.length))]
  else mpath (l.drop (spl l.length)) (i - spl l.length) ++ [mroot (l.take (spl l.length))]
  termination_by l.length
  decreasing_by
    · have := spl_lt (n := l.length) (by omega)
      rw [List.length_take]; omega
    · have := spl_pos l.length
      rw [List.length_drop]; omega
theorem mpath_one {l : List (List (BitVec 8))} (h : l.length ≤ 1) (i : Nat) : mpath l i = [] := by rw [mpath, dif_pos h]
theorem mpath_left {l : List (List (BitVec 8))} {i : Nat} (h : 2 ≤ l.length) (hi : i < spl l.length) : mpath l i = mpath (l.take (spl l.length)) i ++ [mroot (l.drop (spl l.length))] := by rw [mpath, dif_neg (by omega), if_pos hi]
theorem mpath_right {l : List (List (BitVec 8))} {i : Nat} (h : 2 ≤ l.length) (hi : ¬ i < spl l.length) : mpath l i = mpath (l.drop (spl l.length)) (i - spl l.length) ++ [mroot (l.take (spl l.length))] := by rw [mpath, dif_neg (by omega), if_neg hi]
/-- The proof from the first m (above 0) on. -/
def msub (l : List (List (BitVec 8))) (m : Nat) (whole : Bool) : List (List (BitVec 8)) :=
  if m = l.length then (if whole then [] else [mroot l])
  else if _h : l.length ≤ 1 then []
  else if m ≤ spl l.length then msub (l.take (spl l.length)) m whole ++ [mroot (l.drop (spl l.length))]
  else msub (l.drop (spl l.length)) (m - spl l.length) false ++ [mroot (l.take (spl l.length))]
  termination_by l.length
  decreasing_by
    · have := spl_lt (n := l.length) (by omega)
      rw [List.length_take]; omega
    · have := spl_pos l.length
      rw [List.length_drop]; omega
theorem msub_all (l : List (List (BitVec 8))) : msub l l.length true = [] := by rw [msub]; simp
theorem msub_part (l : List (List (BitVec 8))) : msub l l.length false = [mroot l] := by rw [msub]; simp
theorem msub_left {l : List (List (BitVec 8))} {m : Nat} {b : Bool} (h : 2 ≤ l.length) (hm : m ≠ l.length) (hi : m ≤ spl l.length) : msub l m b = msub (l.take (spl l.length)) m b ++ [mroot (l.drop (spl l.length))] := by rw [msub, if_neg hm, dif_neg (by omega), if_pos hi]
theorem msub_right {l : List (List (BitVec 8))} {m : Nat} {b : Bool} (h : 2 ≤ l.length) (hm : m ≠ l.length) (hi : ¬ m ≤ spl l.length) : msub l m b = msub (l.drop (spl l.length)) (m - spl l.length) false ++ [mroot (l.take (spl l.length))] := by rw [msub, if_neg hm, dif_neg (by omega), if_neg hi]
end Go.Proofs.YtfmeeimhfdnjpaaDoor
namespace Go.Proofs.YtfmeeimhfdnjpaaDoor
set_option maxRecDepth 100000
open Go.RowKit
theorem spl_bln {n : Nat} (h : 2 ≤ n) : bln (n - 1) = Nat.log2 (n - 1) + 1 := bln_pos (by omega)
theorem log_le {n : Nat} (h : 2 ≤ n) (h2 : n ≤ 9223372036854775807) : Nat.log2 (n - 1) ≤ 62 := by
  have : Nat.log2 (n - 1) < 63 := (Nat.log2_lt (by omega)).2 (by omega)
  omega
section
variable {Q : Exit → Act → World → Prop} {o : Oper} {a : Act} {w : World}
theorem st_addz (x y : Operand) (ho : o.op = .binOp .add 3 x y 3) (m n e : Int) (hx : a.eval x = .int .i64 m) (hy : a.eval y = .int .i64 n) (he : e = m + n) (h1 : -9223372036854775808 ≤ e) (h2 : e ≤ 9223372036854775807) : o.wp Tryd.prog a w (Ends a o.dst w (Fk.eq (.int .i64 e)).f) Q := by
  refine st_bin .add 3 3 x y ho hx hy ?_
  have hw : IntKind.i64.wrap (m + n) = e := by rw [IntKind.wrap_i64]; omega
  simp [eqGuard, binOp, Op.intArith, hw]
theorem st_subz (x y : Operand) (ho : o.op = .binOp .sub 3 x y 3) (m n e : Int) (hx : a.eval x = .int .i64 m) (hy : a.eval y = .int .i64 n) (he : e = m - n) (h1 : -9223372036854775808 ≤ e) (h2 : e ≤ 9223372036854775807) : o.wp Tryd.prog a w (Ends a o.dst w (Fk.eq (.int .i64 e)).f) Q := by
  refine st_bin .sub 3 3 x y ho hx hy ?_
  have hw : IntKind.i64.wrap (m - n) = e := by rw [IntKind.wrap_i64]; omega
  simp [eqGuard, binOp, Op.intArith, hw]
theorem st_shl1 (x y : Operand) (ho : o.op = .binOp .shl 3 x y 3) (k : Nat) (hx : a.eval x = .int .i64 1) (hy : a.eval y = .int .i64 (k : Int)) (e : Nat) (he : e = 2 ^ k) (hk : k ≤ 62) : o.wp Tryd.prog a w (Ends a o.dst w (Fk.eq (.int .i64 (e : Int))).f) Q := by
  refine st_bin .shl 3 3 x y ho hx hy ?_
  have h3 : e ≤ 4611686018427387904 := by rw [he]; exact Nat.pow_le_pow_right (n := 2) (by decide) hk
  have hw : IntKind.i64.wrap ((1 : Int) * 2 ^ k) = (e : Int) := by
    have : (1 : Int) * 2 ^ k = (e : Int) := by rw [he]; simp
    rw [this, IntKind.wrap_i64]; omega
  have hw2 : IntKind.i64.wrap ((2 : Int) ^ k) = (e : Int) := by rw [← hw, Int.one_mul]
  simp [eqGuard, binOp, hw2]
  try omega
end
theorem split_hi (n : Nat) (h2 : 2 ≤ n) (h3 : n ≤ 9223372036854775807) (w : World) :
    Calls Tryd.prog 35 #[.int .i64 (n : Int)] w fun e w' => e = .returned (.int .i64 ((spl n : Nat) : Int)) ∧ Below w.heap.size w w' := by
  go_enter Tryd.func35, Tryd.ntmps35
  refine code_both (fun f w1 => f.tmps.size = 11 ∧ f.defers = [] ∧ f.eval (.tmp 0) = .int .i64 (n : Int) ∧ Below w.heap.size w (w1)) ⟨rfl, rfl, rfl, Below.refl _ _⟩ ?_
  rintro f0 w0 ⟨sz, df, x0, bl⟩
  have sd := And.intro sz df
  clear sz df
  have bl0 := bl
  refine wp_seq ?_
  refine wr_a [.eq (.int .i64 0)] (by rw [sd.1]; kernel_rfl) ⟨fun hw ac u K => ?_, trivial⟩ ?_
  · exact st_assign (.const (.int .i64 0)) rfl rfl
  intro f1 w1 A hb
  replace x0 := A.t x0 rfl
  replace bl := bgo bl hb
  replace sd := A.sd sd
  clear A hb
  show Code.wp _ _ _ _ _
  refine wp_seq ?_
  refine wp_seq ?_
  refine wr_a [.eq (.int .i64 (n : Int)), .eq (.bool false)] (by rw [sd.1]; kernel_rfl) ⟨fun hw ac u K => ?_, fun hw ac u K => ?_, trivial⟩ ?_
  · exact st_move (.tmp 0) rfl (K.t x0 rfl)
  · exact st_lss 3 (.tmp 3) (.const (.int .i64 2)) rfl .i64 (n : Int) (2) (K.dep 0 3 rfl) rfl _ (by rw [eq_comm, decide_eq_false_iff_not]; omega)
  intro f2 w2 A hb
  replace x0 := A.t x0 rfl
  have x4 := A.e 1 4 rfl rfl
  replace bl := bgo bl hb
  replace sd := A.sd sd
  clear A hb
  show Code.wp _ _ _ _ _
  refine wp_cond_false x4 ?_
  refine wp_skip ?_
  show Code.wp _ _ _ _ _
  refine wp_seq ?_
  refine wr_a [.eq (.int .i64 (n : Int)), .eq (.int .i64 ((n - 1 : Nat) : Int)), .eq (.int .u64 ((n - 1 : Nat) : Int)), .eq (.int .i64 ((bln (n - 1) : Nat) : Int)), .eq (.int .i64 ((Nat.log2 (n - 1) : Nat) : Int)), .eq (.int .i64 ((spl n : Nat) : Int)), .eq (.int .i64 ((spl n : Nat) : Int))] (by rw [sd.1]; kernel_rfl) ⟨fun hw ac u K => ?_, fun hw ac u K => ?_, fun hw ac u K => ?_, fun hw ac u K => ?_, fun hw ac u K => ?_, fun hw ac u K => ?_, fun hw ac u K => ?_, trivial⟩ ?_
  · exact st_move (.tmp 0) rfl (K.t x0 rfl)
  · exact st_subz (.tmp 5) (.const (.int .i64 1)) rfl (n : Int) 1 _ (K.dep 0 5 rfl) rfl (by omega) (by omega) (by omega)
  · exact st_conv 3 84 (.tmp 6) rfl .i64 .u64 _ _ (K.dep 1 6 rfl) Tryd.under3 Tryd.under84 (by rw [IntKind.wrap_u64]; omega)
  · exact st_call 50 (.func 50) _ _ _ rfl rfl (one_arg (K.dep 2 7 rfl)) Tryd.enter50 (fk_of (len_any (n - 1) (by omega) _))
  · exact st_subz (.tmp 8) (.const (.int .i64 1)) rfl _ 1 _ (K.dep 3 8 rfl) rfl (by rw [spl_bln h2]; omega) (by omega) (by have := log_le h2 h3; omega)
  · exact st_shl1 (.const (.int .i64 1)) (.tmp 9) rfl (Nat.log2 (n - 1)) rfl (K.dep 4 9 rfl) (spl n) rfl (log_le h2 h3)
  · exact st_assign (.tmp 10) rfl (K.dep 5 10 rfl)
  intro f3 w3 A hb
  replace x0 := A.t x0 rfl
  replace x4 := A.t x4 rfl
  have x2 := A.e 6 2 rfl rfl
  replace bl := bgo bl hb
  replace sd := A.sd sd
  clear A hb
  clear x0
  clear x4
  show Code.wp _ _ _ _ _
  refine wp_ret ?_
  repeat (first | with_reducible refine then_ret ?_ | with_reducible refine block_ret ?_)
  exact bodyPost_ret (v := .int .i64 ((spl n : Nat) : Int)) (ret_slot rfl f3 _ x2 _ _) sd.2 ⟨rfl, bl⟩
end Go.Proofs.YtfmeeimhfdnjpaaDoor
namespace Go.Proofs.YtfmeeimhfdnjpaaDoor
set_option maxRecDepth 100000
open Go.RowKit
/-- A slice of the call's own: n things of a type, of so many cells each. -/
def Fk.orw (base T sz n : Nat) (cs : List Value) : Fk := .inr (.inl ⟨fun v w => w.ownsRow base T sz v n cs, by
  rintro v w w' ⟨h1, h2⟩ hb
  refine ⟨h1, ?_⟩
  rcases h2 with h2 | ⟨g, cap, cur, e, hbg, hg, r⟩
  · exact .inl h2
  · exact .inr ⟨g, cap, cur, e, hbg, by rw [hb.block g (Array.getElem?_eq_some_iff.1 hg).1]; exact hg, r⟩⟩)
/-- A slice that may be read: n things, of so many cells each. -/
def Fk.rdw (sz n : Nat) (cs : List Value) : Fk := .inr (.inl ⟨fun v w => ∃ A C lb lo, v = .slice A n C ∧ (0 < n → A = some ⟨lb, lo, none⟩) ∧ cs.length = n * sz ∧ w.rangeAt lb lo cs, by
  rintro v w w' ⟨A, C, lb, lo, e, h1, h2, h3⟩ hb
  exact ⟨A, C, lb, lo, e, h1, h2, fun j u hj => by have := h3 j u hj; rw [hb.cell (block_lt_of_cell this)]; exact this⟩⟩)
theorem orw_rdw {base T sz n : Nat} {cs : List Value} {v : Value} {w : World} (h : (Fk.orw base T sz n cs).f v w) : (Fk.rdw sz n cs).f v w := by
  obtain ⟨h1, h2⟩ := h
  rcases h2 with ⟨rfl, rfl⟩ | ⟨g, cap, cur, rfl, hbg, hg, hnc, _, hcs, ht⟩
  · have : cs = [] := List.eq_nil_of_length_eq_zero (by rw [h1]; simp)
    subst this
    exact ⟨none, 0, 0, 0, rfl, fun h => absurd h (by decide), by simp, fun j u hj => by simp at hj⟩
  · refine ⟨_, cap, g, 0, rfl, fun _ => rfl, h1, fun j u hj => ?_⟩
    have hjl : j < n * sz := by rw [← h1]; exact (List.getElem?_eq_some_iff.1 hj).1
    rw [cell_of_row _ _ _ _ _ _ hg, Nat.zero_add]
    have e := congrArg (·[j]?) ht
    simp only [List.getElem?_take, hj, if_pos hjl, Array.getElem?_toList] at e
    exact e
theorem orw_le {g0 g1 : Nat} (hg : g1 ≤ g0) {T sz n : Nat} {cs : List Value} {v : Value} {w : World} (h : (Fk.orw g0 T sz n cs).f v w) : (Fk.orw g1 T sz n cs).f v w := by
  obtain ⟨h1, h2⟩ := h
  refine ⟨h1, ?_⟩
  rcases h2 with h2 | ⟨g, cap, cur, e, hbg, r⟩
  · exact .inl h2
  · exact .inr ⟨g, cap, cur, e, Nat.le_trans hg hbg, r⟩
theorem orw_nil (base T sz : Nat) (w : World) : (Fk.orw base T sz 0 []).f (.slice none 0 0) w := World.ownsRow_nil _ _ _ _
theorem fk_orw {f : FuncId} {args : Array Value} {w : World} {g0 T sz n : Nat} {cs : List Value} (hg : g0 ≤ w.heap.size) (h : Calls Tryd.prog f args w fun e w' => ∃ u, e = .returned u ∧ (Fk.orw w.heap.size T sz n cs).f u w' ∧ Below w.heap.size w w') :
    Calls Tryd.prog f args w fun e w' => ∃ u, e = .returned u ∧ (Fk.orw g0 T sz n cs).f u w' ∧ Below w.heap.size w w' := by
  refine h.mono ?_
  rintro e w' ⟨u, rfl, h1, h3⟩
  exact ⟨u, rfl, orw_le hg h1, h3⟩
theorem orw_new {w : World} {base T sz : Nat} {cs : List Value} (hl : cs.length = sz) (hb : base ≤ w.heap.size) : (Fk.orw base T sz 1 cs).f (.slice (some ⟨w.heap.size, 0, none⟩) 1 1) (w.alloc (.cells cs.toArray T)) :=
  ⟨by rw [hl, Nat.one_mul], .inr ⟨w.heap.size, 1, cs.toArray, rfl, hb, heap_alloc_new _ _, Nat.le_refl _, by unfold maxLen; omega, by simp [hl], by simp [← hl]⟩⟩
section
variable {Q : Exit → Act → World → Prop} {o : Oper} {a : Act} {w : World} {ops : Array Oper} {rest : List Oper}
theorem wl_appr (ST T sz by_ : Nat) {z : Value} (hu : Tryd.prog.underlying ST = some (.slice T)) (hinf : (Tryd.prog.info? T).map (fun i => (i.zero, i.size, i.bytes)) = some (some z, sz, by_)) (hzs : z.cells.size = sz) (hpos : 0 < sz)
    (hgd : o.guard = none) (s x : Operand) (ho : o.op = .call { callee := .builtin .append, args := #[s, x], argTypes := #[ST, ST] }) (d : Nat) (hd : o.dst = some d) (hsz : d < a.tmps.size)
    {wL : World} {b n m : Nat} {cs ds : List Value} (hs1 : (Fk.orw wL.heap.size T sz n cs).f (a.eval s) w) (hx : (Fk.orw b T sz m ds).f (a.eval x) w) (hm : 1 ≤ m) (hone : ∀ u ∈ ds, u.oneCell' = true) (hL : Below wL.heap.size wL w) (hN : n + m ≤ 100000) (hby : by_ ≤ 1000)
    (h : ∀ a2 w2, a2.defers = a.defers → a2.tmps.size = a.tmps.size → (∀ t, (t == d) = false → a2.eval (.tmp t) = a.eval (.tmp t)) → (Fk.orw wL.heap.size T sz (n + m) (cs ++ ds)).f (a2.eval (.tmp d)) w2 → Below wL.heap.size wL w2 → wpList Tryd.prog ops Q rest a2 w2) : wpList Tryd.prog ops Q (o :: rest) a w := by
  obtain ⟨i0, hi, hz0, hz1, hz2⟩ := info_parts hinf
  obtain ⟨A, C, lb, lo, e, hp, hl, hr⟩ := orw_rdw hx
  have hp := hp (by omega)
  subst hp
  have hown : w.ownsRow wL.heap.size T sz (a.eval s) n cs := hs1
  refine wpList_append_own w hgd s x ST ho wL.heap.size T i0 z sz by_ hu hi hz0 hz1 hz2 hzs hpos _ n cs rfl hown ⟨lb, lo, none⟩ m C ds e hl (fun j u hj => by rw [Addr.add_mid]; exact hr j u hj) hone (by unfold maxLen; omega) ?_ hL.size ?_
  · have := Nat.mul_le_mul hN hby
    omega
  · intro v' w' h1 h2 _
    refine h _ _ (put_def _ _ _) (put_size _ _ _) (fun t ht => ?_) ?_ (hL.grown h2 hL.size (fun k e => (World.ownsRow.lt hown k e).1))
    · rw [hd]
      exact put_eval_other _ _ _ _ (fun e => by subst e; simp at ht)
    · rw [hd, put_eval_same _ _ _ hsz]
      exact h1
theorem st_lenr (ST T : Nat) (hu : Tryd.prog.underlying ST = some (.slice T)) (he : Tryd.prog.elem ST = T) (x : Operand) (ho : o.op = .call { callee := .builtin .len, args := #[x], argTypes := #[ST] }) {sz n : Nat} {cs : List Value} (h : (Fk.rdw sz n cs).f (a.eval x) w) : o.wp Tryd.prog a w (Ends a o.dst w (Fk.eq (.int .i64 ((n : Nat) : Int))).f) Q := by
  obtain ⟨A, C, lb, lo, e, _⟩ := h
  refine st_pure (v := .int .i64 (n : Int)) ?_ rfl
  have h1 := run_len_slice (P := Tryd.prog) (w := w) ST o.type A n C (by rw [he]; exact hu)
  unfold execOp
  simp [ho, resolve, invoke, builtin, e, h1, goInt]
/-- A pointer to these cells. -/
def Fk.prg (cs : List Value) : Fk := .inr (.inl ⟨fun v w => ∃ b o, v = .pointer (some ⟨b, o, none⟩) ∧ w.rangeAt b o cs, by
  rintro v w w' ⟨b, o, e, h⟩ hb
  exact ⟨b, o, e, fun j u hj => by have := h j u hj; rw [hb.cell (block_lt_of_cell this)]; exact this⟩⟩)
theorem st_idxr2 (ST T : Nat) (hu : Tryd.prog.underlying ST = some (.slice T)) (he : Tryd.prog.elem ST = T) {sz : Nat} (hs : ∀ w, (sizeOf T).run Tryd.prog w = .ok sz w) (x y : Operand) (ho : o.op = .indexAddr ST x y) {n : Nat} {cs : List Value} (h : (Fk.rdw sz n cs).f (a.eval x) w) (i : Nat) (hy : a.eval y = .int .i64 (i : Int)) (hi : i < n) (ds : List Value) (hd : ∀ (j : Nat) (v : Value), ds[j]? = some v → cs[i * sz + j]? = some v) : o.wp Tryd.prog a w (Ends a o.dst w (Fk.prg ds).f) Q := by
  obtain ⟨A, C, lb, lo, e, hp, hl, hr⟩ := h
  have hp := hp (by omega)
  subst hp
  refine st_pure (v := .pointer (some ⟨lb, lo + i * sz, none⟩)) ?_ ⟨lb, lo + i * sz, rfl, fun j u hj => by rw [Nat.add_assoc]; exact hr _ _ (hd j u hj)⟩
  have h1 := run_indexAt_slice (P := Tryd.prog) (w := w) ST ⟨lb, lo, none⟩ n C .i64 (i : Int) (by rw [he]; exact hu)
  rw [if_pos (by omega), he, hs] at h1
  simp only [Result.andThen_ok, Int.toNat_natCast, Addr.add_mid] at h1
  unfold execOp
  rw [ho]
  simp [e, hy, h1]
theorem st_loadr1 (T : TypeId) (x : Operand) (ho : o.op = .load T x) (h1 : (isAgg T).run Tryd.prog w = .ok false w) {u : Value} (h : (Fk.prg [u]).f (a.eval x) w) : o.wp Tryd.prog a w (Ends a o.dst w (Fk.eq u).f) Q := by
  obtain ⟨b, so, e, hr⟩ := h
  exact st_loadc T x ho h1 e (by have := hr 0 u rfl; simpa using this)
theorem st_bldr (ST T sz : Nat) (x : Operand) (ho : o.op = .buildSlice ST 1 #[(0, x)]) {u : Value} (cs : List Value) (hx : a.eval x = u) (hr : ∀ w, (Instr.buildSlice ST 1 #[(0, u)]).run Tryd.prog w = .ok (.slice (some ⟨w.heap.size, 0, none⟩) 1 1) (w.alloc (.cells cs.toArray T))) (hl : cs.length = sz) (g0 : Nat) (hg : g0 ≤ w.heap.size) : o.wp Tryd.prog a w (Ends a o.dst w (Fk.orw g0 T sz 1 cs).f) Q := by
  refine st_run (v := .slice (some ⟨w.heap.size, 0, none⟩) 1 1) (w' := w.alloc (.cells cs.toArray T)) ?_ ((Below.refl _ _).alloc (Nat.le_refl _) _) (orw_new hl hg)
  unfold execOp
  rw [ho]
  simp [hx, hr]
end
/-- Numbers in cells. -/
def zv (ds : List Int) : List Value := ds.map fun z => .int .i64 z
/-- Pairs of numbers in cells. -/
def pv2 (ps : List (Nat × Nat)) : List Value := ps.flatMap fun p => [.int .i64 (p.1 : Int), .int .i64 (p.2 : Int)]
def Fk.is (ds : List Int) : Fk := Fk.rdw 1 ds.length (zv ds)
def Fk.ps (ps : List (Nat × Nat)) : Fk := Fk.rdw 2 ps.length (pv2 ps)
section
variable {Q : Exit → Act → World → Prop} {o : Oper} {a : Act} {w : World} {ops : Array Oper} {rest : List Oper}
end
end Go.Proofs.YtfmeeimhfdnjpaaDoor
namespace Go.Proofs.YtfmeeimhfdnjpaaDoor
set_option maxRecDepth 100000
open Go.RowKit
end Go.Proofs.YtfmeeimhfdnjpaaDoor
namespace Go.Proofs.YtfmeeimhfdnjpaaDoor
set_option maxRecDepth 100000
open Go.RowKit
theorem sl_nil (w : World) : (Fk.sl []).f (.slice none 0 0) w := ⟨none, 0, 0, 0, 0, rfl, ⟨rfl, Nat.le_refl _, fun _ => ⟨rfl, rfl⟩, fun h => absurd h (by decide)⟩⟩
theorem hc_nil (w : World) : (Fk.hc []).f (.slice none 0 0) w := ⟨none, 0, 0, 0, rfl, Nat.le_refl _, fun h => absurd h (by decide), fun h => absurd h (by decide), fun i x hi => by simp at hi⟩
theorem hc_len {l : List (List (BitVec 8))} {v : Value} {w : World} (h : (Fk.hc l).f v w) : ∀ x ∈ l, x.length = 32 := by
  intro x hx
  obtain ⟨i, hi, rfl⟩ := List.getElem_of_mem hx
  obtain ⟨A, C, lb, lo, e, _, hl⟩ := h
  exact (hl.all i _ (List.getElem?_eq_getElem hi)).1
theorem mroot_len {l : List (List (BitVec 8))} (h : ∀ x ∈ l, x.length = 32) : (mroot l).length = 32 := by
  match l, h with
  | [], _ => rw [mroot_nil]; exact shaOf_len _
  | [x], h => rw [mroot_one]; exact h x (by simp)
  | x :: y :: r, _ => rw [mroot_two (by simp)]; exact nd_len _ _
theorem mroot_le1 {l : List (List (BitVec 8))} (h : l.length = 1) : ∃ x, l = [x] := by
  match l, h with
  | [x], _ => exact ⟨x, rfl⟩
theorem root_any (l : List (List (BitVec 8))) (w : World) (v : Value) (h1000 : l.length ≤ 1000) (hv : (Fk.hc l).f v w) (hK : Tab w) {y : List (BitVec 8)} (ey : Box (mroot l = y)) :
    Calls Tryd.prog 19 #[v] w fun e w' => e = .returned (.agg ((y).map V).toArray) ∧ Below w.heap.size w w' := by
  suffices H : ∀ (n : Nat) (l : List (List (BitVec 8))), l.length = n → ∀ (w : World) (v : Value), l.length ≤ 1000 → (Fk.hc l).f v w → Tab w → ∀ {y : List (BitVec 8)}, Box (mroot l = y) → Calls Tryd.prog 19 #[v] w fun e w' => e = .returned (.agg ((y).map V).toArray) ∧ Below w.heap.size w w' from H _ l rfl w v h1000 hv hK ey
  intro n
  induction n using Nat.strongRecOn with
  | ind n ih0 =>
  intro l hn w v h1000 hv hK y ey
  have ih : ∀ (l' : List (List (BitVec 8))), l'.length < n → ∀ (w : World) (v : Value), l'.length ≤ 1000 → (Fk.hc l').f v w → Tab w → ∀ {y : List (BitVec 8)}, Box (mroot l' = y) → Calls Tryd.prog 19 #[v] w fun e w' => e = .returned (.agg ((y).map V).toArray) ∧ Below w.heap.size w w' := fun l' hl' => ih0 _ hl' l' rfl
  clear ih0
  have hy : y.length = 32 := by rw [← ey.out]; exact mroot_len (hc_len hv)
  have hvs := hc_hs hv
  have hnil := sl_nil w
  by_cases h0 : l.length = 0
  · obtain rfl := List.eq_nil_of_length_eq_zero h0
    have eys : shaOf [] = y := by rw [← ey.out, mroot_nil]
    go_enter Tryd.func19, Tryd.ntmps19
    refine code_both (fun f w1 => f.tmps.size = 26 ∧ f.defers = [] ∧ f.eval (.tmp 0) = v ∧ Below w.heap.size w (w1)) ⟨rfl, rfl, rfl, Below.refl _ _⟩ ?_
    rintro f0 w0 ⟨sz, df, x0, bl⟩
    have sd := And.intro sz df
    clear sz df
    have bl0 := bl
    refine wp_seq ?_
    refine wr_a [.nw w0.heap.size 33 ((hz).map V)] (by rw [sd.1]; kernel_rfl) ⟨fun hw ac u K => ?_, trivial⟩ ?_
    · exact st_alloc33 rfl _ K.grow.size
    intro f1 w1 A hb
    replace bl0 := bl
    replace x0 := A.t x0 rfl
    have x2 : Fk.f (.nw w0.heap.size 33 ((hz).map V)) (f1.eval (.tmp 2)) w1 := A.has 0 2 rfl
    replace bl := bgo bl hb
    replace sd := A.sd sd
    clear A hb
    obtain ⟨g2, hg2, e2, m2⟩ := x2
    have x2 := e2
    clear e2
    have hw2 : w.heap.size ≤ g2 := Nat.le_trans bl0.size hg2
    show Code.wp _ _ _ _ _
    refine wp_seq ?_
    refine wp_seq ?_
    refine wr_a [.eq (v), .eq (.int .i64 ((0 : Nat) : Int))] (by rw [sd.1]; kernel_rfl) ⟨fun hw ac u K => ?_, fun hw ac u K => ?_, trivial⟩ ?_
    · exact st_move (.tmp 0) rfl (K.t x0 rfl)
    · exact st_lenc (.tmp 4) rfl (0) rfl (fk_val (K.dep 0 4 rfl) (Fk.mono _ _ _ _ hv (bgo bl K.grow)))
    intro f2 w2 A hb
    replace x0 := A.t x0 rfl
    replace x2 := A.t x2 rfl
    have x5 := A.e 1 5 rfl rfl
    replace m2 := Ob.below m2 hb
    replace bl := bgo bl hb
    replace sd := A.sd sd
    clear A hb
    show Code.wp _ _ _ _ _
    refine wp_block ?_
    refine wp_seq ?_
    refine wr_a [.eq (.bool true), .eq (.bool true)] (by rw [sd.1]; kernel_rfl) ⟨fun hw ac u K => ?_, fun hw ac u K => ?_, trivial⟩ ?_
    · exact st_eqi 3 (.tmp 5) (.const (.int .i64 0)) rfl .i64 (((0 : Nat) : Int)) (0) (K.t x5 rfl) rfl _ (by simp)
    · exact st_assign (.tmp 7) rfl (K.dep 0 7 rfl)
    intro f3 w3 A hb
    replace x0 := A.t x0 rfl
    replace x2 := A.t x2 rfl
    replace x5 := A.t x5 rfl
    have x6 := A.e 1 6 rfl rfl
    replace m2 := Ob.below m2 hb
    replace bl := bgo bl hb
    replace sd := A.sd sd
    clear A hb
    show Code.wp _ _ _ _ _
    refine wp_cond_true x6 ?_
    refine wp_seq ?_
    refine wr_s [.eq (.agg ((y).map V).toArray)] (by rw [sd.1]; kernel_rfl) ⟨fun hw ac u K => ?_, trivial⟩ ?_
    · exact st_call 26 (.func 26) _ _ _ rfl rfl (one_arg rfl) Tryd.enter26 (by rw [← eys]; exact fk_sum (by simp) (hK.below (bgo bl K.grow)) (Fk.mono _ _ _ _ hnil (bgo bl K.grow)))
    intro f4 w4 A hb
    replace x0 := A.t x0 rfl
    replace x2 := A.t x2 rfl
    replace x5 := A.t x5 rfl
    replace x6 := A.t x6 rfl
    have x8 := A.e 0 8 rfl rfl
    replace m2 := Ob.below m2 hb
    replace bl := bgo bl hb
    replace sd := A.sd sd
    clear A hb
    clear x0
    clear x5
    clear x6
    refine wl_store rfl (.tmp 2) (.tmp 8) rfl rfl (g2) (y) (hz) x2 x8 m2 hz_len hy ?_
    replace m2 : Ob (w4.setRow g2 ((y).map V : List Value).toArray) (g2) 33 ((y).map V) := Ob.setRow m2 ((y).map V)
    replace bl : Below w.heap.size w (w4.setRow g2 ((y).map V : List Value).toArray) := bl.trans (below_setRow _ _ _ _ hw2)
    generalize w4.setRow g2 ((y).map V : List Value).toArray = w5b at bl m2 ⊢
    refine wpList_nil ?_
    clear x8
    show Code.wp _ _ _ _ _
    refine wp_ret ?_
    repeat (first | with_reducible refine then_ret ?_ | with_reducible refine block_ret ?_)
    exact bodyPost_ret (v := .agg ((y).map V).toArray) (ret_hash rfl f4 _ g2 (y) hy x2 m2) sd.2 ⟨rfl, bl⟩
  by_cases h1 : l.length = 1
  · obtain ⟨x, rfl⟩ := mroot_le1 h1
    obtain rfl : x = y := by rw [← ey.out, mroot_one]
    go_enter Tryd.func19, Tryd.ntmps19
    refine code_both (fun f w1 => f.tmps.size = 26 ∧ f.defers = [] ∧ f.eval (.tmp 0) = v ∧ Below w.heap.size w (w1)) ⟨rfl, rfl, rfl, Below.refl _ _⟩ ?_
    rintro f0 w0 ⟨sz, df, x0, bl⟩
    have sd := And.intro sz df
    clear sz df
    have bl0 := bl
    refine wp_seq ?_
    refine wr_a [.nw w0.heap.size 33 ((hz).map V)] (by rw [sd.1]; kernel_rfl) ⟨fun hw ac u K => ?_, trivial⟩ ?_
    · exact st_alloc33 rfl _ K.grow.size
    intro f1 w1 A hb
    replace bl0 := bl
    replace x0 := A.t x0 rfl
    have x2 : Fk.f (.nw w0.heap.size 33 ((hz).map V)) (f1.eval (.tmp 2)) w1 := A.has 0 2 rfl
    replace bl := bgo bl hb
    replace sd := A.sd sd
    clear A hb
    obtain ⟨g2, hg2, e2, m2⟩ := x2
    have x2 := e2
    clear e2
    have hw2 : w.heap.size ≤ g2 := Nat.le_trans bl0.size hg2
    show Code.wp _ _ _ _ _
    refine wp_seq ?_
    refine wp_seq ?_
    refine wr_a [.eq (v), .eq (.int .i64 ((1 : Nat) : Int))] (by rw [sd.1]; kernel_rfl) ⟨fun hw ac u K => ?_, fun hw ac u K => ?_, trivial⟩ ?_
    · exact st_move (.tmp 0) rfl (K.t x0 rfl)
    · exact st_lenc (.tmp 4) rfl (1) rfl (fk_val (K.dep 0 4 rfl) (Fk.mono _ _ _ _ hv (bgo bl K.grow)))
    intro f2 w2 A hb
    replace x0 := A.t x0 rfl
    replace x2 := A.t x2 rfl
    have x5 := A.e 1 5 rfl rfl
    replace m2 := Ob.below m2 hb
    replace bl := bgo bl hb
    replace sd := A.sd sd
    clear A hb
    show Code.wp _ _ _ _ _
    refine wp_block ?_
    refine wp_seq ?_
    refine wr_a [.eq (.bool false), .eq (.bool false)] (by rw [sd.1]; kernel_rfl) ⟨fun hw ac u K => ?_, fun hw ac u K => ?_, trivial⟩ ?_
    · exact st_eqi 3 (.tmp 5) (.const (.int .i64 0)) rfl .i64 (((1 : Nat) : Int)) (0) (K.t x5 rfl) rfl _ (by simp)
    · exact st_assign (.tmp 7) rfl (K.dep 0 7 rfl)
    intro f3 w3 A hb
    replace x0 := A.t x0 rfl
    replace x2 := A.t x2 rfl
    replace x5 := A.t x5 rfl
    have x6 := A.e 1 6 rfl rfl
    replace m2 := Ob.below m2 hb
    replace bl := bgo bl hb
    replace sd := A.sd sd
    clear A hb
    show Code.wp _ _ _ _ _
    refine wp_cond_false x6 ?_
    refine wp_seq ?_
    refine wr_a [.eq (.bool true), .eq (.bool true)] (by rw [sd.1]; kernel_rfl) ⟨fun hw ac u K => ?_, fun hw ac u K => ?_, trivial⟩ ?_
    · exact st_eqi 3 (.tmp 5) (.const (.int .i64 1)) rfl .i64 (((1 : Nat) : Int)) (1) (K.t x5 rfl) rfl _ (by simp)
    · exact st_assign (.tmp 10) rfl (K.dep 0 10 rfl)
    intro f4 w4 A hb
    replace x0 := A.t x0 rfl
    replace x2 := A.t x2 rfl
    replace x5 := A.t x5 rfl
    replace x6 := A.t x6 rfl
    have x9 := A.e 1 9 rfl rfl
    replace m2 := Ob.below m2 hb
    replace bl := bgo bl hb
    replace sd := A.sd sd
    clear A hb
    clear x5
    clear x6
    show Code.wp _ _ _ _ _
    refine wp_cond_true x9 ?_
    refine wp_seq ?_
    refine wr_s [.eq (v), .ph (x), .eq (.agg ((x).map V).toArray)] (by rw [sd.1]; kernel_rfl) ⟨fun hw ac u K => ?_, fun hw ac u K => ?_, fun hw ac u K => ?_, trivial⟩ ?_
    · exact st_move (.tmp 0) rfl (K.t x0 rfl)
    · exact st_idxh (.tmp 11) (.const (.int .i64 0)) rfl (fk_val (K.dep 0 11 rfl) (Fk.mono _ _ _ _ hvs (bgo bl K.grow))) (0) (x) rfl rfl
    · exact st_loadh (.tmp 12) rfl (K.dep 1 12 rfl)
    intro f5 w5 A hb
    replace x0 := A.t x0 rfl
    replace x2 := A.t x2 rfl
    replace x9 := A.t x9 rfl
    have x13 := A.e 2 13 rfl rfl
    replace m2 := Ob.below m2 hb
    replace bl := bgo bl hb
    replace sd := A.sd sd
    clear A hb
    clear x0
    clear x9
    refine wl_store rfl (.tmp 2) (.tmp 13) rfl rfl (g2) (x) (hz) x2 x13 m2 hz_len hy ?_
    replace m2 : Ob (w5.setRow g2 ((x).map V : List Value).toArray) (g2) 33 ((x).map V) := Ob.setRow m2 ((x).map V)
    replace bl : Below w.heap.size w (w5.setRow g2 ((x).map V : List Value).toArray) := bl.trans (below_setRow _ _ _ _ hw2)
    generalize w5.setRow g2 ((x).map V : List Value).toArray = w6b at bl m2 ⊢
    refine wpList_nil ?_
    clear x13
    show Code.wp _ _ _ _ _
    refine wp_ret ?_
    repeat (first | with_reducible refine then_ret ?_ | with_reducible refine block_ret ?_)
    exact bodyPost_ret (v := .agg ((x).map V).toArray) (ret_hash rfl f5 _ g2 (x) hy x2 m2) sd.2 ⟨rfl, bl⟩
  · have h2 : 2 ≤ l.length := by omega
    obtain ⟨k, hk⟩ : ∃ k, spl l.length = k := ⟨_, rfl⟩
    have hk1 : k < l.length := by rw [← hk]; exact spl_lt h2
    have hk2 : 1 ≤ k := by rw [← hk]; exact spl_pos _
    obtain ⟨y1, ey1⟩ : ∃ p, Box (mroot (l.take k) = p) := ⟨_, ⟨rfl⟩⟩
    obtain ⟨y2, ey2⟩ : ∃ p, Box (mroot (l.drop k) = p) := ⟨_, ⟨rfl⟩⟩
    have hy1 : y1.length = 32 := by rw [← ey1.out]; exact mroot_len (fun x hx => hc_len hv x (List.mem_of_mem_take hx))
    have hy2 : y2.length = 32 := by rw [← ey2.out]; exact mroot_len (fun x hx => hc_len hv x (List.mem_of_mem_drop hx))
    have eyn : Box (nd y1 y2 = y) := ⟨by rw [← ey1.out, ← ey2.out, ← ey.out, mroot_two h2, hk]⟩
    go_enter Tryd.func19, Tryd.ntmps19
    refine code_both (fun f w1 => f.tmps.size = 26 ∧ f.defers = [] ∧ f.eval (.tmp 0) = v ∧ Below w.heap.size w (w1)) ⟨rfl, rfl, rfl, Below.refl _ _⟩ ?_
    rintro f0 w0 ⟨sz, df, x0, bl⟩
    have sd := And.intro sz df
    clear sz df
    have bl0 := bl
    refine wp_seq ?_
    refine wr_a [.nw w0.heap.size 33 ((hz).map V)] (by rw [sd.1]; kernel_rfl) ⟨fun hw ac u K => ?_, trivial⟩ ?_
    · exact st_alloc33 rfl _ K.grow.size
    intro f1 w1 A hb
    replace bl0 := bl
    replace x0 := A.t x0 rfl
    have x2 : Fk.f (.nw w0.heap.size 33 ((hz).map V)) (f1.eval (.tmp 2)) w1 := A.has 0 2 rfl
    replace bl := bgo bl hb
    replace sd := A.sd sd
    clear A hb
    obtain ⟨g2, hg2, e2, m2⟩ := x2
    have x2 := e2
    clear e2
    have hw2 : w.heap.size ≤ g2 := Nat.le_trans bl0.size hg2
    show Code.wp _ _ _ _ _
    refine wp_seq ?_
    refine wp_seq ?_
    refine wr_a [.eq (v), .eq (.int .i64 (((l).length : Nat) : Int))] (by rw [sd.1]; kernel_rfl) ⟨fun hw ac u K => ?_, fun hw ac u K => ?_, trivial⟩ ?_
    · exact st_move (.tmp 0) rfl (K.t x0 rfl)
    · exact st_lenc (.tmp 4) rfl ((l).length) rfl (fk_val (K.dep 0 4 rfl) (Fk.mono _ _ _ _ hv (bgo bl K.grow)))
    intro f2 w2 A hb
    replace x0 := A.t x0 rfl
    replace x2 := A.t x2 rfl
    have x5 := A.e 1 5 rfl rfl
    replace m2 := Ob.below m2 hb
    replace bl := bgo bl hb
    replace sd := A.sd sd
    clear A hb
    show Code.wp _ _ _ _ _
    refine wp_block ?_
    refine wp_seq ?_
    refine wr_a [.eq (.bool false), .eq (.bool false)] (by rw [sd.1]; kernel_rfl) ⟨fun hw ac u K => ?_, fun hw ac u K => ?_, trivial⟩ ?_
    · exact st_eqi 3 (.tmp 5) (.const (.int .i64 0)) rfl .i64 ((((l).length : Nat) : Int)) (0) (K.t x5 rfl) rfl _ (by rw [eq_comm, decide_eq_false_iff_not]; omega)
    · exact st_assign (.tmp 7) rfl (K.dep 0 7 rfl)
    intro f3 w3 A hb
    replace x0 := A.t x0 rfl
    replace x2 := A.t x2 rfl
    replace x5 := A.t x5 rfl
    have x6 := A.e 1 6 rfl rfl
    replace m2 := Ob.below m2 hb
    replace bl := bgo bl hb
    replace sd := A.sd sd
    clear A hb
    show Code.wp _ _ _ _ _
    refine wp_cond_false x6 ?_
    refine wp_seq ?_
    refine wr_a [.eq (.bool false), .eq (.bool false)] (by rw [sd.1]; kernel_rfl) ⟨fun hw ac u K => ?_, fun hw ac u K => ?_, trivial⟩ ?_
    · exact st_eqi 3 (.tmp 5) (.const (.int .i64 1)) rfl .i64 ((((l).length : Nat) : Int)) (1) (K.t x5 rfl) rfl _ (by rw [eq_comm, decide_eq_false_iff_not]; omega)
    · exact st_assign (.tmp 10) rfl (K.dep 0 10 rfl)
    intro f4 w4 A hb
    replace x0 := A.t x0 rfl
    replace x2 := A.t x2 rfl
    replace x5 := A.t x5 rfl
    replace x6 := A.t x6 rfl
    have x9 := A.e 1 9 rfl rfl
    replace m2 := Ob.below m2 hb
    replace bl := bgo bl hb
    replace sd := A.sd sd
    clear A hb
    clear x5
    clear x6
    show Code.wp _ _ _ _ _
    refine wp_cond_false x9 ?_
    refine wp_skip ?_
    show Code.wp _ _ _ _ _
    refine wp_seq ?_
    refine wr_a [.eq (v), .eq (.int .i64 (((l).length : Nat) : Int)), .eq (.int .i64 (k : Int)), .eq (.int .i64 (k : Int))] (by rw [sd.1]; kernel_rfl) ⟨fun hw ac u K => ?_, fun hw ac u K => ?_, fun hw ac u K => ?_, fun hw ac u K => ?_, trivial⟩ ?_
    · exact st_move (.tmp 0) rfl (K.t x0 rfl)
    · exact st_lenc (.tmp 14) rfl ((l).length) rfl (fk_val (K.dep 0 14 rfl) (Fk.mono _ _ _ _ hv (bgo bl K.grow)))
    · exact st_call 35 (.func 35) _ _ _ rfl rfl (one_arg (K.dep 1 15 rfl)) Tryd.enter35 (by rw [← hk]; exact fk_of (split_hi l.length (by omega) (by omega) _))
    · exact st_assign (.tmp 16) rfl (K.dep 2 16 rfl)
    intro f5 w5 A hb
    replace x0 := A.t x0 rfl
    replace x2 := A.t x2 rfl
    replace x9 := A.t x9 rfl
    have x3 := A.e 3 3 rfl rfl
    replace m2 := Ob.below m2 hb
    replace bl := bgo bl hb
    replace sd := A.sd sd
    clear A hb
    clear x9
    show Code.wp _ _ _ _ _
    refine wp_seq ?_
    refine wr_t [.eq (v), .eq (.int .i64 (k : Int)), .hc ((l).take (k)), .eq (.agg ((y1).map V).toArray), .eq (v), .eq (.int .i64 (k : Int)), .hc ((l).drop (k)), .eq (.agg ((y2).map V).toArray), .eq (.agg ((y).map V).toArray)] [9] Tryd.mixed (by rw [sd.1]; kernel_rfl) ⟨fun hw ac u K => ?_, fun hw ac u K => ?_, fun hw ac u K => ?_, fun hw ac u K => ?_, fun hw ac u K => ?_, fun hw ac u K => ?_, fun hw ac u K => ?_, fun hw ac u K => ?_, fun hw ac u K => ?_, trivial⟩ ?_
    · exact st_move (.tmp 0) rfl (K.t x0 rfl)
    · exact st_move (.tmp 3) rfl (K.t x3 rfl)
    · exact st_cuth (.tmp 17) (.tmp 18) rfl (fk_val (K.dep 0 17 rfl) (Fk.mono _ _ _ _ hv (bgo bl K.grow))) (k) (K.dep 1 18 rfl) (by omega)
    · exact st_call 19 (.func 19) _ _ _ rfl rfl (one_arg rfl) Tryd.enter19 (fk_of (ih (l.take k) (by rw [List.length_take]; omega) _ _ (by rw [List.length_take]; omega) (K.dep 2 19 rfl) (hK.below (bgo bl K.grow)) ey1))
    · exact st_move (.tmp 0) rfl (K.t x0 rfl)
    · exact st_move (.tmp 3) rfl (K.t x3 rfl)
    · exact st_restc (.tmp 21) (.tmp 22) rfl (fk_val (K.dep 4 21 rfl) (Fk.mono _ _ _ _ hv (bgo bl K.grow))) (k) (K.dep 5 22 rfl) (by omega)
    · exact st_call 19 (.func 19) _ _ _ rfl rfl (one_arg rfl) Tryd.enter19 (fk_of (ih (l.drop k) (by rw [List.length_drop]; omega) _ _ (by rw [List.length_drop]; omega) (K.dep 6 23 rfl) (hK.below (bgo bl K.grow)) ey2))
    · exact st_call 30 (.func 30) _ _ _ rfl rfl (arg2 (K.dep 3 20 rfl) (K.dep 7 24 rfl)) Tryd.enter30 (fk_node hy1 hy2 (hK.below (bgo bl K.grow)) eyn)
    intro f6 w6 A hb
    replace x0 := A.t x0 rfl
    replace x2 := A.t x2 rfl
    replace x3 := A.t x3 rfl
    have x25 := A.e 8 25 rfl rfl
    replace m2 := Ob.below m2 hb
    replace bl := bgo bl hb
    replace sd := A.sd sd
    clear A hb
    clear x0
    clear x3
    refine wl_store rfl (.tmp 2) (.tmp 25) rfl rfl (g2) (y) (hz) x2 x25 m2 hz_len hy ?_
    replace m2 : Ob (w6.setRow g2 ((y).map V : List Value).toArray) (g2) 33 ((y).map V) := Ob.setRow m2 ((y).map V)
    replace bl : Below w.heap.size w (w6.setRow g2 ((y).map V : List Value).toArray) := bl.trans (below_setRow _ _ _ _ hw2)
    generalize w6.setRow g2 ((y).map V : List Value).toArray = w7b at bl m2 ⊢
    refine wpList_nil ?_
    clear x25
    show Code.wp _ _ _ _ _
    refine wp_ret ?_
    repeat (first | with_reducible refine then_ret ?_ | with_reducible refine block_ret ?_)
    exact bodyPost_ret (v := .agg ((y).map V).toArray) (ret_hash rfl f6 _ g2 (y) hy x2 m2) sd.2 ⟨rfl, bl⟩
end Go.Proofs.YtfmeeimhfdnjpaaDoor
namespace Go.Proofs.YtfmeeimhfdnjpaaDoor
set_option maxRecDepth 100000
open Go.RowKit
end Go.Proofs.YtfmeeimhfdnjpaaDoor
namespace Go.Proofs.YtfmeeimhfdnjpaaDoor
set_option maxRecDepth 100000
open Go.RowKit
end Go.Proofs.YtfmeeimhfdnjpaaDoor
namespace Go.Proofs.YtfmeeimhfdnjpaaDoor
set_option maxRecDepth 100000
open Go.ChangeShapes Go.WideShapes Go.ChangeAt Go.RowKit

theorem own : ownKnob Tryd.prog.godebug = none := by kernel_rfl
theorem laidOut : laidOutB Tryd.prog = true := by kernel_rfl
theorem gK : Tryd.prog.globalNamed "syngraph/sha.roundNumbers" = some 0 := by kernel_rfl
theorem tK : (Tryd.prog.globals[0]?).map (·.type) = some 107 := by kernel_rfl
theorem cells90 : Tryd.prog.cellsOf 90 = 1 := by kernel_rfl
theorem cells107 : Tryd.prog.cellsOf 107 = 64 := by kernel_rfl
theorem under90 : Tryd.prog.underlying 90 = some (.int .u32) := by kernel_rfl
/-- What the rows list. -/
def laidK : List (String × DataW Unit) := [("syngraph/sha.roundNumbers", Rows.laid_syngraph_sha_roundNumbers)]
theorem laidK_tab : laidK = [("syngraph/sha.roundNumbers", Lib.tabData .u32 (KN.map vl))] := by kernel_rfl
theorem hasK_of {W : World} (h : laidMetH Tryd.prog laidK W) : HasK W 0 ∧ 0 < W.heap.size := by
  rw [MakeChecks.laidMetH_plain _ _ _ (by kernel_rfl), laidK_tab] at h
  have hT := Lib.tabIs_of_head gK tK Tryd.under107 under90 cells90 cells107 h
  have hc : ∀ i, i < 64 → W.cell? ⟨0, i, none⟩ = some (.int .u32 (vl (KN.getD i 0))) := fun i hi => by
    rw [hT.cell gK i (by simpa [KN] using hi)]
    have hi' : i < KN.length := by simpa [KN] using hi
    simp [hi']
  exact ⟨hc, block_lt_of_cell (hc 0 (by omega))⟩
theorem door_met (os : Os) (args : Array Value) : laidMetH Tryd.prog laidK ((World.doorLaid Tryd.prog 400 os).forCall (fun _ _ => 0) ⟨#[], args, []⟩).memory :=
  laidMetH_of_parts3 (fuel := 8) (laidMet_of_run' 8 (by kernel_rfl) (by kernel_rfl)) (by kernel_rfl) (by kernel_rfl)
end Go.Proofs.YtfmeeimhfdnjpaaDoor
namespace Go.Proofs.YtfmeeimhfdnjpaaDoor
set_option maxRecDepth 100000
open Go.ChangeShapes Go.WideShapes Go.ChangeAt Go.RowKit
theorem bv_ofInt (z : Int) (h0 : 0 ≤ z) (h1 : z < 256) : bv (BitVec.ofInt 8 z) = z := by
  unfold bv
  rw [BitVec.toNat_ofInt]
  omega
theorem sl_of {H : Type} {enc : TypeId × Value → H} {W : World} {a : Option Addr} {len cap : Nat} {d : DataW H} {p : List MemPlace}
    (h : DataW.Trod enc Tryd.prog W 0 (fun _ => true) true 22 (.slice a len cap) d p) : ∃ bs b o, Sl W a len cap bs b o ∧ len ≤ maxLen := by
  obtain ⟨fuel, hf⟩ := h
  rcases open_ints Tryd.under22 Tryd.under5 (by kernel_rfl) hf with ⟨hcs, _⟩ | ⟨x, l, c, zs, hcs, _, hl, hm, hz, _, hcell, hwz⟩
  · simp [Value.cells] at hcs
    obtain ⟨rfl, rfl, rfl⟩ := hcs
    exact ⟨[], 0, 0, ⟨rfl, Nat.le_refl _, fun _ => ⟨rfl, rfl⟩, fun h => absurd h (by omega)⟩, by unfold maxLen; omega⟩
  · simp [Value.cells] at hcs
    obtain ⟨rfl, rfl, rfl⟩ := hcs
    have hlen : zs.length = cap := by simpa using hz
    refine ⟨(zs.take len).map (BitVec.ofInt 8), x.block, x.off, ⟨?_, hl, fun h => by (cases h), fun hp => ?_⟩, by unfold maxLen at *; omega⟩
    · rw [List.length_map, List.length_take]; omega
    · have hspot : x.spot = none := by
        have := hcell 0 (by omega)
        simp only [Addr.add, if_true] at this
        unfold World.cell? at this
        split at this
        · split at this
          · cases this
          · rename_i h; simpa using h
        · cases this
      have hx : x = ⟨x.block, x.off, none⟩ := by rw [← hspot]
      have hadd : ∀ i, x.add i = ⟨x.block, x.off + i, none⟩ := fun i => by
        unfold Addr.add
        split
        · rename_i h; subst h; rw [Nat.add_zero]; exact hx
        · rfl
      refine ⟨by rw [← hx], ?_, ?_⟩
      · have := block_lt_of_cell (hcell 0 (by omega))
        simpa [Addr.add] using this
      · intro i hi
        have hil : i < zs.length := by rw [List.length_map, List.length_take] at hi; omega
        have hin : i < len := by rw [List.length_map, List.length_take] at hi; omega
        rw [← hadd, hcell i hil]
        have hb := bounds_u8 (hwz (zs[i]) (List.getElem_mem hil))
        have e1 : zs.getD i 0 = zs[i] := by simp [hil]
        have e2 : ((zs.take len).map (BitVec.ofInt 8)).getD i 0 = BitVec.ofInt 8 zs[i] := by simp [hil, hin]
        rw [e1, e2, bv_ofInt _ (by omega) (by omega)]
end Go.Proofs.YtfmeeimhfdnjpaaDoor
