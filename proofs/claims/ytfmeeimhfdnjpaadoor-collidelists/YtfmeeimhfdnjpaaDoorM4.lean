/- How many bits a number has. Slices of hashes that are cut: what is told of them. Plain words of layer 7: the split, roots of lists by halves, and how they are put together on a stack. Split, and the reference's. -/
import Derived.Test.YtfmeeimhfdnjpaaDoorM3
namespace Go.Proofs.YtfmeeimhfdnjpaaDoor
set_option maxRecDepth 100000
open Go.RowKit
set_option maxHeartbeats 1000000 in
theorem len64_any (x L : Nat) (hx : x < 18446744073709551616) (hL : bln x = L) (w : World) :
    Calls Tryd.prog 64 #[.int .u64 ((x : Nat) : Int)] w fun e w' => e = .returned (.int .i64 ((L : Nat) : Int)) ∧ Below w.heap.size w w' := by
  go_enter Tryd.func64, Tryd.ntmps64
  refine code_both (fun f w1 => f.tmps.size = 25 ∧ f.defers = [] ∧ f.eval (.tmp 0) = .int .u64 ((x : Nat) : Int) ∧ Below w.heap.size w (w1)) ⟨rfl, rfl, rfl, Below.refl _ _⟩ ?_
  rintro f0 w0 ⟨sz, df, x0, bl⟩
  have bl0 := bl
  refine wp_seq ?_
  refine wp_all_seq [.eq (.int .i64 0)] (by kernel_rfl) (by kernel_rfl) (by rw [sz]; kernel_rfl) (by kernel_rfl) ⟨fun hw ac u K => ?_, trivial⟩ ?_
  · exact st_assign (.const (.int .i64 0)) rfl rfl
  intro f1 w1 A hb
  replace bl0 := bl
  replace x0 := (A.old 0 rfl).trans x0
  have x2 : f1.eval (.tmp 2) = .int .i64 0 := A.has 0 2 rfl
  replace bl := (bl.trans (Below.mono hb bl.size))
  replace sz := A.size.trans sz
  replace df := A.defs.trans df
  clear A hb
  show Code.wp _ _ _ _ _
  refine wp_seq ?_
  refine wp_seq ?_
  have e : bln x + 0 = L := hL
  have l : x < 18446744073709551616 := hx
  by_cases h32 : 2 ^ 32 ≤ x
  rotate_left
  · skip
    replace l : x < 4294967296 := by omega
    refine wp_all_seq [.eq (.int .u64 ((x : Nat) : Int)), .eq (.bool false)] (by kernel_rfl) (by kernel_rfl) (by rw [sz]; kernel_rfl) (by kernel_rfl) ⟨fun hw ac u K => ?_, fun hw ac u K => ?_, trivial⟩ ?_
    · exact st_move (.tmp 0) rfl ((K.old 0 rfl).trans x0)
    · exact st_geq 104 (.tmp 3) (.const (.int .u64 4294967296)) rfl .u64 _ _ (K.dep 0 3 rfl) rfl _ (by rw [eq_comm, decide_eq_false_iff_not]; omega)
    intro f2 w2 A hb
    replace bl0 := bl
    replace x0 := (A.old 0 rfl).trans x0
    replace x2 := (A.old 2 rfl).trans x2
    have x4 : f2.eval (.tmp 4) = .bool false := A.has 1 4 rfl
    replace bl := (bl.trans (Below.mono hb bl.size))
    replace sz := A.size.trans sz
    replace df := A.defs.trans df
    clear A hb
    show Code.wp _ _ _ _ _
    refine wp_cond_false x4 ?_
    refine wp_skip ?_
    show Code.wp _ _ _ _ _
    refine wp_seq ?_
    refine wp_seq ?_
    obtain ⟨y32, hy⟩ : ∃ p, x = p := ⟨_, rfl⟩
    rw [hy] at x0 l e
    clear hy
    replace x2 : Fk.f (.eq (.int .i64 0)) (f2.eval (.tmp 2)) w2 := x2
    by_cases h16 : 2 ^ 16 ≤ y32
    rotate_left
    · skip
      replace l : y32 < 65536 := by omega
      refine wp_all_seq [.eq (.int .u64 ((y32 : Nat) : Int)), .eq (.bool false)] (by kernel_rfl) (by kernel_rfl) (by rw [sz]; kernel_rfl) (by kernel_rfl) ⟨fun hw ac u K => ?_, fun hw ac u K => ?_, trivial⟩ ?_
      · exact st_move (.tmp 0) rfl ((K.old 0 rfl).trans x0)
      · exact st_geq 104 (.tmp 7) (.const (.int .u64 65536)) rfl .u64 _ _ (K.dep 0 7 rfl) rfl _ (by rw [eq_comm, decide_eq_false_iff_not]; omega)
      intro f3 w3 A hb
      replace bl0 := bl
      replace x0 := (A.old 0 rfl).trans x0
      replace x2 := (A.old 2 rfl).trans x2
      replace x4 := (A.old 4 rfl).trans x4
      have x8 : f3.eval (.tmp 8) = .bool false := A.has 1 8 rfl
      replace bl := (bl.trans (Below.mono hb bl.size))
      replace sz := A.size.trans sz
      replace df := A.defs.trans df
      clear A hb
      show Code.wp _ _ _ _ _
      refine wp_cond_false x8 ?_
      refine wp_skip ?_
      show Code.wp _ _ _ _ _
      refine wp_seq ?_
      refine wp_seq ?_
      obtain ⟨y16, hy⟩ : ∃ p, y32 = p := ⟨_, rfl⟩
      rw [hy] at x0 l e
      clear hy
      replace x2 : Fk.f (.eq (.int .i64 0)) (f3.eval (.tmp 2)) w3 := x2
      by_cases h8 : 2 ^ 8 ≤ y16
      rotate_left
      · skip
        replace l : y16 < 256 := by omega
        refine wp_all_seq [.eq (.int .u64 ((y16 : Nat) : Int)), .eq (.bool false)] (by kernel_rfl) (by kernel_rfl) (by rw [sz]; kernel_rfl) (by kernel_rfl) ⟨fun hw ac u K => ?_, fun hw ac u K => ?_, trivial⟩ ?_
        · exact st_move (.tmp 0) rfl ((K.old 0 rfl).trans x0)
        · exact st_geq 104 (.tmp 13) (.const (.int .u64 256)) rfl .u64 _ _ (K.dep 0 13 rfl) rfl _ (by rw [eq_comm, decide_eq_false_iff_not]; omega)
        intro f4 w4 A hb
        replace bl0 := bl
        replace x0 := (A.old 0 rfl).trans x0
        replace x2 := (A.old 2 rfl).trans x2
        replace x4 := (A.old 4 rfl).trans x4
        replace x8 := (A.old 8 rfl).trans x8
        have x14 : f4.eval (.tmp 14) = .bool false := A.has 1 14 rfl
        replace bl := (bl.trans (Below.mono hb bl.size))
        replace sz := A.size.trans sz
        replace df := A.defs.trans df
        clear A hb
        show Code.wp _ _ _ _ _
        refine wp_cond_false x14 ?_
        refine wp_skip ?_
        show Code.wp _ _ _ _ _
        refine wp_seq ?_
        obtain ⟨y8, hy⟩ : ∃ p, y16 = p := ⟨_, rfl⟩
        rw [hy] at x0 l e
        clear hy
        replace x2 : Fk.f (.eq (.int .i64 0)) (f4.eval (.tmp 2)) w4 := x2
        have hq8 := bln8 ⟨y8, l⟩
        dsimp only at hq8
        refine wp_region_seq [.eq (.int .i64 0), .eq (.int .u64 ((y8 : Nat) : Int)), .eq (.int .u8 ((y8 : Nat) : Int)), .eq (.int .u8 ((bln y8 : Nat) : Int)), .eq (.int .i64 ((bln y8 : Nat) : Int)), .eq (.int .i64 ((L : Nat) : Int))] (by kernel_rfl) (by kernel_rfl) (by rw [sz]; kernel_rfl) (by kernel_rfl) ⟨fun hw ac u K => ?_, fun hw ac u K => ?_, fun hw ac u K => ?_, fun hw ac u K => ?_, fun hw ac u K => ?_, fun hw ac u K => ?_, trivial⟩ ?_
        · exact st_move (.tmp 2) rfl ((K.old 2 rfl).trans x2)
        · exact st_move (.tmp 0) rfl ((K.old 0 rfl).trans x0)
        · exact st_conv 104 5 (.tmp 20) rfl .u64 .u8 _ _ (K.dep 1 20 rfl) Tryd.under104 Tryd.under5 (by rw [IntKind.wrap_u8]; omega)
        · exact st_len8 _ (.tmp 21) rfl rfl y8 l (K.dep 2 21 rfl)
        · exact st_conv 5 3 (.tmp 22) rfl .u8 .i64 _ _ (K.dep 3 22 rfl) Tryd.under5 Tryd.under3 (by rw [IntKind.wrap_i64]; omega)
        · exact st_add (.tmp 19) (.tmp 23) rfl (0) (bln y8) (L) (K.dep 0 19 rfl) (K.dep 4 23 rfl) (by omega) (by omega)
        intro f5 w5 A hb
        replace bl0 := bl
        replace x0 := (A.old 0 rfl).trans x0
        replace x2 := (A.old 2 rfl).trans x2
        replace x4 := (A.old 4 rfl).trans x4
        replace x8 := (A.old 8 rfl).trans x8
        replace x14 := (A.old 14 rfl).trans x14
        have x24 : f5.eval (.tmp 24) = .int .i64 ((L : Nat) : Int) := A.has 5 24 rfl
        replace bl := (bl.trans (Below.mono hb bl.size))
        replace sz := A.size.trans sz
        replace df := A.defs.trans df
        clear A hb
        refine wl_one (.eq (.int .i64 ((L : Nat) : Int))) rfl 2 rfl (by rw [sz]; decide) (st_assign (.tmp 24) rfl x24) ?_
        intro f6 w6 df2 sz2 old2 new2 hb
        replace bl0 := bl
        replace x0 := (old2 0 rfl).trans x0
        clear x2
        replace x4 := (old2 4 rfl).trans x4
        replace x8 := (old2 8 rfl).trans x8
        replace x14 := (old2 14 rfl).trans x14
        replace x24 := (old2 24 rfl).trans x24
        have x2 : f6.eval (.tmp 2) = .int .i64 ((L : Nat) : Int) := new2
        replace bl := (bl.trans (Below.mono hb bl.size))
        replace sz := sz2.trans sz
        replace df := df2.trans df
        clear df2 sz2 old2 new2 hb
        refine wpList_nil ?_
        clear x24
        show Code.wp _ _ _ _ _
        refine wp_ret ?_
        repeat (first | with_reducible refine then_ret ?_ | with_reducible refine block_ret ?_)
        exact bodyPost_ret (v := .int .i64 ((L : Nat) : Int)) (ret_slot rfl f6 _ x2 _ _) df ⟨rfl, bl⟩
      replace e : bln (y16 / 2 ^ 8) + 8 = L := by have := bln_shift h8; omega
      replace l : y16 / 2 ^ 8 < 256 := by omega
      refine wp_all_seq [.eq (.int .u64 ((y16 : Nat) : Int)), .eq (.bool true)] (by kernel_rfl) (by kernel_rfl) (by rw [sz]; kernel_rfl) (by kernel_rfl) ⟨fun hw ac u K => ?_, fun hw ac u K => ?_, trivial⟩ ?_
      · exact st_move (.tmp 0) rfl ((K.old 0 rfl).trans x0)
      · exact st_geq 104 (.tmp 13) (.const (.int .u64 256)) rfl .u64 _ _ (K.dep 0 13 rfl) rfl _ (by rw [eq_comm, decide_eq_true_iff]; omega)
      intro f4 w4 A hb
      replace bl0 := bl
      replace x0 := (A.old 0 rfl).trans x0
      replace x2 := (A.old 2 rfl).trans x2
      replace x4 := (A.old 4 rfl).trans x4
      replace x8 := (A.old 8 rfl).trans x8
      have x14 : f4.eval (.tmp 14) = .bool true := A.has 1 14 rfl
      replace bl := (bl.trans (Below.mono hb bl.size))
      replace sz := A.size.trans sz
      replace df := A.defs.trans df
      clear A hb
      show Code.wp _ _ _ _ _
      refine wp_cond_true x14 ?_
      refine wp_seq ?_
      refine wp_region_seq [.eq (.int .u64 ((y16 : Nat) : Int)), .eq (.int .u64 ((y16 / 2 ^ 8 : Nat) : Int))] (by kernel_rfl) (by kernel_rfl) (by rw [sz]; kernel_rfl) (by kernel_rfl) ⟨fun hw ac u K => ?_, fun hw ac u K => ?_, trivial⟩ ?_
      · exact st_move (.tmp 0) rfl ((K.old 0 rfl).trans x0)
      · exact st_shru 104 84 (.tmp 15) (.const (.int .u64 8)) rfl (y16) 8 (K.dep 0 15 rfl) rfl _ rfl (by decide)
      intro f5 w5 A hb
      replace bl0 := bl
      replace x0 := (A.old 0 rfl).trans x0
      replace x2 := (A.old 2 rfl).trans x2
      replace x4 := (A.old 4 rfl).trans x4
      replace x8 := (A.old 8 rfl).trans x8
      replace x14 := (A.old 14 rfl).trans x14
      have x16 : f5.eval (.tmp 16) = .int .u64 ((y16 / 2 ^ 8 : Nat) : Int) := A.has 1 16 rfl
      replace bl := (bl.trans (Below.mono hb bl.size))
      replace sz := A.size.trans sz
      replace df := A.defs.trans df
      clear A hb
      refine wl_one (.eq (.int .u64 ((y16 / 2 ^ 8 : Nat) : Int))) rfl 0 rfl (by rw [sz]; decide) (st_assign (.tmp 16) rfl x16) ?_
      intro f6 w6 df2 sz2 old2 new2 hb
      replace bl0 := bl
      clear x0
      replace x2 := (old2 2 rfl).trans x2
      replace x4 := (old2 4 rfl).trans x4
      replace x8 := (old2 8 rfl).trans x8
      replace x14 := (old2 14 rfl).trans x14
      replace x16 := (old2 16 rfl).trans x16
      have x0 : f6.eval (.tmp 0) = .int .u64 ((y16 / 2 ^ 8 : Nat) : Int) := new2
      replace bl := (bl.trans (Below.mono hb bl.size))
      replace sz := sz2.trans sz
      replace df := df2.trans df
      clear df2 sz2 old2 new2 hb
      refine wpList_nil ?_
      clear x16
      show Code.wp _ _ _ _ _
      refine wp_region_seq [.eq (.int .i64 0), .eq (.int .i64 ((0 + 8 : Nat) : Int))] (by kernel_rfl) (by kernel_rfl) (by rw [sz]; kernel_rfl) (by kernel_rfl) ⟨fun hw ac u K => ?_, fun hw ac u K => ?_, trivial⟩ ?_
      · exact st_move (.tmp 2) rfl ((K.old 2 rfl).trans x2)
      · exact st_add (.tmp 17) (.const (.int .i64 8)) rfl (0) (8) (0 + 8) (K.dep 0 17 rfl) rfl (by omega) (by omega)
      intro f7 w7 A hb
      replace bl0 := bl
      replace x2 := (A.old 2 rfl).trans x2
      replace x4 := (A.old 4 rfl).trans x4
      replace x8 := (A.old 8 rfl).trans x8
      replace x14 := (A.old 14 rfl).trans x14
      replace x0 := (A.old 0 rfl).trans x0
      have x18 : f7.eval (.tmp 18) = .int .i64 ((0 + 8 : Nat) : Int) := A.has 1 18 rfl
      replace bl := (bl.trans (Below.mono hb bl.size))
      replace sz := A.size.trans sz
      replace df := A.defs.trans df
      clear A hb
      refine wl_one (.eq (.int .i64 ((0 + 8 : Nat) : Int))) rfl 2 rfl (by rw [sz]; decide) (st_assign (.tmp 18) rfl x18) ?_
      intro f8 w8 df2 sz2 old2 new2 hb
      replace bl0 := bl
      clear x2
      replace x4 := (old2 4 rfl).trans x4
      replace x8 := (old2 8 rfl).trans x8
      replace x14 := (old2 14 rfl).trans x14
      replace x0 := (old2 0 rfl).trans x0
      replace x18 := (old2 18 rfl).trans x18
      have x2 : f8.eval (.tmp 2) = .int .i64 ((0 + 8 : Nat) : Int) := new2
      replace bl := (bl.trans (Below.mono hb bl.size))
      replace sz := sz2.trans sz
      replace df := df2.trans df
      clear df2 sz2 old2 new2 hb
      refine wpList_nil ?_
      clear x18
      show Code.wp _ _ _ _ _
      refine wp_seq ?_
      obtain ⟨y8, hy⟩ : ∃ p, y16 / 2 ^ 8 = p := ⟨_, rfl⟩
      rw [hy] at x0 l e
      clear hy
      replace x2 : Fk.f (.eq (.int .i64 8)) (f8.eval (.tmp 2)) w8 := x2
      have hq8 := bln8 ⟨y8, l⟩
      dsimp only at hq8
      refine wp_region_seq [.eq (.int .i64 8), .eq (.int .u64 ((y8 : Nat) : Int)), .eq (.int .u8 ((y8 : Nat) : Int)), .eq (.int .u8 ((bln y8 : Nat) : Int)), .eq (.int .i64 ((bln y8 : Nat) : Int)), .eq (.int .i64 ((L : Nat) : Int))] (by kernel_rfl) (by kernel_rfl) (by rw [sz]; kernel_rfl) (by kernel_rfl) ⟨fun hw ac u K => ?_, fun hw ac u K => ?_, fun hw ac u K => ?_, fun hw ac u K => ?_, fun hw ac u K => ?_, fun hw ac u K => ?_, trivial⟩ ?_
      · exact st_move (.tmp 2) rfl ((K.old 2 rfl).trans x2)
      · exact st_move (.tmp 0) rfl ((K.old 0 rfl).trans x0)
      · exact st_conv 104 5 (.tmp 20) rfl .u64 .u8 _ _ (K.dep 1 20 rfl) Tryd.under104 Tryd.under5 (by rw [IntKind.wrap_u8]; omega)
      · exact st_len8 _ (.tmp 21) rfl rfl y8 l (K.dep 2 21 rfl)
      · exact st_conv 5 3 (.tmp 22) rfl .u8 .i64 _ _ (K.dep 3 22 rfl) Tryd.under5 Tryd.under3 (by rw [IntKind.wrap_i64]; omega)
      · exact st_add (.tmp 19) (.tmp 23) rfl (8) (bln y8) (L) (K.dep 0 19 rfl) (K.dep 4 23 rfl) (by omega) (by omega)
      intro f9 w9 A hb
      replace bl0 := bl
      replace x4 := (A.old 4 rfl).trans x4
      replace x8 := (A.old 8 rfl).trans x8
      replace x14 := (A.old 14 rfl).trans x14
      replace x0 := (A.old 0 rfl).trans x0
      replace x2 := (A.old 2 rfl).trans x2
      have x24 : f9.eval (.tmp 24) = .int .i64 ((L : Nat) : Int) := A.has 5 24 rfl
      replace bl := (bl.trans (Below.mono hb bl.size))
      replace sz := A.size.trans sz
      replace df := A.defs.trans df
      clear A hb
      refine wl_one (.eq (.int .i64 ((L : Nat) : Int))) rfl 2 rfl (by rw [sz]; decide) (st_assign (.tmp 24) rfl x24) ?_
      intro f10 w10 df2 sz2 old2 new2 hb
      replace bl0 := bl
      replace x4 := (old2 4 rfl).trans x4
      replace x8 := (old2 8 rfl).trans x8
      replace x14 := (old2 14 rfl).trans x14
      replace x0 := (old2 0 rfl).trans x0
      clear x2
      replace x24 := (old2 24 rfl).trans x24
      have x2 : f10.eval (.tmp 2) = .int .i64 ((L : Nat) : Int) := new2
      replace bl := (bl.trans (Below.mono hb bl.size))
      replace sz := sz2.trans sz
      replace df := df2.trans df
      clear df2 sz2 old2 new2 hb
      refine wpList_nil ?_
      clear x24
      show Code.wp _ _ _ _ _
      refine wp_ret ?_
      repeat (first | with_reducible refine then_ret ?_ | with_reducible refine block_ret ?_)
      exact bodyPost_ret (v := .int .i64 ((L : Nat) : Int)) (ret_slot rfl f10 _ x2 _ _) df ⟨rfl, bl⟩
    replace e : bln (y32 / 2 ^ 16) + 16 = L := by have := bln_shift h16; omega
    replace l : y32 / 2 ^ 16 < 65536 := by omega
    refine wp_all_seq [.eq (.int .u64 ((y32 : Nat) : Int)), .eq (.bool true)] (by kernel_rfl) (by kernel_rfl) (by rw [sz]; kernel_rfl) (by kernel_rfl) ⟨fun hw ac u K => ?_, fun hw ac u K => ?_, trivial⟩ ?_
    · exact st_move (.tmp 0) rfl ((K.old 0 rfl).trans x0)
    · exact st_geq 104 (.tmp 7) (.const (.int .u64 65536)) rfl .u64 _ _ (K.dep 0 7 rfl) rfl _ (by rw [eq_comm, decide_eq_true_iff]; omega)
    intro f3 w3 A hb
    replace bl0 := bl
    replace x0 := (A.old 0 rfl).trans x0
    replace x2 := (A.old 2 rfl).trans x2
    replace x4 := (A.old 4 rfl).trans x4
    have x8 : f3.eval (.tmp 8) = .bool true := A.has 1 8 rfl
    replace bl := (bl.trans (Below.mono hb bl.size))
    replace sz := A.size.trans sz
    replace df := A.defs.trans df
    clear A hb
    show Code.wp _ _ _ _ _
    refine wp_cond_true x8 ?_
    refine wp_seq ?_
    refine wp_region_seq [.eq (.int .u64 ((y32 : Nat) : Int)), .eq (.int .u64 ((y32 / 2 ^ 16 : Nat) : Int))] (by kernel_rfl) (by kernel_rfl) (by rw [sz]; kernel_rfl) (by kernel_rfl) ⟨fun hw ac u K => ?_, fun hw ac u K => ?_, trivial⟩ ?_
    · exact st_move (.tmp 0) rfl ((K.old 0 rfl).trans x0)
    · exact st_shru 104 84 (.tmp 9) (.const (.int .u64 16)) rfl (y32) 16 (K.dep 0 9 rfl) rfl _ rfl (by decide)
    intro f4 w4 A hb
    replace bl0 := bl
    replace x0 := (A.old 0 rfl).trans x0
    replace x2 := (A.old 2 rfl).trans x2
    replace x4 := (A.old 4 rfl).trans x4
    replace x8 := (A.old 8 rfl).trans x8
    have x10 : f4.eval (.tmp 10) = .int .u64 ((y32 / 2 ^ 16 : Nat) : Int) := A.has 1 10 rfl
    replace bl := (bl.trans (Below.mono hb bl.size))
    replace sz := A.size.trans sz
    replace df := A.defs.trans df
    clear A hb
    refine wl_one (.eq (.int .u64 ((y32 / 2 ^ 16 : Nat) : Int))) rfl 0 rfl (by rw [sz]; decide) (st_assign (.tmp 10) rfl x10) ?_
    intro f5 w5 df2 sz2 old2 new2 hb
    replace bl0 := bl
    clear x0
    replace x2 := (old2 2 rfl).trans x2
    replace x4 := (old2 4 rfl).trans x4
    replace x8 := (old2 8 rfl).trans x8
    replace x10 := (old2 10 rfl).trans x10
    have x0 : f5.eval (.tmp 0) = .int .u64 ((y32 / 2 ^ 16 : Nat) : Int) := new2
    replace bl := (bl.trans (Below.mono hb bl.size))
    replace sz := sz2.trans sz
    replace df := df2.trans df
    clear df2 sz2 old2 new2 hb
    refine wpList_nil ?_
    clear x10
    show Code.wp _ _ _ _ _
    refine wp_region_seq [.eq (.int .i64 0), .eq (.int .i64 ((0 + 16 : Nat) : Int))] (by kernel_rfl) (by kernel_rfl) (by rw [sz]; kernel_rfl) (by kernel_rfl) ⟨fun hw ac u K => ?_, fun hw ac u K => ?_, trivial⟩ ?_
    · exact st_move (.tmp 2) rfl ((K.old 2 rfl).trans x2)
    · exact st_add (.tmp 11) (.const (.int .i64 16)) rfl (0) (16) (0 + 16) (K.dep 0 11 rfl) rfl (by omega) (by omega)
    intro f6 w6 A hb
    replace bl0 := bl
    replace x2 := (A.old 2 rfl).trans x2
    replace x4 := (A.old 4 rfl).trans x4
    replace x8 := (A.old 8 rfl).trans x8
    replace x0 := (A.old 0 rfl).trans x0
    have x12 : f6.eval (.tmp 12) = .int .i64 ((0 + 16 : Nat) : Int) := A.has 1 12 rfl
    replace bl := (bl.trans (Below.mono hb bl.size))
    replace sz := A.size.trans sz
    replace df := A.defs.trans df
    clear A hb
    refine wl_one (.eq (.int .i64 ((0 + 16 : Nat) : Int))) rfl 2 rfl (by rw [sz]; decide) (st_assign (.tmp 12) rfl x12) ?_
    intro f7 w7 df2 sz2 old2 new2 hb
    replace bl0 := bl
    clear x2
    replace x4 := (old2 4 rfl).trans x4
    replace x8 := (old2 8 rfl).trans x8
    replace x0 := (old2 0 rfl).trans x0
    replace x12 := (old2 12 rfl).trans x12
    have x2 : f7.eval (.tmp 2) = .int .i64 ((0 + 16 : Nat) : Int) := new2
    replace bl := (bl.trans (Below.mono hb bl.size))
    replace sz := sz2.trans sz
    replace df := df2.trans df
    clear df2 sz2 old2 new2 hb
    refine wpList_nil ?_
    clear x12
    show Code.wp _ _ _ _ _
    refine wp_seq ?_
    refine wp_seq ?_
    obtain ⟨y16, hy⟩ : ∃ p, y32 / 2 ^ 16 = p := ⟨_, rfl⟩
    rw [hy] at x0 l e
    clear hy
    replace x2 : Fk.f (.eq (.int .i64 16)) (f7.eval (.tmp 2)) w7 := x2
    by_cases h8 : 2 ^ 8 ≤ y16
    rotate_left
    · skip
      replace l : y16 < 256 := by omega
      refine wp_all_seq [.eq (.int .u64 ((y16 : Nat) : Int)), .eq (.bool false)] (by kernel_rfl) (by kernel_rfl) (by rw [sz]; kernel_rfl) (by kernel_rfl) ⟨fun hw ac u K => ?_, fun hw ac u K => ?_, trivial⟩ ?_
      · exact st_move (.tmp 0) rfl ((K.old 0 rfl).trans x0)
      · exact st_geq 104 (.tmp 13) (.const (.int .u64 256)) rfl .u64 _ _ (K.dep 0 13 rfl) rfl _ (by rw [eq_comm, decide_eq_false_iff_not]; omega)
      intro f8 w8 A hb
      replace bl0 := bl
      replace x4 := (A.old 4 rfl).trans x4
      replace x8 := (A.old 8 rfl).trans x8
      replace x0 := (A.old 0 rfl).trans x0
      replace x2 := (A.old 2 rfl).trans x2
      have x14 : f8.eval (.tmp 14) = .bool false := A.has 1 14 rfl
      replace bl := (bl.trans (Below.mono hb bl.size))
      replace sz := A.size.trans sz
      replace df := A.defs.trans df
      clear A hb
      show Code.wp _ _ _ _ _
      refine wp_cond_false x14 ?_
      refine wp_skip ?_
      show Code.wp _ _ _ _ _
      refine wp_seq ?_
      obtain ⟨y8, hy⟩ : ∃ p, y16 = p := ⟨_, rfl⟩
      rw [hy] at x0 l e
      clear hy
      replace x2 : Fk.f (.eq (.int .i64 16)) (f8.eval (.tmp 2)) w8 := x2
      have hq8 := bln8 ⟨y8, l⟩
      dsimp only at hq8
      refine wp_region_seq [.eq (.int .i64 16), .eq (.int .u64 ((y8 : Nat) : Int)), .eq (.int .u8 ((y8 : Nat) : Int)), .eq (.int .u8 ((bln y8 : Nat) : Int)), .eq (.int .i64 ((bln y8 : Nat) : Int)), .eq (.int .i64 ((L : Nat) : Int))] (by kernel_rfl) (by kernel_rfl) (by rw [sz]; kernel_rfl) (by kernel_rfl) ⟨fun hw ac u K => ?_, fun hw ac u K => ?_, fun hw ac u K => ?_, fun hw ac u K => ?_, fun hw ac u K => ?_, fun hw ac u K => ?_, trivial⟩ ?_
      · exact st_move (.tmp 2) rfl ((K.old 2 rfl).trans x2)
      · exact st_move (.tmp 0) rfl ((K.old 0 rfl).trans x0)
      · exact st_conv 104 5 (.tmp 20) rfl .u64 .u8 _ _ (K.dep 1 20 rfl) Tryd.under104 Tryd.under5 (by rw [IntKind.wrap_u8]; omega)
      · exact st_len8 _ (.tmp 21) rfl rfl y8 l (K.dep 2 21 rfl)
      · exact st_conv 5 3 (.tmp 22) rfl .u8 .i64 _ _ (K.dep 3 22 rfl) Tryd.under5 Tryd.under3 (by rw [IntKind.wrap_i64]; omega)
      · exact st_add (.tmp 19) (.tmp 23) rfl (16) (bln y8) (L) (K.dep 0 19 rfl) (K.dep 4 23 rfl) (by omega) (by omega)
      intro f9 w9 A hb
      replace bl0 := bl
      replace x4 := (A.old 4 rfl).trans x4
      replace x8 := (A.old 8 rfl).trans x8
      replace x0 := (A.old 0 rfl).trans x0
      replace x2 := (A.old 2 rfl).trans x2
      replace x14 := (A.old 14 rfl).trans x14
      have x24 : f9.eval (.tmp 24) = .int .i64 ((L : Nat) : Int) := A.has 5 24 rfl
      replace bl := (bl.trans (Below.mono hb bl.size))
      replace sz := A.size.trans sz
      replace df := A.defs.trans df
      clear A hb
      refine wl_one (.eq (.int .i64 ((L : Nat) : Int))) rfl 2 rfl (by rw [sz]; decide) (st_assign (.tmp 24) rfl x24) ?_
      intro f10 w10 df2 sz2 old2 new2 hb
      replace bl0 := bl
      replace x4 := (old2 4 rfl).trans x4
      replace x8 := (old2 8 rfl).trans x8
      replace x0 := (old2 0 rfl).trans x0
      clear x2
      replace x14 := (old2 14 rfl).trans x14
      replace x24 := (old2 24 rfl).trans x24
      have x2 : f10.eval (.tmp 2) = .int .i64 ((L : Nat) : Int) := new2
      replace bl := (bl.trans (Below.mono hb bl.size))
      replace sz := sz2.trans sz
      replace df := df2.trans df
      clear df2 sz2 old2 new2 hb
      refine wpList_nil ?_
      clear x24
      show Code.wp _ _ _ _ _
      refine wp_ret ?_
      repeat (first | with_reducible refine then_ret ?_ | with_reducible refine block_ret ?_)
      exact bodyPost_ret (v := .int .i64 ((L : Nat) : Int)) (ret_slot rfl f10 _ x2 _ _) df ⟨rfl, bl⟩
    replace e : bln (y16 / 2 ^ 8) + 24 = L := by have := bln_shift h8; omega
    replace l : y16 / 2 ^ 8 < 256 := by omega
    refine wp_all_seq [.eq (.int .u64 ((y16 : Nat) : Int)), .eq (.bool true)] (by kernel_rfl) (by kernel_rfl) (by rw [sz]; kernel_rfl) (by kernel_rfl) ⟨fun hw ac u K => ?_, fun hw ac u K => ?_, trivial⟩ ?_
    · exact st_move (.tmp 0) rfl ((K.old 0 rfl).trans x0)
    · exact st_geq 104 (.tmp 13) (.const (.int .u64 256)) rfl .u64 _ _ (K.dep 0 13 rfl) rfl _ (by rw [eq_comm, decide_eq_true_iff]; omega)
    intro f8 w8 A hb
    replace bl0 := bl
    replace x4 := (A.old 4 rfl).trans x4
    replace x8 := (A.old 8 rfl).trans x8
    replace x0 := (A.old 0 rfl).trans x0
    replace x2 := (A.old 2 rfl).trans x2
    have x14 : f8.eval (.tmp 14) = .bool true := A.has 1 14 rfl
    replace bl := (bl.trans (Below.mono hb bl.size))
    replace sz := A.size.trans sz
    replace df := A.defs.trans df
    clear A hb
    show Code.wp _ _ _ _ _
    refine wp_cond_true x14 ?_
    refine wp_seq ?_
    refine wp_region_seq [.eq (.int .u64 ((y16 : Nat) : Int)), .eq (.int .u64 ((y16 / 2 ^ 8 : Nat) : Int))] (by kernel_rfl) (by kernel_rfl) (by rw [sz]; kernel_rfl) (by kernel_rfl) ⟨fun hw ac u K => ?_, fun hw ac u K => ?_, trivial⟩ ?_
    · exact st_move (.tmp 0) rfl ((K.old 0 rfl).trans x0)
    · exact st_shru 104 84 (.tmp 15) (.const (.int .u64 8)) rfl (y16) 8 (K.dep 0 15 rfl) rfl _ rfl (by decide)
    intro f9 w9 A hb
    replace bl0 := bl
    replace x4 := (A.old 4 rfl).trans x4
    replace x8 := (A.old 8 rfl).trans x8
    replace x0 := (A.old 0 rfl).trans x0
    replace x2 := (A.old 2 rfl).trans x2
    replace x14 := (A.old 14 rfl).trans x14
    have x16 : f9.eval (.tmp 16) = .int .u64 ((y16 / 2 ^ 8 : Nat) : Int) := A.has 1 16 rfl
    replace bl := (bl.trans (Below.mono hb bl.size))
    replace sz := A.size.trans sz
    replace df := A.defs.trans df
    clear A hb
    refine wl_one (.eq (.int .u64 ((y16 / 2 ^ 8 : Nat) : Int))) rfl 0 rfl (by rw [sz]; decide) (st_assign (.tmp 16) rfl x16) ?_
    intro f10 w10 df2 sz2 old2 new2 hb
    replace bl0 := bl
    replace x4 := (old2 4 rfl).trans x4
    replace x8 := (old2 8 rfl).trans x8
    clear x0
    replace x2 := (old2 2 rfl).trans x2
    replace x14 := (old2 14 rfl).trans x14
    replace x16 := (old2 16 rfl).trans x16
    have x0 : f10.eval (.tmp 0) = .int .u64 ((y16 / 2 ^ 8 : Nat) : Int) := new2
    replace bl := (bl.trans (Below.mono hb bl.size))
    replace sz := sz2.trans sz
    replace df := df2.trans df
    clear df2 sz2 old2 new2 hb
    refine wpList_nil ?_
    clear x16
    show Code.wp _ _ _ _ _
    refine wp_region_seq [.eq (.int .i64 16), .eq (.int .i64 ((16 + 8 : Nat) : Int))] (by kernel_rfl) (by kernel_rfl) (by rw [sz]; kernel_rfl) (by kernel_rfl) ⟨fun hw ac u K => ?_, fun hw ac u K => ?_, trivial⟩ ?_
    · exact st_move (.tmp 2) rfl ((K.old 2 rfl).trans x2)
    · exact st_add (.tmp 17) (.const (.int .i64 8)) rfl (16) (8) (16 + 8) (K.dep 0 17 rfl) rfl (by omega) (by omega)
    intro f11 w11 A hb
    replace bl0 := bl
    replace x4 := (A.old 4 rfl).trans x4
    replace x8 := (A.old 8 rfl).trans x8
    replace x2 := (A.old 2 rfl).trans x2
    replace x14 := (A.old 14 rfl).trans x14
    replace x0 := (A.old 0 rfl).trans x0
    have x18 : f11.eval (.tmp 18) = .int .i64 ((16 + 8 : Nat) : Int) := A.has 1 18 rfl
    replace bl := (bl.trans (Below.mono hb bl.size))
    replace sz := A.size.trans sz
    replace df := A.defs.trans df
    clear A hb
    refine wl_one (.eq (.int .i64 ((16 + 8 : Nat) : Int))) rfl 2 rfl (by rw [sz]; decide) (st_assign (.tmp 18) rfl x18) ?_
    intro f12 w12 df2 sz2 old2 new2 hb
    replace bl0 := bl
    replace x4 := (old2 4 rfl).trans x4
    replace x8 := (old2 8 rfl).trans x8
    clear x2
    replace x14 := (old2 14 rfl).trans x14
    replace x0 := (old2 0 rfl).trans x0
    replace x18 := (old2 18 rfl).trans x18
    have x2 : f12.eval (.tmp 2) = .int .i64 ((16 + 8 : Nat) : Int) := new2
    replace bl := (bl.trans (Below.mono hb bl.size))
    replace sz := sz2.trans sz
    replace df := df2.trans df
    clear df2 sz2 old2 new2 hb
    refine wpList_nil ?_
    clear x18
    show Code.wp _ _ _ _ _
    refine wp_seq ?_
    obtain ⟨y8, hy⟩ : ∃ p, y16 / 2 ^ 8 = p := ⟨_, rfl⟩
    rw [hy] at x0 l e
    clear hy
    replace x2 : Fk.f (.eq (.int .i64 24)) (f12.eval (.tmp 2)) w12 := x2
    have hq8 := bln8 ⟨y8, l⟩
    dsimp only at hq8
    refine wp_region_seq [.eq (.int .i64 24), .eq (.int .u64 ((y8 : Nat) : Int)), .eq (.int .u8 ((y8 : Nat) : Int)), .eq (.int .u8 ((bln y8 : Nat) : Int)), .eq (.int .i64 ((bln y8 : Nat) : Int)), .eq (.int .i64 ((L : Nat) : Int))] (by kernel_rfl) (by kernel_rfl) (by rw [sz]; kernel_rfl) (by kernel_rfl) ⟨fun hw ac u K => ?_, fun hw ac u K => ?_, fun hw ac u K => ?_, fun hw ac u K => ?_, fun hw ac u K => ?_, fun hw ac u K => ?_, trivial⟩ ?_
    · exact st_move (.tmp 2) rfl ((K.old 2 rfl).trans x2)
    · exact st_move (.tmp 0) rfl ((K.old 0 rfl).trans x0)
    · exact st_conv 104 5 (.tmp 20) rfl .u64 .u8 _ _ (K.dep 1 20 rfl) Tryd.under104 Tryd.under5 (by rw [IntKind.wrap_u8]; omega)
    · exact st_len8 _ (.tmp 21) rfl rfl y8 l (K.dep 2 21 rfl)
    · exact st_conv 5 3 (.tmp 22) rfl .u8 .i64 _ _ (K.dep 3 22 rfl) Tryd.under5 Tryd.under3 (by rw [IntKind.wrap_i64]; omega)
    · exact st_add (.tmp 19) (.tmp 23) rfl (24) (bln y8) (L) (K.dep 0 19 rfl) (K.dep 4 23 rfl) (by omega) (by omega)
    intro f13 w13 A hb
    replace bl0 := bl
    replace x4 := (A.old 4 rfl).trans x4
    replace x8 := (A.old 8 rfl).trans x8
    replace x14 := (A.old 14 rfl).trans x14
    replace x0 := (A.old 0 rfl).trans x0
    replace x2 := (A.old 2 rfl).trans x2
    have x24 : f13.eval (.tmp 24) = .int .i64 ((L : Nat) : Int) := A.has 5 24 rfl
    replace bl := (bl.trans (Below.mono hb bl.size))
    replace sz := A.size.trans sz
    replace df := A.defs.trans df
    clear A hb
    refine wl_one (.eq (.int .i64 ((L : Nat) : Int))) rfl 2 rfl (by rw [sz]; decide) (st_assign (.tmp 24) rfl x24) ?_
    intro f14 w14 df2 sz2 old2 new2 hb
    replace bl0 := bl
    replace x4 := (old2 4 rfl).trans x4
    replace x8 := (old2 8 rfl).trans x8
    replace x14 := (old2 14 rfl).trans x14
    replace x0 := (old2 0 rfl).trans x0
    clear x2
    replace x24 := (old2 24 rfl).trans x24
    have x2 : f14.eval (.tmp 2) = .int .i64 ((L : Nat) : Int) := new2
    replace bl := (bl.trans (Below.mono hb bl.size))
    replace sz := sz2.trans sz
    replace df := df2.trans df
    clear df2 sz2 old2 new2 hb
    refine wpList_nil ?_
    clear x24
    show Code.wp _ _ _ _ _
    refine wp_ret ?_
    repeat (first | with_reducible refine then_ret ?_ | with_reducible refine block_ret ?_)
    exact bodyPost_ret (v := .int .i64 ((L : Nat) : Int)) (ret_slot rfl f14 _ x2 _ _) df ⟨rfl, bl⟩
  replace e : bln (x / 2 ^ 32) + 32 = L := by have := bln_shift h32; omega
  replace l : x / 2 ^ 32 < 4294967296 := by omega
  refine wp_all_seq [.eq (.int .u64 ((x : Nat) : Int)), .eq (.bool true)] (by kernel_rfl) (by kernel_rfl) (by rw [sz]; kernel_rfl) (by kernel_rfl) ⟨fun hw ac u K => ?_, fun hw ac u K => ?_, trivial⟩ ?_
  · exact st_move (.tmp 0) rfl ((K.old 0 rfl).trans x0)
  · exact st_geq 104 (.tmp 3) (.const (.int .u64 4294967296)) rfl .u64 _ _ (K.dep 0 3 rfl) rfl _ (by rw [eq_comm, decide_eq_true_iff]; omega)
  intro f2 w2 A hb
  replace bl0 := bl
  replace x0 := (A.old 0 rfl).trans x0
  replace x2 := (A.old 2 rfl).trans x2
  have x4 : f2.eval (.tmp 4) = .bool true := A.has 1 4 rfl
  replace bl := (bl.trans (Below.mono hb bl.size))
  replace sz := A.size.trans sz
  replace df := A.defs.trans df
  clear A hb
  show Code.wp _ _ _ _ _
  refine wp_cond_true x4 ?_
  refine wp_seq ?_
  refine wp_region_seq [.eq (.int .u64 ((x : Nat) : Int)), .eq (.int .u64 ((x / 2 ^ 32 : Nat) : Int))] (by kernel_rfl) (by kernel_rfl) (by rw [sz]; kernel_rfl) (by kernel_rfl) ⟨fun hw ac u K => ?_, fun hw ac u K => ?_, trivial⟩ ?_
  · exact st_move (.tmp 0) rfl ((K.old 0 rfl).trans x0)
  · exact st_shru 104 84 (.tmp 5) (.const (.int .u64 32)) rfl (x) 32 (K.dep 0 5 rfl) rfl _ rfl (by decide)
  intro f3 w3 A hb
  replace bl0 := bl
  replace x0 := (A.old 0 rfl).trans x0
  replace x2 := (A.old 2 rfl).trans x2
  replace x4 := (A.old 4 rfl).trans x4
  have x6 : f3.eval (.tmp 6) = .int .u64 ((x / 2 ^ 32 : Nat) : Int) := A.has 1 6 rfl
  replace bl := (bl.trans (Below.mono hb bl.size))
  replace sz := A.size.trans sz
  replace df := A.defs.trans df
  clear A hb
  refine wl_one (.eq (.int .u64 ((x / 2 ^ 32 : Nat) : Int))) rfl 0 rfl (by rw [sz]; decide) (st_assign (.tmp 6) rfl x6) ?_
  intro f4 w4 df2 sz2 old2 new2 hb
  replace bl0 := bl
  clear x0
  replace x2 := (old2 2 rfl).trans x2
  replace x4 := (old2 4 rfl).trans x4
  replace x6 := (old2 6 rfl).trans x6
  have x0 : f4.eval (.tmp 0) = .int .u64 ((x / 2 ^ 32 : Nat) : Int) := new2
  replace bl := (bl.trans (Below.mono hb bl.size))
  replace sz := sz2.trans sz
  replace df := df2.trans df
  clear df2 sz2 old2 new2 hb
  refine wpList_nil ?_
  clear x6
  show Code.wp _ _ _ _ _
  refine wp_all_seq [.eq (.int .i64 32)] (by kernel_rfl) (by kernel_rfl) (by rw [sz]; kernel_rfl) (by kernel_rfl) ⟨fun hw ac u K => ?_, trivial⟩ ?_
  · exact st_assign (.const (.int .i64 32)) rfl rfl
  intro f5 w5 A hb
  replace bl0 := bl
  clear x2
  replace x4 := (A.old 4 rfl).trans x4
  replace x0 := (A.old 0 rfl).trans x0
  have x2 : f5.eval (.tmp 2) = .int .i64 32 := A.has 0 2 rfl
  replace bl := (bl.trans (Below.mono hb bl.size))
  replace sz := A.size.trans sz
  replace df := A.defs.trans df
  clear A hb
  show Code.wp _ _ _ _ _
  refine wp_seq ?_
  refine wp_seq ?_
  obtain ⟨y32, hy⟩ : ∃ p, x / 2 ^ 32 = p := ⟨_, rfl⟩
  rw [hy] at x0 l e
  clear hy
  replace x2 : Fk.f (.eq (.int .i64 32)) (f5.eval (.tmp 2)) w5 := x2
  by_cases h16 : 2 ^ 16 ≤ y32
  rotate_left
  · skip
    replace l : y32 < 65536 := by omega
    refine wp_all_seq [.eq (.int .u64 ((y32 : Nat) : Int)), .eq (.bool false)] (by kernel_rfl) (by kernel_rfl) (by rw [sz]; kernel_rfl) (by kernel_rfl) ⟨fun hw ac u K => ?_, fun hw ac u K => ?_, trivial⟩ ?_
    · exact st_move (.tmp 0) rfl ((K.old 0 rfl).trans x0)
    · exact st_geq 104 (.tmp 7) (.const (.int .u64 65536)) rfl .u64 _ _ (K.dep 0 7 rfl) rfl _ (by rw [eq_comm, decide_eq_false_iff_not]; omega)
    intro f6 w6 A hb
    replace bl0 := bl
    replace x4 := (A.old 4 rfl).trans x4
    replace x0 := (A.old 0 rfl).trans x0
    replace x2 := (A.old 2 rfl).trans x2
    have x8 : f6.eval (.tmp 8) = .bool false := A.has 1 8 rfl
    replace bl := (bl.trans (Below.mono hb bl.size))
    replace sz := A.size.trans sz
    replace df := A.defs.trans df
    clear A hb
    show Code.wp _ _ _ _ _
    refine wp_cond_false x8 ?_
    refine wp_skip ?_
    show Code.wp _ _ _ _ _
    refine wp_seq ?_
    refine wp_seq ?_
    obtain ⟨y16, hy⟩ : ∃ p, y32 = p := ⟨_, rfl⟩
    rw [hy] at x0 l e
    clear hy
    replace x2 : Fk.f (.eq (.int .i64 32)) (f6.eval (.tmp 2)) w6 := x2
    by_cases h8 : 2 ^ 8 ≤ y16
    rotate_left
    · skip
      replace l : y16 < 256 := by omega
      refine wp_all_seq [.eq (.int .u64 ((y16 : Nat) : Int)), .eq (.bool false)] (by kernel_rfl) (by kernel_rfl) (by rw [sz]; kernel_rfl) (by kernel_rfl) ⟨fun hw ac u K => ?_, fun hw ac u K => ?_, trivial⟩ ?_
      · exact st_move (.tmp 0) rfl ((K.old 0 rfl).trans x0)
      · exact st_geq 104 (.tmp 13) (.const (.int .u64 256)) rfl .u64 _ _ (K.dep 0 13 rfl) rfl _ (by rw [eq_comm, decide_eq_false_iff_not]; omega)
      intro f7 w7 A hb
      replace bl0 := bl
      replace x4 := (A.old 4 rfl).trans x4
      replace x0 := (A.old 0 rfl).trans x0
      replace x2 := (A.old 2 rfl).trans x2
      replace x8 := (A.old 8 rfl).trans x8
      have x14 : f7.eval (.tmp 14) = .bool false := A.has 1 14 rfl
      replace bl := (bl.trans (Below.mono hb bl.size))
      replace sz := A.size.trans sz
      replace df := A.defs.trans df
      clear A hb
      show Code.wp _ _ _ _ _
      refine wp_cond_false x14 ?_
      refine wp_skip ?_
      show Code.wp _ _ _ _ _
      refine wp_seq ?_
      obtain ⟨y8, hy⟩ : ∃ p, y16 = p := ⟨_, rfl⟩
      rw [hy] at x0 l e
      clear hy
      replace x2 : Fk.f (.eq (.int .i64 32)) (f7.eval (.tmp 2)) w7 := x2
      have hq8 := bln8 ⟨y8, l⟩
      dsimp only at hq8
      refine wp_region_seq [.eq (.int .i64 32), .eq (.int .u64 ((y8 : Nat) : Int)), .eq (.int .u8 ((y8 : Nat) : Int)), .eq (.int .u8 ((bln y8 : Nat) : Int)), .eq (.int .i64 ((bln y8 : Nat) : Int)), .eq (.int .i64 ((L : Nat) : Int))] (by kernel_rfl) (by kernel_rfl) (by rw [sz]; kernel_rfl) (by kernel_rfl) ⟨fun hw ac u K => ?_, fun hw ac u K => ?_, fun hw ac u K => ?_, fun hw ac u K => ?_, fun hw ac u K => ?_, fun hw ac u K => ?_, trivial⟩ ?_
      · exact st_move (.tmp 2) rfl ((K.old 2 rfl).trans x2)
      · exact st_move (.tmp 0) rfl ((K.old 0 rfl).trans x0)
      · exact st_conv 104 5 (.tmp 20) rfl .u64 .u8 _ _ (K.dep 1 20 rfl) Tryd.under104 Tryd.under5 (by rw [IntKind.wrap_u8]; omega)
      · exact st_len8 _ (.tmp 21) rfl rfl y8 l (K.dep 2 21 rfl)
      · exact st_conv 5 3 (.tmp 22) rfl .u8 .i64 _ _ (K.dep 3 22 rfl) Tryd.under5 Tryd.under3 (by rw [IntKind.wrap_i64]; omega)
      · exact st_add (.tmp 19) (.tmp 23) rfl (32) (bln y8) (L) (K.dep 0 19 rfl) (K.dep 4 23 rfl) (by omega) (by omega)
      intro f8 w8 A hb
      replace bl0 := bl
      replace x4 := (A.old 4 rfl).trans x4
      replace x0 := (A.old 0 rfl).trans x0
      replace x2 := (A.old 2 rfl).trans x2
      replace x8 := (A.old 8 rfl).trans x8
      replace x14 := (A.old 14 rfl).trans x14
      have x24 : f8.eval (.tmp 24) = .int .i64 ((L : Nat) : Int) := A.has 5 24 rfl
      replace bl := (bl.trans (Below.mono hb bl.size))
      replace sz := A.size.trans sz
      replace df := A.defs.trans df
      clear A hb
      refine wl_one (.eq (.int .i64 ((L : Nat) : Int))) rfl 2 rfl (by rw [sz]; decide) (st_assign (.tmp 24) rfl x24) ?_
      intro f9 w9 df2 sz2 old2 new2 hb
      replace bl0 := bl
      replace x4 := (old2 4 rfl).trans x4
      replace x0 := (old2 0 rfl).trans x0
      clear x2
      replace x8 := (old2 8 rfl).trans x8
      replace x14 := (old2 14 rfl).trans x14
      replace x24 := (old2 24 rfl).trans x24
      have x2 : f9.eval (.tmp 2) = .int .i64 ((L : Nat) : Int) := new2
      replace bl := (bl.trans (Below.mono hb bl.size))
      replace sz := sz2.trans sz
      replace df := df2.trans df
      clear df2 sz2 old2 new2 hb
      refine wpList_nil ?_
      clear x24
      show Code.wp _ _ _ _ _
      refine wp_ret ?_
      repeat (first | with_reducible refine then_ret ?_ | with_reducible refine block_ret ?_)
      exact bodyPost_ret (v := .int .i64 ((L : Nat) : Int)) (ret_slot rfl f9 _ x2 _ _) df ⟨rfl, bl⟩
    replace e : bln (y16 / 2 ^ 8) + 40 = L := by have := bln_shift h8; omega
    replace l : y16 / 2 ^ 8 < 256 := by omega
    refine wp_all_seq [.eq (.int .u64 ((y16 : Nat) : Int)), .eq (.bool true)] (by kernel_rfl) (by kernel_rfl) (by rw [sz]; kernel_rfl) (by kernel_rfl) ⟨fun hw ac u K => ?_, fun hw ac u K => ?_, trivial⟩ ?_
    · exact st_move (.tmp 0) rfl ((K.old 0 rfl).trans x0)
    · exact st_geq 104 (.tmp 13) (.const (.int .u64 256)) rfl .u64 _ _ (K.dep 0 13 rfl) rfl _ (by rw [eq_comm, decide_eq_true_iff]; omega)
    intro f7 w7 A hb
    replace bl0 := bl
    replace x4 := (A.old 4 rfl).trans x4
    replace x0 := (A.old 0 rfl).trans x0
    replace x2 := (A.old 2 rfl).trans x2
    replace x8 := (A.old 8 rfl).trans x8
    have x14 : f7.eval (.tmp 14) = .bool true := A.has 1 14 rfl
    replace bl := (bl.trans (Below.mono hb bl.size))
    replace sz := A.size.trans sz
    replace df := A.defs.trans df
    clear A hb
    show Code.wp _ _ _ _ _
    refine wp_cond_true x14 ?_
    refine wp_seq ?_
    refine wp_region_seq [.eq (.int .u64 ((y16 : Nat) : Int)), .eq (.int .u64 ((y16 / 2 ^ 8 : Nat) : Int))] (by kernel_rfl) (by kernel_rfl) (by rw [sz]; kernel_rfl) (by kernel_rfl) ⟨fun hw ac u K => ?_, fun hw ac u K => ?_, trivial⟩ ?_
    · exact st_move (.tmp 0) rfl ((K.old 0 rfl).trans x0)
    · exact st_shru 104 84 (.tmp 15) (.const (.int .u64 8)) rfl (y16) 8 (K.dep 0 15 rfl) rfl _ rfl (by decide)
    intro f8 w8 A hb
    replace bl0 := bl
    replace x4 := (A.old 4 rfl).trans x4
    replace x0 := (A.old 0 rfl).trans x0
    replace x2 := (A.old 2 rfl).trans x2
    replace x8 := (A.old 8 rfl).trans x8
    replace x14 := (A.old 14 rfl).trans x14
    have x16 : f8.eval (.tmp 16) = .int .u64 ((y16 / 2 ^ 8 : Nat) : Int) := A.has 1 16 rfl
    replace bl := (bl.trans (Below.mono hb bl.size))
    replace sz := A.size.trans sz
    replace df := A.defs.trans df
    clear A hb
    refine wl_one (.eq (.int .u64 ((y16 / 2 ^ 8 : Nat) : Int))) rfl 0 rfl (by rw [sz]; decide) (st_assign (.tmp 16) rfl x16) ?_
    intro f9 w9 df2 sz2 old2 new2 hb
    replace bl0 := bl
    replace x4 := (old2 4 rfl).trans x4
    clear x0
    replace x2 := (old2 2 rfl).trans x2
    replace x8 := (old2 8 rfl).trans x8
    replace x14 := (old2 14 rfl).trans x14
    replace x16 := (old2 16 rfl).trans x16
    have x0 : f9.eval (.tmp 0) = .int .u64 ((y16 / 2 ^ 8 : Nat) : Int) := new2
    replace bl := (bl.trans (Below.mono hb bl.size))
    replace sz := sz2.trans sz
    replace df := df2.trans df
    clear df2 sz2 old2 new2 hb
    refine wpList_nil ?_
    clear x16
    show Code.wp _ _ _ _ _
    refine wp_region_seq [.eq (.int .i64 32), .eq (.int .i64 ((32 + 8 : Nat) : Int))] (by kernel_rfl) (by kernel_rfl) (by rw [sz]; kernel_rfl) (by kernel_rfl) ⟨fun hw ac u K => ?_, fun hw ac u K => ?_, trivial⟩ ?_
    · exact st_move (.tmp 2) rfl ((K.old 2 rfl).trans x2)
    · exact st_add (.tmp 17) (.const (.int .i64 8)) rfl (32) (8) (32 + 8) (K.dep 0 17 rfl) rfl (by omega) (by omega)
    intro f10 w10 A hb
    replace bl0 := bl
    replace x4 := (A.old 4 rfl).trans x4
    replace x2 := (A.old 2 rfl).trans x2
    replace x8 := (A.old 8 rfl).trans x8
    replace x14 := (A.old 14 rfl).trans x14
    replace x0 := (A.old 0 rfl).trans x0
    have x18 : f10.eval (.tmp 18) = .int .i64 ((32 + 8 : Nat) : Int) := A.has 1 18 rfl
    replace bl := (bl.trans (Below.mono hb bl.size))
    replace sz := A.size.trans sz
    replace df := A.defs.trans df
    clear A hb
    refine wl_one (.eq (.int .i64 ((32 + 8 : Nat) : Int))) rfl 2 rfl (by rw [sz]; decide) (st_assign (.tmp 18) rfl x18) ?_
    intro f11 w11 df2 sz2 old2 new2 hb
    replace bl0 := bl
    replace x4 := (old2 4 rfl).trans x4
    clear x2
    replace x8 := (old2 8 rfl).trans x8
    replace x14 := (old2 14 rfl).trans x14
    replace x0 := (old2 0 rfl).trans x0
    replace x18 := (old2 18 rfl).trans x18
    have x2 : f11.eval (.tmp 2) = .int .i64 ((32 + 8 : Nat) : Int) := new2
    replace bl := (bl.trans (Below.mono hb bl.size))
    replace sz := sz2.trans sz
    replace df := df2.trans df
    clear df2 sz2 old2 new2 hb
    refine wpList_nil ?_
    clear x18
    show Code.wp _ _ _ _ _
    refine wp_seq ?_
    obtain ⟨y8, hy⟩ : ∃ p, y16 / 2 ^ 8 = p := ⟨_, rfl⟩
    rw [hy] at x0 l e
    clear hy
    replace x2 : Fk.f (.eq (.int .i64 40)) (f11.eval (.tmp 2)) w11 := x2
    have hq8 := bln8 ⟨y8, l⟩
    dsimp only at hq8
    refine wp_region_seq [.eq (.int .i64 40), .eq (.int .u64 ((y8 : Nat) : Int)), .eq (.int .u8 ((y8 : Nat) : Int)), .eq (.int .u8 ((bln y8 : Nat) : Int)), .eq (.int .i64 ((bln y8 : Nat) : Int)), .eq (.int .i64 ((L : Nat) : Int))] (by kernel_rfl) (by kernel_rfl) (by rw [sz]; kernel_rfl) (by kernel_rfl) ⟨fun hw ac u K => ?_, fun hw ac u K => ?_, fun hw ac u K => ?_, fun hw ac u K => ?_, fun hw ac u K => ?_, fun hw ac u K => ?_, trivial⟩ ?_
    · exact st_move (.tmp 2) rfl ((K.old 2 rfl).trans x2)
    · exact st_move (.tmp 0) rfl ((K.old 0 rfl).trans x0)
    · exact st_conv 104 5 (.tmp 20) rfl .u64 .u8 _ _ (K.dep 1 20 rfl) Tryd.under104 Tryd.under5 (by rw [IntKind.wrap_u8]; omega)
    · exact st_len8 _ (.tmp 21) rfl rfl y8 l (K.dep 2 21 rfl)
    · exact st_conv 5 3 (.tmp 22) rfl .u8 .i64 _ _ (K.dep 3 22 rfl) Tryd.under5 Tryd.under3 (by rw [IntKind.wrap_i64]; omega)
    · exact st_add (.tmp 19) (.tmp 23) rfl (40) (bln y8) (L) (K.dep 0 19 rfl) (K.dep 4 23 rfl) (by omega) (by omega)
    intro f12 w12 A hb
    replace bl0 := bl
    replace x4 := (A.old 4 rfl).trans x4
    replace x8 := (A.old 8 rfl).trans x8
    replace x14 := (A.old 14 rfl).trans x14
    replace x0 := (A.old 0 rfl).trans x0
    replace x2 := (A.old 2 rfl).trans x2
    have x24 : f12.eval (.tmp 24) = .int .i64 ((L : Nat) : Int) := A.has 5 24 rfl
    replace bl := (bl.trans (Below.mono hb bl.size))
    replace sz := A.size.trans sz
    replace df := A.defs.trans df
    clear A hb
    refine wl_one (.eq (.int .i64 ((L : Nat) : Int))) rfl 2 rfl (by rw [sz]; decide) (st_assign (.tmp 24) rfl x24) ?_
    intro f13 w13 df2 sz2 old2 new2 hb
    replace bl0 := bl
    replace x4 := (old2 4 rfl).trans x4
    replace x8 := (old2 8 rfl).trans x8
    replace x14 := (old2 14 rfl).trans x14
    replace x0 := (old2 0 rfl).trans x0
    clear x2
    replace x24 := (old2 24 rfl).trans x24
    have x2 : f13.eval (.tmp 2) = .int .i64 ((L : Nat) : Int) := new2
    replace bl := (bl.trans (Below.mono hb bl.size))
    replace sz := sz2.trans sz
    replace df := df2.trans df
    clear df2 sz2 old2 new2 hb
    refine wpList_nil ?_
    clear x24
    show Code.wp _ _ _ _ _
    refine wp_ret ?_
    repeat (first | with_reducible refine then_ret ?_ | with_reducible refine block_ret ?_)
    exact bodyPost_ret (v := .int .i64 ((L : Nat) : Int)) (ret_slot rfl f13 _ x2 _ _) df ⟨rfl, bl⟩
  replace e : bln (y32 / 2 ^ 16) + 48 = L := by have := bln_shift h16; omega
  replace l : y32 / 2 ^ 16 < 65536 := by omega
  refine wp_all_seq [.eq (.int .u64 ((y32 : Nat) : Int)), .eq (.bool true)] (by kernel_rfl) (by kernel_rfl) (by rw [sz]; kernel_rfl) (by kernel_rfl) ⟨fun hw ac u K => ?_, fun hw ac u K => ?_, trivial⟩ ?_
  · exact st_move (.tmp 0) rfl ((K.old 0 rfl).trans x0)
  · exact st_geq 104 (.tmp 7) (.const (.int .u64 65536)) rfl .u64 _ _ (K.dep 0 7 rfl) rfl _ (by rw [eq_comm, decide_eq_true_iff]; omega)
  intro f6 w6 A hb
  replace bl0 := bl
  replace x4 := (A.old 4 rfl).trans x4
  replace x0 := (A.old 0 rfl).trans x0
  replace x2 := (A.old 2 rfl).trans x2
  have x8 : f6.eval (.tmp 8) = .bool true := A.has 1 8 rfl
  replace bl := (bl.trans (Below.mono hb bl.size))
  replace sz := A.size.trans sz
  replace df := A.defs.trans df
  clear A hb
  show Code.wp _ _ _ _ _
  refine wp_cond_true x8 ?_
  refine wp_seq ?_
  refine wp_region_seq [.eq (.int .u64 ((y32 : Nat) : Int)), .eq (.int .u64 ((y32 / 2 ^ 16 : Nat) : Int))] (by kernel_rfl) (by kernel_rfl) (by rw [sz]; kernel_rfl) (by kernel_rfl) ⟨fun hw ac u K => ?_, fun hw ac u K => ?_, trivial⟩ ?_
  · exact st_move (.tmp 0) rfl ((K.old 0 rfl).trans x0)
  · exact st_shru 104 84 (.tmp 9) (.const (.int .u64 16)) rfl (y32) 16 (K.dep 0 9 rfl) rfl _ rfl (by decide)
  intro f7 w7 A hb
  replace bl0 := bl
  replace x4 := (A.old 4 rfl).trans x4
  replace x0 := (A.old 0 rfl).trans x0
  replace x2 := (A.old 2 rfl).trans x2
  replace x8 := (A.old 8 rfl).trans x8
  have x10 : f7.eval (.tmp 10) = .int .u64 ((y32 / 2 ^ 16 : Nat) : Int) := A.has 1 10 rfl
  replace bl := (bl.trans (Below.mono hb bl.size))
  replace sz := A.size.trans sz
  replace df := A.defs.trans df
  clear A hb
  refine wl_one (.eq (.int .u64 ((y32 / 2 ^ 16 : Nat) : Int))) rfl 0 rfl (by rw [sz]; decide) (st_assign (.tmp 10) rfl x10) ?_
  intro f8 w8 df2 sz2 old2 new2 hb
  replace bl0 := bl
  replace x4 := (old2 4 rfl).trans x4
  clear x0
  replace x2 := (old2 2 rfl).trans x2
  replace x8 := (old2 8 rfl).trans x8
  replace x10 := (old2 10 rfl).trans x10
  have x0 : f8.eval (.tmp 0) = .int .u64 ((y32 / 2 ^ 16 : Nat) : Int) := new2
  replace bl := (bl.trans (Below.mono hb bl.size))
  replace sz := sz2.trans sz
  replace df := df2.trans df
  clear df2 sz2 old2 new2 hb
  refine wpList_nil ?_
  clear x10
  show Code.wp _ _ _ _ _
  refine wp_region_seq [.eq (.int .i64 32), .eq (.int .i64 ((32 + 16 : Nat) : Int))] (by kernel_rfl) (by kernel_rfl) (by rw [sz]; kernel_rfl) (by kernel_rfl) ⟨fun hw ac u K => ?_, fun hw ac u K => ?_, trivial⟩ ?_
  · exact st_move (.tmp 2) rfl ((K.old 2 rfl).trans x2)
  · exact st_add (.tmp 11) (.const (.int .i64 16)) rfl (32) (16) (32 + 16) (K.dep 0 11 rfl) rfl (by omega) (by omega)
  intro f9 w9 A hb
  replace bl0 := bl
  replace x4 := (A.old 4 rfl).trans x4
  replace x2 := (A.old 2 rfl).trans x2
  replace x8 := (A.old 8 rfl).trans x8
  replace x0 := (A.old 0 rfl).trans x0
  have x12 : f9.eval (.tmp 12) = .int .i64 ((32 + 16 : Nat) : Int) := A.has 1 12 rfl
  replace bl := (bl.trans (Below.mono hb bl.size))
  replace sz := A.size.trans sz
  replace df := A.defs.trans df
  clear A hb
  refine wl_one (.eq (.int .i64 ((32 + 16 : Nat) : Int))) rfl 2 rfl (by rw [sz]; decide) (st_assign (.tmp 12) rfl x12) ?_
  intro f10 w10 df2 sz2 old2 new2 hb
  replace bl0 := bl
  replace x4 := (old2 4 rfl).trans x4
  clear x2
  replace x8 := (old2 8 rfl).trans x8
  replace x0 := (old2 0 rfl).trans x0
  replace x12 := (old2 12 rfl).trans x12
  have x2 : f10.eval (.tmp 2) = .int .i64 ((32 + 16 : Nat) : Int) := new2
  replace bl := (bl.trans (Below.mono hb bl.size))
  replace sz := sz2.trans sz
  replace df := df2.trans df
  clear df2 sz2 old2 new2 hb
  refine wpList_nil ?_
  clear x12
  show Code.wp _ _ _ _ _
  refine wp_seq ?_
  refine wp_seq ?_
  obtain ⟨y16, hy⟩ : ∃ p, y32 / 2 ^ 16 = p := ⟨_, rfl⟩
  rw [hy] at x0 l e
  clear hy
  replace x2 : Fk.f (.eq (.int .i64 48)) (f10.eval (.tmp 2)) w10 := x2
  by_cases h8 : 2 ^ 8 ≤ y16
  rotate_left
  · skip
    replace l : y16 < 256 := by omega
    refine wp_all_seq [.eq (.int .u64 ((y16 : Nat) : Int)), .eq (.bool false)] (by kernel_rfl) (by kernel_rfl) (by rw [sz]; kernel_rfl) (by kernel_rfl) ⟨fun hw ac u K => ?_, fun hw ac u K => ?_, trivial⟩ ?_
    · exact st_move (.tmp 0) rfl ((K.old 0 rfl).trans x0)
    · exact st_geq 104 (.tmp 13) (.const (.int .u64 256)) rfl .u64 _ _ (K.dep 0 13 rfl) rfl _ (by rw [eq_comm, decide_eq_false_iff_not]; omega)
    intro f11 w11 A hb
    replace bl0 := bl
    replace x4 := (A.old 4 rfl).trans x4
    replace x8 := (A.old 8 rfl).trans x8
    replace x0 := (A.old 0 rfl).trans x0
    replace x2 := (A.old 2 rfl).trans x2
    have x14 : f11.eval (.tmp 14) = .bool false := A.has 1 14 rfl
    replace bl := (bl.trans (Below.mono hb bl.size))
    replace sz := A.size.trans sz
    replace df := A.defs.trans df
    clear A hb
    show Code.wp _ _ _ _ _
    refine wp_cond_false x14 ?_
    refine wp_skip ?_
    show Code.wp _ _ _ _ _
    refine wp_seq ?_
    obtain ⟨y8, hy⟩ : ∃ p, y16 = p := ⟨_, rfl⟩
    rw [hy] at x0 l e
    clear hy
    replace x2 : Fk.f (.eq (.int .i64 48)) (f11.eval (.tmp 2)) w11 := x2
    have hq8 := bln8 ⟨y8, l⟩
    dsimp only at hq8
    refine wp_region_seq [.eq (.int .i64 48), .eq (.int .u64 ((y8 : Nat) : Int)), .eq (.int .u8 ((y8 : Nat) : Int)), .eq (.int .u8 ((bln y8 : Nat) : Int)), .eq (.int .i64 ((bln y8 : Nat) : Int)), .eq (.int .i64 ((L : Nat) : Int))] (by kernel_rfl) (by kernel_rfl) (by rw [sz]; kernel_rfl) (by kernel_rfl) ⟨fun hw ac u K => ?_, fun hw ac u K => ?_, fun hw ac u K => ?_, fun hw ac u K => ?_, fun hw ac u K => ?_, fun hw ac u K => ?_, trivial⟩ ?_
    · exact st_move (.tmp 2) rfl ((K.old 2 rfl).trans x2)
    · exact st_move (.tmp 0) rfl ((K.old 0 rfl).trans x0)
    · exact st_conv 104 5 (.tmp 20) rfl .u64 .u8 _ _ (K.dep 1 20 rfl) Tryd.under104 Tryd.under5 (by rw [IntKind.wrap_u8]; omega)
    · exact st_len8 _ (.tmp 21) rfl rfl y8 l (K.dep 2 21 rfl)
    · exact st_conv 5 3 (.tmp 22) rfl .u8 .i64 _ _ (K.dep 3 22 rfl) Tryd.under5 Tryd.under3 (by rw [IntKind.wrap_i64]; omega)
    · exact st_add (.tmp 19) (.tmp 23) rfl (48) (bln y8) (L) (K.dep 0 19 rfl) (K.dep 4 23 rfl) (by omega) (by omega)
    intro f12 w12 A hb
    replace bl0 := bl
    replace x4 := (A.old 4 rfl).trans x4
    replace x8 := (A.old 8 rfl).trans x8
    replace x0 := (A.old 0 rfl).trans x0
    replace x2 := (A.old 2 rfl).trans x2
    replace x14 := (A.old 14 rfl).trans x14
    have x24 : f12.eval (.tmp 24) = .int .i64 ((L : Nat) : Int) := A.has 5 24 rfl
    replace bl := (bl.trans (Below.mono hb bl.size))
    replace sz := A.size.trans sz
    replace df := A.defs.trans df
    clear A hb
    refine wl_one (.eq (.int .i64 ((L : Nat) : Int))) rfl 2 rfl (by rw [sz]; decide) (st_assign (.tmp 24) rfl x24) ?_
    intro f13 w13 df2 sz2 old2 new2 hb
    replace bl0 := bl
    replace x4 := (old2 4 rfl).trans x4
    replace x8 := (old2 8 rfl).trans x8
    replace x0 := (old2 0 rfl).trans x0
    clear x2
    replace x14 := (old2 14 rfl).trans x14
    replace x24 := (old2 24 rfl).trans x24
    have x2 : f13.eval (.tmp 2) = .int .i64 ((L : Nat) : Int) := new2
    replace bl := (bl.trans (Below.mono hb bl.size))
    replace sz := sz2.trans sz
    replace df := df2.trans df
    clear df2 sz2 old2 new2 hb
    refine wpList_nil ?_
    clear x24
    show Code.wp _ _ _ _ _
    refine wp_ret ?_
    repeat (first | with_reducible refine then_ret ?_ | with_reducible refine block_ret ?_)
    exact bodyPost_ret (v := .int .i64 ((L : Nat) : Int)) (ret_slot rfl f13 _ x2 _ _) df ⟨rfl, bl⟩
  replace e : bln (y16 / 2 ^ 8) + 56 = L := by have := bln_shift h8; omega
  replace l : y16 / 2 ^ 8 < 256 := by omega
  refine wp_all_seq [.eq (.int .u64 ((y16 : Nat) : Int)), .eq (.bool true)] (by kernel_rfl) (by kernel_rfl) (by rw [sz]; kernel_rfl) (by kernel_rfl) ⟨fun hw ac u K => ?_, fun hw ac u K => ?_, trivial⟩ ?_
  · exact st_move (.tmp 0) rfl ((K.old 0 rfl).trans x0)
  · exact st_geq 104 (.tmp 13) (.const (.int .u64 256)) rfl .u64 _ _ (K.dep 0 13 rfl) rfl _ (by rw [eq_comm, decide_eq_true_iff]; omega)
  intro f11 w11 A hb
  replace bl0 := bl
  replace x4 := (A.old 4 rfl).trans x4
  replace x8 := (A.old 8 rfl).trans x8
  replace x0 := (A.old 0 rfl).trans x0
  replace x2 := (A.old 2 rfl).trans x2
  have x14 : f11.eval (.tmp 14) = .bool true := A.has 1 14 rfl
  replace bl := (bl.trans (Below.mono hb bl.size))
  replace sz := A.size.trans sz
  replace df := A.defs.trans df
  clear A hb
  show Code.wp _ _ _ _ _
  refine wp_cond_true x14 ?_
  refine wp_seq ?_
  refine wp_region_seq [.eq (.int .u64 ((y16 : Nat) : Int)), .eq (.int .u64 ((y16 / 2 ^ 8 : Nat) : Int))] (by kernel_rfl) (by kernel_rfl) (by rw [sz]; kernel_rfl) (by kernel_rfl) ⟨fun hw ac u K => ?_, fun hw ac u K => ?_, trivial⟩ ?_
  · exact st_move (.tmp 0) rfl ((K.old 0 rfl).trans x0)
  · exact st_shru 104 84 (.tmp 15) (.const (.int .u64 8)) rfl (y16) 8 (K.dep 0 15 rfl) rfl _ rfl (by decide)
  intro f12 w12 A hb
  replace bl0 := bl
  replace x4 := (A.old 4 rfl).trans x4
  replace x8 := (A.old 8 rfl).trans x8
  replace x0 := (A.old 0 rfl).trans x0
  replace x2 := (A.old 2 rfl).trans x2
  replace x14 := (A.old 14 rfl).trans x14
  have x16 : f12.eval (.tmp 16) = .int .u64 ((y16 / 2 ^ 8 : Nat) : Int) := A.has 1 16 rfl
  replace bl := (bl.trans (Below.mono hb bl.size))
  replace sz := A.size.trans sz
  replace df := A.defs.trans df
  clear A hb
  refine wl_one (.eq (.int .u64 ((y16 / 2 ^ 8 : Nat) : Int))) rfl 0 rfl (by rw [sz]; decide) (st_assign (.tmp 16) rfl x16) ?_
  intro f13 w13 df2 sz2 old2 new2 hb
  replace bl0 := bl
  replace x4 := (old2 4 rfl).trans x4
  replace x8 := (old2 8 rfl).trans x8
  clear x0
  replace x2 := (old2 2 rfl).trans x2
  replace x14 := (old2 14 rfl).trans x14
  replace x16 := (old2 16 rfl).trans x16
  have x0 : f13.eval (.tmp 0) = .int .u64 ((y16 / 2 ^ 8 : Nat) : Int) := new2
  replace bl := (bl.trans (Below.mono hb bl.size))
  replace sz := sz2.trans sz
  replace df := df2.trans df
  clear df2 sz2 old2 new2 hb
  refine wpList_nil ?_
  clear x16
  show Code.wp _ _ _ _ _
  refine wp_region_seq [.eq (.int .i64 48), .eq (.int .i64 ((48 + 8 : Nat) : Int))] (by kernel_rfl) (by kernel_rfl) (by rw [sz]; kernel_rfl) (by kernel_rfl) ⟨fun hw ac u K => ?_, fun hw ac u K => ?_, trivial⟩ ?_
  · exact st_move (.tmp 2) rfl ((K.old 2 rfl).trans x2)
  · exact st_add (.tmp 17) (.const (.int .i64 8)) rfl (48) (8) (48 + 8) (K.dep 0 17 rfl) rfl (by omega) (by omega)
  intro f14 w14 A hb
  replace bl0 := bl
  replace x4 := (A.old 4 rfl).trans x4
  replace x8 := (A.old 8 rfl).trans x8
  replace x2 := (A.old 2 rfl).trans x2
  replace x14 := (A.old 14 rfl).trans x14
  replace x0 := (A.old 0 rfl).trans x0
  have x18 : f14.eval (.tmp 18) = .int .i64 ((48 + 8 : Nat) : Int) := A.has 1 18 rfl
  replace bl := (bl.trans (Below.mono hb bl.size))
  replace sz := A.size.trans sz
  replace df := A.defs.trans df
  clear A hb
  refine wl_one (.eq (.int .i64 ((48 + 8 : Nat) : Int))) rfl 2 rfl (by rw [sz]; decide) (st_assign (.tmp 18) rfl x18) ?_
  intro f15 w15 df2 sz2 old2 new2 hb
  replace bl0 := bl
  replace x4 := (old2 4 rfl).trans x4
  replace x8 := (old2 8 rfl).trans x8
  clear x2
  replace x14 := (old2 14 rfl).trans x14
  replace x0 := (old2 0 rfl).trans x0
  replace x18 := (old2 18 rfl).trans x18
  have x2 : f15.eval (.tmp 2) = .int .i64 ((48 + 8 : Nat) : Int) := new2
  replace bl := (bl.trans (Below.mono hb bl.size))
  replace sz := sz2.trans sz
  replace df := df2.trans df
  clear df2 sz2 old2 new2 hb
  refine wpList_nil ?_
  clear x18
  show Code.wp _ _ _ _ _
  refine wp_seq ?_
  obtain ⟨y8, hy⟩ : ∃ p, y16 / 2 ^ 8 = p := ⟨_, rfl⟩
  rw [hy] at x0 l e
  clear hy
  replace x2 : Fk.f (.eq (.int .i64 56)) (f15.eval (.tmp 2)) w15 := x2
  have hq8 := bln8 ⟨y8, l⟩
  dsimp only at hq8
  refine wp_region_seq [.eq (.int .i64 56), .eq (.int .u64 ((y8 : Nat) : Int)), .eq (.int .u8 ((y8 : Nat) : Int)), .eq (.int .u8 ((bln y8 : Nat) : Int)), .eq (.int .i64 ((bln y8 : Nat) : Int)), .eq (.int .i64 ((L : Nat) : Int))] (by kernel_rfl) (by kernel_rfl) (by rw [sz]; kernel_rfl) (by kernel_rfl) ⟨fun hw ac u K => ?_, fun hw ac u K => ?_, fun hw ac u K => ?_, fun hw ac u K => ?_, fun hw ac u K => ?_, fun hw ac u K => ?_, trivial⟩ ?_
  · exact st_move (.tmp 2) rfl ((K.old 2 rfl).trans x2)
  · exact st_move (.tmp 0) rfl ((K.old 0 rfl).trans x0)
  · exact st_conv 104 5 (.tmp 20) rfl .u64 .u8 _ _ (K.dep 1 20 rfl) Tryd.under104 Tryd.under5 (by rw [IntKind.wrap_u8]; omega)
  · exact st_len8 _ (.tmp 21) rfl rfl y8 l (K.dep 2 21 rfl)
  · exact st_conv 5 3 (.tmp 22) rfl .u8 .i64 _ _ (K.dep 3 22 rfl) Tryd.under5 Tryd.under3 (by rw [IntKind.wrap_i64]; omega)
  · exact st_add (.tmp 19) (.tmp 23) rfl (56) (bln y8) (L) (K.dep 0 19 rfl) (K.dep 4 23 rfl) (by omega) (by omega)
  intro f16 w16 A hb
  replace bl0 := bl
  replace x4 := (A.old 4 rfl).trans x4
  replace x8 := (A.old 8 rfl).trans x8
  replace x14 := (A.old 14 rfl).trans x14
  replace x0 := (A.old 0 rfl).trans x0
  replace x2 := (A.old 2 rfl).trans x2
  have x24 : f16.eval (.tmp 24) = .int .i64 ((L : Nat) : Int) := A.has 5 24 rfl
  replace bl := (bl.trans (Below.mono hb bl.size))
  replace sz := A.size.trans sz
  replace df := A.defs.trans df
  clear A hb
  refine wl_one (.eq (.int .i64 ((L : Nat) : Int))) rfl 2 rfl (by rw [sz]; decide) (st_assign (.tmp 24) rfl x24) ?_
  intro f17 w17 df2 sz2 old2 new2 hb
  replace bl0 := bl
  replace x4 := (old2 4 rfl).trans x4
  replace x8 := (old2 8 rfl).trans x8
  replace x14 := (old2 14 rfl).trans x14
  replace x0 := (old2 0 rfl).trans x0
  clear x2
  replace x24 := (old2 24 rfl).trans x24
  have x2 : f17.eval (.tmp 2) = .int .i64 ((L : Nat) : Int) := new2
  replace bl := (bl.trans (Below.mono hb bl.size))
  replace sz := sz2.trans sz
  replace df := df2.trans df
  clear df2 sz2 old2 new2 hb
  refine wpList_nil ?_
  clear x24
  show Code.wp _ _ _ _ _
  refine wp_ret ?_
  repeat (first | with_reducible refine then_ret ?_ | with_reducible refine block_ret ?_)
  exact bodyPost_ret (v := .int .i64 ((L : Nat) : Int)) (ret_slot rfl f17 _ x2 _ _) df ⟨rfl, bl⟩
theorem len_any (x : Nat) (hx : x < 18446744073709551616) (w : World) :
    Calls Tryd.prog 50 #[.int .u64 ((x : Nat) : Int)] w fun e w' => e = .returned (.int .i64 ((bln x : Nat) : Int)) ∧ Below w.heap.size w w' := by
  go_enter Tryd.func50, Tryd.ntmps50
  refine code_both (fun f w1 => f.tmps.size = 8 ∧ f.defers = [] ∧ f.eval (.tmp 0) = .int .u64 ((x : Nat) : Int) ∧ Below w.heap.size w (w1)) ⟨rfl, rfl, rfl, Below.refl _ _⟩ ?_
  rintro f0 w0 ⟨sz, df, x0, bl⟩
  have bl0 := bl
  refine wp_seq ?_
  refine wp_all_seq [.eq (.int .i64 0)] (by kernel_rfl) (by kernel_rfl) (by rw [sz]; kernel_rfl) (by kernel_rfl) ⟨fun hw ac u K => ?_, trivial⟩ ?_
  · exact st_assign (.const (.int .i64 0)) rfl rfl
  intro f1 w1 A hb
  replace bl0 := bl
  replace x0 := (A.old 0 rfl).trans x0
  have x2 : f1.eval (.tmp 2) = .int .i64 0 := A.has 0 2 rfl
  replace bl := (bl.trans (Below.mono hb bl.size))
  replace sz := A.size.trans sz
  replace df := A.defs.trans df
  clear A hb
  show Code.wp _ _ _ _ _
  refine wp_seq ?_
  refine wp_cond_false rfl ?_
  refine wp_skip ?_
  show Code.wp _ _ _ _ _
  refine wp_seq ?_
  refine wp_all_seq [.eq (.int .u64 ((x : Nat) : Int)), .eq (.int .i64 ((bln x : Nat) : Int)), .eq (.int .i64 ((bln x : Nat) : Int))] (by kernel_rfl) (by kernel_rfl) (by rw [sz]; kernel_rfl) (by kernel_rfl) ⟨fun hw ac u K => ?_, fun hw ac u K => ?_, fun hw ac u K => ?_, trivial⟩ ?_
  · exact st_move (.tmp 0) rfl ((K.old 0 rfl).trans x0)
  · exact st_call 64 (.func 64) _ _ #[.int .u64 ((x : Nat) : Int)] rfl rfl (one_arg (K.dep 0 6 rfl)) Tryd.enter64 (fk_of (len64_any x _ hx rfl _))
  · exact st_assign (.tmp 7) rfl (K.dep 1 7 rfl)
  intro f2 w2 A hb
  replace bl0 := bl
  replace x0 := (A.old 0 rfl).trans x0
  clear x2
  have x2 : f2.eval (.tmp 2) = .int .i64 ((bln x : Nat) : Int) := A.has 2 2 rfl
  replace bl := (bl.trans (Below.mono hb bl.size))
  replace sz := A.size.trans sz
  replace df := A.defs.trans df
  clear A hb
  show Code.wp _ _ _ _ _
  refine wp_ret ?_
  repeat (first | with_reducible refine then_ret ?_ | with_reducible refine block_ret ?_)
  exact bodyPost_ret (v := .int .i64 ((bln x : Nat) : Int)) (ret_slot rfl f2 _ x2 _ _) df ⟨rfl, bl⟩
end Go.Proofs.YtfmeeimhfdnjpaaDoor
namespace Go.Proofs.YtfmeeimhfdnjpaaDoor
set_option maxRecDepth 100000
open Go.RowKit
/-- A slice that has these hashes, and room for them. -/
def Fk.hc (hs : List (List (BitVec 8))) : Fk := .inr (.inl ⟨fun v w => ∃ A C lb lo, v = .slice A hs.length C ∧ hs.length ≤ C ∧ Hl w A lb lo hs, by
  rintro v w w' ⟨A, C, lb, lo, e, hg, h⟩ hb
  exact ⟨A, C, lb, lo, e, hg, h.below hb⟩⟩)
theorem hc_hs {hs : List (List (BitVec 8))} {v : Value} {w : World} (h : (Fk.hc hs).f v w) : (Fk.hs hs).f v w := by
  obtain ⟨A, C, lb, lo, e, _, hl⟩ := h
  exact ⟨A, C, lb, lo, e, hl⟩
theorem ow_hc {base : Nat} {hs : List (List (BitVec 8))} {v : Value} {w : World} (h : (Fk.ow base hs).f v w) : (Fk.hc hs).f v w := by
  obtain ⟨A, C, lb, lo, e, hl⟩ := ow_hs h
  refine ⟨A, C, lb, lo, e, ?_, hl⟩
  obtain ⟨⟨h1, h2⟩, h3⟩ := h
  rcases h2 with ⟨h4, hn⟩ | ⟨g, cap, cur, h4, hbg, hg, hnc, _⟩
  · rw [hn]; exact Nat.zero_le _
  · rw [e] at h4
    cases h4
    exact hnc
theorem ow_le {g0 g1 : Nat} (hg : g1 ≤ g0) {hs : List (List (BitVec 8))} {v : Value} {w : World} (h : (Fk.ow g0 hs).f v w) : (Fk.ow g1 hs).f v w := by
  obtain ⟨⟨h1, h2⟩, h3⟩ := h
  refine ⟨⟨h1, ?_⟩, h3⟩
  rcases h2 with h2 | ⟨g, cap, cur, e, hbg, r⟩
  · exact .inl h2
  · exact .inr ⟨g, cap, cur, e, Nat.le_trans hg hbg, r⟩
theorem fk_ow {f : FuncId} {args : Array Value} {w : World} {g0 : Nat} {S : List (List (BitVec 8))} (hg : g0 ≤ w.heap.size) (h : Calls Tryd.prog f args w fun e w' => ∃ u, e = .returned u ∧ (Fk.ow w.heap.size S).f u w' ∧ Below w.heap.size w w') :
    Calls Tryd.prog f args w fun e w' => ∃ u, e = .returned u ∧ (Fk.ow g0 S).f u w' ∧ Below w.heap.size w w' := by
  refine h.mono ?_
  rintro e w' ⟨u, rfl, h1, h3⟩
  exact ⟨u, rfl, ow_le hg h1, h3⟩
section
variable {Q : Exit → Act → World → Prop} {o : Oper} {a : Act} {w : World}
theorem st_cuth (x y : Operand) (ho : o.op = .slice 35 x none (some y) none) {hs : List (List (BitVec 8))} (h : (Fk.hc hs).f (a.eval x) w) (n : Nat) (hy : a.eval y = .int .i64 (n : Int)) (hn : n ≤ hs.length) : o.wp Tryd.prog a w (Ends a o.dst w (Fk.hc (hs.take n)).f) Q := by
  obtain ⟨A, C, lb, lo, e, hc, hl⟩ := h
  refine st_pure (v := sliced A 0 n C 32) ?_ ⟨if C = 0 then A else A.map (·.add (0 * 32)), C, lb, lo, ?_, ?_, fun hp => ?_, fun hp => ?_, fun i x hi => ?_⟩
  · have h1 := run_slice_h (P := Tryd.prog) (w := w) 35 A hs.length C (by rw [Tryd.elem35]; exact Tryd.under35') .i64 (n : Int) (by omega) (by omega)
    rw [Tryd.elem35, Tryd.sizeOf33] at h1
    simp only [Result.andThen_ok, Int.toNat_natCast] at h1
    have h2 := run_sliceAt_slice (P := Tryd.prog) (w := w) 35 (.slice A hs.length C) none (some (.int .i64 (n : Int))) none (by rw [Tryd.elem35]; exact Tryd.under35')
    unfold execOp
    rw [ho]
    simp [e, hy, h2, h1]
  · simp only [sliced, List.length_take, Nat.sub_zero, Nat.min_eq_left hn]
  · rw [List.length_take]; omega
  · rw [List.length_take] at hp
    rw [if_neg (by omega), hl.ptr (by omega)]
    simp [Addr.add_mid]
  · rw [List.length_take] at hp
    exact hl.lt (by omega)
  · rw [List.getElem?_take] at hi
    split at hi
    · exact hl.all i x hi
    · cases hi
theorem st_restc (x y : Operand) (ho : o.op = .slice 35 x (some y) none none) {hs : List (List (BitVec 8))} (h : (Fk.hc hs).f (a.eval x) w) (n : Nat) (hy : a.eval y = .int .i64 (n : Int)) (hn : n ≤ hs.length) : o.wp Tryd.prog a w (Ends a o.dst w (Fk.hc (hs.drop n)).f) Q := by
  obtain ⟨A, C, lb, lo, e, hc, hl⟩ := h
  refine st_pure (v := sliced A n hs.length C 32) ?_ ⟨if C = n then A else A.map (·.add (n * 32)), C - n, lb, lo + n * 32, ?_, ?_, fun hp => ?_, fun hp => ?_, fun i x hi => ?_⟩
  · have h1 := run_slice_l (P := Tryd.prog) (w := w) 35 A hs.length C (by rw [Tryd.elem35]; exact Tryd.under35') .i64 (n : Int) (by omega) (by omega)
    rw [Tryd.elem35, Tryd.sizeOf33] at h1
    simp only [Result.andThen_ok, Int.toNat_natCast] at h1
    have h2 := run_sliceAt_slice (P := Tryd.prog) (w := w) 35 (.slice A hs.length C) (some (.int .i64 (n : Int))) none none (by rw [Tryd.elem35]; exact Tryd.under35')
    unfold execOp
    rw [ho]
    simp [e, hy, h2, h1]
  · simp only [sliced, List.length_drop]
  · rw [List.length_drop]; omega
  · rw [List.length_drop] at hp
    rw [if_neg (by omega), hl.ptr (by omega)]
    simp [Addr.add_mid]
  · rw [List.length_drop] at hp
    exact hl.lt (by omega)
  · rw [List.getElem?_drop] at hi
    have := hl.all (n + i) x hi
    rw [Nat.add_mul, ← Nat.add_assoc] at this
    exact this
theorem st_lenc (x : Operand) (ho : o.op = .call { callee := .builtin .len, args := #[x], argTypes := #[35] }) {hs : List (List (BitVec 8))} (n : Nat) (hn : hs.length = n) (h : (Fk.hc hs).f (a.eval x) w) : o.wp Tryd.prog a w (Ends a o.dst w (Fk.eq (.int .i64 ((n : Nat) : Int))).f) Q := by
  subst hn
  exact st_lenh x ho (hc_hs h)
end
end Go.Proofs.YtfmeeimhfdnjpaaDoor
namespace Go.Proofs.YtfmeeimhfdnjpaaDoor
set_option maxRecDepth 100000
/-- The greatest power of two that is less (of numbers above 1). -/
def spl (n : Nat) : Nat := 2 ^ Nat.log2 (n - 1)
theorem spl_lt {n : Nat} (h : 2 ≤ n) : spl n < n := by
  have := Nat.log2_self_le (n := n - 1) (by omega)
  unfold spl
  omega
theorem spl_pos (n : Nat) : 1 ≤ spl n := Nat.one_le_two_pow
theorem spl_ge {n : Nat} (h : 2 ≤ n) : n ≤ 2 * spl n := by
  have := Nat.lt_log2_self (n := n - 1)
  unfold spl
  rw [Nat.pow_succ] at this
  omega
theorem spl_one {n j : Nat} (h1 : 2 ^ j < n) (h2 : n ≤ 2 * 2 ^ j) : spl n = 2 ^ j := by
  unfold spl
  congr 1
  have hn : n - 1 ≠ 0 := by have := Nat.one_le_two_pow (n := j); omega
  have h3 : j ≤ Nat.log2 (n - 1) := (Nat.le_log2 hn).2 (by omega)
  have h4 : Nat.log2 (n - 1) < j + 1 := (Nat.log2_lt hn).2 (by rw [Nat.pow_succ]; omega)
  omega
/-- The root of a list. -/
def mroot (l : List (List (BitVec 8))) : List (BitVec 8) :=
  if _h : l.length ≤ 1 then (match l with | [] => shaOf [] | x :: _ => x)
  else nd (mroot (l.take (spl l.length))) (mroot (l.drop (spl l.length)))
  termination_by l.length
  decreasing_by
    · have := spl_lt (n := l.length) (by omega)
      rw [List.length_take]; omega
    · have := spl_pos l.length
      rw [List.length_drop]; omega
theorem mroot_nil : mroot [] = shaOf [] := by rw [mroot]; simp
theorem mroot_one (x : List (BitVec 8)) : mroot [x] = x := by rw [mroot]; simp
theorem mroot_two {l : List (List (BitVec 8))} (h : 2 ≤ l.length) : mroot l = nd (mroot (l.take (spl l.length))) (mroot (l.drop (spl l.length))) := by
  rw [mroot, dif_neg (by omega)]
/-- So many, from a place on. -/
def sgm (l : List (List (BitVec 8))) (a n : Nat) : List (List (BitVec 8)) := (l.drop a).take n
theorem sgm_len {l : List (List (BitVec 8))} {a n : Nat} (h : a + n ≤ l.length) : (sgm l a n).length = n := by
  unfold sgm
  rw [List.length_take, List.length_drop]
  omega
theorem sgm_take (l : List (List (BitVec 8))) (a : Nat) {n k : Nat} (h : k ≤ n) : (sgm l a n).take k = sgm l a k := by
  unfold sgm
  rw [List.take_take, Nat.min_eq_left h]
theorem sgm_drop (l : List (List (BitVec 8))) (a n k : Nat) : (sgm l a n).drop k = sgm l (a + k) (n - k) := by
  unfold sgm
  rw [List.drop_take, List.drop_drop]
theorem sgm_one {l : List (List (BitVec 8))} {a : Nat} {x : List (BitVec 8)} (h : l[a]? = some x) : sgm l a 1 = [x] := by
  have hl := (List.getElem?_eq_some_iff.1 h).1
  have hx := (List.getElem?_eq_some_iff.1 h).2
  unfold sgm
  rw [List.drop_eq_getElem_cons hl, hx]
  rfl
theorem mroot_sgm {l : List (List (BitVec 8))} {a n : Nat} (hn : 2 ≤ n) (h : a + n ≤ l.length) : mroot (sgm l a n) = nd (mroot (sgm l a (spl n))) (mroot (sgm l (a + spl n) (n - spl n))) := by
  rw [mroot_two (by rw [sgm_len h]; exact hn), sgm_len h, sgm_take l a (Nat.le_of_lt (spl_lt hn)), sgm_drop]
/-- How the root of n places from a on is put together: a place, or -1: the node of the last two. -/
def rops (a n : Nat) : List Int :=
  if h : n ≤ 1 then [(a : Int)]
  else rops a (spl n) ++ (rops (a + spl n) (n - spl n) ++ [-1])
  termination_by n
  decreasing_by
    · exact spl_lt (by omega)
    · have := spl_pos n
      omega
theorem rops_one (a : Nat) : rops a 1 = [(a : Int)] := by rw [rops]; simp
theorem rops_two (a : Nat) {n : Nat} (h : 2 ≤ n) : rops a n = rops a (spl n) ++ (rops (a + spl n) (n - spl n) ++ [-1]) := by rw [rops, dif_neg (by omega)]
/-- One step of the stack. -/
def stk (l : List (List (BitVec 8))) (st : List (List (BitVec 8))) (op : Int) : List (List (BitVec 8)) :=
  if 0 ≤ op then st ++ [l.getD op.toNat []] else st.take (st.length - 2) ++ [nd (st.getD (st.length - 2) []) (st.getD (st.length - 1) [])]
theorem stk_put (l st : List (List (BitVec 8))) {i : Nat} {x : List (BitVec 8)} (h : l[i]? = some x) : stk l st (i : Int) = st ++ [x] := by
  unfold stk
  rw [if_pos (by omega), Int.toNat_natCast, List.getD_eq_getElem?_getD, h]
  rfl
theorem stk_node (l st : List (List (BitVec 8))) (x y : List (BitVec 8)) : stk l (st ++ [x, y]) (-1) = st ++ [nd x y] := by
  unfold stk
  rw [if_neg (by omega)]
  have h1 : (st ++ [x, y]).length - 2 = st.length := by simp
  have h2 : (st ++ [x, y]).length - 1 = st.length + 1 := by simp
  rw [h1, h2, List.take_left]
  simp [List.getD_eq_getElem?_getD]
theorem stk_rops (l : List (List (BitVec 8))) (n : Nat) : ∀ a, 1 ≤ n → a + n ≤ l.length → ∀ st, (rops a n).foldl (stk l) st = st ++ [mroot (sgm l a n)] := by
  induction n using Nat.strongRecOn with
  | ind n ih =>
    intro a h1 h st
    by_cases h2 : n = 1
    · subst h2
      obtain ⟨x, hx⟩ : ∃ x, l[a]? = some x := ⟨_, List.getElem?_eq_getElem (by omega)⟩
      rw [rops_one, sgm_one hx, mroot_one, List.foldl_cons, List.foldl_nil, stk_put l st hx]
    · have hs := spl_lt (n := n) (by omega)
      have hp := spl_pos n
      rw [rops_two a (by omega), List.foldl_append, List.foldl_append, ih (spl n) hs a hp (by omega), ih (n - spl n) (by omega) (a + spl n) (by omega) (by omega), List.append_assoc, List.foldl_cons, List.foldl_nil]
      rw [mroot_sgm (by omega) h]
      exact stk_node l st _ _
/-- Where two are put together there are two. -/
theorem rops_deep (l : List (List (BitVec 8))) (n : Nat) : ∀ a, 1 ≤ n → a + n ≤ l.length → ∀ st j, (rops a n)[j]? = some (-1) → st.length + 2 ≤ (((rops a n).take j).foldl (stk l) st).length := by
  induction n using Nat.strongRecOn with
  | ind n ih =>
    intro a h1 h st j hj
    by_cases h2 : n = 1
    · subst h2
      rw [rops_one] at hj
      cases j with
      | zero => simp at hj
      | succ j => simp at hj
    · have hs := spl_lt (n := n) (by omega)
      have hp := spl_pos n
      rw [rops_two a (by omega)] at hj ⊢
      rw [List.getElem?_append] at hj
      split at hj
      · rename_i hlt
        rw [List.take_append_of_le_length (Nat.le_of_lt hlt)]
        exact ih (spl n) hs a hp (by omega) st j hj
      · rename_i hge
        have hj2 : j = (rops a (spl n)).length + (j - (rops a (spl n)).length) := by omega
        rw [hj2, List.take_length_add_append, List.foldl_append, stk_rops l (spl n) a hp (by omega)]
        generalize j - (rops a (spl n)).length = i at hj
        rw [List.getElem?_append] at hj
        split at hj
        · rename_i hlt
          rw [List.take_append_of_le_length (Nat.le_of_lt hlt)]
          have := ih (n - spl n) (by omega) (a + spl n) (by omega) (by omega) (st ++ [mroot (sgm l a (spl n))]) i hj
          rw [List.length_append, List.length_singleton] at this
          omega
        · rename_i hge2
          have hi2 : i = (rops (a + spl n) (n - spl n)).length + (i - (rops (a + spl n) (n - spl n)).length) := by omega
          rw [hi2, List.take_length_add_append, List.foldl_append, stk_rops l (n - spl n) (a + spl n) (by omega) (by omega)]
          have h0 : i - (rops (a + spl n) (n - spl n)).length = 0 := by
            by_cases h0 : i - (rops (a + spl n) (n - spl n)).length = 0
            · exact h0
            · rw [List.getElem?_eq_none (by simp; omega)] at hj
              cases hj
          rw [h0]
          simp
/-- The path of a leaf, from it up. -/
def mpath (l : List (List (BitVec 8))) (i : Nat) : List (List (BitVec 8)) :=
  if _h : l.length ≤ 1 then []
  else if i < spl l.length then mpath (l.take (spl l.length)) i ++ [mroot (l.drop (spl l.length))]
  else mpath (l.drop (spl l.length)) (i - spl l.length) ++ [mroot (l.take (spl l.length))]
  termination_by l.length
  decreasing_by
    · have := spl_lt (n := l.length) (by omega)
      rw [List.length_take]; omega
    · have := spl_pos l.length
      rw [List.length_drop]; omega
theorem mpath_one {l : List (List (BitVec 8))} (h : l.length ≤ 1) (i : Nat) : mpath l i = [] := by rw [mpath, dif_pos h]
theorem mpath_left {l : List (List (BitVec 8))} {i : Nat} (h : 2 ≤ l.length) (hi : i < spl l.length) : mpath l i = mpath (l.take (spl l.length)) i ++ [mroot (l.drop (spl l.length))] := by rw [mpath, dif_neg (by omega), if_pos hi]
theorem mpath_right {l : List (List (BitVec 8))} {i : Nat} (h : 2 ≤ l.length) (hi : ¬ i < spl l.length) : mpath l i = mpath (l.drop (spl l.length)) (i - spl l.length) ++ [mroot (l.take (spl l.length))] := by rw [mpath, dif_neg (by omega), if_neg hi]
end Go.Proofs.YtfmeeimhfdnjpaaDoor
namespace Go.Proofs.YtfmeeimhfdnjpaaDoor
set_option maxRecDepth 100000
open Go.RowKit
theorem spl_bln {n : Nat} (h : 2 ≤ n) : bln (n - 1) = Nat.log2 (n - 1) + 1 := bln_pos (by omega)
theorem log_le {n : Nat} (h : 2 ≤ n) (h2 : n ≤ 9223372036854775807) : Nat.log2 (n - 1) ≤ 62 := by
  have : Nat.log2 (n - 1) < 63 := (Nat.log2_lt (by omega)).2 (by omega)
  omega
section
variable {Q : Exit → Act → World → Prop} {o : Oper} {a : Act} {w : World}
theorem st_addz (x y : Operand) (ho : o.op = .binOp .add 3 x y 3) (m n e : Int) (hx : a.eval x = .int .i64 m) (hy : a.eval y = .int .i64 n) (he : e = m + n) (h1 : -9223372036854775808 ≤ e) (h2 : e ≤ 9223372036854775807) : o.wp Tryd.prog a w (Ends a o.dst w (Fk.eq (.int .i64 e)).f) Q := by
  refine st_bin .add 3 3 x y ho hx hy ?_
  have hw : IntKind.i64.wrap (m + n) = e := by rw [IntKind.wrap_i64]; omega
  simp [eqGuard, binOp, Op.intArith, hw]
theorem st_subz (x y : Operand) (ho : o.op = .binOp .sub 3 x y 3) (m n e : Int) (hx : a.eval x = .int .i64 m) (hy : a.eval y = .int .i64 n) (he : e = m - n) (h1 : -9223372036854775808 ≤ e) (h2 : e ≤ 9223372036854775807) : o.wp Tryd.prog a w (Ends a o.dst w (Fk.eq (.int .i64 e)).f) Q := by
  refine st_bin .sub 3 3 x y ho hx hy ?_
  have hw : IntKind.i64.wrap (m - n) = e := by rw [IntKind.wrap_i64]; omega
  simp [eqGuard, binOp, Op.intArith, hw]
theorem st_mulz (x y : Operand) (ho : o.op = .binOp .mul 3 x y 3) (m n e : Int) (hx : a.eval x = .int .i64 m) (hy : a.eval y = .int .i64 n) (he : e = m * n) (h1 : -9223372036854775808 ≤ e) (h2 : e ≤ 9223372036854775807) : o.wp Tryd.prog a w (Ends a o.dst w (Fk.eq (.int .i64 e)).f) Q := by
  refine st_bin .mul 3 3 x y ho hx hy ?_
  have hw : IntKind.i64.wrap (m * n) = e := by rw [IntKind.wrap_i64, ← he]; omega
  simp [eqGuard, binOp, Op.intArith, hw]
theorem st_shl1 (x y : Operand) (ho : o.op = .binOp .shl 3 x y 3) (k : Nat) (hx : a.eval x = .int .i64 1) (hy : a.eval y = .int .i64 (k : Int)) (e : Nat) (he : e = 2 ^ k) (hk : k ≤ 62) : o.wp Tryd.prog a w (Ends a o.dst w (Fk.eq (.int .i64 (e : Int))).f) Q := by
  refine st_bin .shl 3 3 x y ho hx hy ?_
  have h3 : e ≤ 4611686018427387904 := by rw [he]; exact Nat.pow_le_pow_right (n := 2) (by decide) hk
  have hw : IntKind.i64.wrap ((1 : Int) * 2 ^ k) = (e : Int) := by
    have : (1 : Int) * 2 ^ k = (e : Int) := by rw [he]; simp
    rw [this, IntKind.wrap_i64]; omega
  have hw2 : IntKind.i64.wrap ((2 : Int) ^ k) = (e : Int) := by rw [← hw, Int.one_mul]
  simp [eqGuard, binOp, hw2]
  try omega
end
theorem split_hi (n : Nat) (h2 : 2 ≤ n) (h3 : n ≤ 9223372036854775807) (w : World) :
    Calls Tryd.prog 35 #[.int .i64 ((n : Nat) : Int)] w fun e w' => e = .returned (.int .i64 ((spl n : Nat) : Int)) ∧ Below w.heap.size w w' := by
  go_enter Tryd.func35, Tryd.ntmps35
  refine code_both (fun f w1 => f.tmps.size = 11 ∧ f.defers = [] ∧ f.eval (.tmp 0) = .int .i64 ((n : Nat) : Int) ∧ Below w.heap.size w (w1)) ⟨rfl, rfl, rfl, Below.refl _ _⟩ ?_
  rintro f0 w0 ⟨sz, df, x0, bl⟩
  have bl0 := bl
  refine wp_seq ?_
  refine wp_all_seq [.eq (.int .i64 0)] (by kernel_rfl) (by kernel_rfl) (by rw [sz]; kernel_rfl) (by kernel_rfl) ⟨fun hw ac u K => ?_, trivial⟩ ?_
  · exact st_assign (.const (.int .i64 0)) rfl rfl
  intro f1 w1 A hb
  replace bl0 := bl
  replace x0 := (A.old 0 rfl).trans x0
  have x2 : f1.eval (.tmp 2) = .int .i64 0 := A.has 0 2 rfl
  replace bl := (bl.trans (Below.mono hb bl.size))
  replace sz := A.size.trans sz
  replace df := A.defs.trans df
  clear A hb
  show Code.wp _ _ _ _ _
  refine wp_seq ?_
  refine wp_seq ?_
  refine wp_all_seq [.eq (.int .i64 ((n : Nat) : Int)), .eq (.bool false)] (by kernel_rfl) (by kernel_rfl) (by rw [sz]; kernel_rfl) (by kernel_rfl) ⟨fun hw ac u K => ?_, fun hw ac u K => ?_, trivial⟩ ?_
  · exact st_move (.tmp 0) rfl ((K.old 0 rfl).trans x0)
  · exact st_lss 3 (.tmp 3) (.const (.int .i64 2)) rfl .i64 (n : Int) (2) (K.dep 0 3 rfl) rfl _ (by rw [eq_comm, decide_eq_false_iff_not]; omega)
  intro f2 w2 A hb
  replace bl0 := bl
  replace x0 := (A.old 0 rfl).trans x0
  replace x2 := (A.old 2 rfl).trans x2
  have x4 : f2.eval (.tmp 4) = .bool false := A.has 1 4 rfl
  replace bl := (bl.trans (Below.mono hb bl.size))
  replace sz := A.size.trans sz
  replace df := A.defs.trans df
  clear A hb
  show Code.wp _ _ _ _ _
  refine wp_cond_false x4 ?_
  refine wp_skip ?_
  show Code.wp _ _ _ _ _
  refine wp_seq ?_
  refine wp_all_seq [.eq (.int .i64 ((n : Nat) : Int)), .eq (.int .i64 ((n - 1 : Nat) : Int)), .eq (.int .u64 ((n - 1 : Nat) : Int)), .eq (.int .i64 ((bln (n - 1) : Nat) : Int)), .eq (.int .i64 ((Nat.log2 (n - 1) : Nat) : Int)), .eq (.int .i64 ((spl n : Nat) : Int)), .eq (.int .i64 ((spl n : Nat) : Int))] (by kernel_rfl) (by kernel_rfl) (by rw [sz]; kernel_rfl) (by kernel_rfl) ⟨fun hw ac u K => ?_, fun hw ac u K => ?_, fun hw ac u K => ?_, fun hw ac u K => ?_, fun hw ac u K => ?_, fun hw ac u K => ?_, fun hw ac u K => ?_, trivial⟩ ?_
  · exact st_move (.tmp 0) rfl ((K.old 0 rfl).trans x0)
  · exact st_subz (.tmp 5) (.const (.int .i64 1)) rfl (n : Int) 1 _ (K.dep 0 5 rfl) rfl (by omega) (by omega) (by omega)
  · exact st_conv 3 84 (.tmp 6) rfl .i64 .u64 _ _ (K.dep 1 6 rfl) Tryd.under3 Tryd.under84 (by rw [IntKind.wrap_u64]; omega)
  · exact st_call 50 (.func 50) _ _ #[.int .u64 ((n - 1 : Nat) : Int)] rfl rfl (one_arg (K.dep 2 7 rfl)) Tryd.enter50 (fk_of (len_any (n - 1) (by omega) _))
  · exact st_subz (.tmp 8) (.const (.int .i64 1)) rfl _ 1 _ (K.dep 3 8 rfl) rfl (by rw [spl_bln h2]; omega) (by omega) (by have := log_le h2 h3; omega)
  · exact st_shl1 (.const (.int .i64 1)) (.tmp 9) rfl (Nat.log2 (n - 1)) rfl (K.dep 4 9 rfl) (spl n) rfl (log_le h2 h3)
  · exact st_assign (.tmp 10) rfl (K.dep 5 10 rfl)
  intro f3 w3 A hb
  replace bl0 := bl
  replace x0 := (A.old 0 rfl).trans x0
  clear x2
  replace x4 := (A.old 4 rfl).trans x4
  have x2 : f3.eval (.tmp 2) = .int .i64 ((spl n : Nat) : Int) := A.has 6 2 rfl
  replace bl := (bl.trans (Below.mono hb bl.size))
  replace sz := A.size.trans sz
  replace df := A.defs.trans df
  clear A hb
  show Code.wp _ _ _ _ _
  refine wp_ret ?_
  repeat (first | with_reducible refine then_ret ?_ | with_reducible refine block_ret ?_)
  exact bodyPost_ret (v := .int .i64 ((spl n : Nat) : Int)) (ret_slot rfl f3 _ x2 _ _) df ⟨rfl, bl⟩
theorem rsplit_any (n : Nat) (h2 : 2 ≤ n) (h3 : n ≤ 1152921504606846976) (w : World) :
    Calls Tryd.prog 44 #[.int .i64 ((n : Nat) : Int)] w fun e w' => e = .returned (.int .i64 ((spl n : Nat) : Int)) ∧ Below w.heap.size w w' := by
  go_enter Tryd.func44, Tryd.ntmps44
  refine code_both (fun f w1 => f.tmps.size = 11 ∧ f.defers = [] ∧ f.eval (.tmp 0) = .int .i64 ((n : Nat) : Int) ∧ Below w.heap.size w (w1)) ⟨rfl, rfl, rfl, Below.refl _ _⟩ ?_
  rintro f0 w0 ⟨sz, df, x0, bl⟩
  have bl0 := bl
  refine wp_seq ?_
  refine wp_all_seq [.eq (.int .i64 0)] (by kernel_rfl) (by kernel_rfl) (by rw [sz]; kernel_rfl) (by kernel_rfl) ⟨fun hw ac u K => ?_, trivial⟩ ?_
  · exact st_assign (.const (.int .i64 0)) rfl rfl
  intro f1 w1 A hb
  replace bl0 := bl
  replace x0 := (A.old 0 rfl).trans x0
  have x2 : f1.eval (.tmp 2) = .int .i64 0 := A.has 0 2 rfl
  replace bl := (bl.trans (Below.mono hb bl.size))
  replace sz := A.size.trans sz
  replace df := A.defs.trans df
  clear A hb
  show Code.wp _ _ _ _ _
  refine wp_seq ?_
  refine wp_all_seq [.eq (.int .i64 1)] (by kernel_rfl) (by kernel_rfl) (by rw [sz]; kernel_rfl) (by kernel_rfl) ⟨fun hw ac u K => ?_, trivial⟩ ?_
  · exact st_assign (.const (.int .i64 1)) rfl rfl
  intro f2 w2 A hb
  replace bl0 := bl
  replace x0 := (A.old 0 rfl).trans x0
  replace x2 := (A.old 2 rfl).trans x2
  have x3 : f2.eval (.tmp 3) = .int .i64 1 := A.has 0 3 rfl
  replace bl := (bl.trans (Below.mono hb bl.size))
  replace sz := A.size.trans sz
  replace df := A.defs.trans df
  clear A hb
  show Code.wp _ _ _ _ _
  refine wp_seq ?_
  refine wp_block ?_
  refine wp_loop (fun f v1 => ∃ j : Nat, (2 ^ j < n ∨ j = 0) ∧ f.tmps.size = 11 ∧ f.defers = [] ∧ f.eval (.tmp 0) = .int .i64 ((n : Nat) : Int) ∧ f.eval (.tmp 2) = .int .i64 0 ∧ f.eval (.tmp 3) = .int .i64 ((2 ^ j : Nat) : Int) ∧ Below w.heap.size w (v1)) (fun f _ => n - (intOf (f.eval (.tmp 3))).toNat) ⟨0, .inr rfl, sz, df, x0, x2, x3, bl⟩ ?_
  intro f3 w3 hI
  clear sz df bl bl0 x0 x2 x3
  obtain ⟨j, hj, sz, df, x0, x2, x3, bl⟩ := hI
  have bl0 := bl
  refine wp_seq ?_
  refine wp_seq ?_
  have hcnt := x3
  have hp : 2 ^ j ≤ n := by rcases hj with hj | rfl <;> omega
  have hp1 : 1 ≤ 2 ^ j := Nat.one_le_two_pow
  by_cases hlt : 2 * 2 ^ j < n
  rotate_left
  · skip
    have hsp : spl n = 2 ^ j := spl_one (by rcases hj with hj | rfl <;> omega) (by omega)
    refine wp_all_seq [.eq (.int .i64 ((2 ^ j : Nat) : Int)), .eq (.int .i64 ((2 * 2 ^ j : Nat) : Int)), .eq (.int .i64 ((n : Nat) : Int)), .eq (.bool false)] (by kernel_rfl) (by kernel_rfl) (by rw [sz]; kernel_rfl) (by kernel_rfl) ⟨fun hw ac u K => ?_, fun hw ac u K => ?_, fun hw ac u K => ?_, fun hw ac u K => ?_, trivial⟩ ?_
    · exact st_move (.tmp 3) rfl ((K.old 3 rfl).trans x3)
    · exact st_mulz (.const (.int .i64 2)) (.tmp 4) rfl 2 _ _ rfl (K.dep 0 4 rfl) (Int.natCast_mul 2 (2 ^ j)) (by omega) (by omega)
    · exact st_move (.tmp 0) rfl ((K.old 0 rfl).trans x0)
    · exact st_lss 3 (.tmp 5) (.tmp 6) rfl .i64 (((2 * 2 ^ j : Nat) : Int)) (((n : Nat) : Int)) (K.dep 1 5 rfl) (K.dep 2 6 rfl) _ (by rw [eq_comm, decide_eq_false_iff_not]; exact fun h => hlt (Int.ofNat_lt.1 h))
    intro f4 w4 A hb
    replace bl0 := bl
    replace x0 := (A.old 0 rfl).trans x0
    replace x2 := (A.old 2 rfl).trans x2
    replace x3 := (A.old 3 rfl).trans x3
    have x7 : f4.eval (.tmp 7) = .bool false := A.has 3 7 rfl
    replace bl := (bl.trans (Below.mono hb bl.size))
    replace sz := A.size.trans sz
    replace df := A.defs.trans df
    clear A hb
    show Code.wp _ _ _ _ _
    refine wp_cond_false x7 ?_
    refine wp_exit ?_
    show Code.wp _ _ _ _ _
    refine wp_seq ?_
    refine wp_all_seq [.eq (.int .i64 ((2 ^ j : Nat) : Int)), .eq (.int .i64 ((2 ^ j : Nat) : Int))] (by kernel_rfl) (by kernel_rfl) (by rw [sz]; kernel_rfl) (by kernel_rfl) ⟨fun hw ac u K => ?_, fun hw ac u K => ?_, trivial⟩ ?_
    · exact st_move (.tmp 3) rfl ((K.old 3 rfl).trans x3)
    · exact st_assign (.tmp 10) rfl (K.dep 0 10 rfl)
    intro f5 w5 A hb
    replace bl0 := bl
    replace x0 := (A.old 0 rfl).trans x0
    clear x2
    replace x3 := (A.old 3 rfl).trans x3
    replace x7 := (A.old 7 rfl).trans x7
    have x2 : f5.eval (.tmp 2) = .int .i64 ((2 ^ j : Nat) : Int) := A.has 1 2 rfl
    replace bl := (bl.trans (Below.mono hb bl.size))
    replace sz := A.size.trans sz
    replace df := A.defs.trans df
    clear A hb
    show Code.wp _ _ _ _ _
    refine wp_ret ?_
    repeat (first | with_reducible refine then_ret ?_ | with_reducible refine block_ret ?_)
    rw [← hsp] at x2
    exact bodyPost_ret (v := .int .i64 ((spl n : Nat) : Int)) (ret_slot rfl f5 _ x2 _ _) df ⟨rfl, bl⟩
  refine wp_all_seq [.eq (.int .i64 ((2 ^ j : Nat) : Int)), .eq (.int .i64 ((2 * 2 ^ j : Nat) : Int)), .eq (.int .i64 ((n : Nat) : Int)), .eq (.bool true)] (by kernel_rfl) (by kernel_rfl) (by rw [sz]; kernel_rfl) (by kernel_rfl) ⟨fun hw ac u K => ?_, fun hw ac u K => ?_, fun hw ac u K => ?_, fun hw ac u K => ?_, trivial⟩ ?_
  · exact st_move (.tmp 3) rfl ((K.old 3 rfl).trans x3)
  · exact st_mulz (.const (.int .i64 2)) (.tmp 4) rfl 2 _ _ rfl (K.dep 0 4 rfl) (Int.natCast_mul 2 (2 ^ j)) (by omega) (by omega)
  · exact st_move (.tmp 0) rfl ((K.old 0 rfl).trans x0)
  · exact st_lss 3 (.tmp 5) (.tmp 6) rfl .i64 (((2 * 2 ^ j : Nat) : Int)) (((n : Nat) : Int)) (K.dep 1 5 rfl) (K.dep 2 6 rfl) _ (by rw [eq_comm, decide_eq_true_iff]; exact Int.ofNat_lt.2 hlt)
  intro f4 w4 A hb
  replace bl0 := bl
  replace x0 := (A.old 0 rfl).trans x0
  replace x2 := (A.old 2 rfl).trans x2
  replace x3 := (A.old 3 rfl).trans x3
  have x7 : f4.eval (.tmp 7) = .bool true := A.has 3 7 rfl
  replace bl := (bl.trans (Below.mono hb bl.size))
  replace sz := A.size.trans sz
  replace df := A.defs.trans df
  clear A hb
  show Code.wp _ _ _ _ _
  refine wp_cond_true x7 ?_
  refine wp_skip ?_
  show Code.wp _ _ _ _ _
  refine wp_block ?_
  refine wp_region_seq [.eq (.int .i64 ((2 ^ j : Nat) : Int)), .eq (.int .i64 ((2 * 2 ^ j : Nat) : Int))] (by kernel_rfl) (by kernel_rfl) (by rw [sz]; kernel_rfl) (by kernel_rfl) ⟨fun hw ac u K => ?_, fun hw ac u K => ?_, trivial⟩ ?_
  · exact st_move (.tmp 3) rfl ((K.old 3 rfl).trans x3)
  · exact st_mulz (.const (.int .i64 2)) (.tmp 8) rfl 2 _ _ rfl (K.dep 0 8 rfl) (Int.natCast_mul 2 (2 ^ j)) (by omega) (by omega)
  intro f5 w5 A hb
  replace bl0 := bl
  replace x0 := (A.old 0 rfl).trans x0
  replace x2 := (A.old 2 rfl).trans x2
  replace x3 := (A.old 3 rfl).trans x3
  replace x7 := (A.old 7 rfl).trans x7
  have x9 : f5.eval (.tmp 9) = .int .i64 ((2 * 2 ^ j : Nat) : Int) := A.has 1 9 rfl
  replace bl := (bl.trans (Below.mono hb bl.size))
  replace sz := A.size.trans sz
  replace df := A.defs.trans df
  clear A hb
  refine wl_one (.eq (.int .i64 ((2 * 2 ^ j : Nat) : Int))) rfl 3 rfl (by rw [sz]; decide) (st_assign (.tmp 9) rfl x9) ?_
  intro f6 w6 df2 sz2 old2 new2 hb
  replace bl0 := bl
  replace x0 := (old2 0 rfl).trans x0
  replace x2 := (old2 2 rfl).trans x2
  clear x3
  replace x7 := (old2 7 rfl).trans x7
  replace x9 := (old2 9 rfl).trans x9
  have x3 : f6.eval (.tmp 3) = .int .i64 ((2 * 2 ^ j : Nat) : Int) := new2
  replace bl := (bl.trans (Below.mono hb bl.size))
  replace sz := sz2.trans sz
  replace df := df2.trans df
  clear df2 sz2 old2 new2 hb
  refine wpList_nil ?_
  clear x9
  show (∃ _, _) ∧ _
  replace x3 : Fk.f (.eq (.int .i64 ((2 ^ (j + 1) : Nat) : Int))) (f6.eval (.tmp 3)) w6 := (by rw [show 2 ^ (j + 1) = 2 * 2 ^ j by rw [Nat.pow_succ, Nat.mul_comm]]; exact x3)
  refine ⟨⟨j + 1, .inl (by rw [Nat.pow_succ]; omega), sz, df, x0, x2, x3, bl⟩, ?_⟩
  rw [show f6.eval (.tmp 3) = _ from x3, show _ = _ from hcnt]
  simp only [intOf, Int.toNat_natCast, Nat.pow_succ]
  omega
end Go.Proofs.YtfmeeimhfdnjpaaDoor
