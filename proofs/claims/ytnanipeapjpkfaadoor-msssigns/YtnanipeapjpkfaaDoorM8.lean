/- path. Signatures as values; what stays when one block alone is turned. Sign. What Verify reckons, plainly. -/
import Derived.Test.YtnanipeapjpkfaaDoorM7
namespace Go.Proofs.YtnanipeapjpkfaaDoor
set_option maxRecDepth 100000
open Go.RowKit
theorem xor_le1 : ∀ x : Fin 256, x.val ^^^ 1 ≤ x.val + 1 := by decide
theorem bes_le {i k : Nat} (hi : i < 256) (hk : k ≤ 8) : bes i k + 2 ^ k ≤ 1000 := by
  have h1 : i / 2 ^ k < 256 := Nat.lt_of_le_of_lt (Nat.div_le_self _ _) hi
  have h2 := xor_le1 ⟨i / 2 ^ k, h1⟩
  have h3 : bes i k ≤ (i / 2 ^ k + 1) * 2 ^ k := Nat.mul_le_mul_right _ h2
  have h4 : i / 2 ^ k * 2 ^ k ≤ i := Nat.div_mul_le_self _ _
  have h5 := pow_le8 hk
  rw [Nat.add_mul, Nat.one_mul] at h3
  omega
theorem path_any {kb kind height next : Nat} {seed : List (BitVec 8)} (hx : seed.length = 32) (h1 : 1 ≤ kind) (h2 : kind ≤ 2) (h3 : height ≤ 8) (i : Nat) (hi : i < 256) (w : World) (hk : Ob w kb 69 ((seed).map V ++ ([.int .i64 ((kind : Nat) : Int), .int .i64 ((height : Nat) : Int), .int .i64 ((next : Nat) : Int)] : List Value))) (hK : Tab w) {S : List (List (BitVec 8))} (eS : Box (firsts (pth (lv seed kind) i) height = S)) :
    Calls Tryd.prog 40 #[.pointer (some ⟨kb, 0, none⟩), .int .i64 ((i : Nat) : Int)] w fun e w' => ∃ u, e = .returned u ∧ (Fk.hn w.heap.size S).f u w' ∧ Below w.heap.size w w' := by
  go_enter Tryd.func40, Tryd.ntmps40
  refine code_both (fun f w1 => f.tmps.size = 35 ∧ f.defers = [] ∧ f.eval (.tmp 0) = .pointer (some ⟨kb, 0, none⟩) ∧ f.eval (.tmp 1) = .int .i64 ((i : Nat) : Int) ∧ Below w.heap.size w (w1)) ⟨rfl, rfl, rfl, rfl, Below.refl _ _⟩ ?_
  rintro f0 w0 ⟨sz, df, x0, x1, bl⟩
  have bl0 := bl
  refine wp_seq ?_
  -- R0
  refine wp_all_seq [.eq (.slice none 0 0)] (by kernel_rfl) (by kernel_rfl) (by rw [sz]; kernel_rfl) (by kernel_rfl) ⟨fun hw ac u K => ?_, trivial⟩ ?_
  · exact st_assign (.const (.slice none 0 0)) rfl rfl
  intro f1 w1 A hb
  replace bl0 := bl
  replace x0 := (A.old 0 rfl).trans x0
  replace x1 := (A.old 1 rfl).trans x1
  have x4 : f1.eval (.tmp 4) = .slice none 0 0 := A.has 0 4 rfl
  replace bl := (bl.trans (Below.mono hb bl.size))
  replace sz := A.size.trans sz
  replace df := A.defs.trans df
  clear A hb
  show Code.wp _ _ _ _ _
  refine wp_seq ?_
  -- R1
  refine wp_all_seq [.eq (.pointer (some ⟨kb, 0, none⟩)), .eq (.pointer (some ⟨kb, 0, none⟩)), .eq (.pointer (some ⟨kb, 33, none⟩)), .eq (.int .i64 ((height : Nat) : Int)), .nz w.heap.size height, .nz w.heap.size height] (by kernel_rfl) (by kernel_rfl) (by rw [sz]; kernel_rfl) (by kernel_rfl) ⟨fun hw ac u K => ?_, fun hw ac u K => ?_, fun hw ac u K => ?_, fun hw ac u K => ?_, fun hw ac u K => ?_, fun hw ac u K => ?_, trivial⟩ ?_
  · exact st_move (.tmp 0) rfl ((K.old 0 rfl).trans x0)
  · exact st_nil (.tmp 8) rfl (K.dep 0 8 rfl)
  · exact st_field 69 2 (.tmp 9) rfl (K.dep 1 9 rfl) (by kernel_rfl)
  · exact st_loadc 3 (.tmp 10) rfl (by kernel_rfl) (K.dep 2 10 rfl) (Ob.cell (Ob.below hk (bl.trans (Below.mono K.grow bl.size))) 33 ((at_head hx 1 _).trans rfl))
  · exact st_makeh (.tmp 11) (.tmp 11) rfl height (by omega) (K.dep 3 11 rfl) (K.dep 3 11 rfl) _ (Nat.le_trans bl.size K.grow.size)
  · exact st_assign (.tmp 12) rfl (K.dep 4 12 rfl)
  intro f2 w2 A hb
  replace bl0 := bl
  replace x0 := (A.old 0 rfl).trans x0
  replace x1 := (A.old 1 rfl).trans x1
  replace x4 := (A.old 4 rfl).trans x4
  have x5 : Fk.f (.nz w.heap.size height) (f2.eval (.tmp 5)) w2 := A.has 5 5 rfl
  replace bl := (bl.trans (Below.mono hb bl.size))
  replace sz := A.size.trans sz
  replace df := A.defs.trans df
  clear A hb
  obtain ⟨g5, hg5, e5, R5⟩ := x5
  have x5 : Fk.f (.eq (.slice (some ⟨g5, 0, none⟩) height height)) (f2.eval (.tmp 5)) w2 := e5
  clear e5
  have hw5 : w.heap.size ≤ g5 := hg5
  show Code.wp _ _ _ _ _
  refine wp_seq ?_
  refine wp_seq ?_
  -- R2
  refine wp_all_seq [.eq (.pointer (some ⟨kb, 0, none⟩)), .eq (.pointer (some ⟨kb, 0, none⟩)), .eq (.pointer (some ⟨kb, 33, none⟩)), .eq (.int .i64 ((height : Nat) : Int)), .eq (.int .i64 0)] (by kernel_rfl) (by kernel_rfl) (by rw [sz]; kernel_rfl) (by kernel_rfl) ⟨fun hw ac u K => ?_, fun hw ac u K => ?_, fun hw ac u K => ?_, fun hw ac u K => ?_, fun hw ac u K => ?_, trivial⟩ ?_
  · exact st_move (.tmp 0) rfl ((K.old 0 rfl).trans x0)
  · exact st_nil (.tmp 13) rfl (K.dep 0 13 rfl)
  · exact st_field 69 2 (.tmp 14) rfl (K.dep 1 14 rfl) (by kernel_rfl)
  · exact st_loadc 3 (.tmp 15) rfl (by kernel_rfl) (K.dep 2 15 rfl) (Ob.cell (Ob.below hk (bl.trans (Below.mono K.grow bl.size))) 33 ((at_head hx 1 _).trans rfl))
  · exact st_move (.const (.int .i64 0)) rfl rfl
  intro f3 w3 A hb
  replace bl0 := bl
  replace x0 := (A.old 0 rfl).trans x0
  replace x1 := (A.old 1 rfl).trans x1
  replace x4 := (A.old 4 rfl).trans x4
  replace x5 := (A.old 5 rfl).trans x5
  have x16 : f3.eval (.tmp 16) = .int .i64 ((height : Nat) : Int) := A.has 3 16 rfl
  have x17 : f3.eval (.tmp 17) = .int .i64 0 := A.has 4 17 rfl
  replace R5 := Rw.below R5 hb
  replace bl := (bl.trans (Below.mono hb bl.size))
  replace sz := A.size.trans sz
  replace df := A.defs.trans df
  clear A hb
  show Code.wp _ _ _ _ _
  refine wp_block ?_
  refine wp_loop (fun f v1 => ∃ k : Nat, k ≤ height ∧ f.tmps.size = 35 ∧ f.defers = [] ∧ f.eval (.tmp 0) = .pointer (some ⟨kb, 0, none⟩) ∧ f.eval (.tmp 1) = .int .i64 ((i : Nat) : Int) ∧ f.eval (.tmp 4) = .slice none 0 0 ∧ f.eval (.tmp 5) = .slice (some ⟨g5, 0, none⟩) height height ∧ f.eval (.tmp 16) = .int .i64 ((height : Nat) : Int) ∧ f.eval (.tmp 17) = .int .i64 ((k : Nat) : Int) ∧ Rw v1 g5 (prt height (pth (lv seed kind) i) k) ∧ Below w.heap.size w (v1)) (fun f _ => height - (intOf (f.eval (.tmp 17))).toNat) ⟨0, Nat.zero_le _, sz, df, x0, x1, x4, x5, x16, x17, (by rw [prt_zero]; exact R5), bl⟩ ?_
  intro f4 w4 hI
  clear sz df bl bl0 x0 x1 x4 x5 x16 x17 R5
  obtain ⟨k, hk8, sz, df, x0, x1, x4, x5, x16, x17, R5, bl⟩ := hI
  have bl0 := bl
  have hcnt := x17
  refine wp_seq ?_
  by_cases hlt : k < height
  rotate_left
  · skip
    -- R3
    refine wp_all_seq [.eq (.bool false)] (by kernel_rfl) (by kernel_rfl) (by rw [sz]; kernel_rfl) (by kernel_rfl) ⟨fun hw ac u K => ?_, trivial⟩ ?_
    · exact st_lss 3 (.tmp 17) (.tmp 16) rfl .i64 (((k : Nat) : Int)) (((height : Nat) : Int)) ((K.old 17 rfl).trans x17) ((K.old 16 rfl).trans x16) _ (by first | (simp; done) | (simp; omega))
    intro f5 w5 A hb
    replace bl0 := bl
    replace x0 := (A.old 0 rfl).trans x0
    replace x1 := (A.old 1 rfl).trans x1
    replace x4 := (A.old 4 rfl).trans x4
    replace x5 := (A.old 5 rfl).trans x5
    replace x16 := (A.old 16 rfl).trans x16
    replace x17 := (A.old 17 rfl).trans x17
    have x18 : f5.eval (.tmp 18) = .bool false := A.has 0 18 rfl
    replace R5 := Rw.below R5 hb
    replace bl := (bl.trans (Below.mono hb bl.size))
    replace sz := A.size.trans sz
    replace df := A.defs.trans df
    clear A hb
    show Code.wp _ _ _ _ _
    refine wp_seq ?_
    refine wp_cond_false x18 ?_
    refine wp_exit ?_
    show Code.wp _ _ _ _ _
    refine wp_seq ?_
    -- R8
    refine wp_all_seq [.eq (.slice (some ⟨g5, 0, none⟩) height height), .eq (.slice (some ⟨g5, 0, none⟩) height height)] (by kernel_rfl) (by kernel_rfl) (by rw [sz]; kernel_rfl) (by kernel_rfl) ⟨fun hw ac u K => ?_, fun hw ac u K => ?_, trivial⟩ ?_
    · exact st_move (.tmp 5) rfl ((K.old 5 rfl).trans x5)
    · exact st_assign (.tmp 34) rfl (K.dep 0 34 rfl)
    intro f6 w6 A hb
    replace bl0 := bl
    replace x0 := (A.old 0 rfl).trans x0
    replace x1 := (A.old 1 rfl).trans x1
    clear x4
    replace x5 := (A.old 5 rfl).trans x5
    replace x16 := (A.old 16 rfl).trans x16
    replace x17 := (A.old 17 rfl).trans x17
    replace x18 := (A.old 18 rfl).trans x18
    have x4 : f6.eval (.tmp 4) = .slice (some ⟨g5, 0, none⟩) height height := A.has 1 4 rfl
    replace R5 := Rw.below R5 hb
    replace bl := (bl.trans (Below.mono hb bl.size))
    replace sz := A.size.trans sz
    replace df := A.defs.trans df
    clear A hb
    show Code.wp _ _ _ _ _
    refine wp_ret ?_
    repeat (first | with_reducible refine then_ret ?_ | with_reducible refine block_ret ?_)
    obtain rfl : k = height := by omega
    rw [prt_all, eS.out] at R5
    exact bodyPost_ret (v := f6.eval (.tmp 4)) (ret_slot rfl f6 _ rfl _ _) df ⟨_, rfl, by rw [show f6.eval (.tmp 4) = _ from x4]; exact ⟨_, _, g5, 0, by rw [← eS.out, firsts_len], hw5, R5.hl⟩, bl⟩
  have hi2 : i / 2 ^ k < 256 := Nat.lt_of_le_of_lt (Nat.div_le_self _ _) hi
  have hbe := bes_le hi (show k ≤ 8 by omega)
  have hb1 : bes i k ≤ 1000 := Nat.le_trans (Nat.le_add_right _ _) hbe
  obtain ⟨y, ey⟩ : ∃ p, Box (pth (lv seed kind) i k = p) := ⟨_, ⟨rfl⟩⟩
  have hy : y.length = 32 := by rw [← ey.out]; exact rt_len _ _ _ _
  -- R3
  refine wp_all_seq [.eq (.bool true)] (by kernel_rfl) (by kernel_rfl) (by rw [sz]; kernel_rfl) (by kernel_rfl) ⟨fun hw ac u K => ?_, trivial⟩ ?_
  · exact st_lss 3 (.tmp 17) (.tmp 16) rfl .i64 (((k : Nat) : Int)) (((height : Nat) : Int)) ((K.old 17 rfl).trans x17) ((K.old 16 rfl).trans x16) _ (by first | (simp; done) | (simp; omega))
  intro f5 w5 A hb
  replace bl0 := bl
  replace x0 := (A.old 0 rfl).trans x0
  replace x1 := (A.old 1 rfl).trans x1
  replace x4 := (A.old 4 rfl).trans x4
  replace x5 := (A.old 5 rfl).trans x5
  replace x16 := (A.old 16 rfl).trans x16
  replace x17 := (A.old 17 rfl).trans x17
  have x18 : f5.eval (.tmp 18) = .bool true := A.has 0 18 rfl
  replace R5 := Rw.below R5 hb
  replace bl := (bl.trans (Below.mono hb bl.size))
  replace sz := A.size.trans sz
  replace df := A.defs.trans df
  clear A hb
  show Code.wp _ _ _ _ _
  refine wp_seq ?_
  refine wp_cond_true x18 ?_
  refine wp_skip ?_
  show Code.wp _ _ _ _ _
  refine wp_seq ?_
  refine wp_block ?_
  refine wp_seq ?_
  -- R4
  refine wp_all_seq [.eq (.int .i64 ((k : Nat) : Int)), .eq (.int .i64 ((k : Nat) : Int))] (by kernel_rfl) (by kernel_rfl) (by rw [sz]; kernel_rfl) (by kernel_rfl) ⟨fun hw ac u K => ?_, fun hw ac u K => ?_, trivial⟩ ?_
  · exact st_move (.tmp 17) rfl ((K.old 17 rfl).trans x17)
  · exact st_assign (.tmp 19) rfl (K.dep 0 19 rfl)
  intro f6 w6 A hb
  replace bl0 := bl
  replace x0 := (A.old 0 rfl).trans x0
  replace x1 := (A.old 1 rfl).trans x1
  replace x4 := (A.old 4 rfl).trans x4
  replace x5 := (A.old 5 rfl).trans x5
  replace x16 := (A.old 16 rfl).trans x16
  replace x17 := (A.old 17 rfl).trans x17
  replace x18 := (A.old 18 rfl).trans x18
  have x6 : f6.eval (.tmp 6) = .int .i64 ((k : Nat) : Int) := A.has 1 6 rfl
  replace R5 := Rw.below R5 hb
  replace bl := (bl.trans (Below.mono hb bl.size))
  replace sz := A.size.trans sz
  replace df := A.defs.trans df
  clear A hb
  show Code.wp _ _ _ _ _
  refine wp_seq ?_
  -- R5
  refine wp_all_seq [.eq (.int .i64 ((i : Nat) : Int)), .eq (.int .i64 ((k : Nat) : Int)), .eq (.int .i64 ((i / 2 ^ k : Nat) : Int)), .eq (.int .i64 ((i / 2 ^ k ^^^ 1 : Nat) : Int)), .eq (.int .i64 ((i / 2 ^ k ^^^ 1 : Nat) : Int))] (by kernel_rfl) (by kernel_rfl) (by rw [sz]; kernel_rfl) (by kernel_rfl) ⟨fun hw ac u K => ?_, fun hw ac u K => ?_, fun hw ac u K => ?_, fun hw ac u K => ?_, fun hw ac u K => ?_, trivial⟩ ?_
  · exact st_move (.tmp 1) rfl ((K.old 1 rfl).trans x1)
  · exact st_move (.tmp 6) rfl ((K.old 6 rfl).trans x6)
  · exact st_shr 3 3 (.tmp 20) (.tmp 21) rfl (i) (k) (K.dep 0 20 rfl) (K.dep 1 21 rfl) (i / 2 ^ k) rfl (by omega)
  · exact st_xor1 (.tmp 22) (.const (.int .i64 1)) rfl (i / 2 ^ k) (by omega) (K.dep 2 22 rfl) rfl
  · exact st_assign (.tmp 23) rfl (K.dep 3 23 rfl)
  intro f7 w7 A hb
  replace bl0 := bl
  replace x0 := (A.old 0 rfl).trans x0
  replace x1 := (A.old 1 rfl).trans x1
  replace x4 := (A.old 4 rfl).trans x4
  replace x5 := (A.old 5 rfl).trans x5
  replace x16 := (A.old 16 rfl).trans x16
  replace x17 := (A.old 17 rfl).trans x17
  replace x18 := (A.old 18 rfl).trans x18
  replace x6 := (A.old 6 rfl).trans x6
  have x7 : f7.eval (.tmp 7) = .int .i64 ((i / 2 ^ k ^^^ 1 : Nat) : Int) := A.has 4 7 rfl
  replace R5 := Rw.below R5 hb
  replace bl := (bl.trans (Below.mono hb bl.size))
  replace sz := A.size.trans sz
  replace df := A.defs.trans df
  clear A hb
  show Code.wp _ _ _ _ _
  -- R6
  refine wp_region_seq [.eq (.slice (some ⟨g5, 0, none⟩) height height), .eq (.int .i64 ((k : Nat) : Int)), .eq (.pointer (some ⟨kb, 0, none⟩)), .eq (.int .i64 ((i / 2 ^ k ^^^ 1 : Nat) : Int)), .eq (.int .i64 ((k : Nat) : Int)), .eq (.int .i64 ((bes i k : Nat) : Int)), .eq (.int .i64 ((k : Nat) : Int)), .eq (.agg ((y).map V).toArray), .eq (.pointer (some ⟨g5, k * 32, none⟩))] (by kernel_rfl) (by kernel_rfl) (by rw [sz]; kernel_rfl) (by kernel_rfl) ⟨fun hw ac u K => ?_, fun hw ac u K => ?_, fun hw ac u K => ?_, fun hw ac u K => ?_, fun hw ac u K => ?_, fun hw ac u K => ?_, fun hw ac u K => ?_, fun hw ac u K => ?_, fun hw ac u K => ?_, trivial⟩ ?_
  · exact st_move (.tmp 5) rfl ((K.old 5 rfl).trans x5)
  · exact st_move (.tmp 6) rfl ((K.old 6 rfl).trans x6)
  · exact st_move (.tmp 0) rfl ((K.old 0 rfl).trans x0)
  · exact st_move (.tmp 7) rfl ((K.old 7 rfl).trans x7)
  · exact st_move (.tmp 6) rfl ((K.old 6 rfl).trans x6)
  · exact st_shl 3 3 (.tmp 27) (.tmp 28) rfl (i / 2 ^ k ^^^ 1) (k) (K.dep 3 27 rfl) (K.dep 4 28 rfl) (bes i k) rfl (by omega) (by omega)
  · exact st_move (.tmp 6) rfl ((K.old 6 rfl).trans x6)
  · exact st_call 38 (.func 38) _ _ #[.pointer (some ⟨kb, 0, none⟩), .int .i64 ((bes i k : Nat) : Int), .int .i64 ((k : Nat) : Int)] rfl rfl (arg3 (K.dep 2 26 rfl) (K.dep 5 29 rfl) (K.dep 6 30 rfl)) Tryd.enter38 (fk_of (root_any hx h1 h2 k (bes i k) _ (Ob.below hk (bl.trans (Below.mono K.grow bl.size))) (hK.below (bl.trans (Below.mono K.grow bl.size))) (by omega) (by omega) ey))
  · exact st_idxr (.tmp 24) (.tmp 25) rfl g5 k height (K.dep 0 24 rfl) (K.dep 1 25 rfl) hlt
  intro f8 w8 A hb
  have S_R5 := R5
  have hbS0 := Below.refl w7.heap.size w7
  have hbS := hb
  replace bl0 := bl
  replace x0 := (A.old 0 rfl).trans x0
  replace x1 := (A.old 1 rfl).trans x1
  replace x4 := (A.old 4 rfl).trans x4
  replace x5 := (A.old 5 rfl).trans x5
  replace x16 := (A.old 16 rfl).trans x16
  replace x17 := (A.old 17 rfl).trans x17
  replace x18 := (A.old 18 rfl).trans x18
  replace x6 := (A.old 6 rfl).trans x6
  replace x7 := (A.old 7 rfl).trans x7
  have x31 : f8.eval (.tmp 31) = .agg ((y).map V).toArray := A.has 7 31 rfl
  have x32 : f8.eval (.tmp 32) = .pointer (some ⟨g5, k * 32, none⟩) := A.has 8 32 rfl
  replace R5 := Rw.below R5 hb
  replace bl := (bl.trans (Below.mono hb bl.size))
  replace sz := A.size.trans sz
  replace df := A.defs.trans df
  clear A hb
  clear x7
  refine wl_storew rfl (.tmp 32) (.tmp 31) rfl rfl g5 (k) (y) _ x32 x31 R5 (by rw [prt_len]; exact hlt) hy ?_
  replace R5 := Rw.store R5 k y (by rw [prt_len]; exact hlt) hy
  rw [show (prt height (pth (lv seed kind) i) k).set k y = prt height (pth (lv seed kind) i) (k + 1) from by rw [← ey.out]; exact prt_set _ _ _] at R5
  replace bl := below_setCells hw5 ((y).map V) (k * 32) _ bl
  generalize w8.setCells g5 (k * 32) ((y).map V) = w9b at R5 bl ⊢
  refine wpList_nil ?_
  clear hbS hbS0 S_R5
  clear x31
  clear x32
  show Code.wp _ _ _ _ _
  -- R7
  refine wp_region_seq [.eq (.int .i64 ((k + 1 : Nat) : Int))] (by kernel_rfl) (by kernel_rfl) (by rw [sz]; kernel_rfl) (by kernel_rfl) ⟨fun hw ac u K => ?_, trivial⟩ ?_
  · exact st_add (.tmp 17) (.const (.int .i64 1)) rfl (k) (1) (k + 1) ((K.old 17 rfl).trans x17) rfl (by omega) (by omega)
  intro f10 w10 A hb
  replace bl0 := bl
  replace x0 := (A.old 0 rfl).trans x0
  replace x1 := (A.old 1 rfl).trans x1
  replace x4 := (A.old 4 rfl).trans x4
  replace x5 := (A.old 5 rfl).trans x5
  replace x16 := (A.old 16 rfl).trans x16
  replace x17 := (A.old 17 rfl).trans x17
  replace x18 := (A.old 18 rfl).trans x18
  replace x6 := (A.old 6 rfl).trans x6
  have x33 : f10.eval (.tmp 33) = .int .i64 ((k + 1 : Nat) : Int) := A.has 0 33 rfl
  replace R5 := Rw.below R5 hb
  replace bl := (bl.trans (Below.mono hb bl.size))
  replace sz := A.size.trans sz
  replace df := A.defs.trans df
  clear A hb
  refine wl_one (.eq (.int .i64 ((k + 1 : Nat) : Int))) rfl 17 rfl (by rw [sz]; decide) (st_move (.tmp 33) rfl x33) ?_
  intro f11 w11 df2 sz2 old2 new2 hb
  replace bl0 := bl
  replace x0 := (old2 0 rfl).trans x0
  replace x1 := (old2 1 rfl).trans x1
  replace x4 := (old2 4 rfl).trans x4
  replace x5 := (old2 5 rfl).trans x5
  replace x16 := (old2 16 rfl).trans x16
  clear x17
  replace x18 := (old2 18 rfl).trans x18
  replace x6 := (old2 6 rfl).trans x6
  replace x33 := (old2 33 rfl).trans x33
  have x17 : f11.eval (.tmp 17) = .int .i64 ((k + 1 : Nat) : Int) := new2
  replace R5 := Rw.below R5 hb
  replace bl := (bl.trans (Below.mono hb bl.size))
  replace sz := sz2.trans sz
  replace df := df2.trans df
  clear df2 sz2 old2 new2 hb
  refine wpList_nil ?_
  clear x33
  show (∃ _, _) ∧ _
  refine ⟨⟨k + 1, by omega, sz, df, x0, x1, x4, x5, x16, x17, R5, bl⟩, ?_⟩
  rw [show f11.eval (.tmp 17) = _ from x17, show _ = _ from hcnt]
  simp [intOf]
  omega
end Go.Proofs.YtnanipeapjpkfaaDoor
namespace Go.Proofs.YtnanipeapjpkfaaDoor
set_option maxRecDepth 100000
open Go.RowKit
theorem Hl.onlyN {w w' : World} {A : Option Addr} {lb lo g : Nat} {hs : List (List (BitVec 8))} (h : Hl w A lb lo hs) (ho : Only g w w') (hg : lb ≠ g) : Hl w' A lb lo hs :=
  ⟨h.ptr, fun hp => Nat.lt_of_lt_of_le (h.lt hp) ho.size, fun i x hi => by
    obtain ⟨h1, h2⟩ := h.all i x hi
    exact ⟨h1, h2.only ho (h.lt (by
      rcases Nat.lt_or_ge i hs.length with h | h
      · omega
      · rw [List.getElem?_eq_none h] at hi; cases hi)) hg⟩⟩
theorem Ob.seth {w : World} {b : Nat} {T : TypeId} {xs : List (BitVec 8)} {l : List Value} (h : Ob w b T (xs.map V ++ l)) (hx : xs.length = 32) (j : Nat) (v : Value) : Ob (w.setCell ⟨b, 32 + j, none⟩ v) b T (xs.map V ++ l.set j v) := by
  have := h.set (32 + j) v
  rw [List.set_append_right _ _ (by rw [List.length_map, hx]; omega), List.length_map, hx, Nat.add_sub_cancel_left] at this
  exact this
theorem only_setRow_new {g b : Nat} {A B : World} (h : Only g A B) (hb : A.heap.size ≤ b) (cs : Array Value) : Only g A (B.setRow b cs) := by
  have h2 := (Only.refl b B).setRow cs
  exact ⟨h2.os.trans h.os, h2.tape.trans h.tape, h2.output.trans h.output, Nat.le_trans h.size h2.size, fun k hk hg => (h2.block k (Nat.lt_of_lt_of_le hk h.size) (by omega)).trans (h.block k hk hg)⟩
theorem fk_hn {f : FuncId} {args : Array Value} {w : World} {g0 : Nat} {S : List (List (BitVec 8))} (hg : g0 ≤ w.heap.size) (h : Calls Tryd.prog f args w fun e w' => ∃ u, e = .returned u ∧ (Fk.hn w.heap.size S).f u w' ∧ Below w.heap.size w w') :
    Calls Tryd.prog f args w fun e w' => ∃ u, e = .returned u ∧ (Fk.hn g0 S).f u w' ∧ Below w.heap.size w w' := by
  refine h.mono ?_
  rintro e w' ⟨u, rfl, h1, h2⟩
  exact ⟨u, rfl, hn_le hg h1, h2⟩
/-- A signature, its hashes in new memory. -/
def Fk.sv (g0 : Nat) (k i : Int) (S P : List (List (BitVec 8))) : Fk := .inr (.inl ⟨fun v w => ∃ A C lb lo A2 C2 lb2 lo2, v = .agg [.int .i64 k, .int .i64 i, .slice A S.length C, .slice A2 P.length C2].toArray ∧ g0 ≤ lb ∧ Hl w A lb lo S ∧ g0 ≤ lb2 ∧ Hl w A2 lb2 lo2 P, by
  rintro v w w' ⟨A, C, lb, lo, A2, C2, lb2, lo2, e, h1, h2, h3, h4⟩ hb
  exact ⟨A, C, lb, lo, A2, C2, lb2, lo2, e, h1, h2.below hb, h3, h4.below hb⟩⟩)
theorem Tryd.buildSig (k i : Int) (A B : Option Addr) (m c m2 c2 : Nat) (w : World) : (Instr.build 38 #[(0, .int .i64 k), (1, .int .i64 i), (2, .slice A m c), (3, .slice B m2 c2)]).run Tryd.prog w = .ok (.agg [.int .i64 k, .int .i64 i, .slice A m c, .slice B m2 c2].toArray) w := by kernel_rfl
section
variable {Q : Exit → Act → World → Prop} {o : Oper} {a : Act} {w : World} {ops : Array Oper} {rest : List Oper}
theorem st_buildsig (x0 x1 x2 x3 : Operand) (ho : o.op = .build 38 #[(0, x0), (1, x1), (2, x2), (3, x3)]) {g0 : Nat} {k i : Int} {S P : List (List (BitVec 8))} (h0 : a.eval x0 = .int .i64 k) (h1 : a.eval x1 = .int .i64 i) (h2 : (Fk.hn g0 S).f (a.eval x2) w) (h3 : (Fk.hn g0 P).f (a.eval x3) w) : o.wp Tryd.prog a w (Ends a o.dst w (Fk.sv g0 k i S P).f) Q := by
  obtain ⟨A, C, lb, lo, e2, hg, hl⟩ := h2
  obtain ⟨A2, C2, lb2, lo2, e3, hg2, hl2⟩ := h3
  refine st_pure (v := .agg [.int .i64 k, .int .i64 i, .slice A S.length C, .slice A2 P.length C2].toArray) ?_ ⟨A, C, lb, lo, A2, C2, lb2, lo2, rfl, hg, hl, hg2, hl2⟩
  have := Tryd.buildSig k i A A2 S.length C P.length C2 w
  unfold execOp
  rw [ho]
  simp [h0, h1, e2, e3, this]
end
end Go.Proofs.YtnanipeapjpkfaaDoor
namespace Go.Proofs.YtnanipeapjpkfaaDoor
set_option maxRecDepth 100000
open Go.RowKit
theorem sign_key {kb kind height next : Nat} {seed : List (BitVec 8)} (hx : seed.length = 32) (h1 : 1 ≤ kind) (h2 : kind ≤ 2) (h3 : height ≤ 8) (h4 : next < 2 ^ height) (w : World) (hk : Ob w kb 69 ((seed).map V ++ ([.int .i64 ((kind : Nat) : Int), .int .i64 ((height : Nat) : Int), .int .i64 ((next : Nat) : Int)] : List Value))) (hK : Tab w) (h0 : 0 < kb) (mv : Value) (msg : List (BitVec 8)) (hml : msg.length ≤ 900000) (vm : ∀ {W : World}, Only kb w W → (Fk.sl msg).f mv W) {h : List (BitVec 8)} (eh : Box (ms msg = h)) {S P : List (List (BitVec 8))} (eS : Box (sgp seed kind next h = S)) (eP : Box (firsts (pth (lv seed kind) next) height = P)) :
    Calls Tryd.prog 13 #[.pointer (some ⟨kb, 0, none⟩), mv] w fun e w' => ∃ A C lb lo A2 C2 lb2 lo2, e = .returned (.tuple #[.agg [.int .i64 ((kind : Nat) : Int), .int .i64 ((next : Nat) : Int), .slice A S.length C, .slice A2 P.length C2].toArray, .int .i64 0]) ∧ w.heap.size ≤ lb ∧ Hl w' A lb lo S ∧ w.heap.size ≤ lb2 ∧ Hl w' A2 lb2 lo2 P ∧ Ob w' kb 69 ((seed).map V ++ ([.int .i64 ((kind : Nat) : Int), .int .i64 ((height : Nat) : Int), .int .i64 ((next + 1 : Nat) : Int)] : List Value)) ∧ Only kb w w' := by
  have hT : ∀ {W : World}, Only kb w W → Tab W := fun ho => ⟨hK.K.only ho hK.pos (by omega), Nat.lt_of_lt_of_le hK.pos ho.size⟩
  have hh : h.length = 32 := by rw [← eh.out]; exact ms_len _
  have hn8 : next < 256 := Nat.lt_of_lt_of_le h4 (pow_le8 h3)
  go_enter Tryd.func13, Tryd.ntmps13
  refine code_both (fun f w1 => f.tmps.size = 36 ∧ f.defers = [] ∧ f.eval (.tmp 0) = .pointer (some ⟨kb, 0, none⟩) ∧ f.eval (.tmp 1) = mv ∧ Ob w1 (kb) 69 ((seed).map V ++ ([.int .i64 ((kind : Nat) : Int), .int .i64 ((height : Nat) : Int), .int .i64 ((next : Nat) : Int)] : List Value)) ∧ Only kb w (w1)) ⟨rfl, rfl, rfl, rfl, hk, Only.refl _ _⟩ ?_
  clear hk
  rintro f0 w0 ⟨sz, df, x0, x1, hk, bl⟩
  have bl0 := bl
  refine wp_seq ?_
  -- R0
  refine wp_all_seq [.nw w0.heap.size 38 [.int .i64 0, .int .i64 0, .slice none 0 0, .slice none 0 0], .eq (.int .i64 0)] (by kernel_rfl) (by kernel_rfl) (by rw [sz]; kernel_rfl) (by kernel_rfl) ⟨fun hw ac u K => ?_, fun hw ac u K => ?_, trivial⟩ ?_
  · exact st_alloc 38 rfl _ _ (by kernel_rfl) K.grow.size
  · exact st_assign (.const (.int .i64 0)) rfl rfl
  intro f1 w1 A hb
  replace bl0 := bl
  replace x0 := (A.old 0 rfl).trans x0
  replace x1 := (A.old 1 rfl).trans x1
  have x4 : Fk.f (.nw w0.heap.size 38 [.int .i64 0, .int .i64 0, .slice none 0 0, .slice none 0 0]) (f1.eval (.tmp 4)) w1 := A.has 0 4 rfl
  have x5 : f1.eval (.tmp 5) = .int .i64 0 := A.has 1 5 rfl
  have lt_hk := Ob.lt hk
  replace hk := Ob.below hk hb
  replace bl := (only_below bl (Below.mono hb bl.size))
  replace sz := A.size.trans sz
  replace df := A.defs.trans df
  clear A hb
  obtain ⟨g4, hg4, e4, m4⟩ := x4
  have x4 := e4
  clear e4
  have nhk_4 : kb ≠ g4 := Nat.ne_of_lt (Nat.lt_of_lt_of_le lt_hk hg4)
  have hw4 : w.heap.size ≤ g4 := Nat.le_trans bl0.size hg4
  show Code.wp _ _ _ _ _
  refine wp_seq ?_
  refine wp_seq ?_
  -- R1
  refine wp_all_seq [.eq (.pointer (some ⟨kb, 0, none⟩)), .eq (.int .i64 ((2 ^ height - next : Nat) : Int)), .eq (.bool false)] (by kernel_rfl) (by kernel_rfl) (by rw [sz]; kernel_rfl) (by kernel_rfl) ⟨fun hw ac u K => ?_, fun hw ac u K => ?_, fun hw ac u K => ?_, trivial⟩ ?_
  · exact st_move (.tmp 0) rfl ((K.old 0 rfl).trans x0)
  · exact st_call 14 (.func 14) _ _ #[.pointer (some ⟨kb, 0, none⟩)] rfl rfl (one_arg (K.dep 0 7 rfl)) Tryd.enter14 (fk_of (left_any hx _ h3 (by omega) (Ob.below hk K.grow)))
  · exact st_eqi 3 (.tmp 8) (.const (.int .i64 0)) rfl .i64 (((2 ^ height - next : Nat) : Int)) (0) (K.dep 1 8 rfl) rfl _ (by rw [eq_comm, decide_eq_false_iff_not]; omega)
  intro f2 w2 A hb
  replace bl0 := bl
  replace x0 := (A.old 0 rfl).trans x0
  replace x1 := (A.old 1 rfl).trans x1
  replace x4 := (A.old 4 rfl).trans x4
  replace x5 := (A.old 5 rfl).trans x5
  have x9 : f2.eval (.tmp 9) = .bool false := A.has 2 9 rfl
  have lt_hk := Ob.lt hk
  replace hk := Ob.below hk hb
  have lt_m4 := Ob.lt m4
  replace m4 := Ob.below m4 hb
  replace bl := (only_below bl (Below.mono hb bl.size))
  replace sz := A.size.trans sz
  replace df := A.defs.trans df
  clear A hb
  show Code.wp _ _ _ _ _
  refine wp_cond_false x9 ?_
  refine wp_skip ?_
  show Code.wp _ _ _ _ _
  refine wp_seq ?_
  -- R3
  refine wp_all_seq [.eq (.pointer (some ⟨kb, 0, none⟩)), .eq (.pointer (some ⟨kb, 0, none⟩)), .eq (.pointer (some ⟨kb, 34, none⟩)), .eq (.int .i64 ((next : Nat) : Int)), .eq (.int .i64 ((next : Nat) : Int))] (by kernel_rfl) (by kernel_rfl) (by rw [sz]; kernel_rfl) (by kernel_rfl) ⟨fun hw ac u K => ?_, fun hw ac u K => ?_, fun hw ac u K => ?_, fun hw ac u K => ?_, fun hw ac u K => ?_, trivial⟩ ?_
  · exact st_move (.tmp 0) rfl ((K.old 0 rfl).trans x0)
  · exact st_nil (.tmp 11) rfl (K.dep 0 11 rfl)
  · exact st_field 69 3 (.tmp 12) rfl (K.dep 1 12 rfl) (by kernel_rfl)
  · exact st_loadc 3 (.tmp 13) rfl (by kernel_rfl) (K.dep 2 13 rfl) (Ob.cell (Ob.below hk K.grow) 34 ((at_head hx 2 _).trans rfl))
  · exact st_assign (.tmp 14) rfl (K.dep 3 14 rfl)
  intro f3 w3 A hb
  replace bl0 := bl
  replace x0 := (A.old 0 rfl).trans x0
  replace x1 := (A.old 1 rfl).trans x1
  replace x4 := (A.old 4 rfl).trans x4
  replace x5 := (A.old 5 rfl).trans x5
  replace x9 := (A.old 9 rfl).trans x9
  have x6 : f3.eval (.tmp 6) = .int .i64 ((next : Nat) : Int) := A.has 4 6 rfl
  have lt_hk := Ob.lt hk
  replace hk := Ob.below hk hb
  have lt_m4 := Ob.lt m4
  replace m4 := Ob.below m4 hb
  replace bl := (only_below bl (Below.mono hb bl.size))
  replace sz := A.size.trans sz
  replace df := A.defs.trans df
  clear A hb
  show Code.wp _ _ _ _ _
  refine wp_seq ?_
  -- R4
  refine wp_region_seq [.eq (.pointer (some ⟨kb, 0, none⟩)), .eq (.pointer (some ⟨kb, 0, none⟩)), .eq (.pointer (some ⟨kb, 34, none⟩)), .eq (.int .i64 ((next : Nat) : Int)), .eq (.int .i64 ((next + 1 : Nat) : Int)), .eq (.pointer (some ⟨kb, 0, none⟩)), .eq (.pointer (some ⟨kb, 34, none⟩))] (by kernel_rfl) (by kernel_rfl) (by rw [sz]; kernel_rfl) (by kernel_rfl) ⟨fun hw ac u K => ?_, fun hw ac u K => ?_, fun hw ac u K => ?_, fun hw ac u K => ?_, fun hw ac u K => ?_, fun hw ac u K => ?_, fun hw ac u K => ?_, trivial⟩ ?_
  · exact st_move (.tmp 0) rfl ((K.old 0 rfl).trans x0)
  · exact st_nil (.tmp 15) rfl (K.dep 0 15 rfl)
  · exact st_field 69 3 (.tmp 16) rfl (K.dep 1 16 rfl) (by kernel_rfl)
  · exact st_loadc 3 (.tmp 17) rfl (by kernel_rfl) (K.dep 2 17 rfl) (Ob.cell (Ob.below hk K.grow) 34 ((at_head hx 2 _).trans rfl))
  · exact st_add (.tmp 18) (.const (.int .i64 1)) rfl (next) (1) (next + 1) (K.dep 3 18 rfl) rfl (by omega) (by omega)
  · exact st_nil (.tmp 15) rfl (K.dep 0 15 rfl)
  · exact st_field 69 3 (.tmp 20) rfl (K.dep 5 20 rfl) (by kernel_rfl)
  intro f4 w4 A hb
  replace bl0 := bl
  replace x0 := (A.old 0 rfl).trans x0
  replace x1 := (A.old 1 rfl).trans x1
  replace x4 := (A.old 4 rfl).trans x4
  replace x5 := (A.old 5 rfl).trans x5
  replace x9 := (A.old 9 rfl).trans x9
  replace x6 := (A.old 6 rfl).trans x6
  have x19 : f4.eval (.tmp 19) = .int .i64 ((next + 1 : Nat) : Int) := A.has 4 19 rfl
  have x21 : f4.eval (.tmp 21) = .pointer (some ⟨kb, 34, none⟩) := A.has 6 21 rfl
  have lt_hk := Ob.lt hk
  replace hk := Ob.below hk hb
  have lt_m4 := Ob.lt m4
  replace m4 := Ob.below m4 hb
  replace bl := (only_below bl (Below.mono hb bl.size))
  replace sz := A.size.trans sz
  replace df := A.defs.trans df
  clear A hb
  refine wl_stc 3 rfl (.tmp 21) (.tmp 19) rfl rfl (by kernel_rfl) (kb) 34 (.int .i64 ((next + 1 : Nat) : Int)) x21 x19 rfl rfl (Ob.there hk 34 (by simp [hx])) ?_
  replace hk : Ob (w4.setCell ⟨kb, 34, none⟩ (.int .i64 ((next + 1 : Nat) : Int))) (kb) 69 ((seed).map V ++ ([.int .i64 ((kind : Nat) : Int), .int .i64 ((height : Nat) : Int), .int .i64 ((next + 1 : Nat) : Int)] : List Value)) := Ob.seth hk hx 2 (.int .i64 ((next + 1 : Nat) : Int))
  replace m4 : Ob (w4.setCell ⟨kb, 34, none⟩ (.int .i64 ((next + 1 : Nat) : Int))) (g4) 38 ([.int .i64 0, .int .i64 0, .slice none 0 0, .slice none 0 0]) := Ob.setCell_other m4 _ _ nhk_4.symm
  replace bl : Only kb w (w4.setCell ⟨kb, 34, none⟩ (.int .i64 ((next + 1 : Nat) : Int))) := bl.setCell _ _
  generalize w4.setCell ⟨kb, 34, none⟩ (.int .i64 ((next + 1 : Nat) : Int)) = w5b at bl hk m4 ⊢
  refine wpList_nil ?_
  clear x19
  clear x21
  show Code.wp _ _ _ _ _
  refine wp_seq ?_
  have hW5 := bl.size
  -- R5
  refine wp_region_tail [.eq (.pointer (some ⟨kb, 0, none⟩)), .eq (.pointer (some ⟨kb, 0, none⟩)), .eq (.pointer (some ⟨kb, 32, none⟩)), .eq (.int .i64 ((kind : Nat) : Int)), .eq (.int .i64 ((next : Nat) : Int)), .eq (.pointer (some ⟨kb, 0, none⟩)), .eq (.int .i64 ((next : Nat) : Int)), .eq (mv), .eq (.agg ((h).map V).toArray), .hn w5b.heap.size (S), .eq (.pointer (some ⟨kb, 0, none⟩)), .eq (.int .i64 ((next : Nat) : Int)), .hn w5b.heap.size (P), .sv w5b.heap.size ((kind : Nat) : Int) ((next : Nat) : Int) S P] [14, 15] Tryd.mixed (by kernel_rfl) (by kernel_rfl) (by kernel_rfl) (by kernel_rfl) (by rw [sz]; kernel_rfl) (by kernel_rfl) ⟨fun hw ac u K => ?_, fun hw ac u K => ?_, fun hw ac u K => ?_, fun hw ac u K => ?_, fun hw ac u K => ?_, fun hw ac u K => ?_, fun hw ac u K => ?_, fun hw ac u K => ?_, fun hw ac u K => ?_, fun hw ac u K => ?_, fun hw ac u K => ?_, fun hw ac u K => ?_, fun hw ac u K => ?_, fun hw ac u K => ?_, trivial⟩ ?_
  · exact st_move (.tmp 0) rfl ((K.old 0 rfl).trans x0)
  · exact st_nil (.tmp 22) rfl (K.dep 0 22 rfl)
  · exact st_field 69 1 (.tmp 23) rfl (K.dep 1 23 rfl) (by kernel_rfl)
  · exact st_loadc 3 (.tmp 24) rfl (by kernel_rfl) (K.dep 2 24 rfl) (Ob.cell (Ob.below hk K.grow) 32 ((at_head hx 0 _).trans rfl))
  · exact st_move (.tmp 6) rfl ((K.old 6 rfl).trans x6)
  · exact st_move (.tmp 0) rfl ((K.old 0 rfl).trans x0)
  · exact st_move (.tmp 6) rfl ((K.old 6 rfl).trans x6)
  · exact st_move (.tmp 1) rfl ((K.old 1 rfl).trans x1)
  · exact st_call 17 (.func 17) _ _ #[mv] rfl rfl (one_arg (K.dep 7 29 rfl)) Tryd.enter17 (fk_message hml (hT (only_below bl (Below.mono K.grow bl.size))) (vm (only_below bl (Below.mono K.grow bl.size))) eh)
  · exact st_call 39 (.func 39) _ _ #[.pointer (some ⟨kb, 0, none⟩), .int .i64 ((next : Nat) : Int), .agg ((h).map V).toArray] rfl rfl (arg3 (K.dep 5 27 rfl) (K.dep 6 28 rfl) (K.dep 8 30 rfl)) Tryd.enter39 (fk_hn K.grow.size (parts_any hx h1 h2 next (by omega) h hh _ (Ob.below hk K.grow) (hT (only_below bl (Below.mono K.grow bl.size))) eS))
  · exact st_move (.tmp 0) rfl ((K.old 0 rfl).trans x0)
  · exact st_move (.tmp 6) rfl ((K.old 6 rfl).trans x6)
  · exact st_call 40 (.func 40) _ _ #[.pointer (some ⟨kb, 0, none⟩), .int .i64 ((next : Nat) : Int)] rfl rfl (arg2 (K.dep 10 32 rfl) (K.dep 11 33 rfl)) Tryd.enter40 (fk_hn K.grow.size (path_any hx h1 h2 h3 next hn8 _ (Ob.below hk K.grow) (hT (only_below bl (Below.mono K.grow bl.size))) eP))
  · exact st_buildsig (.tmp 25) (.tmp 26) (.tmp 31) (.tmp 34) rfl (K.dep 3 25 rfl) (K.dep 4 26 rfl) (K.dep 9 31 rfl) (K.dep 12 34 rfl)
  intro f6 w6 A hb
  replace bl0 := bl
  replace x0 := (A.old 0 rfl).trans x0
  replace x1 := (A.old 1 rfl).trans x1
  replace x4 := (A.old 4 rfl).trans x4
  replace x5 := (A.old 5 rfl).trans x5
  replace x9 := (A.old 9 rfl).trans x9
  replace x6 := (A.old 6 rfl).trans x6
  have x35 : Fk.f (.sv w5b.heap.size ((kind : Nat) : Int) ((next : Nat) : Int) S P) (f6.eval (.tmp 35)) w6 := A.has 13 35 rfl
  have lt_hk := Ob.lt hk
  replace hk := Ob.below hk hb
  have lt_m4 := Ob.lt m4
  replace m4 := Ob.below m4 hb
  replace bl := (only_below bl (Below.mono hb bl.size))
  replace sz := A.size.trans sz
  replace df := A.defs.trans df
  clear A hb
  clear x1
  clear x6
  obtain ⟨A, C, lb, lo, A2, C2, lb2, lo2, e35, hg1, q1, hg2, q2⟩ := x35
  have n1 : lb ≠ g4 := Nat.ne_of_gt (Nat.lt_of_lt_of_le lt_m4 hg1)
  have n2 : lb2 ≠ g4 := Nat.ne_of_gt (Nat.lt_of_lt_of_le lt_m4 hg2)
  refine wl_str rfl 38 (.tmp 4) (.tmp 35) rfl rfl g4 ([.int .i64 ((kind : Nat) : Int), .int .i64 ((next : Nat) : Int), .slice A S.length C, .slice A2 P.length C2]).toArray x4 e35 38 _ m4 (by kernel_rfl) (by kernel_rfl) (by kernel_rfl) ?_
  have OO : Only g4 w6 (w6.setRow g4 ([.int .i64 ((kind : Nat) : Int), .int .i64 ((next : Nat) : Int), .slice A S.length C, .slice A2 P.length C2]).toArray) := (Only.refl g4 _).setRow _
  replace q1 := Hl.onlyN q1 OO n1
  replace q2 := Hl.onlyN q2 OO n2
  replace hk := Ob.only hk OO nhk_4
  replace m4 := Ob.setRow m4 ([.int .i64 ((kind : Nat) : Int), .int .i64 ((next : Nat) : Int), .slice A S.length C, .slice A2 P.length C2])
  replace bl := only_setRow_new bl hw4 ([.int .i64 ((kind : Nat) : Int), .int .i64 ((next : Nat) : Int), .slice A S.length C, .slice A2 P.length C2]).toArray
  clear OO
  generalize w6.setRow g4 ([.int .i64 ((kind : Nat) : Int), .int .i64 ((next : Nat) : Int), .slice A S.length C, .slice A2 P.length C2]).toArray = w7b at q1 q2 hk m4 bl ⊢
  refine wl_one (.eq (.int .i64 0)) rfl 5 rfl (by rw [sz]; decide) (st_assign (.const (.int .i64 0)) rfl rfl) ?_
  intro f8 w8 df2 sz2 old2 new2 hb
  replace bl0 := bl
  replace x0 := (old2 0 rfl).trans x0
  replace x4 := (old2 4 rfl).trans x4
  clear x5
  replace x9 := (old2 9 rfl).trans x9
  have x5 : f8.eval (.tmp 5) = .int .i64 0 := new2
  have lt_hk := Ob.lt hk
  replace hk := Ob.below hk hb
  have lt_m4 := Ob.lt m4
  replace m4 := Ob.below m4 hb
  replace q1 := q1.below hb
  replace q2 := q2.below hb
  replace bl := (only_below bl (Below.mono hb bl.size))
  replace sz := sz2.trans sz
  replace df := df2.trans df
  clear df2 sz2 old2 new2 hb
  refine wpList_nil ?_
  show Code.wp _ _ _ _ _
  refine wp_ret ?_
  repeat (first | with_reducible refine then_ret ?_ | with_reducible refine block_ret ?_)
  exact bodyPost_ret (v := .tuple #[.agg [.int .i64 ((kind : Nat) : Int), .int .i64 ((next : Nat) : Int), .slice A S.length C, .slice A2 P.length C2].toArray, .int .i64 0]) (ret_sig2 rfl f8 _ g4 _ _ _ _ _ x4 m4 x5) df ⟨A, C, lb, lo, A2, C2, lb2, lo2, rfl, Nat.le_trans hW5 hg1, q1, Nat.le_trans hW5 hg2, q2, hk, bl⟩
theorem sign_out {kb kind height next : Nat} {seed : List (BitVec 8)} (hx : seed.length = 32) (h3 : height ≤ 8) (h4 : next = 2 ^ height) (w : World) (hk : Ob w kb 69 ((seed).map V ++ ([.int .i64 ((kind : Nat) : Int), .int .i64 ((height : Nat) : Int), .int .i64 ((next : Nat) : Int)] : List Value))) (mv : Value) :
    Calls Tryd.prog 13 #[.pointer (some ⟨kb, 0, none⟩), mv] w fun e w' => e = .returned (.tuple #[.agg [.int .i64 0, .int .i64 0, .slice none 0 0, .slice none 0 0].toArray, .int .i64 20]) ∧ Below w.heap.size w w' := by
  go_enter Tryd.func13, Tryd.ntmps13
  refine code_both (fun f w1 => f.tmps.size = 36 ∧ f.defers = [] ∧ f.eval (.tmp 0) = .pointer (some ⟨kb, 0, none⟩) ∧ f.eval (.tmp 1) = mv ∧ Below w.heap.size w (w1)) ⟨rfl, rfl, rfl, rfl, Below.refl _ _⟩ ?_
  rintro f0 w0 ⟨sz, df, x0, x1, bl⟩
  have bl0 := bl
  refine wp_seq ?_
  -- R0
  refine wp_region_seq [] (by kernel_rfl) (by kernel_rfl) (by rw [sz]; kernel_rfl) (by kernel_rfl) trivial ?_
  intro f1 w1 A hb
  replace bl0 := bl
  replace x0 := (A.old 0 rfl).trans x0
  replace x1 := (A.old 1 rfl).trans x1
  replace bl := (bl.trans (Below.mono hb bl.size))
  replace sz := A.size.trans sz
  replace df := A.defs.trans df
  clear A hb
  refine wl_one (.nw w1.heap.size 38 [.int .i64 0, .int .i64 0, .slice none 0 0, .slice none 0 0]) rfl 4 rfl (by rw [sz]; decide) (st_alloc 38 rfl _ _ (by kernel_rfl) (Nat.le_refl _)) ?_
  intro f2 w2 df2 sz2 old2 new2 hb
  replace bl0 := bl
  replace x0 := (old2 0 rfl).trans x0
  replace x1 := (old2 1 rfl).trans x1
  have x4 : Fk.f (.nw w1.heap.size 38 [.int .i64 0, .int .i64 0, .slice none 0 0, .slice none 0 0]) (f2.eval (.tmp 4)) w2 := new2
  replace bl := (bl.trans (Below.mono hb bl.size))
  replace sz := sz2.trans sz
  replace df := df2.trans df
  clear df2 sz2 old2 new2 hb
  obtain ⟨g4, hg4, e4, m4⟩ := x4
  have x4 := e4
  clear e4
  have nhk_4 : kb ≠ g4 := Nat.ne_of_lt (Nat.lt_of_lt_of_le (Ob.lt hk) (Nat.le_trans bl0.size hg4))
  have hw4 : w.heap.size ≤ g4 := Nat.le_trans bl0.size hg4
  refine wl_one (.eq (.int .i64 0)) rfl 5 rfl (by rw [sz]; decide) (st_assign (.const (.int .i64 0)) rfl rfl) ?_
  intro f3 w3 df2 sz2 old2 new2 hb
  replace bl0 := bl
  replace x0 := (old2 0 rfl).trans x0
  replace x1 := (old2 1 rfl).trans x1
  replace x4 := (old2 4 rfl).trans x4
  have x5 : f3.eval (.tmp 5) = .int .i64 0 := new2
  have lt_m4 := Ob.lt m4
  replace m4 := Ob.below m4 hb
  replace bl := (bl.trans (Below.mono hb bl.size))
  replace sz := sz2.trans sz
  replace df := df2.trans df
  clear df2 sz2 old2 new2 hb
  refine wpList_nil ?_
  show Code.wp _ _ _ _ _
  refine wp_seq ?_
  refine wp_seq ?_
  -- R1
  refine wp_all_seq [.eq (.pointer (some ⟨kb, 0, none⟩)), .eq (.int .i64 ((2 ^ height - next : Nat) : Int)), .eq (.bool true)] (by kernel_rfl) (by kernel_rfl) (by rw [sz]; kernel_rfl) (by kernel_rfl) ⟨fun hw ac u K => ?_, fun hw ac u K => ?_, fun hw ac u K => ?_, trivial⟩ ?_
  · exact st_move (.tmp 0) rfl ((K.old 0 rfl).trans x0)
  · exact st_call 14 (.func 14) _ _ #[.pointer (some ⟨kb, 0, none⟩)] rfl rfl (one_arg (K.dep 0 7 rfl)) Tryd.enter14 (fk_of (left_any hx _ h3 (by omega) (Ob.below hk (bl.trans (Below.mono K.grow bl.size)))))
  · exact st_eqi 3 (.tmp 8) (.const (.int .i64 0)) rfl .i64 (((2 ^ height - next : Nat) : Int)) (0) (K.dep 1 8 rfl) rfl _ (by rw [eq_comm, decide_eq_true_iff]; omega)
  intro f4 w4 A hb
  replace bl0 := bl
  replace x0 := (A.old 0 rfl).trans x0
  replace x1 := (A.old 1 rfl).trans x1
  replace x4 := (A.old 4 rfl).trans x4
  replace x5 := (A.old 5 rfl).trans x5
  have x9 : f4.eval (.tmp 9) = .bool true := A.has 2 9 rfl
  have lt_m4 := Ob.lt m4
  replace m4 := Ob.below m4 hb
  replace bl := (bl.trans (Below.mono hb bl.size))
  replace sz := A.size.trans sz
  replace df := A.defs.trans df
  clear A hb
  show Code.wp _ _ _ _ _
  refine wp_cond_true x9 ?_
  refine wp_seq ?_
  -- R2
  refine wp_region_seq [.eq (.agg ([.int .i64 0, .int .i64 0, .slice none 0 0, .slice none 0 0] : List Value).toArray)] (by kernel_rfl) (by kernel_rfl) (by rw [sz]; kernel_rfl) (by kernel_rfl) ⟨fun hw ac u K => ?_, trivial⟩ ?_
  · exact st_build 38 _ rfl (by kernel_rfl)
  intro f5 w5 A hb
  replace bl0 := bl
  replace x0 := (A.old 0 rfl).trans x0
  replace x1 := (A.old 1 rfl).trans x1
  replace x4 := (A.old 4 rfl).trans x4
  replace x5 := (A.old 5 rfl).trans x5
  replace x9 := (A.old 9 rfl).trans x9
  have x10 : f5.eval (.tmp 10) = .agg ([.int .i64 0, .int .i64 0, .slice none 0 0, .slice none 0 0] : List Value).toArray := A.has 0 10 rfl
  have lt_m4 := Ob.lt m4
  replace m4 := Ob.below m4 hb
  replace bl := (bl.trans (Below.mono hb bl.size))
  replace sz := A.size.trans sz
  replace df := A.defs.trans df
  clear A hb
  refine wl_str rfl 38 (.tmp 4) (.tmp 10) rfl rfl (g4) ([.int .i64 0, .int .i64 0, .slice none 0 0, .slice none 0 0] : List Value).toArray x4 x10 38 _ m4 (by kernel_rfl) (by kernel_rfl) (by kernel_rfl) ?_
  replace m4 : Ob (w5.setRow g4 ([.int .i64 0, .int .i64 0, .slice none 0 0, .slice none 0 0] : List Value).toArray) (g4) 38 ([.int .i64 0, .int .i64 0, .slice none 0 0, .slice none 0 0]) := Ob.setRow m4 ([.int .i64 0, .int .i64 0, .slice none 0 0, .slice none 0 0])
  replace bl : Below w.heap.size w (w5.setRow g4 ([.int .i64 0, .int .i64 0, .slice none 0 0, .slice none 0 0] : List Value).toArray) := bl.trans (below_setRow _ _ _ _ hw4)
  generalize w5.setRow g4 ([.int .i64 0, .int .i64 0, .slice none 0 0, .slice none 0 0] : List Value).toArray = w6b at bl m4 ⊢
  clear x10
  refine wl_one (.eq (.int .i64 20)) rfl 5 rfl (by rw [sz]; decide) (st_assign (.const (.int .i64 20)) rfl rfl) ?_
  intro f7 w7 df2 sz2 old2 new2 hb
  replace bl0 := bl
  replace x0 := (old2 0 rfl).trans x0
  replace x1 := (old2 1 rfl).trans x1
  replace x4 := (old2 4 rfl).trans x4
  clear x5
  replace x9 := (old2 9 rfl).trans x9
  have x5 : f7.eval (.tmp 5) = .int .i64 20 := new2
  have lt_m4 := Ob.lt m4
  replace m4 := Ob.below m4 hb
  replace bl := (bl.trans (Below.mono hb bl.size))
  replace sz := sz2.trans sz
  replace df := df2.trans df
  clear df2 sz2 old2 new2 hb
  refine wpList_nil ?_
  show Code.wp _ _ _ _ _
  refine wp_ret ?_
  repeat (first | with_reducible refine then_ret ?_ | with_reducible refine block_ret ?_)
  exact bodyPost_ret (v := .tuple #[.agg [.int .i64 0, .int .i64 0, .slice none 0 0, .slice none 0 0].toArray, .int .i64 20]) (ret_sig2 rfl f7 _ g4 _ _ _ _ _ x4 m4 x5) df ⟨rfl, bl⟩
end Go.Proofs.YtnanipeapjpkfaaDoor
namespace Go.Proofs.YtnanipeapjpkfaaDoor
set_option maxRecDepth 100000
open Go.RowKit
/-- What the parts lead to, by the kind. -/
def rcv (kind : Nat) (h : List (BitVec 8)) (S : List (List (BitVec 8))) : List (BitVec 8) := if kind = 1 then pub (all67 (recOf h S)) else pub (all512 (rcOf h S))
/-- How many parts there are, by the kind. -/
def npt (kind : Nat) : Nat := if kind = 1 then 67 else 512
theorem rcv_len (kind : Nat) (h : List (BitVec 8)) (S : List (List (BitVec 8))) : (rcv kind h S).length = 32 := by
  unfold rcv
  split <;> exact pub_len _
/-- Up from a leaf, k levels. -/
def up (i : Nat) (P : List (List (BitVec 8))) (x : List (BitVec 8)) : Nat → List (BitVec 8)
  | 0 => x
  | k + 1 => if i / 2 ^ k % 2 = 0 then nd (up i P x k) (P.getD k []) else nd (P.getD k []) (up i P x k)
theorem up_even {i k : Nat} {P : List (List (BitVec 8))} {x : List (BitVec 8)} (h : i / 2 ^ k % 2 = 0) : up i P x (k + 1) = nd (up i P x k) (P.getD k []) := if_pos h
theorem up_odd {i k : Nat} {P : List (List (BitVec 8))} {x : List (BitVec 8)} (h : ¬ i / 2 ^ k % 2 = 0) : up i P x (k + 1) = nd (P.getD k []) (up i P x k) := if_neg h
theorem up_len (i : Nat) (P : List (List (BitVec 8))) (x : List (BitVec 8)) (hx : x.length = 32) (k : Nat) : (up i P x k).length = 32 := by
  cases k with
  | zero => exact hx
  | succ k =>
    unfold up
    split <;> exact nd_len _ _
theorem arg5 {a : Act} {x y z p q : Operand} {u v t s r : Value} (h : a.eval x = u) (h2 : a.eval y = v) (h3 : a.eval z = t) (h4 : a.eval p = s) (h5 : a.eval q = r) : ((#[x, y, z, p, q].toList.map a.eval).toArray : Array Value) = #[u, v, t, s, r] := by rw [← h, ← h2, ← h3, ← h4, ← h5]; rfl
end Go.Proofs.YtnanipeapjpkfaaDoor
