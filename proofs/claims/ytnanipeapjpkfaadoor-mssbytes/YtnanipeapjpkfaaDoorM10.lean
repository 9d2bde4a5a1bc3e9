/- path. Signatures as values; what stays when one block alone is turned. Parse. Bytes. -/
import Derived.Test.YtnanipeapjpkfaaDoorM9
import Derived.Test.YtnanipeapjpkfaaDoorM8
import Derived.Test.YtnanipeapjpkfaaDoorM7
namespace Go.Proofs.YtnanipeapjpkfaaDoor
set_option maxRecDepth 100000
open Go.RowKit
theorem xor_le1 : ∀ x : Fin 256, x.val ^^^ 1 ≤ x.val + 1 := by decide
theorem bes_le {i k : Nat} (hi : i < 256) (hk : k ≤ 8) : bes i k + 2 ^ k ≤ 1000 := by
  have h1 : i / 2 ^ k < 256 := Nat.lt_of_le_of_lt (Nat.div_le_self _ _) hi
  have h2 := xor_le1 ⟨i / 2 ^ k, h1⟩
  have h3 : bes i k ≤ (i / 2 ^ k + 1) * 2 ^ k := Nat.mul_le_mul_right _ h2
  have h4 : i / 2 ^ k * 2 ^ k ≤ i := Nat.div_mul_le_self _ _
  have h5 := pow_le8 hk
  rw [Nat.add_mul, Nat.one_mul] at h3
  omega
theorem path_any {kb kind height next : Nat} {seed : List (BitVec 8)} (hx : seed.length = 32) (h1 : 1 ≤ kind) (h2 : kind ≤ 2) (h3 : height ≤ 8) (i : Nat) (hi : i < 256) (w : World) (hk : Ob w kb 69 ((seed).map V ++ ([.int .i64 ((kind : Nat) : Int), .int .i64 ((height : Nat) : Int), .int .i64 ((next : Nat) : Int)] : List Value))) (hK : Tab w) {S : List (List (BitVec 8))} (eS : Box (firsts (pth (lv seed kind) i) height = S)) :
    Calls Tryd.prog 40 #[.pointer (some ⟨kb, 0, none⟩), .int .i64 ((i : Nat) : Int)] w fun e w' => ∃ u, e = .returned u ∧ (Fk.hn w.heap.size S).f u w' ∧ Below w.heap.size w w' := by
  go_enter Tryd.func40, Tryd.ntmps40
  refine code_both (fun f w1 => f.tmps.size = 35 ∧ f.defers = [] ∧ f.eval (.tmp 0) = .pointer (some ⟨kb, 0, none⟩) ∧ f.eval (.tmp 1) = .int .i64 ((i : Nat) : Int) ∧ Below w.heap.size w (w1)) ⟨rfl, rfl, rfl, rfl, Below.refl _ _⟩ ?_
  rintro f0 w0 ⟨sz, df, x0, x1, bl⟩
  have bl0 := bl
  refine wp_seq ?_
  -- R0
  refine wp_all_seq [.eq (.slice none 0 0)] (by kernel_rfl) (by kernel_rfl) (by rw [sz]; kernel_rfl) (by kernel_rfl) ⟨fun hw ac u K => ?_, trivial⟩ ?_
  · exact st_assign (.const (.slice none 0 0)) rfl rfl
  intro f1 w1 A hb
  replace bl0 := bl
  replace x0 := (A.old 0 rfl).trans x0
  replace x1 := (A.old 1 rfl).trans x1
  have x4 : f1.eval (.tmp 4) = .slice none 0 0 := A.has 0 4 rfl
  replace bl := (bl.trans (Below.mono hb bl.size))
  replace sz := A.size.trans sz
  replace df := A.defs.trans df
  clear A hb
  show Code.wp _ _ _ _ _
  refine wp_seq ?_
  -- R1
  refine wp_all_seq [.eq (.pointer (some ⟨kb, 0, none⟩)), .eq (.pointer (some ⟨kb, 0, none⟩)), .eq (.pointer (some ⟨kb, 33, none⟩)), .eq (.int .i64 ((height : Nat) : Int)), .nz w.heap.size height, .nz w.heap.size height] (by kernel_rfl) (by kernel_rfl) (by rw [sz]; kernel_rfl) (by kernel_rfl) ⟨fun hw ac u K => ?_, fun hw ac u K => ?_, fun hw ac u K => ?_, fun hw ac u K => ?_, fun hw ac u K => ?_, fun hw ac u K => ?_, trivial⟩ ?_
  · exact st_move (.tmp 0) rfl ((K.old 0 rfl).trans x0)
  · exact st_nil (.tmp 8) rfl (K.dep 0 8 rfl)
  · exact st_field 69 2 (.tmp 9) rfl (K.dep 1 9 rfl) (by kernel_rfl)
  · exact st_loadc 3 (.tmp 10) rfl (by kernel_rfl) (K.dep 2 10 rfl) (Ob.cell (Ob.below hk (bl.trans (Below.mono K.grow bl.size))) 33 ((at_head hx 1 _).trans rfl))
  · exact st_makeh (.tmp 11) (.tmp 11) rfl height (by omega) (K.dep 3 11 rfl) (K.dep 3 11 rfl) _ (Nat.le_trans bl.size K.grow.size)
  · exact st_assign (.tmp 12) rfl (K.dep 4 12 rfl)
  intro f2 w2 A hb
  replace bl0 := bl
  replace x0 := (A.old 0 rfl).trans x0
  replace x1 := (A.old 1 rfl).trans x1
  replace x4 := (A.old 4 rfl).trans x4
  have x5 : Fk.f (.nz w.heap.size height) (f2.eval (.tmp 5)) w2 := A.has 5 5 rfl
  replace bl := (bl.trans (Below.mono hb bl.size))
  replace sz := A.size.trans sz
  replace df := A.defs.trans df
  clear A hb
  obtain ⟨g5, hg5, e5, R5⟩ := x5
  have x5 : Fk.f (.eq (.slice (some ⟨g5, 0, none⟩) height height)) (f2.eval (.tmp 5)) w2 := e5
  clear e5
  have hw5 : w.heap.size ≤ g5 := hg5
  show Code.wp _ _ _ _ _
  refine wp_seq ?_
  refine wp_seq ?_
  -- R2
  refine wp_all_seq [.eq (.pointer (some ⟨kb, 0, none⟩)), .eq (.pointer (some ⟨kb, 0, none⟩)), .eq (.pointer (some ⟨kb, 33, none⟩)), .eq (.int .i64 ((height : Nat) : Int)), .eq (.int .i64 0)] (by kernel_rfl) (by kernel_rfl) (by rw [sz]; kernel_rfl) (by kernel_rfl) ⟨fun hw ac u K => ?_, fun hw ac u K => ?_, fun hw ac u K => ?_, fun hw ac u K => ?_, fun hw ac u K => ?_, trivial⟩ ?_
  · exact st_move (.tmp 0) rfl ((K.old 0 rfl).trans x0)
  · exact st_nil (.tmp 13) rfl (K.dep 0 13 rfl)
  · exact st_field 69 2 (.tmp 14) rfl (K.dep 1 14 rfl) (by kernel_rfl)
  · exact st_loadc 3 (.tmp 15) rfl (by kernel_rfl) (K.dep 2 15 rfl) (Ob.cell (Ob.below hk (bl.trans (Below.mono K.grow bl.size))) 33 ((at_head hx 1 _).trans rfl))
  · exact st_move (.const (.int .i64 0)) rfl rfl
  intro f3 w3 A hb
  replace bl0 := bl
  replace x0 := (A.old 0 rfl).trans x0
  replace x1 := (A.old 1 rfl).trans x1
  replace x4 := (A.old 4 rfl).trans x4
  replace x5 := (A.old 5 rfl).trans x5
  have x16 : f3.eval (.tmp 16) = .int .i64 ((height : Nat) : Int) := A.has 3 16 rfl
  have x17 : f3.eval (.tmp 17) = .int .i64 0 := A.has 4 17 rfl
  replace R5 := Rw.below R5 hb
  replace bl := (bl.trans (Below.mono hb bl.size))
  replace sz := A.size.trans sz
  replace df := A.defs.trans df
  clear A hb
  show Code.wp _ _ _ _ _
  refine wp_block ?_
  refine wp_loop (fun f v1 => ∃ k : Nat, k ≤ height ∧ f.tmps.size = 35 ∧ f.defers = [] ∧ f.eval (.tmp 0) = .pointer (some ⟨kb, 0, none⟩) ∧ f.eval (.tmp 1) = .int .i64 ((i : Nat) : Int) ∧ f.eval (.tmp 4) = .slice none 0 0 ∧ f.eval (.tmp 5) = .slice (some ⟨g5, 0, none⟩) height height ∧ f.eval (.tmp 16) = .int .i64 ((height : Nat) : Int) ∧ f.eval (.tmp 17) = .int .i64 ((k : Nat) : Int) ∧ Rw v1 g5 (prt height (pth (lv seed kind) i) k) ∧ Below w.heap.size w (v1)) (fun f _ => height - (intOf (f.eval (.tmp 17))).toNat) ⟨0, Nat.zero_le _, sz, df, x0, x1, x4, x5, x16, x17, (by rw [prt_zero]; exact R5), bl⟩ ?_
  intro f4 w4 hI
  clear sz df bl bl0 x0 x1 x4 x5 x16 x17 R5
  obtain ⟨k, hk8, sz, df, x0, x1, x4, x5, x16, x17, R5, bl⟩ := hI
  have bl0 := bl
  have hcnt := x17
  refine wp_seq ?_
  by_cases hlt : k < height
  rotate_left
  · skip
    -- R3
    refine wp_all_seq [.eq (.bool false)] (by kernel_rfl) (by kernel_rfl) (by rw [sz]; kernel_rfl) (by kernel_rfl) ⟨fun hw ac u K => ?_, trivial⟩ ?_
    · exact st_lss 3 (.tmp 17) (.tmp 16) rfl .i64 (((k : Nat) : Int)) (((height : Nat) : Int)) ((K.old 17 rfl).trans x17) ((K.old 16 rfl).trans x16) _ (by first | (simp; done) | (simp; omega))
    intro f5 w5 A hb
    replace bl0 := bl
    replace x0 := (A.old 0 rfl).trans x0
    replace x1 := (A.old 1 rfl).trans x1
    replace x4 := (A.old 4 rfl).trans x4
    replace x5 := (A.old 5 rfl).trans x5
    replace x16 := (A.old 16 rfl).trans x16
    replace x17 := (A.old 17 rfl).trans x17
    have x18 : f5.eval (.tmp 18) = .bool false := A.has 0 18 rfl
    replace R5 := Rw.below R5 hb
    replace bl := (bl.trans (Below.mono hb bl.size))
    replace sz := A.size.trans sz
    replace df := A.defs.trans df
    clear A hb
    show Code.wp _ _ _ _ _
    refine wp_seq ?_
    refine wp_cond_false x18 ?_
    refine wp_exit ?_
    show Code.wp _ _ _ _ _
    refine wp_seq ?_
    -- R8
    refine wp_all_seq [.eq (.slice (some ⟨g5, 0, none⟩) height height), .eq (.slice (some ⟨g5, 0, none⟩) height height)] (by kernel_rfl) (by kernel_rfl) (by rw [sz]; kernel_rfl) (by kernel_rfl) ⟨fun hw ac u K => ?_, fun hw ac u K => ?_, trivial⟩ ?_
    · exact st_move (.tmp 5) rfl ((K.old 5 rfl).trans x5)
    · exact st_assign (.tmp 34) rfl (K.dep 0 34 rfl)
    intro f6 w6 A hb
    replace bl0 := bl
    replace x0 := (A.old 0 rfl).trans x0
    replace x1 := (A.old 1 rfl).trans x1
    clear x4
    replace x5 := (A.old 5 rfl).trans x5
    replace x16 := (A.old 16 rfl).trans x16
    replace x17 := (A.old 17 rfl).trans x17
    replace x18 := (A.old 18 rfl).trans x18
    have x4 : f6.eval (.tmp 4) = .slice (some ⟨g5, 0, none⟩) height height := A.has 1 4 rfl
    replace R5 := Rw.below R5 hb
    replace bl := (bl.trans (Below.mono hb bl.size))
    replace sz := A.size.trans sz
    replace df := A.defs.trans df
    clear A hb
    show Code.wp _ _ _ _ _
    refine wp_ret ?_
    repeat (first | with_reducible refine then_ret ?_ | with_reducible refine block_ret ?_)
    obtain rfl : k = height := by omega
    rw [prt_all, eS.out] at R5
    exact bodyPost_ret (v := f6.eval (.tmp 4)) (ret_slot rfl f6 _ rfl _ _) df ⟨_, rfl, by rw [show f6.eval (.tmp 4) = _ from x4]; exact ⟨_, _, g5, 0, by rw [← eS.out, firsts_len], hw5, R5.hl⟩, bl⟩
  have hi2 : i / 2 ^ k < 256 := Nat.lt_of_le_of_lt (Nat.div_le_self _ _) hi
  have hbe := bes_le hi (show k ≤ 8 by omega)
  have hb1 : bes i k ≤ 1000 := Nat.le_trans (Nat.le_add_right _ _) hbe
  obtain ⟨y, ey⟩ : ∃ p, Box (pth (lv seed kind) i k = p) := ⟨_, ⟨rfl⟩⟩
  have hy : y.length = 32 := by rw [← ey.out]; exact rt_len _ _ _ _
  -- R3
  refine wp_all_seq [.eq (.bool true)] (by kernel_rfl) (by kernel_rfl) (by rw [sz]; kernel_rfl) (by kernel_rfl) ⟨fun hw ac u K => ?_, trivial⟩ ?_
  · exact st_lss 3 (.tmp 17) (.tmp 16) rfl .i64 (((k : Nat) : Int)) (((height : Nat) : Int)) ((K.old 17 rfl).trans x17) ((K.old 16 rfl).trans x16) _ (by first | (simp; done) | (simp; omega))
  intro f5 w5 A hb
  replace bl0 := bl
  replace x0 := (A.old 0 rfl).trans x0
  replace x1 := (A.old 1 rfl).trans x1
  replace x4 := (A.old 4 rfl).trans x4
  replace x5 := (A.old 5 rfl).trans x5
  replace x16 := (A.old 16 rfl).trans x16
  replace x17 := (A.old 17 rfl).trans x17
  have x18 : f5.eval (.tmp 18) = .bool true := A.has 0 18 rfl
  replace R5 := Rw.below R5 hb
  replace bl := (bl.trans (Below.mono hb bl.size))
  replace sz := A.size.trans sz
  replace df := A.defs.trans df
  clear A hb
  show Code.wp _ _ _ _ _
  refine wp_seq ?_
  refine wp_cond_true x18 ?_
  refine wp_skip ?_
  show Code.wp _ _ _ _ _
  refine wp_seq ?_
  refine wp_block ?_
  refine wp_seq ?_
  -- R4
  refine wp_all_seq [.eq (.int .i64 ((k : Nat) : Int)), .eq (.int .i64 ((k : Nat) : Int))] (by kernel_rfl) (by kernel_rfl) (by rw [sz]; kernel_rfl) (by kernel_rfl) ⟨fun hw ac u K => ?_, fun hw ac u K => ?_, trivial⟩ ?_
  · exact st_move (.tmp 17) rfl ((K.old 17 rfl).trans x17)
  · exact st_assign (.tmp 19) rfl (K.dep 0 19 rfl)
  intro f6 w6 A hb
  replace bl0 := bl
  replace x0 := (A.old 0 rfl).trans x0
  replace x1 := (A.old 1 rfl).trans x1
  replace x4 := (A.old 4 rfl).trans x4
  replace x5 := (A.old 5 rfl).trans x5
  replace x16 := (A.old 16 rfl).trans x16
  replace x17 := (A.old 17 rfl).trans x17
  replace x18 := (A.old 18 rfl).trans x18
  have x6 : f6.eval (.tmp 6) = .int .i64 ((k : Nat) : Int) := A.has 1 6 rfl
  replace R5 := Rw.below R5 hb
  replace bl := (bl.trans (Below.mono hb bl.size))
  replace sz := A.size.trans sz
  replace df := A.defs.trans df
  clear A hb
  show Code.wp _ _ _ _ _
  refine wp_seq ?_
  -- R5
  refine wp_all_seq [.eq (.int .i64 ((i : Nat) : Int)), .eq (.int .i64 ((k : Nat) : Int)), .eq (.int .i64 ((i / 2 ^ k : Nat) : Int)), .eq (.int .i64 ((i / 2 ^ k ^^^ 1 : Nat) : Int)), .eq (.int .i64 ((i / 2 ^ k ^^^ 1 : Nat) : Int))] (by kernel_rfl) (by kernel_rfl) (by rw [sz]; kernel_rfl) (by kernel_rfl) ⟨fun hw ac u K => ?_, fun hw ac u K => ?_, fun hw ac u K => ?_, fun hw ac u K => ?_, fun hw ac u K => ?_, trivial⟩ ?_
  · exact st_move (.tmp 1) rfl ((K.old 1 rfl).trans x1)
  · exact st_move (.tmp 6) rfl ((K.old 6 rfl).trans x6)
  · exact st_shr 3 3 (.tmp 20) (.tmp 21) rfl (i) (k) (K.dep 0 20 rfl) (K.dep 1 21 rfl) (i / 2 ^ k) rfl (by omega)
  · exact st_xor1 (.tmp 22) (.const (.int .i64 1)) rfl (i / 2 ^ k) (by omega) (K.dep 2 22 rfl) rfl
  · exact st_assign (.tmp 23) rfl (K.dep 3 23 rfl)
  intro f7 w7 A hb
  replace bl0 := bl
  replace x0 := (A.old 0 rfl).trans x0
  replace x1 := (A.old 1 rfl).trans x1
  replace x4 := (A.old 4 rfl).trans x4
  replace x5 := (A.old 5 rfl).trans x5
  replace x16 := (A.old 16 rfl).trans x16
  replace x17 := (A.old 17 rfl).trans x17
  replace x18 := (A.old 18 rfl).trans x18
  replace x6 := (A.old 6 rfl).trans x6
  have x7 : f7.eval (.tmp 7) = .int .i64 ((i / 2 ^ k ^^^ 1 : Nat) : Int) := A.has 4 7 rfl
  replace R5 := Rw.below R5 hb
  replace bl := (bl.trans (Below.mono hb bl.size))
  replace sz := A.size.trans sz
  replace df := A.defs.trans df
  clear A hb
  show Code.wp _ _ _ _ _
  -- R6
  refine wp_region_seq [.eq (.slice (some ⟨g5, 0, none⟩) height height), .eq (.int .i64 ((k : Nat) : Int)), .eq (.pointer (some ⟨kb, 0, none⟩)), .eq (.int .i64 ((i / 2 ^ k ^^^ 1 : Nat) : Int)), .eq (.int .i64 ((k : Nat) : Int)), .eq (.int .i64 ((bes i k : Nat) : Int)), .eq (.int .i64 ((k : Nat) : Int)), .eq (.agg ((y).map V).toArray), .eq (.pointer (some ⟨g5, k * 32, none⟩))] (by kernel_rfl) (by kernel_rfl) (by rw [sz]; kernel_rfl) (by kernel_rfl) ⟨fun hw ac u K => ?_, fun hw ac u K => ?_, fun hw ac u K => ?_, fun hw ac u K => ?_, fun hw ac u K => ?_, fun hw ac u K => ?_, fun hw ac u K => ?_, fun hw ac u K => ?_, fun hw ac u K => ?_, trivial⟩ ?_
  · exact st_move (.tmp 5) rfl ((K.old 5 rfl).trans x5)
  · exact st_move (.tmp 6) rfl ((K.old 6 rfl).trans x6)
  · exact st_move (.tmp 0) rfl ((K.old 0 rfl).trans x0)
  · exact st_move (.tmp 7) rfl ((K.old 7 rfl).trans x7)
  · exact st_move (.tmp 6) rfl ((K.old 6 rfl).trans x6)
  · exact st_shl 3 3 (.tmp 27) (.tmp 28) rfl (i / 2 ^ k ^^^ 1) (k) (K.dep 3 27 rfl) (K.dep 4 28 rfl) (bes i k) rfl (by omega) (by omega)
  · exact st_move (.tmp 6) rfl ((K.old 6 rfl).trans x6)
  · exact st_call 38 (.func 38) _ _ #[.pointer (some ⟨kb, 0, none⟩), .int .i64 ((bes i k : Nat) : Int), .int .i64 ((k : Nat) : Int)] rfl rfl (arg3 (K.dep 2 26 rfl) (K.dep 5 29 rfl) (K.dep 6 30 rfl)) Tryd.enter38 (fk_of (root_any hx h1 h2 k (bes i k) _ (Ob.below hk (bl.trans (Below.mono K.grow bl.size))) (hK.below (bl.trans (Below.mono K.grow bl.size))) (by omega) (by omega) ey))
  · exact st_idxr (.tmp 24) (.tmp 25) rfl g5 k height (K.dep 0 24 rfl) (K.dep 1 25 rfl) hlt
  intro f8 w8 A hb
  have S_R5 := R5
  have hbS0 := Below.refl w7.heap.size w7
  have hbS := hb
  replace bl0 := bl
  replace x0 := (A.old 0 rfl).trans x0
  replace x1 := (A.old 1 rfl).trans x1
  replace x4 := (A.old 4 rfl).trans x4
  replace x5 := (A.old 5 rfl).trans x5
  replace x16 := (A.old 16 rfl).trans x16
  replace x17 := (A.old 17 rfl).trans x17
  replace x18 := (A.old 18 rfl).trans x18
  replace x6 := (A.old 6 rfl).trans x6
  replace x7 := (A.old 7 rfl).trans x7
  have x31 : f8.eval (.tmp 31) = .agg ((y).map V).toArray := A.has 7 31 rfl
  have x32 : f8.eval (.tmp 32) = .pointer (some ⟨g5, k * 32, none⟩) := A.has 8 32 rfl
  replace R5 := Rw.below R5 hb
  replace bl := (bl.trans (Below.mono hb bl.size))
  replace sz := A.size.trans sz
  replace df := A.defs.trans df
  clear A hb
  clear x7
  refine wl_storew rfl (.tmp 32) (.tmp 31) rfl rfl g5 (k) (y) _ x32 x31 R5 (by rw [prt_len]; exact hlt) hy ?_
  replace R5 := Rw.store R5 k y (by rw [prt_len]; exact hlt) hy
  rw [show (prt height (pth (lv seed kind) i) k).set k y = prt height (pth (lv seed kind) i) (k + 1) from by rw [← ey.out]; exact prt_set _ _ _] at R5
  replace bl := below_setCells hw5 ((y).map V) (k * 32) _ bl
  generalize w8.setCells g5 (k * 32) ((y).map V) = w9b at R5 bl ⊢
  refine wpList_nil ?_
  clear hbS hbS0 S_R5
  clear x31
  clear x32
  show Code.wp _ _ _ _ _
  -- R7
  refine wp_region_seq [.eq (.int .i64 ((k + 1 : Nat) : Int))] (by kernel_rfl) (by kernel_rfl) (by rw [sz]; kernel_rfl) (by kernel_rfl) ⟨fun hw ac u K => ?_, trivial⟩ ?_
  · exact st_add (.tmp 17) (.const (.int .i64 1)) rfl (k) (1) (k + 1) ((K.old 17 rfl).trans x17) rfl (by omega) (by omega)
  intro f10 w10 A hb
  replace bl0 := bl
  replace x0 := (A.old 0 rfl).trans x0
  replace x1 := (A.old 1 rfl).trans x1
  replace x4 := (A.old 4 rfl).trans x4
  replace x5 := (A.old 5 rfl).trans x5
  replace x16 := (A.old 16 rfl).trans x16
  replace x17 := (A.old 17 rfl).trans x17
  replace x18 := (A.old 18 rfl).trans x18
  replace x6 := (A.old 6 rfl).trans x6
  have x33 : f10.eval (.tmp 33) = .int .i64 ((k + 1 : Nat) : Int) := A.has 0 33 rfl
  replace R5 := Rw.below R5 hb
  replace bl := (bl.trans (Below.mono hb bl.size))
  replace sz := A.size.trans sz
  replace df := A.defs.trans df
  clear A hb
  refine wl_one (.eq (.int .i64 ((k + 1 : Nat) : Int))) rfl 17 rfl (by rw [sz]; decide) (st_move (.tmp 33) rfl x33) ?_
  intro f11 w11 df2 sz2 old2 new2 hb
  replace bl0 := bl
  replace x0 := (old2 0 rfl).trans x0
  replace x1 := (old2 1 rfl).trans x1
  replace x4 := (old2 4 rfl).trans x4
  replace x5 := (old2 5 rfl).trans x5
  replace x16 := (old2 16 rfl).trans x16
  clear x17
  replace x18 := (old2 18 rfl).trans x18
  replace x6 := (old2 6 rfl).trans x6
  replace x33 := (old2 33 rfl).trans x33
  have x17 : f11.eval (.tmp 17) = .int .i64 ((k + 1 : Nat) : Int) := new2
  replace R5 := Rw.below R5 hb
  replace bl := (bl.trans (Below.mono hb bl.size))
  replace sz := sz2.trans sz
  replace df := df2.trans df
  clear df2 sz2 old2 new2 hb
  refine wpList_nil ?_
  clear x33
  show (∃ _, _) ∧ _
  refine ⟨⟨k + 1, by omega, sz, df, x0, x1, x4, x5, x16, x17, R5, bl⟩, ?_⟩
  rw [show f11.eval (.tmp 17) = _ from x17, show _ = _ from hcnt]
  simp [intOf]
  omega
end Go.Proofs.YtnanipeapjpkfaaDoor
namespace Go.Proofs.YtnanipeapjpkfaaDoor
set_option maxRecDepth 100000
open Go.RowKit
theorem Hl.onlyN {w w' : World} {A : Option Addr} {lb lo g : Nat} {hs : List (List (BitVec 8))} (h : Hl w A lb lo hs) (ho : Only g w w') (hg : lb ≠ g) : Hl w' A lb lo hs :=
  ⟨h.ptr, fun hp => Nat.lt_of_lt_of_le (h.lt hp) ho.size, fun i x hi => by
    obtain ⟨h1, h2⟩ := h.all i x hi
    exact ⟨h1, h2.only ho (h.lt (by
      rcases Nat.lt_or_ge i hs.length with h | h
      · omega
      · rw [List.getElem?_eq_none h] at hi; cases hi)) hg⟩⟩
theorem Ob.seth {w : World} {b : Nat} {T : TypeId} {xs : List (BitVec 8)} {l : List Value} (h : Ob w b T (xs.map V ++ l)) (hx : xs.length = 32) (j : Nat) (v : Value) : Ob (w.setCell ⟨b, 32 + j, none⟩ v) b T (xs.map V ++ l.set j v) := by
  have := h.set (32 + j) v
  rw [List.set_append_right _ _ (by rw [List.length_map, hx]; omega), List.length_map, hx, Nat.add_sub_cancel_left] at this
  exact this
theorem only_setRow_new {g b : Nat} {A B : World} (h : Only g A B) (hb : A.heap.size ≤ b) (cs : Array Value) : Only g A (B.setRow b cs) := by
  have h2 := (Only.refl b B).setRow cs
  exact ⟨h2.os.trans h.os, h2.tape.trans h.tape, h2.output.trans h.output, Nat.le_trans h.size h2.size, fun k hk hg => (h2.block k (Nat.lt_of_lt_of_le hk h.size) (by omega)).trans (h.block k hk hg)⟩
theorem fk_hn {f : FuncId} {args : Array Value} {w : World} {g0 : Nat} {S : List (List (BitVec 8))} (hg : g0 ≤ w.heap.size) (h : Calls Tryd.prog f args w fun e w' => ∃ u, e = .returned u ∧ (Fk.hn w.heap.size S).f u w' ∧ Below w.heap.size w w') :
    Calls Tryd.prog f args w fun e w' => ∃ u, e = .returned u ∧ (Fk.hn g0 S).f u w' ∧ Below w.heap.size w w' := by
  refine h.mono ?_
  rintro e w' ⟨u, rfl, h1, h2⟩
  exact ⟨u, rfl, hn_le hg h1, h2⟩
/-- A signature, its hashes in new memory. -/
def Fk.sv (g0 : Nat) (k i : Int) (S P : List (List (BitVec 8))) : Fk := .inr (.inl ⟨fun v w => ∃ A C lb lo A2 C2 lb2 lo2, v = .agg [.int .i64 k, .int .i64 i, .slice A S.length C, .slice A2 P.length C2].toArray ∧ g0 ≤ lb ∧ Hl w A lb lo S ∧ g0 ≤ lb2 ∧ Hl w A2 lb2 lo2 P, by
  rintro v w w' ⟨A, C, lb, lo, A2, C2, lb2, lo2, e, h1, h2, h3, h4⟩ hb
  exact ⟨A, C, lb, lo, A2, C2, lb2, lo2, e, h1, h2.below hb, h3, h4.below hb⟩⟩)
theorem Tryd.buildSig (k i : Int) (A B : Option Addr) (m c m2 c2 : Nat) (w : World) : (Instr.build 38 #[(0, .int .i64 k), (1, .int .i64 i), (2, .slice A m c), (3, .slice B m2 c2)]).run Tryd.prog w = .ok (.agg [.int .i64 k, .int .i64 i, .slice A m c, .slice B m2 c2].toArray) w := by kernel_rfl
section
variable {Q : Exit → Act → World → Prop} {o : Oper} {a : Act} {w : World} {ops : Array Oper} {rest : List Oper}
theorem st_buildsig (x0 x1 x2 x3 : Operand) (ho : o.op = .build 38 #[(0, x0), (1, x1), (2, x2), (3, x3)]) {g0 : Nat} {k i : Int} {S P : List (List (BitVec 8))} (h0 : a.eval x0 = .int .i64 k) (h1 : a.eval x1 = .int .i64 i) (h2 : (Fk.hn g0 S).f (a.eval x2) w) (h3 : (Fk.hn g0 P).f (a.eval x3) w) : o.wp Tryd.prog a w (Ends a o.dst w (Fk.sv g0 k i S P).f) Q := by
  obtain ⟨A, C, lb, lo, e2, hg, hl⟩ := h2
  obtain ⟨A2, C2, lb2, lo2, e3, hg2, hl2⟩ := h3
  refine st_pure (v := .agg [.int .i64 k, .int .i64 i, .slice A S.length C, .slice A2 P.length C2].toArray) ?_ ⟨A, C, lb, lo, A2, C2, lb2, lo2, rfl, hg, hl, hg2, hl2⟩
  have := Tryd.buildSig k i A A2 S.length C P.length C2 w
  unfold execOp
  rw [ho]
  simp [h0, h1, e2, e3, this]
end
end Go.Proofs.YtnanipeapjpkfaaDoor
namespace Go.Proofs.YtnanipeapjpkfaaDoor
set_option maxRecDepth 100000
open Go.RowKit
theorem parse_any {bs : List (BitVec 8)} {bv0 : Value} (hbs : bs.length ≤ 900000) (w : World) (vb : (Fk.sl bs).f bv0 w) :
    Calls Tryd.prog 32 #[bv0] w fun e w' => ((∃ k i S P A C lb lo A2 C2 lb2 lo2, Enc bs k i S P ∧ e = .returned (.tuple #[.agg ([.int .i64 k, .int .i64 i, .slice A S.length C, .slice A2 P.length C2] : List Value).toArray, .int .i64 0]) ∧ w.heap.size ≤ lb ∧ Hl w' A lb lo S ∧ w.heap.size ≤ lb2 ∧ Hl w' A2 lb2 lo2 P) ∨ ((∀ k i S P, ¬ Enc bs k i S P) ∧ e = .returned (.tuple #[.agg ([.int .i64 0, .int .i64 0, .slice none 0 0, .slice none 0 0] : List Value).toArray, .int .i64 10]))) ∧ Below w.heap.size w w' := by
  obtain ⟨S, eS⟩ : ∃ S, Box (chk (hsN (b2 bs) (512 : Nat)) (hsD (b2 bs) (512 : Nat)) = S) := ⟨_, ⟨rfl⟩⟩
  obtain ⟨P, eP⟩ : ∃ S, Box (chk (hsN (b3 bs) (8 : Nat)) (hsD (b3 bs) (8 : Nat)) = S) := ⟨_, ⟨rfl⟩⟩
  go_enter Tryd.func32, Tryd.ntmps32
  refine code_both (fun f w1 => f.tmps.size = 27 ∧ f.defers = [] ∧ f.eval (.tmp 0) = bv0 ∧ Below w.heap.size w (w1)) ⟨rfl, rfl, rfl, Below.refl _ _⟩ ?_
  rintro f0 w0 ⟨sz, df, x0, bl⟩
  have bl0 := bl
  refine wp_seq ?_
  -- R0
  refine wp_region_seq [] (by kernel_rfl) (by kernel_rfl) (by rw [sz]; kernel_rfl) (by kernel_rfl) trivial ?_
  intro f1 w1 A hb
  replace bl0 := bl
  replace x0 := (A.old 0 rfl).trans x0
  replace bl := (bl.trans (Below.mono hb bl.size))
  replace sz := A.size.trans sz
  replace df := A.defs.trans df
  clear A hb
  refine wl_one (.nw w1.heap.size 38 [.int .i64 0, .int .i64 0, .slice none 0 0, .slice none 0 0]) rfl 2 rfl (by rw [sz]; decide) (st_alloc 38 rfl _ _ (by kernel_rfl) (Nat.le_refl _)) ?_
  intro f2 w2 df2 sz2 old2 new2 hb
  replace bl0 := bl
  replace x0 := (old2 0 rfl).trans x0
  have x2 : Fk.f (.nw w1.heap.size 38 [.int .i64 0, .int .i64 0, .slice none 0 0, .slice none 0 0]) (f2.eval (.tmp 2)) w2 := new2
  replace bl := (bl.trans (Below.mono hb bl.size))
  replace sz := sz2.trans sz
  replace df := df2.trans df
  clear df2 sz2 old2 new2 hb
  obtain ⟨g2, hg2, e2, m2⟩ := x2
  have x2 := e2
  clear e2
  have hw2 : w.heap.size ≤ g2 := Nat.le_trans bl0.size hg2
  refine wl_one (.eq (.int .i64 0)) rfl 3 rfl (by rw [sz]; decide) (st_assign (.const (.int .i64 0)) rfl rfl) ?_
  intro f3 w3 df2 sz2 old2 new2 hb
  replace bl0 := bl
  replace x0 := (old2 0 rfl).trans x0
  replace x2 := (old2 2 rfl).trans x2
  have x3 : f3.eval (.tmp 3) = .int .i64 0 := new2
  have lt_m2 := Ob.lt m2
  replace m2 := Ob.below m2 hb
  replace bl := (bl.trans (Below.mono hb bl.size))
  replace sz := sz2.trans sz
  replace df := df2.trans df
  clear df2 sz2 old2 new2 hb
  refine wpList_nil ?_
  show Code.wp _ _ _ _ _
  refine wp_seq ?_
  -- R1
  refine wp_region_seq [.eq (bv0)] (by kernel_rfl) (by kernel_rfl) (by rw [sz]; kernel_rfl) (by kernel_rfl) ⟨fun hw ac u K => ?_, trivial⟩ ?_
  · exact st_move (.tmp 0) rfl ((K.old 0 rfl).trans x0)
  intro f4 w4 A hb
  replace bl0 := bl
  replace x0 := (A.old 0 rfl).trans x0
  replace x2 := (A.old 2 rfl).trans x2
  replace x3 := (A.old 3 rfl).trans x3
  have x6 : f4.eval (.tmp 6) = bv0 := A.has 0 6 rfl
  have lt_m2 := Ob.lt m2
  replace m2 := Ob.below m2 hb
  replace bl := (bl.trans (Below.mono hb bl.size))
  replace sz := A.size.trans sz
  replace df := A.defs.trans df
  clear A hb
  clear x0
  refine wl_call 59 (.func 59) _ _ #[bv0] rfl 7 rfl (by rw [sz]; decide) rfl rfl (one_arg x6) Tryd.enter59 (fun u W => ∃ ib, u = .pointer (some ⟨ib, 0, none⟩) ∧ w4.heap.size ≤ ib ∧ HasI W ib bs false ∧ Below w4.heap.size w4 W) (in_new (Fk.mono _ _ _ _ vb bl) hbs) ?_
  rintro f5 w5 df2 sz2 old2 ⟨ib, new2, hgI, hI, hb⟩
  have hwI : w.heap.size ≤ ib := Nat.le_trans bl.size hgI
  have nI2 : g2 ≠ ib := Nat.ne_of_lt (Nat.lt_of_lt_of_le (Ob.lt m2) hgI)
  replace bl0 := bl
  replace x2 := (old2 2 rfl).trans x2
  replace x3 := (old2 3 rfl).trans x3
  replace x6 := (old2 6 rfl).trans x6
  have x7 : f5.eval (.tmp 7) = .pointer (some ⟨ib, 0, none⟩) := new2
  have lt_m2 := Ob.lt m2
  replace m2 := Ob.below m2 hb
  replace bl := (bl.trans (Below.mono hb bl.size))
  replace sz := sz2.trans sz
  replace df := df2.trans df
  clear df2 sz2 old2 new2 hb
  clear x6
  refine wl_one (.eq (.pointer (some ⟨ib, 0, none⟩))) rfl 4 rfl (by rw [sz]; decide) (st_assign (.tmp 7) rfl x7) ?_
  intro f6 w6 df2 sz2 old2 new2 hb
  replace bl0 := bl
  replace x2 := (old2 2 rfl).trans x2
  replace x3 := (old2 3 rfl).trans x3
  replace x7 := (old2 7 rfl).trans x7
  have x4 : f6.eval (.tmp 4) = .pointer (some ⟨ib, 0, none⟩) := new2
  have lt_m2 := Ob.lt m2
  replace m2 := Ob.below m2 hb
  replace hI := HasI.below hI hb
  replace bl := (bl.trans (Below.mono hb bl.size))
  replace sz := sz2.trans sz
  replace df := df2.trans df
  clear df2 sz2 old2 new2 hb
  refine wpList_nil ?_
  clear x7
  show Code.wp _ _ _ _ _
  refine wp_seq ?_
  have hltI0 := hI.lt
  -- R2
  refine wp_all_seq [.nw w6.heap.size 38 [.int .i64 0, .int .i64 0, .slice none 0 0, .slice none 0 0]] (by kernel_rfl) (by kernel_rfl) (by rw [sz]; kernel_rfl) (by kernel_rfl) ⟨fun hw ac u K => ?_, trivial⟩ ?_
  · exact st_alloc 38 rfl _ _ (by kernel_rfl) K.grow.size
  intro f7 w7 A hb
  replace bl0 := bl
  replace x2 := (A.old 2 rfl).trans x2
  replace x3 := (A.old 3 rfl).trans x3
  replace x4 := (A.old 4 rfl).trans x4
  have x5 : Fk.f (.nw w6.heap.size 38 [.int .i64 0, .int .i64 0, .slice none 0 0, .slice none 0 0]) (f7.eval (.tmp 5)) w7 := A.has 0 5 rfl
  have lt_m2 := Ob.lt m2
  replace m2 := Ob.below m2 hb
  replace hI := HasI.below hI hb
  replace bl := (bl.trans (Below.mono hb bl.size))
  replace sz := A.size.trans sz
  replace df := A.defs.trans df
  clear A hb
  obtain ⟨g5, hg5, e5, m5⟩ := x5
  have x5 := e5
  clear e5
  have nm2_5 : g2 ≠ g5 := Nat.ne_of_lt (Nat.lt_of_lt_of_le lt_m2 hg5)
  have hw5 : w.heap.size ≤ g5 := Nat.le_trans bl0.size hg5
  show Code.wp _ _ _ _ _
  refine wp_seq ?_
  have nI5 : g5 ≠ ib := Nat.ne_of_gt (Nat.lt_of_lt_of_le hltI0 hg5)
  -- R3
  refine wp_region_seq [.eq (.pointer (some ⟨ib, 0, none⟩))] (by kernel_rfl) (by kernel_rfl) (by rw [sz]; kernel_rfl) (by kernel_rfl) ⟨fun hw ac u K => ?_, trivial⟩ ?_
  · exact st_move (.tmp 4) rfl ((K.old 4 rfl).trans x4)
  intro f8 w8 A hb
  replace bl0 := bl
  replace x2 := (A.old 2 rfl).trans x2
  replace x3 := (A.old 3 rfl).trans x3
  replace x4 := (A.old 4 rfl).trans x4
  replace x5 := (A.old 5 rfl).trans x5
  have x8 : f8.eval (.tmp 8) = .pointer (some ⟨ib, 0, none⟩) := A.has 0 8 rfl
  have lt_m2 := Ob.lt m2
  replace m2 := Ob.below m2 hb
  have lt_m5 := Ob.lt m5
  replace m5 := Ob.below m5 hb
  replace hI := HasI.below hI hb
  replace bl := (bl.trans (Below.mono hb bl.size))
  replace sz := A.size.trans sz
  replace df := A.defs.trans df
  clear A hb
  refine wl_call 60 (.func 60) _ _ #[.pointer (some ⟨ib, 0, none⟩), .int .i64 1, .int .i64 2] rfl 9 rfl (by rw [sz]; decide) rfl rfl (arg3 x8 rfl rfl) Tryd.enter60 (fun u W => u = .int .i64 (cV 1 2 bs) ∧ HasI W ib (b1 bs) (t1 bs) ∧ Only ib w8 W) (in_count 1 2 _ hI (by omega)) ?_
  rintro f9 w9 df2 sz2 old2 ⟨new2, hI2, O⟩
  replace x2 := (old2 2 rfl).trans x2
  replace x3 := (old2 3 rfl).trans x3
  replace x4 := (old2 4 rfl).trans x4
  replace x5 := (old2 5 rfl).trans x5
  replace x8 := (old2 8 rfl).trans x8
  replace m2 := Ob.only m2 O nI2
  replace m5 := Ob.only m5 O nI5
  replace bl := bl.trans (Only.below O _ hwI bl.size)
  replace sz := sz2.trans sz
  replace df := df2.trans df
  have x9 := new2
  clear df2 sz2 old2 O new2
  replace hI := hI2
  clear hI2
  clear x8
  refine wl_one (.eq (.pointer (some ⟨g5, 0, none⟩))) rfl 10 rfl (by rw [sz]; decide) (st_field 38 0 (.tmp 5) rfl x5 (by kernel_rfl)) ?_
  intro f10 w10 df2 sz2 old2 new2 hb
  replace bl0 := bl
  replace x2 := (old2 2 rfl).trans x2
  replace x3 := (old2 3 rfl).trans x3
  replace x4 := (old2 4 rfl).trans x4
  replace x5 := (old2 5 rfl).trans x5
  replace x9 := (old2 9 rfl).trans x9
  have x10 : f10.eval (.tmp 10) = .pointer (some ⟨g5, 0, none⟩) := new2
  have lt_m2 := Ob.lt m2
  replace m2 := Ob.below m2 hb
  have lt_m5 := Ob.lt m5
  replace m5 := Ob.below m5 hb
  replace hI := HasI.below hI hb
  replace bl := (bl.trans (Below.mono hb bl.size))
  replace sz := sz2.trans sz
  replace df := df2.trans df
  clear df2 sz2 old2 new2 hb
  refine wl_stc 3 rfl (.tmp 10) (.tmp 9) rfl rfl (by kernel_rfl) (g5) 0 (.int .i64 (cV 1 2 bs)) x10 x9 rfl rfl (Ob.there m5 0 (by simp)) ?_
  replace hI := HasI.setc hI m5 nou8_4 nI5.symm 0 (.int .i64 (cV 1 2 bs))
  replace m2 : Ob (w10.setCell ⟨g5, 0, none⟩ (.int .i64 (cV 1 2 bs))) (g2) 38 ([.int .i64 0, .int .i64 0, .slice none 0 0, .slice none 0 0]) := Ob.setCell_other m2 _ _ nm2_5
  replace m5 : Ob (w10.setCell ⟨g5, 0, none⟩ (.int .i64 (cV 1 2 bs))) (g5) 38 ([.int .i64 (cV 1 2 bs), .int .i64 0, .slice none 0 0, .slice none 0 0]) := Ob.set m5 0 (.int .i64 (cV 1 2 bs))
  replace bl : Below w.heap.size w (w10.setCell ⟨g5, 0, none⟩ (.int .i64 (cV 1 2 bs))) := bl.trans (below_setCell _ _ _ _ _ hw5)
  generalize w10.setCell ⟨g5, 0, none⟩ (.int .i64 (cV 1 2 bs)) = w11b at bl m2 m5 hI ⊢
  refine wpList_nil ?_
  clear x9
  clear x10
  show Code.wp _ _ _ _ _
  refine wp_seq ?_
  -- R4
  refine wp_region_seq [.eq (.pointer (some ⟨ib, 0, none⟩)), .eq (.int .i64 ((2 ^ 8 : Nat) : Int)), .eq (.int .i64 ((255 : Nat) : Int))] (by kernel_rfl) (by kernel_rfl) (by rw [sz]; kernel_rfl) (by kernel_rfl) ⟨fun hw ac u K => ?_, fun hw ac u K => ?_, fun hw ac u K => ?_, trivial⟩ ?_
  · exact st_move (.tmp 4) rfl ((K.old 4 rfl).trans x4)
  · exact st_call 35 (.func 35) _ _ #[.int .i64 8] rfl rfl (one_arg rfl) Tryd.enter35 (fk_of (indexes_any 8 (by omega) _))
  · exact st_sub (.tmp 12) (.const (.int .i64 1)) rfl (2 ^ 8) (1) (255) (K.dep 1 12 rfl) rfl (by rfl) (by simp)
  intro f12 w12 A hb
  replace bl0 := bl
  replace x2 := (A.old 2 rfl).trans x2
  replace x3 := (A.old 3 rfl).trans x3
  replace x4 := (A.old 4 rfl).trans x4
  replace x5 := (A.old 5 rfl).trans x5
  have x11 : f12.eval (.tmp 11) = .pointer (some ⟨ib, 0, none⟩) := A.has 0 11 rfl
  have x13 : f12.eval (.tmp 13) = .int .i64 ((255 : Nat) : Int) := A.has 2 13 rfl
  have lt_m2 := Ob.lt m2
  replace m2 := Ob.below m2 hb
  have lt_m5 := Ob.lt m5
  replace m5 := Ob.below m5 hb
  replace hI := HasI.below hI hb
  replace bl := (bl.trans (Below.mono hb bl.size))
  replace sz := A.size.trans sz
  replace df := A.defs.trans df
  clear A hb
  refine wl_call 60 (.func 60) _ _ #[.pointer (some ⟨ib, 0, none⟩), .int .i64 0, .int .i64 255] rfl 14 rfl (by rw [sz]; decide) rfl rfl (arg3 x11 rfl x13) Tryd.enter60 (fun u W => u = .int .i64 (cV 0 255 (b1 bs)) ∧ HasI W ib (b2 bs) (t2 bs) ∧ Only ib w12 W) (in_count 0 255 _ hI (by have := b1_len bs; omega)) ?_
  rintro f13 w13 df2 sz2 old2 ⟨new2, hI2, O⟩
  replace x2 := (old2 2 rfl).trans x2
  replace x3 := (old2 3 rfl).trans x3
  replace x4 := (old2 4 rfl).trans x4
  replace x5 := (old2 5 rfl).trans x5
  replace x11 := (old2 11 rfl).trans x11
  replace x13 := (old2 13 rfl).trans x13
  replace m2 := Ob.only m2 O nI2
  replace m5 := Ob.only m5 O nI5
  replace bl := bl.trans (Only.below O _ hwI bl.size)
  replace sz := sz2.trans sz
  replace df := df2.trans df
  have x14 := new2
  clear df2 sz2 old2 O new2
  replace hI := hI2
  clear hI2
  clear x11
  clear x13
  refine wl_one (.eq (.pointer (some ⟨g5, 1, none⟩))) rfl 15 rfl (by rw [sz]; decide) (st_field 38 1 (.tmp 5) rfl x5 (by kernel_rfl)) ?_
  intro f14 w14 df2 sz2 old2 new2 hb
  replace bl0 := bl
  replace x2 := (old2 2 rfl).trans x2
  replace x3 := (old2 3 rfl).trans x3
  replace x4 := (old2 4 rfl).trans x4
  replace x5 := (old2 5 rfl).trans x5
  replace x14 := (old2 14 rfl).trans x14
  have x15 : f14.eval (.tmp 15) = .pointer (some ⟨g5, 1, none⟩) := new2
  have lt_m2 := Ob.lt m2
  replace m2 := Ob.below m2 hb
  have lt_m5 := Ob.lt m5
  replace m5 := Ob.below m5 hb
  replace hI := HasI.below hI hb
  replace bl := (bl.trans (Below.mono hb bl.size))
  replace sz := sz2.trans sz
  replace df := df2.trans df
  clear df2 sz2 old2 new2 hb
  refine wl_stc 3 rfl (.tmp 15) (.tmp 14) rfl rfl (by kernel_rfl) (g5) 1 (.int .i64 (cV 0 255 (b1 bs))) x15 x14 rfl rfl (Ob.there m5 1 (by simp)) ?_
  replace hI := HasI.setc hI m5 nou8_4 nI5.symm 1 (.int .i64 (cV 0 255 (b1 bs)))
  replace m2 : Ob (w14.setCell ⟨g5, 1, none⟩ (.int .i64 (cV 0 255 (b1 bs)))) (g2) 38 ([.int .i64 0, .int .i64 0, .slice none 0 0, .slice none 0 0]) := Ob.setCell_other m2 _ _ nm2_5
  replace m5 : Ob (w14.setCell ⟨g5, 1, none⟩ (.int .i64 (cV 0 255 (b1 bs)))) (g5) 38 ([.int .i64 (cV 1 2 bs), .int .i64 (cV 0 255 (b1 bs)), .slice none 0 0, .slice none 0 0]) := Ob.set m5 1 (.int .i64 (cV 0 255 (b1 bs)))
  replace bl : Below w.heap.size w (w14.setCell ⟨g5, 1, none⟩ (.int .i64 (cV 0 255 (b1 bs)))) := bl.trans (below_setCell _ _ _ _ _ hw5)
  generalize w14.setCell ⟨g5, 1, none⟩ (.int .i64 (cV 0 255 (b1 bs))) = w15b at bl m2 m5 hI ⊢
  refine wpList_nil ?_
  clear x14
  clear x15
  show Code.wp _ _ _ _ _
  refine wp_seq ?_
  -- R5
  refine wp_region_seq [.eq (.pointer (some ⟨ib, 0, none⟩))] (by kernel_rfl) (by kernel_rfl) (by rw [sz]; kernel_rfl) (by kernel_rfl) ⟨fun hw ac u K => ?_, trivial⟩ ?_
  · exact st_move (.tmp 4) rfl ((K.old 4 rfl).trans x4)
  intro f16 w16 A hb
  replace bl0 := bl
  replace x2 := (A.old 2 rfl).trans x2
  replace x3 := (A.old 3 rfl).trans x3
  replace x4 := (A.old 4 rfl).trans x4
  replace x5 := (A.old 5 rfl).trans x5
  have x16 : f16.eval (.tmp 16) = .pointer (some ⟨ib, 0, none⟩) := A.has 0 16 rfl
  have lt_m2 := Ob.lt m2
  replace m2 := Ob.below m2 hb
  have lt_m5 := Ob.lt m5
  replace m5 := Ob.below m5 hb
  replace hI := HasI.below hI hb
  replace bl := (bl.trans (Below.mono hb bl.size))
  replace sz := A.size.trans sz
  replace df := A.defs.trans df
  clear A hb
  refine wl_call 61 (.func 61) _ _ #[.pointer (some ⟨ib, 0, none⟩), .int .i64 512] rfl 17 rfl (by rw [sz]; decide) rfl rfl (arg2 x16 rfl) Tryd.enter61 (fun u W => ∃ L, u = .slice (some ⟨L, 0, none⟩) (S).length (S).length ∧ w16.heap.size ≤ L ∧ Hl W (some ⟨L, 0, none⟩) L 0 S ∧ HasI W ib (b3 bs) (t3 bs) ∧ Only ib w16 W) (in_hashes 512 _ hI (by have := b2_len bs; omega) eS) ?_
  have hltI := hI.lt
  have hlt5 := Ob.lt m5
  have hlt2 := Ob.lt m2
  rintro f17 w17 df2 sz2 old2 ⟨La, new2, hLa, qa, hI2, O⟩
  have nIqa : La ≠ ib := Nat.ne_of_gt (Nat.lt_of_lt_of_le hltI hLa)
  have n5qa : La ≠ g5 := Nat.ne_of_gt (Nat.lt_of_lt_of_le hlt5 hLa)
  have n2qa : La ≠ g2 := Nat.ne_of_gt (Nat.lt_of_lt_of_le hlt2 hLa)
  have hwLa : w.heap.size ≤ La := Nat.le_trans bl.size hLa
  replace x2 := (old2 2 rfl).trans x2
  replace x3 := (old2 3 rfl).trans x3
  replace x4 := (old2 4 rfl).trans x4
  replace x5 := (old2 5 rfl).trans x5
  replace x16 := (old2 16 rfl).trans x16
  replace m2 := Ob.only m2 O nI2
  replace m5 := Ob.only m5 O nI5
  replace bl := bl.trans (Only.below O _ hwI bl.size)
  replace sz := sz2.trans sz
  replace df := df2.trans df
  have x17 := new2
  clear df2 sz2 old2 O new2
  replace hI := hI2
  clear hI2 hltI hlt5 hlt2
  clear x16
  refine wl_one (.eq (.pointer (some ⟨g5, 2, none⟩))) rfl 18 rfl (by rw [sz]; decide) (st_field 38 2 (.tmp 5) rfl x5 (by kernel_rfl)) ?_
  intro f18 w18 df2 sz2 old2 new2 hb
  replace bl0 := bl
  replace x2 := (old2 2 rfl).trans x2
  replace x3 := (old2 3 rfl).trans x3
  replace x4 := (old2 4 rfl).trans x4
  replace x5 := (old2 5 rfl).trans x5
  replace x17 := (old2 17 rfl).trans x17
  have x18 : f18.eval (.tmp 18) = .pointer (some ⟨g5, 2, none⟩) := new2
  have lt_m2 := Ob.lt m2
  replace m2 := Ob.below m2 hb
  have lt_m5 := Ob.lt m5
  replace m5 := Ob.below m5 hb
  replace hI := HasI.below hI hb
  replace qa := Hl.below qa hb
  replace bl := (bl.trans (Below.mono hb bl.size))
  replace sz := sz2.trans sz
  replace df := df2.trans df
  clear df2 sz2 old2 new2 hb
  refine wl_stc 32 rfl (.tmp 18) (.tmp 17) rfl rfl (by kernel_rfl) (g5) 2 (.slice (some ⟨La, 0, none⟩) (S).length (S).length) x18 x17 rfl rfl (Ob.there m5 2 (by simp)) ?_
  replace hI := HasI.setc hI m5 nou8_4 nI5.symm 2 (.slice (some ⟨La, 0, none⟩) (S).length (S).length)
  replace qa := Hl.onlyN qa ((Only.refl g5 _).setCell 2 (.slice (some ⟨La, 0, none⟩) (S).length (S).length)) n5qa
  replace m2 : Ob (w18.setCell ⟨g5, 2, none⟩ (.slice (some ⟨La, 0, none⟩) (S).length (S).length)) (g2) 38 ([.int .i64 0, .int .i64 0, .slice none 0 0, .slice none 0 0]) := Ob.setCell_other m2 _ _ nm2_5
  replace m5 : Ob (w18.setCell ⟨g5, 2, none⟩ (.slice (some ⟨La, 0, none⟩) (S).length (S).length)) (g5) 38 ([.int .i64 (cV 1 2 bs), .int .i64 (cV 0 255 (b1 bs)), .slice (some ⟨La, 0, none⟩) (S).length (S).length, .slice none 0 0]) := Ob.set m5 2 (.slice (some ⟨La, 0, none⟩) (S).length (S).length)
  replace bl : Below w.heap.size w (w18.setCell ⟨g5, 2, none⟩ (.slice (some ⟨La, 0, none⟩) (S).length (S).length)) := bl.trans (below_setCell _ _ _ _ _ hw5)
  generalize w18.setCell ⟨g5, 2, none⟩ (.slice (some ⟨La, 0, none⟩) (S).length (S).length) = w19b at bl m2 m5 hI qa ⊢
  refine wpList_nil ?_
  clear x17
  clear x18
  show Code.wp _ _ _ _ _
  refine wp_seq ?_
  -- R6
  refine wp_region_seq [.eq (.pointer (some ⟨ib, 0, none⟩))] (by kernel_rfl) (by kernel_rfl) (by rw [sz]; kernel_rfl) (by kernel_rfl) ⟨fun hw ac u K => ?_, trivial⟩ ?_
  · exact st_move (.tmp 4) rfl ((K.old 4 rfl).trans x4)
  intro f20 w20 A hb
  replace bl0 := bl
  replace x2 := (A.old 2 rfl).trans x2
  replace x3 := (A.old 3 rfl).trans x3
  replace x4 := (A.old 4 rfl).trans x4
  replace x5 := (A.old 5 rfl).trans x5
  have x19 : f20.eval (.tmp 19) = .pointer (some ⟨ib, 0, none⟩) := A.has 0 19 rfl
  have lt_m2 := Ob.lt m2
  replace m2 := Ob.below m2 hb
  have lt_m5 := Ob.lt m5
  replace m5 := Ob.below m5 hb
  replace hI := HasI.below hI hb
  replace qa := Hl.below qa hb
  replace bl := (bl.trans (Below.mono hb bl.size))
  replace sz := A.size.trans sz
  replace df := A.defs.trans df
  clear A hb
  refine wl_call 61 (.func 61) _ _ #[.pointer (some ⟨ib, 0, none⟩), .int .i64 8] rfl 20 rfl (by rw [sz]; decide) rfl rfl (arg2 x19 rfl) Tryd.enter61 (fun u W => ∃ L, u = .slice (some ⟨L, 0, none⟩) (P).length (P).length ∧ w20.heap.size ≤ L ∧ Hl W (some ⟨L, 0, none⟩) L 0 P ∧ HasI W ib (b4 bs) (t4 bs) ∧ Only ib w20 W) (in_hashes 8 _ hI (by have := b3_len bs; omega) eP) ?_
  have hltI := hI.lt
  have hlt5 := Ob.lt m5
  have hlt2 := Ob.lt m2
  rintro f21 w21 df2 sz2 old2 ⟨Lb, new2, hLb, qb, hI2, O⟩
  have nIqb : Lb ≠ ib := Nat.ne_of_gt (Nat.lt_of_lt_of_le hltI hLb)
  have n5qb : Lb ≠ g5 := Nat.ne_of_gt (Nat.lt_of_lt_of_le hlt5 hLb)
  have n2qb : Lb ≠ g2 := Nat.ne_of_gt (Nat.lt_of_lt_of_le hlt2 hLb)
  have hwLb : w.heap.size ≤ Lb := Nat.le_trans bl.size hLb
  replace x2 := (old2 2 rfl).trans x2
  replace x3 := (old2 3 rfl).trans x3
  replace x4 := (old2 4 rfl).trans x4
  replace x5 := (old2 5 rfl).trans x5
  replace x19 := (old2 19 rfl).trans x19
  replace m2 := Ob.only m2 O nI2
  replace m5 := Ob.only m5 O nI5
  replace qa := Hl.onlyN qa O nIqa
  replace bl := bl.trans (Only.below O _ hwI bl.size)
  replace sz := sz2.trans sz
  replace df := df2.trans df
  have x20 := new2
  clear df2 sz2 old2 O new2
  replace hI := hI2
  clear hI2 hltI hlt5 hlt2
  clear x19
  refine wl_one (.eq (.pointer (some ⟨g5, 3, none⟩))) rfl 21 rfl (by rw [sz]; decide) (st_field 38 3 (.tmp 5) rfl x5 (by kernel_rfl)) ?_
  intro f22 w22 df2 sz2 old2 new2 hb
  replace bl0 := bl
  replace x2 := (old2 2 rfl).trans x2
  replace x3 := (old2 3 rfl).trans x3
  replace x4 := (old2 4 rfl).trans x4
  replace x5 := (old2 5 rfl).trans x5
  replace x20 := (old2 20 rfl).trans x20
  have x21 : f22.eval (.tmp 21) = .pointer (some ⟨g5, 3, none⟩) := new2
  have lt_m2 := Ob.lt m2
  replace m2 := Ob.below m2 hb
  have lt_m5 := Ob.lt m5
  replace m5 := Ob.below m5 hb
  replace hI := HasI.below hI hb
  replace qa := Hl.below qa hb
  replace qb := Hl.below qb hb
  replace bl := (bl.trans (Below.mono hb bl.size))
  replace sz := sz2.trans sz
  replace df := df2.trans df
  clear df2 sz2 old2 new2 hb
  refine wl_stc 32 rfl (.tmp 21) (.tmp 20) rfl rfl (by kernel_rfl) (g5) 3 (.slice (some ⟨Lb, 0, none⟩) (P).length (P).length) x21 x20 rfl rfl (Ob.there m5 3 (by simp)) ?_
  replace hI := HasI.setc hI m5 nou8_4 nI5.symm 3 (.slice (some ⟨Lb, 0, none⟩) (P).length (P).length)
  replace qa := Hl.onlyN qa ((Only.refl g5 _).setCell 3 (.slice (some ⟨Lb, 0, none⟩) (P).length (P).length)) n5qa
  replace qb := Hl.onlyN qb ((Only.refl g5 _).setCell 3 (.slice (some ⟨Lb, 0, none⟩) (P).length (P).length)) n5qb
  replace m2 : Ob (w22.setCell ⟨g5, 3, none⟩ (.slice (some ⟨Lb, 0, none⟩) (P).length (P).length)) (g2) 38 ([.int .i64 0, .int .i64 0, .slice none 0 0, .slice none 0 0]) := Ob.setCell_other m2 _ _ nm2_5
  replace m5 : Ob (w22.setCell ⟨g5, 3, none⟩ (.slice (some ⟨Lb, 0, none⟩) (P).length (P).length)) (g5) 38 ([.int .i64 (cV 1 2 bs), .int .i64 (cV 0 255 (b1 bs)), .slice (some ⟨La, 0, none⟩) (S).length (S).length, .slice (some ⟨Lb, 0, none⟩) (P).length (P).length]) := Ob.set m5 3 (.slice (some ⟨Lb, 0, none⟩) (P).length (P).length)
  replace bl : Below w.heap.size w (w22.setCell ⟨g5, 3, none⟩ (.slice (some ⟨Lb, 0, none⟩) (P).length (P).length)) := bl.trans (below_setCell _ _ _ _ _ hw5)
  generalize w22.setCell ⟨g5, 3, none⟩ (.slice (some ⟨Lb, 0, none⟩) (P).length (P).length) = w23b at bl m2 m5 hI qa qb ⊢
  refine wpList_nil ?_
  clear x20
  clear x21
  show Code.wp _ _ _ _ _
  refine wp_seq ?_
  refine wp_seq ?_
  by_cases hd : t4 bs = false ∧ b4 bs = []
  rotate_left
  · skip
    have hdb : (!t4 bs && decide (b4 bs = [])) = false := by
      cases h : t4 bs with
      | true => rfl
      | false => simpa using fun e => hd ⟨h, e⟩
    -- R7
    refine wp_all_seq [.eq (.pointer (some ⟨ib, 0, none⟩)), .eq (.bool false), .eq (.bool true)] (by kernel_rfl) (by kernel_rfl) (by rw [sz]; kernel_rfl) (by kernel_rfl) ⟨fun hw ac u K => ?_, fun hw ac u K => ?_, fun hw ac u K => ?_, trivial⟩ ?_
    · exact st_move (.tmp 4) rfl ((K.old 4 rfl).trans x4)
    · exact st_call 62 (.func 62) _ _ #[.pointer (some ⟨ib, 0, none⟩)] rfl rfl (one_arg (K.dep 0 22 rfl)) Tryd.enter62 (by have h := fk_of (in_done _ (HasI.below hI K.grow)); rw [hdb] at h; exact h)
    · exact st_not (.tmp 23) rfl false (K.dep 1 23 rfl)
    intro f24 w24 A hb
    replace bl0 := bl
    replace x2 := (A.old 2 rfl).trans x2
    replace x3 := (A.old 3 rfl).trans x3
    replace x4 := (A.old 4 rfl).trans x4
    replace x5 := (A.old 5 rfl).trans x5
    have x24 : f24.eval (.tmp 24) = .bool true := A.has 2 24 rfl
    have lt_m2 := Ob.lt m2
    replace m2 := Ob.below m2 hb
    have lt_m5 := Ob.lt m5
    replace m5 := Ob.below m5 hb
    replace hI := HasI.below hI hb
    replace qa := Hl.below qa hb
    replace qb := Hl.below qb hb
    replace bl := (bl.trans (Below.mono hb bl.size))
    replace sz := A.size.trans sz
    replace df := A.defs.trans df
    clear A hb
    show Code.wp _ _ _ _ _
    refine wp_cond_true x24 ?_
    refine wp_seq ?_
    -- R8
    refine wp_region_seq [.eq (.agg ([.int .i64 0, .int .i64 0, .slice none 0 0, .slice none 0 0] : List Value).toArray)] (by kernel_rfl) (by kernel_rfl) (by rw [sz]; kernel_rfl) (by kernel_rfl) ⟨fun hw ac u K => ?_, trivial⟩ ?_
    · exact st_build 38 _ rfl (by kernel_rfl)
    intro f25 w25 A hb
    replace bl0 := bl
    replace x2 := (A.old 2 rfl).trans x2
    replace x3 := (A.old 3 rfl).trans x3
    replace x4 := (A.old 4 rfl).trans x4
    replace x5 := (A.old 5 rfl).trans x5
    replace x24 := (A.old 24 rfl).trans x24
    have x25 : f25.eval (.tmp 25) = .agg ([.int .i64 0, .int .i64 0, .slice none 0 0, .slice none 0 0] : List Value).toArray := A.has 0 25 rfl
    have lt_m2 := Ob.lt m2
    replace m2 := Ob.below m2 hb
    have lt_m5 := Ob.lt m5
    replace m5 := Ob.below m5 hb
    replace qa := Hl.below qa hb
    replace qb := Hl.below qb hb
    replace bl := (bl.trans (Below.mono hb bl.size))
    replace sz := A.size.trans sz
    replace df := A.defs.trans df
    clear A hb
    refine wl_str rfl 38 (.tmp 2) (.tmp 25) rfl rfl (g2) ([.int .i64 0, .int .i64 0, .slice none 0 0, .slice none 0 0] : List Value).toArray x2 x25 38 _ m2 (by kernel_rfl) (by kernel_rfl) (by kernel_rfl) ?_
    replace qa := Hl.onlyN qa ((Only.refl g2 _).setRow ([.int .i64 0, .int .i64 0, .slice none 0 0, .slice none 0 0] : List Value).toArray) n2qa
    replace qb := Hl.onlyN qb ((Only.refl g2 _).setRow ([.int .i64 0, .int .i64 0, .slice none 0 0, .slice none 0 0] : List Value).toArray) n2qb
    replace m2 : Ob (w25.setRow g2 ([.int .i64 0, .int .i64 0, .slice none 0 0, .slice none 0 0] : List Value).toArray) (g2) 38 ([.int .i64 0, .int .i64 0, .slice none 0 0, .slice none 0 0]) := Ob.setRow m2 ([.int .i64 0, .int .i64 0, .slice none 0 0, .slice none 0 0])
    replace m5 : Ob (w25.setRow g2 ([.int .i64 0, .int .i64 0, .slice none 0 0, .slice none 0 0] : List Value).toArray) (g5) 38 ([.int .i64 (cV 1 2 bs), .int .i64 (cV 0 255 (b1 bs)), .slice (some ⟨La, 0, none⟩) (S).length (S).length, .slice (some ⟨Lb, 0, none⟩) (P).length (P).length]) := Ob.setRow_other m5 _ nm2_5.symm
    replace bl : Below w.heap.size w (w25.setRow g2 ([.int .i64 0, .int .i64 0, .slice none 0 0, .slice none 0 0] : List Value).toArray) := bl.trans (below_setRow _ _ _ _ hw2)
    generalize w25.setRow g2 ([.int .i64 0, .int .i64 0, .slice none 0 0, .slice none 0 0] : List Value).toArray = w26b at bl m2 m5 qa qb ⊢
    clear x25
    refine wl_one (.eq (.int .i64 10)) rfl 3 rfl (by rw [sz]; decide) (st_assign (.const (.int .i64 10)) rfl rfl) ?_
    intro f27 w27 df2 sz2 old2 new2 hb
    replace bl0 := bl
    replace x2 := (old2 2 rfl).trans x2
    clear x3
    replace x4 := (old2 4 rfl).trans x4
    replace x5 := (old2 5 rfl).trans x5
    replace x24 := (old2 24 rfl).trans x24
    have x3 : f27.eval (.tmp 3) = .int .i64 10 := new2
    have lt_m2 := Ob.lt m2
    replace m2 := Ob.below m2 hb
    have lt_m5 := Ob.lt m5
    replace m5 := Ob.below m5 hb
    replace qa := Hl.below qa hb
    replace qb := Hl.below qb hb
    replace bl := (bl.trans (Below.mono hb bl.size))
    replace sz := sz2.trans sz
    replace df := df2.trans df
    clear df2 sz2 old2 new2 hb
    refine wpList_nil ?_
    show Code.wp _ _ _ _ _
    refine wp_ret ?_
    repeat (first | with_reducible refine then_ret ?_ | with_reducible refine block_ret ?_)
    exact bodyPost_ret (v := .tuple #[.agg ([.int .i64 0, .int .i64 0, .slice none 0 0, .slice none 0 0] : List Value).toArray, .int .i64 10]) (ret_sig2 rfl f27 _ g2 _ _ _ _ _ x2 m2 x3) df ⟨.inr ⟨fun k i S P h => hd ⟨(done_enc h).1, (done_enc h).2.1⟩, rfl⟩, bl⟩
  have hdb : (!t4 bs && decide (b4 bs = [])) = true := by rw [hd.1, hd.2]; rfl
  -- R7
  refine wp_all_seq [.eq (.pointer (some ⟨ib, 0, none⟩)), .eq (.bool true), .eq (.bool false)] (by kernel_rfl) (by kernel_rfl) (by rw [sz]; kernel_rfl) (by kernel_rfl) ⟨fun hw ac u K => ?_, fun hw ac u K => ?_, fun hw ac u K => ?_, trivial⟩ ?_
  · exact st_move (.tmp 4) rfl ((K.old 4 rfl).trans x4)
  · exact st_call 62 (.func 62) _ _ #[.pointer (some ⟨ib, 0, none⟩)] rfl rfl (one_arg (K.dep 0 22 rfl)) Tryd.enter62 (by have h := fk_of (in_done _ (HasI.below hI K.grow)); rw [hdb] at h; exact h)
  · exact st_not (.tmp 23) rfl true (K.dep 1 23 rfl)
  intro f24 w24 A hb
  replace bl0 := bl
  replace x2 := (A.old 2 rfl).trans x2
  replace x3 := (A.old 3 rfl).trans x3
  replace x4 := (A.old 4 rfl).trans x4
  replace x5 := (A.old 5 rfl).trans x5
  have x24 : f24.eval (.tmp 24) = .bool false := A.has 2 24 rfl
  have lt_m2 := Ob.lt m2
  replace m2 := Ob.below m2 hb
  have lt_m5 := Ob.lt m5
  replace m5 := Ob.below m5 hb
  replace hI := HasI.below hI hb
  replace qa := Hl.below qa hb
  replace qb := Hl.below qb hb
  replace bl := (bl.trans (Below.mono hb bl.size))
  replace sz := A.size.trans sz
  replace df := A.defs.trans df
  clear A hb
  show Code.wp _ _ _ _ _
  refine wp_cond_false x24 ?_
  refine wp_skip ?_
  show Code.wp _ _ _ _ _
  refine wp_seq ?_
  -- R9
  refine wp_region_seq [.eq (.agg ([.int .i64 (cV 1 2 bs), .int .i64 (cV 0 255 (b1 bs)), .slice (some ⟨La, 0, none⟩) (S).length (S).length, .slice (some ⟨Lb, 0, none⟩) (P).length (P).length] : List Value).toArray)] (by kernel_rfl) (by kernel_rfl) (by rw [sz]; kernel_rfl) (by kernel_rfl) ⟨fun hw ac u K => ?_, trivial⟩ ?_
  · exact st_loadz 38 (.tmp 5) rfl (g5) 0 [.int .i64 (cV 1 2 bs), .int .i64 (cV 0 255 (b1 bs)), .slice (some ⟨La, 0, none⟩) (S).length (S).length, .slice (some ⟨Lb, 0, none⟩) (P).length (P).length] (by kernel_rfl) (by kernel_rfl) ((K.old 5 rfl).trans x5) (Ob.range (Ob.below m5 K.grow) 0 _ (fun j v hj => by simpa using hj))
  intro f25 w25 A hb
  replace bl0 := bl
  replace x2 := (A.old 2 rfl).trans x2
  replace x3 := (A.old 3 rfl).trans x3
  replace x4 := (A.old 4 rfl).trans x4
  replace x5 := (A.old 5 rfl).trans x5
  replace x24 := (A.old 24 rfl).trans x24
  have x26 : f25.eval (.tmp 26) = .agg ([.int .i64 (cV 1 2 bs), .int .i64 (cV 0 255 (b1 bs)), .slice (some ⟨La, 0, none⟩) (S).length (S).length, .slice (some ⟨Lb, 0, none⟩) (P).length (P).length] : List Value).toArray := A.has 0 26 rfl
  have lt_m2 := Ob.lt m2
  replace m2 := Ob.below m2 hb
  have lt_m5 := Ob.lt m5
  replace m5 := Ob.below m5 hb
  replace qa := Hl.below qa hb
  replace qb := Hl.below qb hb
  replace bl := (bl.trans (Below.mono hb bl.size))
  replace sz := A.size.trans sz
  replace df := A.defs.trans df
  clear A hb
  refine wl_str rfl 38 (.tmp 2) (.tmp 26) rfl rfl (g2) ([.int .i64 (cV 1 2 bs), .int .i64 (cV 0 255 (b1 bs)), .slice (some ⟨La, 0, none⟩) (S).length (S).length, .slice (some ⟨Lb, 0, none⟩) (P).length (P).length] : List Value).toArray x2 x26 38 _ m2 (by kernel_rfl) (by kernel_rfl) (by kernel_rfl) ?_
  replace qa := Hl.onlyN qa ((Only.refl g2 _).setRow ([.int .i64 (cV 1 2 bs), .int .i64 (cV 0 255 (b1 bs)), .slice (some ⟨La, 0, none⟩) (S).length (S).length, .slice (some ⟨Lb, 0, none⟩) (P).length (P).length] : List Value).toArray) n2qa
  replace qb := Hl.onlyN qb ((Only.refl g2 _).setRow ([.int .i64 (cV 1 2 bs), .int .i64 (cV 0 255 (b1 bs)), .slice (some ⟨La, 0, none⟩) (S).length (S).length, .slice (some ⟨Lb, 0, none⟩) (P).length (P).length] : List Value).toArray) n2qb
  replace m2 : Ob (w25.setRow g2 ([.int .i64 (cV 1 2 bs), .int .i64 (cV 0 255 (b1 bs)), .slice (some ⟨La, 0, none⟩) (S).length (S).length, .slice (some ⟨Lb, 0, none⟩) (P).length (P).length] : List Value).toArray) (g2) 38 ([.int .i64 (cV 1 2 bs), .int .i64 (cV 0 255 (b1 bs)), .slice (some ⟨La, 0, none⟩) (S).length (S).length, .slice (some ⟨Lb, 0, none⟩) (P).length (P).length]) := Ob.setRow m2 ([.int .i64 (cV 1 2 bs), .int .i64 (cV 0 255 (b1 bs)), .slice (some ⟨La, 0, none⟩) (S).length (S).length, .slice (some ⟨Lb, 0, none⟩) (P).length (P).length])
  replace m5 : Ob (w25.setRow g2 ([.int .i64 (cV 1 2 bs), .int .i64 (cV 0 255 (b1 bs)), .slice (some ⟨La, 0, none⟩) (S).length (S).length, .slice (some ⟨Lb, 0, none⟩) (P).length (P).length] : List Value).toArray) (g5) 38 ([.int .i64 (cV 1 2 bs), .int .i64 (cV 0 255 (b1 bs)), .slice (some ⟨La, 0, none⟩) (S).length (S).length, .slice (some ⟨Lb, 0, none⟩) (P).length (P).length]) := Ob.setRow_other m5 _ nm2_5.symm
  replace bl : Below w.heap.size w (w25.setRow g2 ([.int .i64 (cV 1 2 bs), .int .i64 (cV 0 255 (b1 bs)), .slice (some ⟨La, 0, none⟩) (S).length (S).length, .slice (some ⟨Lb, 0, none⟩) (P).length (P).length] : List Value).toArray) := bl.trans (below_setRow _ _ _ _ hw2)
  generalize w25.setRow g2 ([.int .i64 (cV 1 2 bs), .int .i64 (cV 0 255 (b1 bs)), .slice (some ⟨La, 0, none⟩) (S).length (S).length, .slice (some ⟨Lb, 0, none⟩) (P).length (P).length] : List Value).toArray = w26b at bl m2 m5 qa qb ⊢
  clear x26
  refine wl_one (.eq (.int .i64 0)) rfl 3 rfl (by rw [sz]; decide) (st_assign (.const (.int .i64 0)) rfl rfl) ?_
  intro f27 w27 df2 sz2 old2 new2 hb
  replace bl0 := bl
  replace x2 := (old2 2 rfl).trans x2
  clear x3
  replace x4 := (old2 4 rfl).trans x4
  replace x5 := (old2 5 rfl).trans x5
  replace x24 := (old2 24 rfl).trans x24
  have x3 : f27.eval (.tmp 3) = .int .i64 0 := new2
  have lt_m2 := Ob.lt m2
  replace m2 := Ob.below m2 hb
  have lt_m5 := Ob.lt m5
  replace m5 := Ob.below m5 hb
  replace qa := Hl.below qa hb
  replace qb := Hl.below qb hb
  replace bl := (bl.trans (Below.mono hb bl.size))
  replace sz := sz2.trans sz
  replace df := df2.trans df
  clear df2 sz2 old2 new2 hb
  refine wpList_nil ?_
  show Code.wp _ _ _ _ _
  refine wp_ret ?_
  repeat (first | with_reducible refine then_ret ?_ | with_reducible refine block_ret ?_)
  have henc : Enc bs (cV 1 2 bs) (cV 0 255 (b1 bs)) S P := by
    have h := enc_done hd.1 hd.2
    rw [show pS bs = S from eS.out, show pP bs = P from eP.out] at h
    exact h
  exact bodyPost_ret (v := _) (ret_sig2 rfl f27 _ g2 _ _ _ _ _ x2 m2 x3) df ⟨.inl ⟨_, _, S, P, _, _, _, _, _, _, _, _, henc, rfl, hwLa, qa, hwLb, qb⟩, bl⟩
end Go.Proofs.YtnanipeapjpkfaaDoor
namespace Go.Proofs.YtnanipeapjpkfaaDoor
set_option maxRecDepth 100000
open Go.RowKit
theorem Ob.belowB {w w' : World} {B b : Nat} {T : TypeId} {cs : List Value} (h : Ob w b T cs) (hb : Below B w w') (hB : b < B) : Ob w' b T cs := by
  have := hb.block b hB
  unfold Ob at *
  rw [this]; exact h
theorem sigBytes_any {S P : List (List (BitVec 8))} {sA pA : Option Addr} {sC pC : Nat} (k i : Int) (hSl : S.length ≤ 1000) (hPl : P.length ≤ 1000) (w : World) (vS : (Fk.hs S).f (.slice sA (S).length sC) w) (vP : (Fk.hs P).f (.slice pA (P).length pC) w) :
    Calls Tryd.prog 27 #[.agg ([.int .i64 (k), .int .i64 (i), .slice sA (S).length sC, .slice pA (P).length pC] : List Value).toArray] w fun e w' => ∃ u, e = .returned u ∧ (Fk.sl (sgb k i S P)).f u w' ∧ Below w.heap.size w w' := by
  obtain ⟨lS, oS, fS⟩ := hs_fl vS
  obtain ⟨lP, oP, fP⟩ := hs_fl vP
  go_enter Tryd.func27, Tryd.ntmps27
  refine code_both (fun f w1 => f.tmps.size = 17 ∧ f.defers = [] ∧ f.eval (.tmp 0) = .agg ([.int .i64 (k), .int .i64 (i), .slice sA (S).length sC, .slice pA (P).length pC] : List Value).toArray ∧ Below w.heap.size w (w1)) ⟨rfl, rfl, rfl, Below.refl _ _⟩ ?_
  rintro f0 w0 ⟨sz, df, x0, bl⟩
  have bl0 := bl
  refine wp_seq ?_
  -- R0
  refine wp_region_seq [] (by kernel_rfl) (by kernel_rfl) (by rw [sz]; kernel_rfl) (by kernel_rfl) trivial ?_
  intro f1 w1 A hb
  replace bl0 := bl
  replace x0 := (A.old 0 rfl).trans x0
  replace bl := (bl.trans (Below.mono hb bl.size))
  replace sz := A.size.trans sz
  replace df := A.defs.trans df
  clear A hb
  refine wl_one (.nw w1.heap.size 38 ([.int .i64 (k), .int .i64 (i), .slice sA (S).length sC, .slice pA (P).length pC] : List Value)) rfl 1 rfl (by rw [sz]; decide) (st_box 38 (.tmp 0) rfl _ _ (by rw [show _ = _ from x0]; kernel_rfl) (Nat.le_refl _)) ?_
  intro f2 w2 df2 sz2 old2 new2 hb
  replace bl0 := bl
  replace x0 := (old2 0 rfl).trans x0
  have x1 : Fk.f (.nw w1.heap.size 38 ([.int .i64 (k), .int .i64 (i), .slice sA (S).length sC, .slice pA (P).length pC] : List Value)) (f2.eval (.tmp 1)) w2 := new2
  replace bl := (bl.trans (Below.mono hb bl.size))
  replace sz := sz2.trans sz
  replace df := df2.trans df
  clear df2 sz2 old2 new2 hb
  obtain ⟨g1, hg1, e1, m1⟩ := x1
  have x1 := e1
  clear e1
  have hw1 : w.heap.size ≤ g1 := Nat.le_trans bl0.size hg1
  clear x0
  refine wl_one (.eq (.slice none 0 0)) rfl 2 rfl (by rw [sz]; decide) (st_assign (.const (.slice none 0 0)) rfl rfl) ?_
  intro f3 w3 df2 sz2 old2 new2 hb
  replace bl0 := bl
  replace x1 := (old2 1 rfl).trans x1
  have x2 : f3.eval (.tmp 2) = .slice none 0 0 := new2
  have lt_m1 := Ob.lt m1
  replace m1 := Ob.below m1 hb
  replace bl := (bl.trans (Below.mono hb bl.size))
  replace sz := sz2.trans sz
  replace df := df2.trans df
  clear df2 sz2 old2 new2 hb
  refine wpList_nil ?_
  show Code.wp _ _ _ _ _
  refine wp_seq ?_
  -- R1
  refine wp_all_seq [.nw w3.heap.size 86 [.slice none 0 0]] (by kernel_rfl) (by kernel_rfl) (by rw [sz]; kernel_rfl) (by kernel_rfl) ⟨fun hw ac u K => ?_, trivial⟩ ?_
  · exact st_alloc 86 rfl _ _ (by kernel_rfl) K.grow.size
  intro f4 w4 A hb
  replace bl0 := bl
  replace x1 := (A.old 1 rfl).trans x1
  replace x2 := (A.old 2 rfl).trans x2
  have x3 : Fk.f (.nw w3.heap.size 86 [.slice none 0 0]) (f4.eval (.tmp 3)) w4 := A.has 0 3 rfl
  have lt_m1 := Ob.lt m1
  replace m1 := Ob.below m1 hb
  replace bl := (bl.trans (Below.mono hb bl.size))
  replace sz := A.size.trans sz
  replace df := A.defs.trans df
  clear A hb
  obtain ⟨g3, hg3, e3, m3⟩ := x3
  have x3 := e3
  clear e3
  have nm1_3 : g1 ≠ g3 := Nat.ne_of_lt (Nat.lt_of_lt_of_le lt_m1 hg3)
  have hw3 : w.heap.size ≤ g3 := Nat.le_trans bl0.size hg3
  show Code.wp _ _ _ _ _
  refine wp_seq ?_
  have lt1 : g1 < g3 := Nat.lt_of_lt_of_le lt_m1 hg3
  have hO : HasOut w4.drew g3 (.slice none 0 0) [] := out_nil m3
  have blW : Below w.heap.size w w4 := bl
  clear m3 lt_m1
  -- R2
  refine wp_region_held_drew (S := fun W => Below g3 w4 W) Tryd.mixed ((Below.refl _ _).drew) (fun hS => ?_)
  refine wh_take 0 4 (v := .pointer (some ⟨g1, 0, none⟩)) rfl rfl (by rw [sz]; decide) rfl (by kernel_rfl) (by kernel_rfl) (by kernel_rfl) (fun _ _ _ h => h) (run_field rfl x1 (fun w => by kernel_rfl)) hS ?_
  intro f6 df2 sz2 old2 new2
  replace x1 : f6.eval (.tmp 1) = .pointer (some ⟨g1, 0, none⟩) := (old2 1 rfl).trans x1
  replace x2 : f6.eval (.tmp 2) = .slice none 0 0 := (old2 2 rfl).trans x2
  replace x3 : f6.eval (.tmp 3) = .pointer (some ⟨g3, 0, none⟩) := (old2 3 rfl).trans x3
  have x4 : f6.eval (.tmp 4) = .pointer (some ⟨g1, 0, none⟩) := new2
  replace sz := sz2.trans sz
  replace df := df2.trans df
  clear df2 sz2 old2 new2
  refine wh_take 1 5 (v := .int .i64 (k)) rfl rfl (by rw [sz]; decide) rfl (by kernel_rfl) (by kernel_rfl) (by kernel_rfl) (fun _ _ _ h => h) (run_loadc rfl (fun w => by kernel_rfl) x4 (fun W hW => Ob.cell (Ob.belowB m1 hW (lt1)) 0 rfl)) hS ?_
  intro f7 df2 sz2 old2 new2
  replace x1 : f7.eval (.tmp 1) = .pointer (some ⟨g1, 0, none⟩) := (old2 1 rfl).trans x1
  replace x2 : f7.eval (.tmp 2) = .slice none 0 0 := (old2 2 rfl).trans x2
  replace x3 : f7.eval (.tmp 3) = .pointer (some ⟨g3, 0, none⟩) := (old2 3 rfl).trans x3
  replace x4 : f7.eval (.tmp 4) = .pointer (some ⟨g1, 0, none⟩) := (old2 4 rfl).trans x4
  have x5 : f7.eval (.tmp 5) = .int .i64 (k) := new2
  replace sz := sz2.trans sz
  replace df := df2.trans df
  clear df2 sz2 old2 new2
  refine wh_take 3 7 (v := .pointer (some ⟨g1, 1, none⟩)) rfl rfl (by rw [sz]; decide) rfl (by kernel_rfl) (by kernel_rfl) (by kernel_rfl) (fun _ _ _ h => h) (run_field rfl x1 (fun w => by kernel_rfl)) hS ?_
  intro f8 df2 sz2 old2 new2
  replace x1 : f8.eval (.tmp 1) = .pointer (some ⟨g1, 0, none⟩) := (old2 1 rfl).trans x1
  replace x2 : f8.eval (.tmp 2) = .slice none 0 0 := (old2 2 rfl).trans x2
  replace x3 : f8.eval (.tmp 3) = .pointer (some ⟨g3, 0, none⟩) := (old2 3 rfl).trans x3
  replace x4 : f8.eval (.tmp 4) = .pointer (some ⟨g1, 0, none⟩) := (old2 4 rfl).trans x4
  replace x5 : f8.eval (.tmp 5) = .int .i64 (k) := (old2 5 rfl).trans x5
  have x7 : f8.eval (.tmp 7) = .pointer (some ⟨g1, 1, none⟩) := new2
  replace sz := sz2.trans sz
  replace df := df2.trans df
  clear df2 sz2 old2 new2
  refine wh_take 4 8 (v := .int .i64 (i)) rfl rfl (by rw [sz]; decide) rfl (by kernel_rfl) (by kernel_rfl) (by kernel_rfl) (fun _ _ _ h => h) (run_loadc rfl (fun w => by kernel_rfl) x7 (fun W hW => Ob.cell (Ob.belowB m1 hW (lt1)) 1 rfl)) hS ?_
  intro f9 df2 sz2 old2 new2
  replace x1 : f9.eval (.tmp 1) = .pointer (some ⟨g1, 0, none⟩) := (old2 1 rfl).trans x1
  replace x2 : f9.eval (.tmp 2) = .slice none 0 0 := (old2 2 rfl).trans x2
  replace x3 : f9.eval (.tmp 3) = .pointer (some ⟨g3, 0, none⟩) := (old2 3 rfl).trans x3
  replace x4 : f9.eval (.tmp 4) = .pointer (some ⟨g1, 0, none⟩) := (old2 4 rfl).trans x4
  replace x5 : f9.eval (.tmp 5) = .int .i64 (k) := (old2 5 rfl).trans x5
  replace x7 : f9.eval (.tmp 7) = .pointer (some ⟨g1, 1, none⟩) := (old2 7 rfl).trans x7
  have x8 : f9.eval (.tmp 8) = .int .i64 (i) := new2
  replace sz := sz2.trans sz
  replace df := df2.trans df
  clear df2 sz2 old2 new2
  refine wh_take 6 10 (v := .pointer (some ⟨g1, 2, none⟩)) rfl rfl (by rw [sz]; decide) rfl (by kernel_rfl) (by kernel_rfl) (by kernel_rfl) (fun _ _ _ h => h) (run_field rfl x1 (fun w => by kernel_rfl)) hS ?_
  intro f10 df2 sz2 old2 new2
  replace x1 : f10.eval (.tmp 1) = .pointer (some ⟨g1, 0, none⟩) := (old2 1 rfl).trans x1
  replace x2 : f10.eval (.tmp 2) = .slice none 0 0 := (old2 2 rfl).trans x2
  replace x3 : f10.eval (.tmp 3) = .pointer (some ⟨g3, 0, none⟩) := (old2 3 rfl).trans x3
  replace x4 : f10.eval (.tmp 4) = .pointer (some ⟨g1, 0, none⟩) := (old2 4 rfl).trans x4
  replace x5 : f10.eval (.tmp 5) = .int .i64 (k) := (old2 5 rfl).trans x5
  replace x7 : f10.eval (.tmp 7) = .pointer (some ⟨g1, 1, none⟩) := (old2 7 rfl).trans x7
  replace x8 : f10.eval (.tmp 8) = .int .i64 (i) := (old2 8 rfl).trans x8
  have x10 : f10.eval (.tmp 10) = .pointer (some ⟨g1, 2, none⟩) := new2
  replace sz := sz2.trans sz
  replace df := df2.trans df
  clear df2 sz2 old2 new2
  refine wh_take 7 11 (v := .slice sA (S).length sC) rfl rfl (by rw [sz]; decide) rfl (by kernel_rfl) (by kernel_rfl) (by kernel_rfl) (fun _ _ _ h => h) (run_loadc rfl (fun w => by kernel_rfl) x10 (fun W hW => Ob.cell (Ob.belowB m1 hW (lt1)) 2 rfl)) hS ?_
  intro f11 df2 sz2 old2 new2
  replace x1 : f11.eval (.tmp 1) = .pointer (some ⟨g1, 0, none⟩) := (old2 1 rfl).trans x1
  replace x2 : f11.eval (.tmp 2) = .slice none 0 0 := (old2 2 rfl).trans x2
  replace x3 : f11.eval (.tmp 3) = .pointer (some ⟨g3, 0, none⟩) := (old2 3 rfl).trans x3
  replace x4 : f11.eval (.tmp 4) = .pointer (some ⟨g1, 0, none⟩) := (old2 4 rfl).trans x4
  replace x5 : f11.eval (.tmp 5) = .int .i64 (k) := (old2 5 rfl).trans x5
  replace x7 : f11.eval (.tmp 7) = .pointer (some ⟨g1, 1, none⟩) := (old2 7 rfl).trans x7
  replace x8 : f11.eval (.tmp 8) = .int .i64 (i) := (old2 8 rfl).trans x8
  replace x10 : f11.eval (.tmp 10) = .pointer (some ⟨g1, 2, none⟩) := (old2 10 rfl).trans x10
  have x11 : f11.eval (.tmp 11) = .slice sA (S).length sC := new2
  replace sz := sz2.trans sz
  replace df := df2.trans df
  clear df2 sz2 old2 new2
  refine wh_take 9 13 (v := .pointer (some ⟨g1, 3, none⟩)) rfl rfl (by rw [sz]; decide) rfl (by kernel_rfl) (by kernel_rfl) (by kernel_rfl) (fun _ _ _ h => h) (run_field rfl x1 (fun w => by kernel_rfl)) hS ?_
  intro f12 df2 sz2 old2 new2
  replace x1 : f12.eval (.tmp 1) = .pointer (some ⟨g1, 0, none⟩) := (old2 1 rfl).trans x1
  replace x2 : f12.eval (.tmp 2) = .slice none 0 0 := (old2 2 rfl).trans x2
  replace x3 : f12.eval (.tmp 3) = .pointer (some ⟨g3, 0, none⟩) := (old2 3 rfl).trans x3
  replace x4 : f12.eval (.tmp 4) = .pointer (some ⟨g1, 0, none⟩) := (old2 4 rfl).trans x4
  replace x5 : f12.eval (.tmp 5) = .int .i64 (k) := (old2 5 rfl).trans x5
  replace x7 : f12.eval (.tmp 7) = .pointer (some ⟨g1, 1, none⟩) := (old2 7 rfl).trans x7
  replace x8 : f12.eval (.tmp 8) = .int .i64 (i) := (old2 8 rfl).trans x8
  replace x10 : f12.eval (.tmp 10) = .pointer (some ⟨g1, 2, none⟩) := (old2 10 rfl).trans x10
  replace x11 : f12.eval (.tmp 11) = .slice sA (S).length sC := (old2 11 rfl).trans x11
  have x13 : f12.eval (.tmp 13) = .pointer (some ⟨g1, 3, none⟩) := new2
  replace sz := sz2.trans sz
  replace df := df2.trans df
  clear df2 sz2 old2 new2
  refine wh_take 10 14 (v := .slice pA (P).length pC) rfl rfl (by rw [sz]; decide) rfl (by kernel_rfl) (by kernel_rfl) (by kernel_rfl) (fun _ _ _ h => h) (run_loadc rfl (fun w => by kernel_rfl) x13 (fun W hW => Ob.cell (Ob.belowB m1 hW (lt1)) 3 rfl)) hS ?_
  intro f13 df2 sz2 old2 new2
  replace x1 : f13.eval (.tmp 1) = .pointer (some ⟨g1, 0, none⟩) := (old2 1 rfl).trans x1
  replace x2 : f13.eval (.tmp 2) = .slice none 0 0 := (old2 2 rfl).trans x2
  replace x3 : f13.eval (.tmp 3) = .pointer (some ⟨g3, 0, none⟩) := (old2 3 rfl).trans x3
  replace x4 : f13.eval (.tmp 4) = .pointer (some ⟨g1, 0, none⟩) := (old2 4 rfl).trans x4
  replace x5 : f13.eval (.tmp 5) = .int .i64 (k) := (old2 5 rfl).trans x5
  replace x7 : f13.eval (.tmp 7) = .pointer (some ⟨g1, 1, none⟩) := (old2 7 rfl).trans x7
  replace x8 : f13.eval (.tmp 8) = .int .i64 (i) := (old2 8 rfl).trans x8
  replace x10 : f13.eval (.tmp 10) = .pointer (some ⟨g1, 2, none⟩) := (old2 10 rfl).trans x10
  replace x11 : f13.eval (.tmp 11) = .slice sA (S).length sC := (old2 11 rfl).trans x11
  replace x13 : f13.eval (.tmp 13) = .pointer (some ⟨g1, 3, none⟩) := (old2 13 rfl).trans x13
  have x14 : f13.eval (.tmp 14) = .slice pA (P).length pC := new2
  replace sz := sz2.trans sz
  replace df := df2.trans df
  clear df2 sz2 old2 new2
  refine wh_call 2 6 rfl rfl (by rw [sz]; decide) rfl (by kernel_rfl) 53 (.func 53) _ _ #[.pointer (some ⟨g3, 0, none⟩), .int .i64 (k)] rfl rfl (arg2 x3 x5) Tryd.enter53 (fun v W => v = .pointer (some ⟨g3, 0, none⟩) ∧ ∃ v', HasOut W g3 v' ([] ++ be8 k) ∧ Put g3 (.slice none 0 0) v' w4.drew W) (by refine (oint_any g3 k (.slice none 0 0) ([]) w4.drew hO (by simp)).mono ?_; rintro e w' ⟨rfl, h⟩; exact ⟨_, rfl, rfl, h⟩) ?_
  rintro f14 w14 df2 sz2 old2 ⟨new2, u6, hO6, hP6⟩
  replace hS : Below g3 w4 w14 := hS.trans (Put.below hP6 hO _ (Nat.le_refl _))
  refine ⟨hS, ?_⟩
  replace x1 : f14.eval (.tmp 1) = .pointer (some ⟨g1, 0, none⟩) := (old2 1 rfl).trans x1
  replace x2 : f14.eval (.tmp 2) = .slice none 0 0 := (old2 2 rfl).trans x2
  replace x3 : f14.eval (.tmp 3) = .pointer (some ⟨g3, 0, none⟩) := (old2 3 rfl).trans x3
  replace x4 : f14.eval (.tmp 4) = .pointer (some ⟨g1, 0, none⟩) := (old2 4 rfl).trans x4
  replace x5 : f14.eval (.tmp 5) = .int .i64 (k) := (old2 5 rfl).trans x5
  replace x7 : f14.eval (.tmp 7) = .pointer (some ⟨g1, 1, none⟩) := (old2 7 rfl).trans x7
  replace x8 : f14.eval (.tmp 8) = .int .i64 (i) := (old2 8 rfl).trans x8
  replace x10 : f14.eval (.tmp 10) = .pointer (some ⟨g1, 2, none⟩) := (old2 10 rfl).trans x10
  replace x11 : f14.eval (.tmp 11) = .slice sA (S).length sC := (old2 11 rfl).trans x11
  replace x13 : f14.eval (.tmp 13) = .pointer (some ⟨g1, 3, none⟩) := (old2 13 rfl).trans x13
  replace x14 : f14.eval (.tmp 14) = .slice pA (P).length pC := (old2 14 rfl).trans x14
  have x6 : f14.eval (.tmp 6) = .pointer (some ⟨g3, 0, none⟩) := new2
  replace sz := sz2.trans sz
  replace df := df2.trans df
  clear df2 sz2 old2
  clear new2
  refine wh_call 5 9 rfl rfl (by rw [sz]; decide) rfl (by kernel_rfl) 53 (.func 53) _ _ #[.pointer (some ⟨g3, 0, none⟩), .int .i64 (i)] rfl rfl (arg2 x6 x8) Tryd.enter53 (fun v W => v = .pointer (some ⟨g3, 0, none⟩) ∧ ∃ v', HasOut W g3 v' ([] ++ be8 k ++ be8 i) ∧ Put g3 u6 v' w14 W) (by refine (oint_any g3 i u6 ([] ++ be8 k) w14 hO6 (by simp [be8_len])).mono ?_; rintro e w' ⟨rfl, h⟩; exact ⟨_, rfl, rfl, h⟩) ?_
  rintro f15 w15 df2 sz2 old2 ⟨new2, u9, hO9, hP9⟩
  replace hS : Below g3 w4 w15 := hS.trans (Put.below hP9 hO6 _ (Nat.le_refl _))
  refine ⟨hS, ?_⟩
  replace x1 : f15.eval (.tmp 1) = .pointer (some ⟨g1, 0, none⟩) := (old2 1 rfl).trans x1
  replace x2 : f15.eval (.tmp 2) = .slice none 0 0 := (old2 2 rfl).trans x2
  replace x3 : f15.eval (.tmp 3) = .pointer (some ⟨g3, 0, none⟩) := (old2 3 rfl).trans x3
  replace x4 : f15.eval (.tmp 4) = .pointer (some ⟨g1, 0, none⟩) := (old2 4 rfl).trans x4
  replace x5 : f15.eval (.tmp 5) = .int .i64 (k) := (old2 5 rfl).trans x5
  replace x7 : f15.eval (.tmp 7) = .pointer (some ⟨g1, 1, none⟩) := (old2 7 rfl).trans x7
  replace x8 : f15.eval (.tmp 8) = .int .i64 (i) := (old2 8 rfl).trans x8
  replace x10 : f15.eval (.tmp 10) = .pointer (some ⟨g1, 2, none⟩) := (old2 10 rfl).trans x10
  replace x11 : f15.eval (.tmp 11) = .slice sA (S).length sC := (old2 11 rfl).trans x11
  replace x13 : f15.eval (.tmp 13) = .pointer (some ⟨g1, 3, none⟩) := (old2 13 rfl).trans x13
  replace x14 : f15.eval (.tmp 14) = .slice pA (P).length pC := (old2 14 rfl).trans x14
  replace x6 : f15.eval (.tmp 6) = .pointer (some ⟨g3, 0, none⟩) := (old2 6 rfl).trans x6
  have x9 : f15.eval (.tmp 9) = .pointer (some ⟨g3, 0, none⟩) := new2
  replace sz := sz2.trans sz
  replace df := df2.trans df
  clear df2 sz2 old2
  clear new2
  refine wh_call 8 12 rfl rfl (by rw [sz]; decide) rfl (by kernel_rfl) 54 (.func 54) _ _ #[.pointer (some ⟨g3, 0, none⟩), .slice sA (S).length sC] rfl rfl (arg2 x9 x11) Tryd.enter54 (fun v W => v = .pointer (some ⟨g3, 0, none⟩) ∧ ∃ v', HasOut W g3 v' ([] ++ be8 k ++ be8 i ++ beN S.length 4 ++ S.flatten) ∧ Put g3 u9 v' w15 W) (by refine (ohashes_any g3 _ _ S.length sC sA S.flatten u9 ([] ++ be8 k ++ be8 i) w15 hO9 (Fl.below fS (blW.trans (Below.mono hS hw3)) (fun h => (fS.src h).2.1)) (fun h => Nat.lt_of_lt_of_le (fS.src h).2.1 hw3) hSl (by simp [be8_len])).mono ?_; rintro e w' ⟨rfl, h⟩; exact ⟨_, rfl, rfl, h⟩) ?_
  rintro f16 w16 df2 sz2 old2 ⟨new2, u12, hO12, hP12⟩
  replace hS : Below g3 w4 w16 := hS.trans (Put.below hP12 hO9 _ (Nat.le_refl _))
  refine ⟨hS, ?_⟩
  replace x1 : f16.eval (.tmp 1) = .pointer (some ⟨g1, 0, none⟩) := (old2 1 rfl).trans x1
  replace x2 : f16.eval (.tmp 2) = .slice none 0 0 := (old2 2 rfl).trans x2
  replace x3 : f16.eval (.tmp 3) = .pointer (some ⟨g3, 0, none⟩) := (old2 3 rfl).trans x3
  replace x4 : f16.eval (.tmp 4) = .pointer (some ⟨g1, 0, none⟩) := (old2 4 rfl).trans x4
  replace x5 : f16.eval (.tmp 5) = .int .i64 (k) := (old2 5 rfl).trans x5
  replace x7 : f16.eval (.tmp 7) = .pointer (some ⟨g1, 1, none⟩) := (old2 7 rfl).trans x7
  replace x8 : f16.eval (.tmp 8) = .int .i64 (i) := (old2 8 rfl).trans x8
  replace x10 : f16.eval (.tmp 10) = .pointer (some ⟨g1, 2, none⟩) := (old2 10 rfl).trans x10
  replace x11 : f16.eval (.tmp 11) = .slice sA (S).length sC := (old2 11 rfl).trans x11
  replace x13 : f16.eval (.tmp 13) = .pointer (some ⟨g1, 3, none⟩) := (old2 13 rfl).trans x13
  replace x14 : f16.eval (.tmp 14) = .slice pA (P).length pC := (old2 14 rfl).trans x14
  replace x6 : f16.eval (.tmp 6) = .pointer (some ⟨g3, 0, none⟩) := (old2 6 rfl).trans x6
  replace x9 : f16.eval (.tmp 9) = .pointer (some ⟨g3, 0, none⟩) := (old2 9 rfl).trans x9
  have x12 : f16.eval (.tmp 12) = .pointer (some ⟨g3, 0, none⟩) := new2
  replace sz := sz2.trans sz
  replace df := df2.trans df
  clear df2 sz2 old2
  clear new2
  refine wh_call 11 15 rfl rfl (by rw [sz]; decide) rfl (by kernel_rfl) 54 (.func 54) _ _ #[.pointer (some ⟨g3, 0, none⟩), .slice pA (P).length pC] rfl rfl (arg2 x12 x14) Tryd.enter54 (fun v W => v = .pointer (some ⟨g3, 0, none⟩) ∧ ∃ v', HasOut W g3 v' ([] ++ be8 k ++ be8 i ++ beN S.length 4 ++ S.flatten ++ beN P.length 4 ++ P.flatten) ∧ Put g3 u12 v' w16 W) (by refine (ohashes_any g3 _ _ P.length pC pA P.flatten u12 ([] ++ be8 k ++ be8 i ++ beN S.length 4 ++ S.flatten) w16 hO12 (Fl.below fP (blW.trans (Below.mono hS hw3)) (fun h => (fP.src h).2.1)) (fun h => Nat.lt_of_lt_of_le (fP.src h).2.1 hw3) hPl (by simp [be8_len, beN_len, fS.len]; try omega)).mono ?_; rintro e w' ⟨rfl, h⟩; exact ⟨_, rfl, rfl, h⟩) ?_
  rintro f17 w17 df2 sz2 old2 ⟨new2, u15, hO15, hP15⟩
  replace hS : Below g3 w4 w17 := hS.trans (Put.below hP15 hO12 _ (Nat.le_refl _))
  refine ⟨hS, ?_⟩
  replace x1 : f17.eval (.tmp 1) = .pointer (some ⟨g1, 0, none⟩) := (old2 1 rfl).trans x1
  replace x2 : f17.eval (.tmp 2) = .slice none 0 0 := (old2 2 rfl).trans x2
  replace x3 : f17.eval (.tmp 3) = .pointer (some ⟨g3, 0, none⟩) := (old2 3 rfl).trans x3
  replace x4 : f17.eval (.tmp 4) = .pointer (some ⟨g1, 0, none⟩) := (old2 4 rfl).trans x4
  replace x5 : f17.eval (.tmp 5) = .int .i64 (k) := (old2 5 rfl).trans x5
  replace x7 : f17.eval (.tmp 7) = .pointer (some ⟨g1, 1, none⟩) := (old2 7 rfl).trans x7
  replace x8 : f17.eval (.tmp 8) = .int .i64 (i) := (old2 8 rfl).trans x8
  replace x10 : f17.eval (.tmp 10) = .pointer (some ⟨g1, 2, none⟩) := (old2 10 rfl).trans x10
  replace x11 : f17.eval (.tmp 11) = .slice sA (S).length sC := (old2 11 rfl).trans x11
  replace x13 : f17.eval (.tmp 13) = .pointer (some ⟨g1, 3, none⟩) := (old2 13 rfl).trans x13
  replace x14 : f17.eval (.tmp 14) = .slice pA (P).length pC := (old2 14 rfl).trans x14
  replace x6 : f17.eval (.tmp 6) = .pointer (some ⟨g3, 0, none⟩) := (old2 6 rfl).trans x6
  replace x9 : f17.eval (.tmp 9) = .pointer (some ⟨g3, 0, none⟩) := (old2 9 rfl).trans x9
  replace x12 : f17.eval (.tmp 12) = .pointer (some ⟨g3, 0, none⟩) := (old2 12 rfl).trans x12
  have x15 : f17.eval (.tmp 15) = .pointer (some ⟨g3, 0, none⟩) := new2
  replace sz := sz2.trans sz
  replace df := df2.trans df
  clear df2 sz2 old2
  clear new2
  obtain ⟨gb, hrv⟩ := out_rv hO15
  refine wh_call 12 16 rfl rfl (by rw [sz]; decide) rfl (by kernel_rfl) 55 (.func 55) _ _ #[.pointer (some ⟨g3, 0, none⟩)] rfl rfl (one_arg x15) Tryd.enter55 (fun v W => (Fk.sl ([] ++ be8 k ++ be8 i ++ beN S.length 4 ++ S.flatten ++ beN P.length 4 ++ P.flatten)).f v W ∧ Below w17.heap.size w17 W) (by refine (all_any g3 u15 gb _ w17 hO15.1 hrv (by simp [be8_len, beN_len, fS.len, fP.len]; try omega)).mono ?_; rintro e w' ⟨v, rfl, h1, h2⟩; exact ⟨_, rfl, own_sl h1, h2⟩) ?_
  rintro f18 w18 df2 sz2 old2 ⟨new2, hb⟩
  replace hS : Below g3 w4 w18 := hS.trans (Below.mono hb (Nat.le_of_lt hO15.lt))
  refine ⟨hS, ?_⟩
  replace x1 : f18.eval (.tmp 1) = .pointer (some ⟨g1, 0, none⟩) := (old2 1 rfl).trans x1
  replace x2 : f18.eval (.tmp 2) = .slice none 0 0 := (old2 2 rfl).trans x2
  replace x3 : f18.eval (.tmp 3) = .pointer (some ⟨g3, 0, none⟩) := (old2 3 rfl).trans x3
  replace x4 : f18.eval (.tmp 4) = .pointer (some ⟨g1, 0, none⟩) := (old2 4 rfl).trans x4
  replace x5 : f18.eval (.tmp 5) = .int .i64 (k) := (old2 5 rfl).trans x5
  replace x7 : f18.eval (.tmp 7) = .pointer (some ⟨g1, 1, none⟩) := (old2 7 rfl).trans x7
  replace x8 : f18.eval (.tmp 8) = .int .i64 (i) := (old2 8 rfl).trans x8
  replace x10 : f18.eval (.tmp 10) = .pointer (some ⟨g1, 2, none⟩) := (old2 10 rfl).trans x10
  replace x11 : f18.eval (.tmp 11) = .slice sA (S).length sC := (old2 11 rfl).trans x11
  replace x13 : f18.eval (.tmp 13) = .pointer (some ⟨g1, 3, none⟩) := (old2 13 rfl).trans x13
  replace x14 : f18.eval (.tmp 14) = .slice pA (P).length pC := (old2 14 rfl).trans x14
  replace x6 : f18.eval (.tmp 6) = .pointer (some ⟨g3, 0, none⟩) := (old2 6 rfl).trans x6
  replace x9 : f18.eval (.tmp 9) = .pointer (some ⟨g3, 0, none⟩) := (old2 9 rfl).trans x9
  replace x12 : f18.eval (.tmp 12) = .pointer (some ⟨g3, 0, none⟩) := (old2 12 rfl).trans x12
  replace x15 : f18.eval (.tmp 15) = .pointer (some ⟨g3, 0, none⟩) := (old2 15 rfl).trans x15
  replace sz := sz2.trans sz
  replace df := df2.trans df
  clear df2 sz2 old2
  refine wh_assign 13 2 rfl rfl (by rw [sz]; decide) rfl (by kernel_rfl) (.tmp 16) rfl hS ?_
  intro f19 df2 sz2 old2 new3
  rw [← new3] at new2
  replace sz := sz2.trans sz
  replace df := df2.trans df
  replace bl : Below w.heap.size w w18 := blW.trans (Below.mono hS hw3)
  refine wpAnyH_done (by kernel_rfl) ?_ _
  show Code.wp _ _ _ _ _
  refine wp_ret ?_
  exact bodyPost_ret (v := f19.eval (.tmp 2)) (ret_slot rfl f19 _ rfl _ _) df ⟨_, rfl, by rw [show sgb k i S P = [] ++ be8 k ++ be8 i ++ beN S.length 4 ++ S.flatten ++ beN P.length 4 ++ P.flatten from by simp [sgb, hsb]]; exact new2, bl⟩
end Go.Proofs.YtnanipeapjpkfaaDoor
