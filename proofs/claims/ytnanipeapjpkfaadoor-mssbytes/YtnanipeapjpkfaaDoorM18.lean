/- The walk of MssBytes. -/
import Derived.Test.YtnanipeapjpkfaaDoorM17
namespace Go.Proofs.YtnanipeapjpkfaaDoor
set_option maxRecDepth 100000
open Go.RowKit
theorem take_one (A : List (List (BitVec 8))) {k : Nat} {x : List (BitVec 8)} (h : A[k]? = some x) : A.take (k + 1) = A.take k ++ [x] := by rw [List.take_add_one, h]; rfl
theorem lawHashes_any {A0 : List (List (BitVec 8))} {va : Value} (hA0 : A0.length ≤ 1000) (w : World) (hA : (Fk.hs A0).f va w) :
    Calls Tryd.prog 30 #[va] w fun e w' => ∃ u, e = .returned u ∧ (Fk.sl (hsb A0)).f u w' ∧ Below w.heap.size w w' := by
  go_enter Tryd.func30, Tryd.ntmps30
  refine code_both (fun f w1 => f.tmps.size = 19 ∧ f.defers = [] ∧ f.eval (.tmp 0) = va ∧ Below w.heap.size w (w1)) ⟨rfl, rfl, rfl, Below.refl _ _⟩ ?_
  rintro f0 w0 ⟨sz, df, x0, bl⟩
  have bl0 := bl
  refine wp_seq ?_
  -- R0
  refine wp_all_seq [.eq (.slice none 0 0)] (by kernel_rfl) (by kernel_rfl) (by rw [sz]; kernel_rfl) (by kernel_rfl) ⟨fun hw ac u K => ?_, trivial⟩ ?_
  · exact st_assign (.const (.slice none 0 0)) rfl rfl
  intro f1 w1 A hb
  replace bl0 := bl
  replace x0 := (A.old 0 rfl).trans x0
  have x2 : f1.eval (.tmp 2) = .slice none 0 0 := A.has 0 2 rfl
  replace bl := (bl.trans (Below.mono hb bl.size))
  replace sz := A.size.trans sz
  replace df := A.defs.trans df
  clear A hb
  show Code.wp _ _ _ _ _
  refine wp_seq ?_
  -- R1
  refine wp_all_seq [.ow2 w.heap.size ([])] (by kernel_rfl) (by kernel_rfl) (by rw [sz]; kernel_rfl) (by kernel_rfl) ⟨fun hw ac u K => ?_, trivial⟩ ?_
  · exact st_assign (.const (.slice none 0 0)) rfl (ow2_nil _ _)
  intro f2 w2 A hb
  replace bl0 := bl
  replace x0 := (A.old 0 rfl).trans x0
  replace x2 := (A.old 2 rfl).trans x2
  have x3 : Fk.f (.ow2 w.heap.size ([])) (f2.eval (.tmp 3)) w2 := A.has 0 3 rfl
  replace bl := (bl.trans (Below.mono hb bl.size))
  replace sz := A.size.trans sz
  replace df := A.defs.trans df
  clear A hb
  show Code.wp _ _ _ _ _
  refine wp_seq ?_
  refine wp_seq ?_
  -- R2
  refine wp_all_seq [.eq (va), .eq (.int .i64 (((A0).length : Nat) : Int)), .eq (.int .i64 0)] (by kernel_rfl) (by kernel_rfl) (by rw [sz]; kernel_rfl) (by kernel_rfl) ⟨fun hw ac u K => ?_, fun hw ac u K => ?_, fun hw ac u K => ?_, trivial⟩ ?_
  · exact st_move (.tmp 0) rfl ((K.old 0 rfl).trans x0)
  · exact st_lenh (.tmp 6) rfl (fk_val (K.dep 0 6 rfl) (Fk.mono _ _ _ _ hA (bl.trans (Below.mono K.grow bl.size))))
  · exact st_move (.const (.int .i64 0)) rfl rfl
  intro f3 w3 A hb
  replace bl0 := bl
  replace x0 := (A.old 0 rfl).trans x0
  replace x2 := (A.old 2 rfl).trans x2
  replace x3 := f_at (A.old 3 rfl) (Fk.mono _ _ _ _ x3 hb)
  have x6 : f3.eval (.tmp 6) = va := A.has 0 6 rfl
  have x7 : f3.eval (.tmp 7) = .int .i64 (((A0).length : Nat) : Int) := A.has 1 7 rfl
  have x8 : f3.eval (.tmp 8) = .int .i64 0 := A.has 2 8 rfl
  replace bl := (bl.trans (Below.mono hb bl.size))
  replace sz := A.size.trans sz
  replace df := A.defs.trans df
  clear A hb
  clear x0
  show Code.wp _ _ _ _ _
  refine wp_block ?_
  refine wp_loop (fun f v1 => ∃ k : Nat, k ≤ A0.length ∧ f.tmps.size = 19 ∧ f.defers = [] ∧ f.eval (.tmp 2) = .slice none 0 0 ∧ f.eval (.tmp 6) = va ∧ f.eval (.tmp 7) = .int .i64 (((A0).length : Nat) : Int) ∧ f.eval (.tmp 8) = .int .i64 ((k : Nat) : Int) ∧ Fk.f (.ow2 w.heap.size (A0.take k)) (f.eval (.tmp 3)) v1 ∧ Below w.heap.size w (v1)) (fun f _ => A0.length - (intOf (f.eval (.tmp 8))).toNat) ⟨0, Nat.zero_le _, sz, df, x2, x6, x7, x8, x3, bl⟩ ?_
  intro f4 w4 hI
  clear sz df bl bl0 x2 x3 x6 x7 x8
  obtain ⟨k, hk, sz, df, x2, x6, x7, x8, x3, bl⟩ := hI
  have bl0 := bl
  have hcnt := x8
  refine wp_seq ?_
  by_cases hlt : k < A0.length
  rotate_left
  · skip
    -- R3
    refine wp_all_seq [.eq (.bool false)] (by kernel_rfl) (by kernel_rfl) (by rw [sz]; kernel_rfl) (by kernel_rfl) ⟨fun hw ac u K => ?_, trivial⟩ ?_
    · exact st_lss 3 (.tmp 8) (.tmp 7) rfl .i64 (((k : Nat) : Int)) ((((A0).length : Nat) : Int)) ((K.old 8 rfl).trans x8) ((K.old 7 rfl).trans x7) _ (by first | (simp; done) | (simp; omega))
    intro f5 w5 A hb
    replace bl0 := bl
    replace x2 := (A.old 2 rfl).trans x2
    replace x3 := f_at (A.old 3 rfl) (Fk.mono _ _ _ _ x3 hb)
    replace x6 := (A.old 6 rfl).trans x6
    replace x7 := (A.old 7 rfl).trans x7
    replace x8 := (A.old 8 rfl).trans x8
    have x9 : f5.eval (.tmp 9) = .bool false := A.has 0 9 rfl
    replace bl := (bl.trans (Below.mono hb bl.size))
    replace sz := A.size.trans sz
    replace df := A.defs.trans df
    clear A hb
    show Code.wp _ _ _ _ _
    refine wp_seq ?_
    refine wp_cond_false x9 ?_
    refine wp_exit ?_
    show Code.wp _ _ _ _ _
    refine wp_seq ?_
    rw [show A0.take k = A0 from List.take_of_length_le (by omega)] at x3
    -- R7
    refine wp_all_seq [.ow2 w.heap.size (A0), .sl (hsb A0), .sl (hsb A0)] (by kernel_rfl) (by kernel_rfl) (by rw [sz]; kernel_rfl) (by kernel_rfl) ⟨fun hw ac u K => ?_, fun hw ac u K => ?_, fun hw ac u K => ?_, trivial⟩ ?_
    · exact st_move (.tmp 3) rfl (f_at (K.old 3 rfl) (Fk.mono _ _ _ _ x3 K.grow))
    · exact st_call 57 (.func 57) _ _ #[ac.eval (.tmp 17)] rfl rfl (one_arg rfl) Tryd.enter57 (fk_refHashes hA0 (K.dep 0 17 rfl))
    · exact st_assign (.tmp 18) rfl (K.dep 1 18 rfl)
    intro f6 w6 A hb
    replace bl0 := bl
    clear x2
    replace x3 := f_at (A.old 3 rfl) (Fk.mono _ _ _ _ x3 hb)
    replace x6 := (A.old 6 rfl).trans x6
    replace x7 := (A.old 7 rfl).trans x7
    replace x8 := (A.old 8 rfl).trans x8
    replace x9 := (A.old 9 rfl).trans x9
    have x2 : Fk.f (.sl (hsb A0)) (f6.eval (.tmp 2)) w6 := A.has 2 2 rfl
    replace bl := (bl.trans (Below.mono hb bl.size))
    replace sz := A.size.trans sz
    replace df := A.defs.trans df
    clear A hb
    show Code.wp _ _ _ _ _
    refine wp_ret ?_
    repeat (first | with_reducible refine then_ret ?_ | with_reducible refine block_ret ?_)
    exact bodyPost_ret (v := f6.eval (.tmp 2)) (ret_slot rfl f6 _ rfl _ _) df ⟨_, rfl, x2, bl⟩
  obtain ⟨x, hxk⟩ : ∃ p, A0[k]? = some p := ⟨_, List.getElem?_eq_getElem hlt⟩
  have hx : x.length = 32 := hs_len hA hxk
  -- R3
  refine wp_all_seq [.eq (.bool true)] (by kernel_rfl) (by kernel_rfl) (by rw [sz]; kernel_rfl) (by kernel_rfl) ⟨fun hw ac u K => ?_, trivial⟩ ?_
  · exact st_lss 3 (.tmp 8) (.tmp 7) rfl .i64 (((k : Nat) : Int)) ((((A0).length : Nat) : Int)) ((K.old 8 rfl).trans x8) ((K.old 7 rfl).trans x7) _ (by first | (simp; done) | (simp; omega))
  intro f5 w5 A hb
  replace bl0 := bl
  replace x2 := (A.old 2 rfl).trans x2
  replace x3 := f_at (A.old 3 rfl) (Fk.mono _ _ _ _ x3 hb)
  replace x6 := (A.old 6 rfl).trans x6
  replace x7 := (A.old 7 rfl).trans x7
  replace x8 := (A.old 8 rfl).trans x8
  have x9 : f5.eval (.tmp 9) = .bool true := A.has 0 9 rfl
  replace bl := (bl.trans (Below.mono hb bl.size))
  replace sz := A.size.trans sz
  replace df := A.defs.trans df
  clear A hb
  show Code.wp _ _ _ _ _
  refine wp_seq ?_
  refine wp_cond_true x9 ?_
  refine wp_skip ?_
  show Code.wp _ _ _ _ _
  refine wp_seq ?_
  refine wp_block ?_
  refine wp_seq ?_
  -- R4
  refine wp_region_seq [.ph (x), .eq (.agg ((x).map V).toArray), .nw w5.heap.size 23 ((hz).map V)] (by kernel_rfl) (by kernel_rfl) (by rw [sz]; kernel_rfl) (by kernel_rfl) ⟨fun hw ac u K => ?_, fun hw ac u K => ?_, fun hw ac u K => ?_, trivial⟩ ?_
  · exact st_idxh (.tmp 6) (.tmp 8) rfl (fk_val ((K.old 6 rfl).trans x6) (Fk.mono _ _ _ _ hA (bl.trans (Below.mono K.grow bl.size)))) (k) (x) ((K.old 8 rfl).trans x8) hxk
  · exact st_loadh (.tmp 10) rfl (K.dep 0 10 rfl)
  · exact st_alloc23 rfl _ K.grow.size
  intro f6 w6 A hb
  have S_x3 : Fk.f (.ow2 w.heap.size (A0.take k)) (f6.eval (.tmp 3)) w5 := f_at (A.old 3 rfl) x3
  have hbS0 := Below.refl w5.heap.size w5
  have hbS := hb
  replace bl0 := bl
  replace x2 := (A.old 2 rfl).trans x2
  replace x3 := f_at (A.old 3 rfl) (Fk.mono _ _ _ _ x3 hb)
  replace x6 := (A.old 6 rfl).trans x6
  replace x7 := (A.old 7 rfl).trans x7
  replace x8 := (A.old 8 rfl).trans x8
  replace x9 := (A.old 9 rfl).trans x9
  have x5 : Fk.f (.nw w5.heap.size 23 ((hz).map V)) (f6.eval (.tmp 5)) w6 := A.has 2 5 rfl
  have x11 : f6.eval (.tmp 11) = .agg ((x).map V).toArray := A.has 1 11 rfl
  replace bl := (bl.trans (Below.mono hb bl.size))
  replace sz := A.size.trans sz
  replace df := A.defs.trans df
  clear A hb
  obtain ⟨g5, hg5, e5, m5⟩ := x5
  have x5 := e5
  clear e5
  have hw5 : w.heap.size ≤ g5 := Nat.le_trans bl0.size hg5
  have hs5 := Nat.le_trans hbS0.size hg5
  refine wl_store rfl (.tmp 5) (.tmp 11) rfl rfl (g5) (x) (hz) x5 x11 m5 hz_len hx ?_
  replace m5 : Ob (w6.setRow g5 ((x).map V : List Value).toArray) (g5) 23 ((x).map V) := Ob.setRow m5 ((x).map V)
  replace hbS : Below _ _ (w6.setRow g5 ((x).map V : List Value).toArray) := hbS.trans (below_setRow _ _ _ _ hs5)
  replace bl : Below w.heap.size w (w6.setRow g5 ((x).map V : List Value).toArray) := bl.trans (below_setRow _ _ _ _ hw5)
  generalize w6.setRow g5 ((x).map V : List Value).toArray = w7b at bl m5 hbS ⊢
  replace x3 : Fk.f (.ow2 w.heap.size (A0.take k)) (f6.eval (.tmp 3)) w7b := Fk.mono _ _ _ _ S_x3 hbS
  refine wpList_nil ?_
  clear hbS hbS0 S_x3
  clear x11
  show Code.wp _ _ _ _ _
  -- R5
  refine wp_region_seq [.ow2 w.heap.size (A0.take k), .eq (.agg ((x).map V).toArray), .hs ([x])] (by kernel_rfl) (by kernel_rfl) (by rw [sz]; kernel_rfl) (by kernel_rfl) ⟨fun hw ac u K => ?_, fun hw ac u K => ?_, fun hw ac u K => ?_, trivial⟩ ?_
  · exact st_move (.tmp 3) rfl (f_at (K.old 3 rfl) (Fk.mono _ _ _ _ x3 K.grow))
  · exact st_load23 (.tmp 5) rfl (g5) (x) ((K.old 5 rfl).trans x5) hx (Ob.below m5 K.grow)
  · exact st_bh2 (.tmp 13) rfl hx (K.dep 1 13 rfl)
  intro f8 w8 A hb
  replace bl0 := bl
  replace x2 := (A.old 2 rfl).trans x2
  replace x3 := f_at (A.old 3 rfl) (Fk.mono _ _ _ _ x3 hb)
  replace x6 := (A.old 6 rfl).trans x6
  replace x7 := (A.old 7 rfl).trans x7
  replace x8 := (A.old 8 rfl).trans x8
  replace x9 := (A.old 9 rfl).trans x9
  replace x5 := (A.old 5 rfl).trans x5
  have x12 : Fk.f (.ow2 w.heap.size (A0.take k)) (f8.eval (.tmp 12)) w8 := A.has 0 12 rfl
  have x14 : Fk.f (.hs ([x])) (f8.eval (.tmp 14)) w8 := A.has 2 14 rfl
  have lt_m5 := Ob.lt m5
  replace m5 := Ob.below m5 hb
  replace bl := (bl.trans (Below.mono hb bl.size))
  replace sz := A.size.trans sz
  replace df := A.defs.trans df
  clear A hb
  refine wl_append2 rfl (.tmp 12) (.tmp 14) rfl 15 rfl (by rw [sz]; decide) x12 x14 bl (by rw [List.length_take]; omega) ?_
  intro f9 w9 df2 sz2 old2 new2 bl2
  clear x3
  clear x12
  clear x14
  replace x2 := (old2 2 rfl).trans x2
  replace x6 := (old2 6 rfl).trans x6
  replace x7 := (old2 7 rfl).trans x7
  replace x8 := (old2 8 rfl).trans x8
  replace x9 := (old2 9 rfl).trans x9
  replace x5 := (old2 5 rfl).trans x5
  clear m5
  have x15 : Fk.f (.ow2 w.heap.size (A0.take k ++ [x])) (f9.eval (.tmp 15)) w9 := new2
  replace bl := bl2
  replace bl0 := bl
  replace sz := sz2.trans sz
  replace df := df2.trans df
  clear df2 sz2 old2 new2 bl2
  refine wl_one (.ow2 w.heap.size (A0.take k ++ [x])) rfl 3 rfl (by rw [sz]; decide) (st_assign (.tmp 15) rfl x15) ?_
  intro f10 w10 df2 sz2 old2 new2 hb
  replace bl0 := bl
  replace x2 := (old2 2 rfl).trans x2
  replace x6 := (old2 6 rfl).trans x6
  replace x7 := (old2 7 rfl).trans x7
  replace x8 := (old2 8 rfl).trans x8
  replace x9 := (old2 9 rfl).trans x9
  replace x5 := (old2 5 rfl).trans x5
  replace x15 := f_at (old2 15 rfl) (Fk.mono _ _ _ _ x15 hb)
  have x3 : Fk.f (.ow2 w.heap.size (A0.take k ++ [x])) (f10.eval (.tmp 3)) w10 := new2
  replace bl := (bl.trans (Below.mono hb bl.size))
  replace sz := sz2.trans sz
  replace df := df2.trans df
  clear df2 sz2 old2 new2 hb
  refine wpList_nil ?_
  clear x15
  show Code.wp _ _ _ _ _
  -- R6
  refine wp_region_seq [.eq (.int .i64 ((k + 1 : Nat) : Int))] (by kernel_rfl) (by kernel_rfl) (by rw [sz]; kernel_rfl) (by kernel_rfl) ⟨fun hw ac u K => ?_, trivial⟩ ?_
  · exact st_add (.tmp 8) (.const (.int .i64 1)) rfl (k) (1) (k + 1) ((K.old 8 rfl).trans x8) rfl (by omega) (by omega)
  intro f11 w11 A hb
  replace bl0 := bl
  replace x2 := (A.old 2 rfl).trans x2
  replace x6 := (A.old 6 rfl).trans x6
  replace x7 := (A.old 7 rfl).trans x7
  replace x8 := (A.old 8 rfl).trans x8
  replace x9 := (A.old 9 rfl).trans x9
  replace x5 := (A.old 5 rfl).trans x5
  replace x3 := f_at (A.old 3 rfl) (Fk.mono _ _ _ _ x3 hb)
  have x16 : f11.eval (.tmp 16) = .int .i64 ((k + 1 : Nat) : Int) := A.has 0 16 rfl
  replace bl := (bl.trans (Below.mono hb bl.size))
  replace sz := A.size.trans sz
  replace df := A.defs.trans df
  clear A hb
  refine wl_one (.eq (.int .i64 ((k + 1 : Nat) : Int))) rfl 8 rfl (by rw [sz]; decide) (st_move (.tmp 16) rfl x16) ?_
  intro f12 w12 df2 sz2 old2 new2 hb
  replace bl0 := bl
  replace x2 := (old2 2 rfl).trans x2
  replace x6 := (old2 6 rfl).trans x6
  replace x7 := (old2 7 rfl).trans x7
  clear x8
  replace x9 := (old2 9 rfl).trans x9
  replace x5 := (old2 5 rfl).trans x5
  replace x3 := f_at (old2 3 rfl) (Fk.mono _ _ _ _ x3 hb)
  replace x16 := (old2 16 rfl).trans x16
  have x8 : f12.eval (.tmp 8) = .int .i64 ((k + 1 : Nat) : Int) := new2
  replace bl := (bl.trans (Below.mono hb bl.size))
  replace sz := sz2.trans sz
  replace df := df2.trans df
  clear df2 sz2 old2 new2 hb
  refine wpList_nil ?_
  clear x16
  show (∃ _, _) ∧ _
  replace x3 : Fk.f (.ow2 w.heap.size (A0.take (k + 1))) (f12.eval (.tmp 3)) w12 := (by rw [take_one A0 hxk]; exact x3)
  refine ⟨⟨k + 1, by omega, sz, df, x2, x6, x7, x8, x3, bl⟩, ?_⟩
  rw [show f12.eval (.tmp 8) = _ from x8, show _ = _ from hcnt]
  simp [intOf]
  omega
theorem hs_all {P : List (List (BitVec 8))} {v : Value} {w : World} (h : (Fk.hs P).f v w) : ∀ (i : Nat) (x : List (BitVec 8)), P[i]? = some x → x.length = 32 := fun _ _ hx => hs_len h hx
theorem sgb_len {S P : List (List (BitVec 8))} {v u : Value} {w : World} {k i : Int} (hS : (Fk.hs S).f v w) (hP : (Fk.hs P).f u w) (h1 : S.length ≤ 1000) (h2 : P.length ≤ 1000) : (sgb k i S P).length ≤ 900000 := by
  have e1 := flat_len2 S (hs_all hS)
  have e2 := flat_len2 P (hs_all hP)
  unfold sgb hsb
  simp only [List.length_append, be8_len, beN_len, e1, e2]
  omega
/-- The bytes tell the signature. -/
theorem enc_only {B : List (BitVec 8)} {k i k0 i0 : Int} {S P S0 P0 : List (List (BitVec 8))} (e : sgb k i S P = B) (hk : -9223372036854775808 ≤ k ∧ k ≤ 9223372036854775807) (hi : -9223372036854775808 ≤ i ∧ i ≤ 9223372036854775807) (hS : S.length ≤ 1000) (hP : P.length ≤ 1000)
    (s32 : ∀ (i : Nat) (x : List (BitVec 8)), S[i]? = some x → x.length = 32) (_p32 : ∀ (i : Nat) (x : List (BitVec 8)), P[i]? = some x → x.length = 32) (h : Enc B k0 i0 S0 P0) : 1 ≤ k ∧ k ≤ 2 ∧ 0 ≤ i ∧ i ≤ 255 ∧ S.length ≤ 512 ∧ P.length ≤ 8 := by
  have e1 : be8 k ++ (be8 i ++ (hsb S ++ hsb P)) = be8 k0 ++ (be8 i0 ++ (hsb S0 ++ hsb P0)) := by
    have h1 := e.trans h.is
    unfold sgb at h1
    simpa only [List.append_assoc] using h1
  obtain ⟨a1, a2⟩ := List.append_inj e1 (by rw [be8_len, be8_len])
  obtain ⟨a3, a4⟩ := List.append_inj a2 (by rw [be8_len, be8_len])
  have r1 : k = k0 := by
    have x1 := rdI_be8 k [] hk.1 hk.2
    have x2 := rdI_be8 k0 [] (by have := h.k1; omega) (by have := h.k2; omega)
    rw [a1] at x1
    exact x1.symm.trans x2
  have r2 : i = i0 := by
    have x1 := rdI_be8 i [] hi.1 hi.2
    have x2 := rdI_be8 i0 [] (by have := h.i0; omega) (by have := h.i1; omega)
    rw [a3] at x1
    exact x1.symm.trans x2
  have e4 : beN S.length 4 ++ (S.flatten ++ hsb P) = beN S0.length 4 ++ (S0.flatten ++ hsb P0) := by
    unfold hsb at a4 ⊢
    simpa only [List.append_assoc] using a4
  obtain ⟨a5, a6⟩ := List.append_inj e4 (by rw [beN_len, beN_len])
  have r3 : S.length = S0.length := by
    have x1 := lt256 S.length (by omega)
    have x2 := lt256 S0.length (by have := h.s1; omega)
    rw [a5] at x1
    exact x1.symm.trans x2
  obtain ⟨_, a7⟩ := List.append_inj a6 (by rw [flat_len2 S s32, flat_len2 S0 h.s32, r3])
  unfold hsb at a7
  obtain ⟨a8, _⟩ := List.append_inj a7 (by rw [beN_len, beN_len])
  have r4 : P.length = P0.length := by
    have x1 := lt256 P.length (by omega)
    have x2 := lt256 P0.length (by have := h.p1; omega)
    rw [a8] at x1
    exact x1.symm.trans x2
  rw [r1, r2, r3, r4]
  exact ⟨h.k1, h.k2, h.i0, h.i1, h.s1, h.p1⟩
set_option maxHeartbeats 1000000 in
theorem bytes_law {S P : List (List (BitVec 8))} {sA pA : Option Addr} {sC pC : Nat} (k i : Int) (hkr : -9223372036854775808 ≤ k ∧ k ≤ 9223372036854775807) (hir : -9223372036854775808 ≤ i ∧ i ≤ 9223372036854775807) (w : World) (hK : Tab w) (vS : (Fk.hs S).f (.slice sA (S).length sC) w) (vP : (Fk.hs P).f (.slice pA (P).length pC) w) :
    Calls Tryd.prog 5 #[.agg ([.int .i64 (k), .int .i64 (i), .slice sA (S).length sC, .slice pA (P).length pC] : List Value).toArray] w fun e w' => e = .returned (.bool true) ∧ Below w.heap.size w w' := by
  go_enter Tryd.func5, Tryd.ntmps5
  refine code_both (fun f w1 => f.tmps.size = 100 ∧ f.defers = [] ∧ f.eval (.tmp 0) = .agg ([.int .i64 (k), .int .i64 (i), .slice sA (S).length sC, .slice pA (P).length pC] : List Value).toArray ∧ Below w.heap.size w (w1)) ⟨rfl, rfl, rfl, Below.refl _ _⟩ ?_
  rintro f0 w0 ⟨sz, df, x0, bl⟩
  have bl0 := bl
  refine wp_seq ?_
  -- R0
  refine wp_region_seq [] (by kernel_rfl) (by kernel_rfl) (by rw [sz]; kernel_rfl) (by kernel_rfl) trivial ?_
  intro f1 w1 A hb
  replace bl0 := bl
  replace x0 := (A.old 0 rfl).trans x0
  replace bl := (bl.trans (Below.mono hb bl.size))
  replace sz := A.size.trans sz
  replace df := A.defs.trans df
  clear A hb
  refine wl_one (.nw w1.heap.size 38 ([.int .i64 (k), .int .i64 (i), .slice sA (S).length sC, .slice pA (P).length pC] : List Value)) rfl 1 rfl (by rw [sz]; decide) (st_box 38 (.tmp 0) rfl _ _ (by rw [show _ = _ from x0]; kernel_rfl) (Nat.le_refl _)) ?_
  intro f2 w2 df2 sz2 old2 new2 hb
  replace bl0 := bl
  replace x0 := (old2 0 rfl).trans x0
  have x1 : Fk.f (.nw w1.heap.size 38 ([.int .i64 (k), .int .i64 (i), .slice sA (S).length sC, .slice pA (P).length pC] : List Value)) (f2.eval (.tmp 1)) w2 := new2
  replace bl := (bl.trans (Below.mono hb bl.size))
  replace sz := sz2.trans sz
  replace df := df2.trans df
  clear df2 sz2 old2 new2 hb
  obtain ⟨g1, hg1, e1, m1⟩ := x1
  have x1 := e1
  clear e1
  have hw1 : w.heap.size ≤ g1 := Nat.le_trans bl0.size hg1
  clear x0
  refine wl_one (.eq (.bool false)) rfl 2 rfl (by rw [sz]; decide) (st_assign (.const (.bool false)) rfl rfl) ?_
  intro f3 w3 df2 sz2 old2 new2 hb
  replace bl0 := bl
  replace x1 := (old2 1 rfl).trans x1
  have x2 : f3.eval (.tmp 2) = .bool false := new2
  have lt_m1 := Ob.lt m1
  replace m1 := Ob.below m1 hb
  replace bl := (bl.trans (Below.mono hb bl.size))
  replace sz := sz2.trans sz
  replace df := df2.trans df
  clear df2 sz2 old2 new2 hb
  refine wpList_nil ?_
  show Code.wp _ _ _ _ _
  refine wp_seq ?_
  refine wp_seq ?_
  by_cases hS6 : S.length ≤ 600
  rotate_left
  · skip
    -- R1
    refine wp_all_seq [.eq (.pointer (some ⟨g1, 2, none⟩)), .eq (.slice sA (S).length sC), .eq (.int .i64 (((S).length : Nat) : Int)), .eq (.bool true), .eq (.bool true), .any, .any, .any, .any, .eq (.bool true)] (by kernel_rfl) (by kernel_rfl) (by rw [sz]; kernel_rfl) (by kernel_rfl) ⟨fun hw ac u K => ?_, fun hw ac u K => ?_, fun hw ac u K => ?_, fun hw ac u K => ?_, fun hw ac u K => ?_, fun hw ac u K => ?_, fun hw ac u K => ?_, fun hw ac u K => ?_, fun hw ac u K => ?_, fun hw ac u K => ?_, trivial⟩ ?_
    · exact st_field 38 2 (.tmp 1) rfl ((K.old 1 rfl).trans x1) (by kernel_rfl)
    · exact st_loadc 32 (.tmp 7) rfl (by kernel_rfl) (K.dep 0 7 rfl) (Ob.cell (Ob.below m1 K.grow) 2 rfl)
    · exact st_lenh (.tmp 8) rfl (fk_val (K.dep 1 8 rfl) (Fk.mono _ _ _ _ vS (bl.trans (Below.mono K.grow bl.size))))
    · exact st_gtr 3 (.tmp 9) (.const (.int .i64 600)) rfl .i64 ((((S).length : Nat) : Int)) (600) (K.dep 2 9 rfl) rfl _ (by rw [eq_comm, decide_eq_true_iff]; omega)
    · exact st_move (.tmp 10) rfl (K.dep 3 10 rfl)
    · exact (Bool.false_ne_true hw).elim
    · exact (Bool.false_ne_true hw).elim
    · exact (Bool.false_ne_true hw).elim
    · exact (Bool.false_ne_true hw).elim
    · exact st_pick_t (.tmp 11) (.const (.bool true)) (.tmp 15) rfl (K.dep 4 11 rfl) rfl
    intro f4 w4 A hb
    replace bl0 := bl
    replace x1 := (A.old 1 rfl).trans x1
    replace x2 := (A.old 2 rfl).trans x2
    have x16 : f4.eval (.tmp 16) = .bool true := A.has 9 16 rfl
    have lt_m1 := Ob.lt m1
    replace m1 := Ob.below m1 hb
    replace bl := (bl.trans (Below.mono hb bl.size))
    replace sz := A.size.trans sz
    replace df := A.defs.trans df
    clear A hb
    show Code.wp _ _ _ _ _
    refine wp_cond_true x16 ?_
    refine wp_seq ?_
    -- R2
    refine wp_all_seq [.eq (.bool true), .eq (.bool true)] (by kernel_rfl) (by kernel_rfl) (by rw [sz]; kernel_rfl) (by kernel_rfl) ⟨fun hw ac u K => ?_, fun hw ac u K => ?_, trivial⟩ ?_
    · exact st_call 8 (.func 8) _ _ #[] rfl rfl rfl Tryd.enter8 (fk_of (awake_any _ (hK.below (bl.trans (Below.mono K.grow bl.size)))))
    · exact st_assign (.tmp 17) rfl (K.dep 0 17 rfl)
    intro f5 w5 A hb
    replace bl0 := bl
    replace x1 := (A.old 1 rfl).trans x1
    clear x2
    replace x16 := (A.old 16 rfl).trans x16
    have x2 : f5.eval (.tmp 2) = .bool true := A.has 1 2 rfl
    have lt_m1 := Ob.lt m1
    replace m1 := Ob.below m1 hb
    replace bl := (bl.trans (Below.mono hb bl.size))
    replace sz := A.size.trans sz
    replace df := A.defs.trans df
    clear A hb
    show Code.wp _ _ _ _ _
    refine wp_ret ?_
    repeat (first | with_reducible refine then_ret ?_ | with_reducible refine block_ret ?_)
    exact bodyPost_ret (v := .bool true) (ret_slot rfl f5 _ x2 _ _) df ⟨rfl, bl⟩
  by_cases hP2 : P.length ≤ 20
  rotate_left
  · skip
    -- R1
    refine wp_all_seq [.eq (.pointer (some ⟨g1, 2, none⟩)), .eq (.slice sA (S).length sC), .eq (.int .i64 (((S).length : Nat) : Int)), .eq (.bool false), .eq (.bool false), .eq (.pointer (some ⟨g1, 3, none⟩)), .eq (.slice pA (P).length pC), .eq (.int .i64 (((P).length : Nat) : Int)), .eq (.bool true), .eq (.bool true)] (by kernel_rfl) (by kernel_rfl) (by rw [sz]; kernel_rfl) (by kernel_rfl) ⟨fun hw ac u K => ?_, fun hw ac u K => ?_, fun hw ac u K => ?_, fun hw ac u K => ?_, fun hw ac u K => ?_, fun hw ac u K => ?_, fun hw ac u K => ?_, fun hw ac u K => ?_, fun hw ac u K => ?_, fun hw ac u K => ?_, trivial⟩ ?_
    · exact st_field 38 2 (.tmp 1) rfl ((K.old 1 rfl).trans x1) (by kernel_rfl)
    · exact st_loadc 32 (.tmp 7) rfl (by kernel_rfl) (K.dep 0 7 rfl) (Ob.cell (Ob.below m1 K.grow) 2 rfl)
    · exact st_lenh (.tmp 8) rfl (fk_val (K.dep 1 8 rfl) (Fk.mono _ _ _ _ vS (bl.trans (Below.mono K.grow bl.size))))
    · exact st_gtr 3 (.tmp 9) (.const (.int .i64 600)) rfl .i64 ((((S).length : Nat) : Int)) (600) (K.dep 2 9 rfl) rfl _ (by rw [eq_comm, decide_eq_false_iff_not]; omega)
    · exact st_move (.tmp 10) rfl (K.dep 3 10 rfl)
    · exact st_field 38 3 (.tmp 1) rfl ((K.old 1 rfl).trans x1) (by kernel_rfl)
    · exact st_loadc 32 (.tmp 12) rfl (by kernel_rfl) (K.dep 5 12 rfl) (Ob.cell (Ob.below m1 K.grow) 3 rfl)
    · exact st_lenh (.tmp 13) rfl (fk_val (K.dep 6 13 rfl) (Fk.mono _ _ _ _ vP (bl.trans (Below.mono K.grow bl.size))))
    · exact st_gtr 3 (.tmp 14) (.const (.int .i64 20)) rfl .i64 ((((P).length : Nat) : Int)) (20) (K.dep 7 14 rfl) rfl _ (by rw [eq_comm, decide_eq_true_iff]; omega)
    · exact st_pick_f' (.tmp 11) (.const (.bool true)) (.tmp 15) rfl (K.dep 4 11 rfl) (K.dep 8 15 rfl)
    intro f4 w4 A hb
    replace bl0 := bl
    replace x1 := (A.old 1 rfl).trans x1
    replace x2 := (A.old 2 rfl).trans x2
    have x16 : f4.eval (.tmp 16) = .bool true := A.has 9 16 rfl
    have lt_m1 := Ob.lt m1
    replace m1 := Ob.below m1 hb
    replace bl := (bl.trans (Below.mono hb bl.size))
    replace sz := A.size.trans sz
    replace df := A.defs.trans df
    clear A hb
    show Code.wp _ _ _ _ _
    refine wp_cond_true x16 ?_
    refine wp_seq ?_
    -- R2
    refine wp_all_seq [.eq (.bool true), .eq (.bool true)] (by kernel_rfl) (by kernel_rfl) (by rw [sz]; kernel_rfl) (by kernel_rfl) ⟨fun hw ac u K => ?_, fun hw ac u K => ?_, trivial⟩ ?_
    · exact st_call 8 (.func 8) _ _ #[] rfl rfl rfl Tryd.enter8 (fk_of (awake_any _ (hK.below (bl.trans (Below.mono K.grow bl.size)))))
    · exact st_assign (.tmp 17) rfl (K.dep 0 17 rfl)
    intro f5 w5 A hb
    replace bl0 := bl
    replace x1 := (A.old 1 rfl).trans x1
    clear x2
    replace x16 := (A.old 16 rfl).trans x16
    have x2 : f5.eval (.tmp 2) = .bool true := A.has 1 2 rfl
    have lt_m1 := Ob.lt m1
    replace m1 := Ob.below m1 hb
    replace bl := (bl.trans (Below.mono hb bl.size))
    replace sz := A.size.trans sz
    replace df := A.defs.trans df
    clear A hb
    show Code.wp _ _ _ _ _
    refine wp_ret ?_
    repeat (first | with_reducible refine then_ret ?_ | with_reducible refine block_ret ?_)
    exact bodyPost_ret (v := .bool true) (ret_slot rfl f5 _ x2 _ _) df ⟨rfl, bl⟩
  -- R1
  refine wp_all_seq [.eq (.pointer (some ⟨g1, 2, none⟩)), .eq (.slice sA (S).length sC), .eq (.int .i64 (((S).length : Nat) : Int)), .eq (.bool false), .eq (.bool false), .eq (.pointer (some ⟨g1, 3, none⟩)), .eq (.slice pA (P).length pC), .eq (.int .i64 (((P).length : Nat) : Int)), .eq (.bool false), .eq (.bool false)] (by kernel_rfl) (by kernel_rfl) (by rw [sz]; kernel_rfl) (by kernel_rfl) ⟨fun hw ac u K => ?_, fun hw ac u K => ?_, fun hw ac u K => ?_, fun hw ac u K => ?_, fun hw ac u K => ?_, fun hw ac u K => ?_, fun hw ac u K => ?_, fun hw ac u K => ?_, fun hw ac u K => ?_, fun hw ac u K => ?_, trivial⟩ ?_
  · exact st_field 38 2 (.tmp 1) rfl ((K.old 1 rfl).trans x1) (by kernel_rfl)
  · exact st_loadc 32 (.tmp 7) rfl (by kernel_rfl) (K.dep 0 7 rfl) (Ob.cell (Ob.below m1 K.grow) 2 rfl)
  · exact st_lenh (.tmp 8) rfl (fk_val (K.dep 1 8 rfl) (Fk.mono _ _ _ _ vS (bl.trans (Below.mono K.grow bl.size))))
  · exact st_gtr 3 (.tmp 9) (.const (.int .i64 600)) rfl .i64 ((((S).length : Nat) : Int)) (600) (K.dep 2 9 rfl) rfl _ (by rw [eq_comm, decide_eq_false_iff_not]; omega)
  · exact st_move (.tmp 10) rfl (K.dep 3 10 rfl)
  · exact st_field 38 3 (.tmp 1) rfl ((K.old 1 rfl).trans x1) (by kernel_rfl)
  · exact st_loadc 32 (.tmp 12) rfl (by kernel_rfl) (K.dep 5 12 rfl) (Ob.cell (Ob.below m1 K.grow) 3 rfl)
  · exact st_lenh (.tmp 13) rfl (fk_val (K.dep 6 13 rfl) (Fk.mono _ _ _ _ vP (bl.trans (Below.mono K.grow bl.size))))
  · exact st_gtr 3 (.tmp 14) (.const (.int .i64 20)) rfl .i64 ((((P).length : Nat) : Int)) (20) (K.dep 7 14 rfl) rfl _ (by rw [eq_comm, decide_eq_false_iff_not]; omega)
  · exact st_pick_f' (.tmp 11) (.const (.bool true)) (.tmp 15) rfl (K.dep 4 11 rfl) (K.dep 8 15 rfl)
  intro f4 w4 A hb
  replace bl0 := bl
  replace x1 := (A.old 1 rfl).trans x1
  replace x2 := (A.old 2 rfl).trans x2
  have x16 : f4.eval (.tmp 16) = .bool false := A.has 9 16 rfl
  have lt_m1 := Ob.lt m1
  replace m1 := Ob.below m1 hb
  replace bl := (bl.trans (Below.mono hb bl.size))
  replace sz := A.size.trans sz
  replace df := A.defs.trans df
  clear A hb
  show Code.wp _ _ _ _ _
  refine wp_cond_false x16 ?_
  refine wp_skip ?_
  show Code.wp _ _ _ _ _
  refine wp_seq ?_
  obtain ⟨B, eB⟩ : ∃ B, Box (sgb k i S P = B) := ⟨_, ⟨rfl⟩⟩
  have hBp : 0 < B.length := by rw [← eB.out]; exact sgb_pos k i S P
  have hBl : B.length ≤ 900000 := by
    rw [← eB.out]
    exact sgb_len vS vP (by omega) (by omega)
  have eB2 : be8 k ++ (be8 i ++ (hsb S ++ hsb P)) = B := by rw [← eB.out]; unfold sgb; simp only [List.append_assoc]
  -- R3
  refine wp_all_seq [.eq (.agg ([.int .i64 (k), .int .i64 (i), .slice sA (S).length sC, .slice pA (P).length pC] : List Value).toArray), .sl (B), .sl (B)] (by kernel_rfl) (by kernel_rfl) (by rw [sz]; kernel_rfl) (by kernel_rfl) ⟨fun hw ac u K => ?_, fun hw ac u K => ?_, fun hw ac u K => ?_, trivial⟩ ?_
  · exact st_loadz 38 (.tmp 1) rfl (g1) 0 [.int .i64 (k), .int .i64 (i), .slice sA (S).length sC, .slice pA (P).length pC] (by kernel_rfl) (by kernel_rfl) ((K.old 1 rfl).trans x1) (Ob.range (Ob.below m1 K.grow) 0 _ (fun j v hj => by simpa using hj))
  · exact st_call 27 (.func 27) _ _ #[.agg ([.int .i64 (k), .int .i64 (i), .slice sA (S).length sC, .slice pA (P).length pC] : List Value).toArray] rfl rfl (one_arg (K.dep 0 18 rfl)) Tryd.enter27 (by have h := sigBytes_any k i (by omega) (by omega) _ (Fk.mono _ _ _ _ vS (bl.trans (Below.mono K.grow bl.size))) (Fk.mono _ _ _ _ vP (bl.trans (Below.mono K.grow bl.size))); rw [eB.out] at h; exact h)
  · exact st_assign (.tmp 19) rfl (K.dep 1 19 rfl)
  intro f5 w5 A hb
  replace bl0 := bl
  replace x1 := (A.old 1 rfl).trans x1
  replace x2 := (A.old 2 rfl).trans x2
  replace x16 := (A.old 16 rfl).trans x16
  have x3 : Fk.f (.sl (B)) (f5.eval (.tmp 3)) w5 := A.has 2 3 rfl
  have lt_m1 := Ob.lt m1
  replace m1 := Ob.below m1 hb
  replace bl := (bl.trans (Below.mono hb bl.size))
  replace sz := A.size.trans sz
  replace df := A.defs.trans df
  clear A hb
  show Code.wp _ _ _ _ _
  refine wp_seq ?_
  -- R4
  refine wp_all [.eq (.pointer (some ⟨g1, 0, none⟩)), .eq (.int .i64 (k)), .sl (be8 k), .eq (.pointer (some ⟨g1, 1, none⟩)), .eq (.int .i64 (i)), .sl (be8 i), .eq (.pointer (some ⟨g1, 2, none⟩)), .eq (.slice sA (S).length sC), .sl (hsb S), .eq (.pointer (some ⟨g1, 3, none⟩)), .eq (.slice pA (P).length pC), .sl (hsb P), .ls 4 B, .sl (B), .sl (B)] Tryd.mixed (by kernel_rfl) (by kernel_rfl) (by rw [sz]; kernel_rfl) (by kernel_rfl) ⟨fun hw ac u K => ?_, fun hw ac u K => ?_, fun hw ac u K => ?_, fun hw ac u K => ?_, fun hw ac u K => ?_, fun hw ac u K => ?_, fun hw ac u K => ?_, fun hw ac u K => ?_, fun hw ac u K => ?_, fun hw ac u K => ?_, fun hw ac u K => ?_, fun hw ac u K => ?_, fun hw ac u K => ?_, fun hw ac u K => ?_, fun hw ac u K => ?_, trivial⟩ ?_
  · exact st_field 38 0 (.tmp 1) rfl ((K.old 1 rfl).trans x1) (by kernel_rfl)
  · exact st_loadc 3 (.tmp 20) rfl (by kernel_rfl) (K.dep 0 20 rfl) (Ob.cell (Ob.below m1 K.grow) 0 rfl)
  · exact st_call 29 (.func 29) _ _ #[.int .i64 (k)] rfl rfl (one_arg (K.dep 1 21 rfl)) Tryd.enter29 (fk_refInt k _)
  · exact st_field 38 1 (.tmp 1) rfl ((K.old 1 rfl).trans x1) (by kernel_rfl)
  · exact st_loadc 3 (.tmp 23) rfl (by kernel_rfl) (K.dep 3 23 rfl) (Ob.cell (Ob.below m1 K.grow) 1 rfl)
  · exact st_call 29 (.func 29) _ _ #[.int .i64 (i)] rfl rfl (one_arg (K.dep 4 24 rfl)) Tryd.enter29 (fk_refInt i _)
  · exact st_field 38 2 (.tmp 1) rfl ((K.old 1 rfl).trans x1) (by kernel_rfl)
  · exact st_loadc 32 (.tmp 26) rfl (by kernel_rfl) (K.dep 6 26 rfl) (Ob.cell (Ob.below m1 K.grow) 2 rfl)
  · exact st_call 30 (.func 30) _ _ #[.slice sA (S).length sC] rfl rfl (one_arg (K.dep 7 27 rfl)) Tryd.enter30 (lawHashes_any (by omega) _ (Fk.mono _ _ _ _ vS (bl.trans (Below.mono K.grow bl.size))))
  · exact st_field 38 3 (.tmp 1) rfl ((K.old 1 rfl).trans x1) (by kernel_rfl)
  · exact st_loadc 32 (.tmp 29) rfl (by kernel_rfl) (K.dep 9 29 rfl) (Ob.cell (Ob.below m1 K.grow) 3 rfl)
  · exact st_call 30 (.func 30) _ _ #[.slice pA (P).length pC] rfl rfl (one_arg (K.dep 10 30 rfl)) Tryd.enter30 (lawHashes_any (by omega) _ (Fk.mono _ _ _ _ vP (bl.trans (Below.mono K.grow bl.size))))
  · exact by rw [← eB2]; exact st_build4 (.tmp 22) (.tmp 25) (.tmp 28) (.tmp 31) rfl (K.dep 2 22 rfl) (K.dep 5 25 rfl) (K.dep 8 28 rfl) (K.dep 11 31 rfl)
  · exact st_call 28 (.func 28) _ _ #[ac.eval (.tmp 32)] rfl rfl (one_arg rfl) Tryd.enter28 (fk_join hBl (by omega) (K.dep 12 32 rfl))
  · exact st_assign (.tmp 33) rfl (K.dep 13 33 rfl)
  intro f6 w6 A hb
  replace bl0 := bl
  replace x1 := (A.old 1 rfl).trans x1
  replace x2 := (A.old 2 rfl).trans x2
  replace x16 := (A.old 16 rfl).trans x16
  replace x3 := f_at (A.old 3 rfl) (Fk.mono _ _ _ _ x3 hb)
  have x4 : Fk.f (.sl (B)) (f6.eval (.tmp 4)) w6 := A.has 14 4 rfl
  have lt_m1 := Ob.lt m1
  replace m1 := Ob.below m1 hb
  replace bl := (bl.trans (Below.mono hb bl.size))
  replace sz := A.size.trans sz
  replace df := A.defs.trans df
  clear A hb
  show Code.wp _ _ _ _ _
  refine wp_seq ?_
  refine wp_seq ?_
  -- R5
  refine wp_all_seq [.sl (B), .eq (.string (str (B))), .sl (B), .eq (.string (str (B))), .eq (.bool false), .eq (.bool false), .eq (.agg ([.int .i64 (k), .int .i64 (i), .slice sA (S).length sC, .slice pA (P).length pC] : List Value).toArray), .eq (.agg ([.int .i64 (k), .int .i64 (i), .slice sA (S).length sC, .slice pA (P).length pC] : List Value).toArray), .eq (.bool true), .eq (.bool false), .eq (.bool false)] (by kernel_rfl) (by kernel_rfl) (by rw [sz]; kernel_rfl) (by kernel_rfl) ⟨fun hw ac u K => ?_, fun hw ac u K => ?_, fun hw ac u K => ?_, fun hw ac u K => ?_, fun hw ac u K => ?_, fun hw ac u K => ?_, fun hw ac u K => ?_, fun hw ac u K => ?_, fun hw ac u K => ?_, fun hw ac u K => ?_, fun hw ac u K => ?_, trivial⟩ ?_
  · exact st_move (.tmp 3) rfl (f_at (K.old 3 rfl) (Fk.mono _ _ _ _ x3 K.grow))
  · exact st_str (.tmp 34) rfl hBp (K.dep 0 34 rfl)
  · exact st_move (.tmp 4) rfl (f_at (K.old 4 rfl) (Fk.mono _ _ _ _ x4 K.grow))
  · exact st_str (.tmp 36) rfl hBp (K.dep 2 36 rfl)
  · exact st_nes (.tmp 35) (.tmp 37) rfl (str (B)) (str (B)) (K.dep 1 35 rfl) (K.dep 3 37 rfl) _ (by simp)
  · exact st_move (.tmp 38) rfl (K.dep 4 38 rfl)
  · exact st_loadz 38 (.tmp 1) rfl (g1) 0 [.int .i64 (k), .int .i64 (i), .slice sA (S).length sC, .slice pA (P).length pC] (by kernel_rfl) (by kernel_rfl) ((K.old 1 rfl).trans x1) (Ob.range (Ob.below m1 K.grow) 0 _ (fun j v hj => by simpa using hj))
  · exact st_loadz 38 (.tmp 1) rfl (g1) 0 [.int .i64 (k), .int .i64 (i), .slice sA (S).length sC, .slice pA (P).length pC] (by kernel_rfl) (by kernel_rfl) ((K.old 1 rfl).trans x1) (Ob.range (Ob.below m1 K.grow) 0 _ (fun j v hj => by simpa using hj))
  · exact st_call 31 (.func 31) _ _ #[.agg ([.int .i64 (k), .int .i64 (i), .slice sA (S).length sC, .slice pA (P).length pC] : List Value).toArray, .agg ([.int .i64 (k), .int .i64 (i), .slice sA (S).length sC, .slice pA (P).length pC] : List Value).toArray] rfl rfl (arg2 (K.dep 6 40 rfl) (K.dep 7 41 rfl)) Tryd.enter31 (fk_of (sigEqual_any k i k i (by omega) (by omega) _ (Fk.mono _ _ _ _ vS (bl.trans (Below.mono K.grow bl.size))) (Fk.mono _ _ _ _ vP (bl.trans (Below.mono K.grow bl.size))) (Fk.mono _ _ _ _ vS (bl.trans (Below.mono K.grow bl.size))) (Fk.mono _ _ _ _ vP (bl.trans (Below.mono K.grow bl.size))) true (by simp)))
  · exact st_not (.tmp 42) rfl true (K.dep 8 42 rfl)
  · exact st_pick_f' (.tmp 39) (.const (.bool true)) (.tmp 43) rfl (K.dep 5 39 rfl) (K.dep 9 43 rfl)
  intro f7 w7 A hb
  replace bl0 := bl
  replace x1 := (A.old 1 rfl).trans x1
  replace x2 := (A.old 2 rfl).trans x2
  replace x16 := (A.old 16 rfl).trans x16
  replace x3 := f_at (A.old 3 rfl) (Fk.mono _ _ _ _ x3 hb)
  replace x4 := f_at (A.old 4 rfl) (Fk.mono _ _ _ _ x4 hb)
  have x44 : f7.eval (.tmp 44) = .bool false := A.has 10 44 rfl
  have lt_m1 := Ob.lt m1
  replace m1 := Ob.below m1 hb
  replace bl := (bl.trans (Below.mono hb bl.size))
  replace sz := A.size.trans sz
  replace df := A.defs.trans df
  clear A hb
  clear x4
  show Code.wp _ _ _ _ _
  refine wp_cond_false x44 ?_
  refine wp_skip ?_
  show Code.wp _ _ _ _ _
  refine wp_seq ?_
  by_cases he : 1 ≤ k ∧ k ≤ 2 ∧ 0 ≤ i ∧ i ≤ 255 ∧ S.length ≤ 512 ∧ P.length ≤ 8
  rotate_left
  · skip
    have hno : ∀ k0 i0 S0 P0, ¬ Enc B k0 i0 S0 P0 := by
      intro k0 i0 S0 P0 h0
      exact he (enc_only eB.out hkr hir (by omega) (by omega) (hs_all vS) (hs_all vP) h0)
    -- R7
    refine wp_region_seq [.sl (B), .eq (.tuple #[.agg ([.int .i64 0, .int .i64 0, .slice none 0 0, .slice none 0 0] : List Value).toArray, .int .i64 10]), .eq (.tuple #[.agg ([.int .i64 0, .int .i64 0, .slice none 0 0, .slice none 0 0] : List Value).toArray, .int .i64 10]), .eq (.agg ([.int .i64 0, .int .i64 0, .slice none 0 0, .slice none 0 0] : List Value).toArray), .eq (.int .i64 10), .nw w7.heap.size 38 [.int .i64 0, .int .i64 0, .slice none 0 0, .slice none 0 0]] (by kernel_rfl) (by kernel_rfl) (by rw [sz]; kernel_rfl) (by kernel_rfl) ⟨fun hw ac u K => ?_, fun hw ac u K => ?_, fun hw ac u K => ?_, fun hw ac u K => ?_, fun hw ac u K => ?_, fun hw ac u K => ?_, trivial⟩ ?_
    · exact st_move (.tmp 3) rfl (f_at (K.old 3 rfl) (Fk.mono _ _ _ _ x3 K.grow))
    · exact st_call 32 (.func 32) _ _ #[ac.eval (.tmp 46)] rfl rfl (one_arg rfl) Tryd.enter32 (fk_parse_no hBl (K.dep 0 46 rfl) hno)
    · exact st_move (.tmp 47) rfl (K.dep 1 47 rfl)
    · exact st_ext0 (.tmp 45) rfl (K.dep 2 45 rfl) rfl
    · exact st_ext1 (.tmp 45) rfl (K.dep 2 45 rfl) rfl
    · exact st_alloc 38 rfl _ _ (by kernel_rfl) K.grow.size
    intro f8 w8 A hb
    have S_x3 : Fk.f (.sl (B)) (f8.eval (.tmp 3)) w7 := f_at (A.old 3 rfl) x3
    have hbS0 := Below.refl w7.heap.size w7
    have hbS := hb
    replace bl0 := bl
    replace x1 := (A.old 1 rfl).trans x1
    replace x2 := (A.old 2 rfl).trans x2
    replace x16 := (A.old 16 rfl).trans x16
    replace x3 := f_at (A.old 3 rfl) (Fk.mono _ _ _ _ x3 hb)
    replace x44 := (A.old 44 rfl).trans x44
    have x5 : Fk.f (.nw w7.heap.size 38 [.int .i64 0, .int .i64 0, .slice none 0 0, .slice none 0 0]) (f8.eval (.tmp 5)) w8 := A.has 5 5 rfl
    have x48 : f8.eval (.tmp 48) = .agg ([.int .i64 0, .int .i64 0, .slice none 0 0, .slice none 0 0] : List Value).toArray := A.has 3 48 rfl
    have x49 : f8.eval (.tmp 49) = .int .i64 10 := A.has 4 49 rfl
    have lt_m1 := Ob.lt m1
    replace m1 := Ob.below m1 hb
    replace bl := (bl.trans (Below.mono hb bl.size))
    replace sz := A.size.trans sz
    replace df := A.defs.trans df
    clear A hb
    obtain ⟨g5, hg5, e5, m5⟩ := x5
    have x5 := e5
    clear e5
    have nm1_5 : g1 ≠ g5 := Nat.ne_of_lt (Nat.lt_of_lt_of_le lt_m1 hg5)
    have hw5 : w.heap.size ≤ g5 := Nat.le_trans bl0.size hg5
    have hs5 := Nat.le_trans hbS0.size hg5
    refine wl_str rfl 38 (.tmp 5) (.tmp 48) rfl rfl (g5) ([.int .i64 0, .int .i64 0, .slice none 0 0, .slice none 0 0] : List Value).toArray x5 x48 38 _ m5 (by kernel_rfl) (by kernel_rfl) (by kernel_rfl) ?_
    replace m1 : Ob (w8.setRow g5 ([.int .i64 0, .int .i64 0, .slice none 0 0, .slice none 0 0] : List Value).toArray) (g1) 38 ([.int .i64 (k), .int .i64 (i), .slice sA (S).length sC, .slice pA (P).length pC]) := Ob.setRow_other m1 _ nm1_5
    replace m5 : Ob (w8.setRow g5 ([.int .i64 0, .int .i64 0, .slice none 0 0, .slice none 0 0] : List Value).toArray) (g5) 38 ([.int .i64 0, .int .i64 0, .slice none 0 0, .slice none 0 0]) := Ob.setRow m5 ([.int .i64 0, .int .i64 0, .slice none 0 0, .slice none 0 0])
    replace hbS : Below _ _ (w8.setRow g5 ([.int .i64 0, .int .i64 0, .slice none 0 0, .slice none 0 0] : List Value).toArray) := hbS.trans (below_setRow _ _ _ _ hs5)
    replace bl : Below w.heap.size w (w8.setRow g5 ([.int .i64 0, .int .i64 0, .slice none 0 0, .slice none 0 0] : List Value).toArray) := bl.trans (below_setRow _ _ _ _ hw5)
    generalize w8.setRow g5 ([.int .i64 0, .int .i64 0, .slice none 0 0, .slice none 0 0] : List Value).toArray = w9b at bl m1 m5 hbS ⊢
    replace x3 : Fk.f (.sl (B)) (f8.eval (.tmp 3)) w9b := Fk.mono _ _ _ _ S_x3 hbS
    clear x48
    refine wl_one (.eq (.int .i64 10)) rfl 6 rfl (by rw [sz]; decide) (st_assign (.tmp 49) rfl x49) ?_
    intro f10 w10 df2 sz2 old2 new2 hb
    replace hbS0 := hbS
    replace hbS := hbS.trans (Below.mono hb hbS.size)
    replace S_x3 := f_at (old2 3 rfl) S_x3
    replace bl0 := bl
    replace x1 := (old2 1 rfl).trans x1
    replace x2 := (old2 2 rfl).trans x2
    replace x16 := (old2 16 rfl).trans x16
    replace x3 := f_at (old2 3 rfl) (Fk.mono _ _ _ _ x3 hb)
    replace x44 := (old2 44 rfl).trans x44
    replace x5 := (old2 5 rfl).trans x5
    replace x49 := (old2 49 rfl).trans x49
    have x6 : f10.eval (.tmp 6) = .int .i64 10 := new2
    have lt_m1 := Ob.lt m1
    replace m1 := Ob.below m1 hb
    have lt_m5 := Ob.lt m5
    replace m5 := Ob.below m5 hb
    replace bl := (bl.trans (Below.mono hb bl.size))
    replace sz := sz2.trans sz
    replace df := df2.trans df
    clear df2 sz2 old2 new2 hb
    refine wpList_nil ?_
    clear hbS hbS0 S_x3
    clear x49
    show Code.wp _ _ _ _ _
    refine wp_seq ?_
    refine wp_seq ?_
    have hcs : k < 1 ∨ (1 ≤ k ∧ 2 < k) ∨ (1 ≤ k ∧ k ≤ 2 ∧ i < 0) ∨ (1 ≤ k ∧ k ≤ 2 ∧ 0 ≤ i ∧ 255 < i) ∨ (1 ≤ k ∧ k ≤ 2 ∧ 0 ≤ i ∧ i ≤ 255 ∧ 512 < S.length) ∨ (1 ≤ k ∧ k ≤ 2 ∧ 0 ≤ i ∧ i ≤ 255 ∧ S.length ≤ 512 ∧ 8 < P.length) := by omega
    clear he
    rcases hcs with hcs | hcs | hcs | hcs | hcs | hcs
    · skip
      -- R8
      refine wp_all_seq [.eq (.pointer (some ⟨g1, 0, none⟩)), .eq (.int .i64 (k)), .eq (.bool true), .eq (.bool true), .any, .any, .any, .eq (.bool true), .eq (.bool true), .any, .any, .any, .eq (.bool true), .eq (.bool true), .any, .any, .any, .eq (.bool true), .eq (.bool true), .any, .any, .any, .any, .eq (.bool true), .eq (.bool true), .any, .any, .any, .any, .eq (.bool true)] (by kernel_rfl) (by kernel_rfl) (by rw [sz]; kernel_rfl) (by kernel_rfl) ⟨fun hw ac u K => ?_, fun hw ac u K => ?_, fun hw ac u K => ?_, fun hw ac u K => ?_, fun hw ac u K => ?_, fun hw ac u K => ?_, fun hw ac u K => ?_, fun hw ac u K => ?_, fun hw ac u K => ?_, fun hw ac u K => ?_, fun hw ac u K => ?_, fun hw ac u K => ?_, fun hw ac u K => ?_, fun hw ac u K => ?_, fun hw ac u K => ?_, fun hw ac u K => ?_, fun hw ac u K => ?_, fun hw ac u K => ?_, fun hw ac u K => ?_, fun hw ac u K => ?_, fun hw ac u K => ?_, fun hw ac u K => ?_, fun hw ac u K => ?_, fun hw ac u K => ?_, fun hw ac u K => ?_, fun hw ac u K => ?_, fun hw ac u K => ?_, fun hw ac u K => ?_, fun hw ac u K => ?_, fun hw ac u K => ?_, trivial⟩ ?_
      · exact st_field 38 0 (.tmp 1) rfl ((K.old 1 rfl).trans x1) (by kernel_rfl)
      · exact st_loadc 3 (.tmp 50) rfl (by kernel_rfl) (K.dep 0 50 rfl) (Ob.cell (Ob.below m1 K.grow) 0 rfl)
      · exact st_lss 3 (.tmp 51) (.const (.int .i64 1)) rfl .i64 ((k)) (1) (K.dep 1 51 rfl) rfl _ (by rw [eq_comm, decide_eq_true_iff]; omega)
      · exact st_move (.tmp 52) rfl (K.dep 2 52 rfl)
      · exact (Bool.false_ne_true hw).elim
      · exact (Bool.false_ne_true hw).elim
      · exact (Bool.false_ne_true hw).elim
      · exact st_pick_t (.tmp 53) (.const (.bool true)) (.tmp 56) rfl (K.dep 3 53 rfl) rfl
      · exact st_move (.tmp 57) rfl (K.dep 7 57 rfl)
      · exact (Bool.false_ne_true hw).elim
      · exact (Bool.false_ne_true hw).elim
      · exact (Bool.false_ne_true hw).elim
      · exact st_pick_t (.tmp 58) (.const (.bool true)) (.tmp 61) rfl (K.dep 8 58 rfl) rfl
      · exact st_move (.tmp 62) rfl (K.dep 12 62 rfl)
      · exact (Bool.false_ne_true hw).elim
      · exact (Bool.false_ne_true hw).elim
      · exact (Bool.false_ne_true hw).elim
      · exact st_pick_t (.tmp 63) (.const (.bool true)) (.tmp 66) rfl (K.dep 13 63 rfl) rfl
      · exact st_move (.tmp 67) rfl (K.dep 17 67 rfl)
      · exact (Bool.false_ne_true hw).elim
      · exact (Bool.false_ne_true hw).elim
      · exact (Bool.false_ne_true hw).elim
      · exact (Bool.false_ne_true hw).elim
      · exact st_pick_t (.tmp 68) (.const (.bool true)) (.tmp 72) rfl (K.dep 18 68 rfl) rfl
      · exact st_move (.tmp 73) rfl (K.dep 23 73 rfl)
      · exact (Bool.false_ne_true hw).elim
      · exact (Bool.false_ne_true hw).elim
      · exact (Bool.false_ne_true hw).elim
      · exact (Bool.false_ne_true hw).elim
      · exact st_pick_t (.tmp 74) (.const (.bool true)) (.tmp 78) rfl (K.dep 24 74 rfl) rfl
      intro f11 w11 A hb
      replace bl0 := bl
      replace x1 := (A.old 1 rfl).trans x1
      replace x2 := (A.old 2 rfl).trans x2
      replace x16 := (A.old 16 rfl).trans x16
      replace x3 := f_at (A.old 3 rfl) (Fk.mono _ _ _ _ x3 hb)
      replace x44 := (A.old 44 rfl).trans x44
      replace x5 := (A.old 5 rfl).trans x5
      replace x6 := (A.old 6 rfl).trans x6
      have x79 : f11.eval (.tmp 79) = .bool true := A.has 29 79 rfl
      have lt_m1 := Ob.lt m1
      replace m1 := Ob.below m1 hb
      have lt_m5 := Ob.lt m5
      replace m5 := Ob.below m5 hb
      replace bl := (bl.trans (Below.mono hb bl.size))
      replace sz := A.size.trans sz
      replace df := A.defs.trans df
      clear A hb
      show Code.wp _ _ _ _ _
      refine wp_cond_true x79 ?_
      refine wp_seq ?_
      -- R9
      refine wp_all_seq [.eq (.int .i64 10), .eq (.bool true), .eq (.bool true), .eq (.agg ([.int .i64 0, .int .i64 0, .slice none 0 0, .slice none 0 0] : List Value).toArray), .eq (.agg ([.int .i64 0, .int .i64 0, .slice none 0 0, .slice none 0 0] : List Value).toArray), .eq (.bool true), .eq (.bool true), .eq (.bool true), .eq (.bool true), .eq (.bool true), .eq (.bool true)] (by kernel_rfl) (by kernel_rfl) (by rw [sz]; kernel_rfl) (by kernel_rfl) ⟨fun hw ac u K => ?_, fun hw ac u K => ?_, fun hw ac u K => ?_, fun hw ac u K => ?_, fun hw ac u K => ?_, fun hw ac u K => ?_, fun hw ac u K => ?_, fun hw ac u K => ?_, fun hw ac u K => ?_, fun hw ac u K => ?_, fun hw ac u K => ?_, trivial⟩ ?_
      · exact st_move (.tmp 6) rfl ((K.old 6 rfl).trans x6)
      · exact st_eqi 29 (.tmp 80) (.const (.int .i64 10)) rfl .i64 (10) (10) (K.dep 0 80 rfl) rfl _ (by rfl)
      · exact st_move (.tmp 81) rfl (K.dep 1 81 rfl)
      · exact st_loadz 38 (.tmp 5) rfl (g5) 0 [.int .i64 0, .int .i64 0, .slice none 0 0, .slice none 0 0] (by kernel_rfl) (by kernel_rfl) ((K.old 5 rfl).trans x5) (Ob.range (Ob.below m5 K.grow) 0 _ (fun j v hj => by simpa using hj))
      · exact st_build 38 _ rfl (by kernel_rfl)
      · exact st_call 31 (.func 31) _ _ #[.agg ([.int .i64 0, .int .i64 0, .slice none 0 0, .slice none 0 0] : List Value).toArray, .agg ([.int .i64 0, .int .i64 0, .slice none 0 0, .slice none 0 0] : List Value).toArray] rfl rfl (arg2 (K.dep 3 83 rfl) (K.dep 4 84 rfl)) Tryd.enter31 (fk_of (sigEqual_any (S := nilH) (P := nilH) (S2 := nilH) (P2 := nilH) 0 0 0 0 (by simp [nilH]) (by simp [nilH]) _ nil_hs nil_hs nil_hs nil_hs true (by simp)))
      · exact st_pick_t (.tmp 82) (.tmp 85) (.const (.bool false)) rfl (K.dep 2 82 rfl) (K.dep 5 85 rfl)
      · exact st_move (.tmp 86) rfl (K.dep 6 86 rfl)
      · exact st_call 8 (.func 8) _ _ #[] rfl rfl rfl Tryd.enter8 (fk_of (awake_any _ (hK.below (bl.trans (Below.mono K.grow bl.size)))))
      · exact st_pick_t (.tmp 87) (.tmp 88) (.const (.bool false)) rfl (K.dep 7 87 rfl) (K.dep 8 88 rfl)
      · exact st_assign (.tmp 89) rfl (K.dep 9 89 rfl)
      intro f12 w12 A hb
      replace bl0 := bl
      replace x1 := (A.old 1 rfl).trans x1
      clear x2
      replace x16 := (A.old 16 rfl).trans x16
      replace x3 := f_at (A.old 3 rfl) (Fk.mono _ _ _ _ x3 hb)
      replace x44 := (A.old 44 rfl).trans x44
      replace x5 := (A.old 5 rfl).trans x5
      replace x6 := (A.old 6 rfl).trans x6
      replace x79 := (A.old 79 rfl).trans x79
      have x2 : f12.eval (.tmp 2) = .bool true := A.has 10 2 rfl
      have lt_m1 := Ob.lt m1
      replace m1 := Ob.below m1 hb
      have lt_m5 := Ob.lt m5
      replace m5 := Ob.below m5 hb
      replace bl := (bl.trans (Below.mono hb bl.size))
      replace sz := A.size.trans sz
      replace df := A.defs.trans df
      clear A hb
      show Code.wp _ _ _ _ _
      refine wp_ret ?_
      repeat (first | with_reducible refine then_ret ?_ | with_reducible refine block_ret ?_)
      exact bodyPost_ret (v := .bool true) (ret_slot rfl f12 _ x2 _ _) df ⟨rfl, bl⟩
    · skip
      -- R8
      refine wp_all_seq [.eq (.pointer (some ⟨g1, 0, none⟩)), .eq (.int .i64 (k)), .eq (.bool false), .eq (.bool false), .eq (.pointer (some ⟨g1, 0, none⟩)), .eq (.int .i64 (k)), .eq (.bool true), .eq (.bool true), .eq (.bool true), .any, .any, .any, .eq (.bool true), .eq (.bool true), .any, .any, .any, .eq (.bool true), .eq (.bool true), .any, .any, .any, .any, .eq (.bool true), .eq (.bool true), .any, .any, .any, .any, .eq (.bool true)] (by kernel_rfl) (by kernel_rfl) (by rw [sz]; kernel_rfl) (by kernel_rfl) ⟨fun hw ac u K => ?_, fun hw ac u K => ?_, fun hw ac u K => ?_, fun hw ac u K => ?_, fun hw ac u K => ?_, fun hw ac u K => ?_, fun hw ac u K => ?_, fun hw ac u K => ?_, fun hw ac u K => ?_, fun hw ac u K => ?_, fun hw ac u K => ?_, fun hw ac u K => ?_, fun hw ac u K => ?_, fun hw ac u K => ?_, fun hw ac u K => ?_, fun hw ac u K => ?_, fun hw ac u K => ?_, fun hw ac u K => ?_, fun hw ac u K => ?_, fun hw ac u K => ?_, fun hw ac u K => ?_, fun hw ac u K => ?_, fun hw ac u K => ?_, fun hw ac u K => ?_, fun hw ac u K => ?_, fun hw ac u K => ?_, fun hw ac u K => ?_, fun hw ac u K => ?_, fun hw ac u K => ?_, fun hw ac u K => ?_, trivial⟩ ?_
      · exact st_field 38 0 (.tmp 1) rfl ((K.old 1 rfl).trans x1) (by kernel_rfl)
      · exact st_loadc 3 (.tmp 50) rfl (by kernel_rfl) (K.dep 0 50 rfl) (Ob.cell (Ob.below m1 K.grow) 0 rfl)
      · exact st_lss 3 (.tmp 51) (.const (.int .i64 1)) rfl .i64 ((k)) (1) (K.dep 1 51 rfl) rfl _ (by rw [eq_comm, decide_eq_false_iff_not]; omega)
      · exact st_move (.tmp 52) rfl (K.dep 2 52 rfl)
      · exact st_field 38 0 (.tmp 1) rfl ((K.old 1 rfl).trans x1) (by kernel_rfl)
      · exact st_loadc 3 (.tmp 54) rfl (by kernel_rfl) (K.dep 4 54 rfl) (Ob.cell (Ob.below m1 K.grow) 0 rfl)
      · exact st_gtr 3 (.tmp 55) (.const (.int .i64 2)) rfl .i64 ((k)) (2) (K.dep 5 55 rfl) rfl _ (by rw [eq_comm, decide_eq_true_iff]; omega)
      · exact st_pick_f' (.tmp 53) (.const (.bool true)) (.tmp 56) rfl (K.dep 3 53 rfl) (K.dep 6 56 rfl)
      · exact st_move (.tmp 57) rfl (K.dep 7 57 rfl)
      · exact (Bool.false_ne_true hw).elim
      · exact (Bool.false_ne_true hw).elim
      · exact (Bool.false_ne_true hw).elim
      · exact st_pick_t (.tmp 58) (.const (.bool true)) (.tmp 61) rfl (K.dep 8 58 rfl) rfl
      · exact st_move (.tmp 62) rfl (K.dep 12 62 rfl)
      · exact (Bool.false_ne_true hw).elim
      · exact (Bool.false_ne_true hw).elim
      · exact (Bool.false_ne_true hw).elim
      · exact st_pick_t (.tmp 63) (.const (.bool true)) (.tmp 66) rfl (K.dep 13 63 rfl) rfl
      · exact st_move (.tmp 67) rfl (K.dep 17 67 rfl)
      · exact (Bool.false_ne_true hw).elim
      · exact (Bool.false_ne_true hw).elim
      · exact (Bool.false_ne_true hw).elim
      · exact (Bool.false_ne_true hw).elim
      · exact st_pick_t (.tmp 68) (.const (.bool true)) (.tmp 72) rfl (K.dep 18 68 rfl) rfl
      · exact st_move (.tmp 73) rfl (K.dep 23 73 rfl)
      · exact (Bool.false_ne_true hw).elim
      · exact (Bool.false_ne_true hw).elim
      · exact (Bool.false_ne_true hw).elim
      · exact (Bool.false_ne_true hw).elim
      · exact st_pick_t (.tmp 74) (.const (.bool true)) (.tmp 78) rfl (K.dep 24 74 rfl) rfl
      intro f11 w11 A hb
      replace bl0 := bl
      replace x1 := (A.old 1 rfl).trans x1
      replace x2 := (A.old 2 rfl).trans x2
      replace x16 := (A.old 16 rfl).trans x16
      replace x3 := f_at (A.old 3 rfl) (Fk.mono _ _ _ _ x3 hb)
      replace x44 := (A.old 44 rfl).trans x44
      replace x5 := (A.old 5 rfl).trans x5
      replace x6 := (A.old 6 rfl).trans x6
      have x79 : f11.eval (.tmp 79) = .bool true := A.has 29 79 rfl
      have lt_m1 := Ob.lt m1
      replace m1 := Ob.below m1 hb
      have lt_m5 := Ob.lt m5
      replace m5 := Ob.below m5 hb
      replace bl := (bl.trans (Below.mono hb bl.size))
      replace sz := A.size.trans sz
      replace df := A.defs.trans df
      clear A hb
      show Code.wp _ _ _ _ _
      refine wp_cond_true x79 ?_
      refine wp_seq ?_
      -- R9
      refine wp_all_seq [.eq (.int .i64 10), .eq (.bool true), .eq (.bool true), .eq (.agg ([.int .i64 0, .int .i64 0, .slice none 0 0, .slice none 0 0] : List Value).toArray), .eq (.agg ([.int .i64 0, .int .i64 0, .slice none 0 0, .slice none 0 0] : List Value).toArray), .eq (.bool true), .eq (.bool true), .eq (.bool true), .eq (.bool true), .eq (.bool true), .eq (.bool true)] (by kernel_rfl) (by kernel_rfl) (by rw [sz]; kernel_rfl) (by kernel_rfl) ⟨fun hw ac u K => ?_, fun hw ac u K => ?_, fun hw ac u K => ?_, fun hw ac u K => ?_, fun hw ac u K => ?_, fun hw ac u K => ?_, fun hw ac u K => ?_, fun hw ac u K => ?_, fun hw ac u K => ?_, fun hw ac u K => ?_, fun hw ac u K => ?_, trivial⟩ ?_
      · exact st_move (.tmp 6) rfl ((K.old 6 rfl).trans x6)
      · exact st_eqi 29 (.tmp 80) (.const (.int .i64 10)) rfl .i64 (10) (10) (K.dep 0 80 rfl) rfl _ (by rfl)
      · exact st_move (.tmp 81) rfl (K.dep 1 81 rfl)
      · exact st_loadz 38 (.tmp 5) rfl (g5) 0 [.int .i64 0, .int .i64 0, .slice none 0 0, .slice none 0 0] (by kernel_rfl) (by kernel_rfl) ((K.old 5 rfl).trans x5) (Ob.range (Ob.below m5 K.grow) 0 _ (fun j v hj => by simpa using hj))
      · exact st_build 38 _ rfl (by kernel_rfl)
      · exact st_call 31 (.func 31) _ _ #[.agg ([.int .i64 0, .int .i64 0, .slice none 0 0, .slice none 0 0] : List Value).toArray, .agg ([.int .i64 0, .int .i64 0, .slice none 0 0, .slice none 0 0] : List Value).toArray] rfl rfl (arg2 (K.dep 3 83 rfl) (K.dep 4 84 rfl)) Tryd.enter31 (fk_of (sigEqual_any (S := nilH) (P := nilH) (S2 := nilH) (P2 := nilH) 0 0 0 0 (by simp [nilH]) (by simp [nilH]) _ nil_hs nil_hs nil_hs nil_hs true (by simp)))
      · exact st_pick_t (.tmp 82) (.tmp 85) (.const (.bool false)) rfl (K.dep 2 82 rfl) (K.dep 5 85 rfl)
      · exact st_move (.tmp 86) rfl (K.dep 6 86 rfl)
      · exact st_call 8 (.func 8) _ _ #[] rfl rfl rfl Tryd.enter8 (fk_of (awake_any _ (hK.below (bl.trans (Below.mono K.grow bl.size)))))
      · exact st_pick_t (.tmp 87) (.tmp 88) (.const (.bool false)) rfl (K.dep 7 87 rfl) (K.dep 8 88 rfl)
      · exact st_assign (.tmp 89) rfl (K.dep 9 89 rfl)
      intro f12 w12 A hb
      replace bl0 := bl
      replace x1 := (A.old 1 rfl).trans x1
      clear x2
      replace x16 := (A.old 16 rfl).trans x16
      replace x3 := f_at (A.old 3 rfl) (Fk.mono _ _ _ _ x3 hb)
      replace x44 := (A.old 44 rfl).trans x44
      replace x5 := (A.old 5 rfl).trans x5
      replace x6 := (A.old 6 rfl).trans x6
      replace x79 := (A.old 79 rfl).trans x79
      have x2 : f12.eval (.tmp 2) = .bool true := A.has 10 2 rfl
      have lt_m1 := Ob.lt m1
      replace m1 := Ob.below m1 hb
      have lt_m5 := Ob.lt m5
      replace m5 := Ob.below m5 hb
      replace bl := (bl.trans (Below.mono hb bl.size))
      replace sz := A.size.trans sz
      replace df := A.defs.trans df
      clear A hb
      show Code.wp _ _ _ _ _
      refine wp_ret ?_
      repeat (first | with_reducible refine then_ret ?_ | with_reducible refine block_ret ?_)
      exact bodyPost_ret (v := .bool true) (ret_slot rfl f12 _ x2 _ _) df ⟨rfl, bl⟩
    · skip
      -- R8
      refine wp_all_seq [.eq (.pointer (some ⟨g1, 0, none⟩)), .eq (.int .i64 (k)), .eq (.bool false), .eq (.bool false), .eq (.pointer (some ⟨g1, 0, none⟩)), .eq (.int .i64 (k)), .eq (.bool false), .eq (.bool false), .eq (.bool false), .eq (.pointer (some ⟨g1, 1, none⟩)), .eq (.int .i64 (i)), .eq (.bool true), .eq (.bool true), .eq (.bool true), .any, .any, .any, .eq (.bool true), .eq (.bool true), .any, .any, .any, .any, .eq (.bool true), .eq (.bool true), .any, .any, .any, .any, .eq (.bool true)] (by kernel_rfl) (by kernel_rfl) (by rw [sz]; kernel_rfl) (by kernel_rfl) ⟨fun hw ac u K => ?_, fun hw ac u K => ?_, fun hw ac u K => ?_, fun hw ac u K => ?_, fun hw ac u K => ?_, fun hw ac u K => ?_, fun hw ac u K => ?_, fun hw ac u K => ?_, fun hw ac u K => ?_, fun hw ac u K => ?_, fun hw ac u K => ?_, fun hw ac u K => ?_, fun hw ac u K => ?_, fun hw ac u K => ?_, fun hw ac u K => ?_, fun hw ac u K => ?_, fun hw ac u K => ?_, fun hw ac u K => ?_, fun hw ac u K => ?_, fun hw ac u K => ?_, fun hw ac u K => ?_, fun hw ac u K => ?_, fun hw ac u K => ?_, fun hw ac u K => ?_, fun hw ac u K => ?_, fun hw ac u K => ?_, fun hw ac u K => ?_, fun hw ac u K => ?_, fun hw ac u K => ?_, fun hw ac u K => ?_, trivial⟩ ?_
      · exact st_field 38 0 (.tmp 1) rfl ((K.old 1 rfl).trans x1) (by kernel_rfl)
      · exact st_loadc 3 (.tmp 50) rfl (by kernel_rfl) (K.dep 0 50 rfl) (Ob.cell (Ob.below m1 K.grow) 0 rfl)
      · exact st_lss 3 (.tmp 51) (.const (.int .i64 1)) rfl .i64 ((k)) (1) (K.dep 1 51 rfl) rfl _ (by rw [eq_comm, decide_eq_false_iff_not]; omega)
      · exact st_move (.tmp 52) rfl (K.dep 2 52 rfl)
      · exact st_field 38 0 (.tmp 1) rfl ((K.old 1 rfl).trans x1) (by kernel_rfl)
      · exact st_loadc 3 (.tmp 54) rfl (by kernel_rfl) (K.dep 4 54 rfl) (Ob.cell (Ob.below m1 K.grow) 0 rfl)
      · exact st_gtr 3 (.tmp 55) (.const (.int .i64 2)) rfl .i64 ((k)) (2) (K.dep 5 55 rfl) rfl _ (by rw [eq_comm, decide_eq_false_iff_not]; omega)
      · exact st_pick_f' (.tmp 53) (.const (.bool true)) (.tmp 56) rfl (K.dep 3 53 rfl) (K.dep 6 56 rfl)
      · exact st_move (.tmp 57) rfl (K.dep 7 57 rfl)
      · exact st_field 38 1 (.tmp 1) rfl ((K.old 1 rfl).trans x1) (by kernel_rfl)
      · exact st_loadc 3 (.tmp 59) rfl (by kernel_rfl) (K.dep 9 59 rfl) (Ob.cell (Ob.below m1 K.grow) 1 rfl)
      · exact st_lss 3 (.tmp 60) (.const (.int .i64 0)) rfl .i64 ((i)) (0) (K.dep 10 60 rfl) rfl _ (by rw [eq_comm, decide_eq_true_iff]; omega)
      · exact st_pick_f' (.tmp 58) (.const (.bool true)) (.tmp 61) rfl (K.dep 8 58 rfl) (K.dep 11 61 rfl)
      · exact st_move (.tmp 62) rfl (K.dep 12 62 rfl)
      · exact (Bool.false_ne_true hw).elim
      · exact (Bool.false_ne_true hw).elim
      · exact (Bool.false_ne_true hw).elim
      · exact st_pick_t (.tmp 63) (.const (.bool true)) (.tmp 66) rfl (K.dep 13 63 rfl) rfl
      · exact st_move (.tmp 67) rfl (K.dep 17 67 rfl)
      · exact (Bool.false_ne_true hw).elim
      · exact (Bool.false_ne_true hw).elim
      · exact (Bool.false_ne_true hw).elim
      · exact (Bool.false_ne_true hw).elim
      · exact st_pick_t (.tmp 68) (.const (.bool true)) (.tmp 72) rfl (K.dep 18 68 rfl) rfl
      · exact st_move (.tmp 73) rfl (K.dep 23 73 rfl)
      · exact (Bool.false_ne_true hw).elim
      · exact (Bool.false_ne_true hw).elim
      · exact (Bool.false_ne_true hw).elim
      · exact (Bool.false_ne_true hw).elim
      · exact st_pick_t (.tmp 74) (.const (.bool true)) (.tmp 78) rfl (K.dep 24 74 rfl) rfl
      intro f11 w11 A hb
      replace bl0 := bl
      replace x1 := (A.old 1 rfl).trans x1
      replace x2 := (A.old 2 rfl).trans x2
      replace x16 := (A.old 16 rfl).trans x16
      replace x3 := f_at (A.old 3 rfl) (Fk.mono _ _ _ _ x3 hb)
      replace x44 := (A.old 44 rfl).trans x44
      replace x5 := (A.old 5 rfl).trans x5
      replace x6 := (A.old 6 rfl).trans x6
      have x79 : f11.eval (.tmp 79) = .bool true := A.has 29 79 rfl
      have lt_m1 := Ob.lt m1
      replace m1 := Ob.below m1 hb
      have lt_m5 := Ob.lt m5
      replace m5 := Ob.below m5 hb
      replace bl := (bl.trans (Below.mono hb bl.size))
      replace sz := A.size.trans sz
      replace df := A.defs.trans df
      clear A hb
      show Code.wp _ _ _ _ _
      refine wp_cond_true x79 ?_
      refine wp_seq ?_
      -- R9
      refine wp_all_seq [.eq (.int .i64 10), .eq (.bool true), .eq (.bool true), .eq (.agg ([.int .i64 0, .int .i64 0, .slice none 0 0, .slice none 0 0] : List Value).toArray), .eq (.agg ([.int .i64 0, .int .i64 0, .slice none 0 0, .slice none 0 0] : List Value).toArray), .eq (.bool true), .eq (.bool true), .eq (.bool true), .eq (.bool true), .eq (.bool true), .eq (.bool true)] (by kernel_rfl) (by kernel_rfl) (by rw [sz]; kernel_rfl) (by kernel_rfl) ⟨fun hw ac u K => ?_, fun hw ac u K => ?_, fun hw ac u K => ?_, fun hw ac u K => ?_, fun hw ac u K => ?_, fun hw ac u K => ?_, fun hw ac u K => ?_, fun hw ac u K => ?_, fun hw ac u K => ?_, fun hw ac u K => ?_, fun hw ac u K => ?_, trivial⟩ ?_
      · exact st_move (.tmp 6) rfl ((K.old 6 rfl).trans x6)
      · exact st_eqi 29 (.tmp 80) (.const (.int .i64 10)) rfl .i64 (10) (10) (K.dep 0 80 rfl) rfl _ (by rfl)
      · exact st_move (.tmp 81) rfl (K.dep 1 81 rfl)
      · exact st_loadz 38 (.tmp 5) rfl (g5) 0 [.int .i64 0, .int .i64 0, .slice none 0 0, .slice none 0 0] (by kernel_rfl) (by kernel_rfl) ((K.old 5 rfl).trans x5) (Ob.range (Ob.below m5 K.grow) 0 _ (fun j v hj => by simpa using hj))
      · exact st_build 38 _ rfl (by kernel_rfl)
      · exact st_call 31 (.func 31) _ _ #[.agg ([.int .i64 0, .int .i64 0, .slice none 0 0, .slice none 0 0] : List Value).toArray, .agg ([.int .i64 0, .int .i64 0, .slice none 0 0, .slice none 0 0] : List Value).toArray] rfl rfl (arg2 (K.dep 3 83 rfl) (K.dep 4 84 rfl)) Tryd.enter31 (fk_of (sigEqual_any (S := nilH) (P := nilH) (S2 := nilH) (P2 := nilH) 0 0 0 0 (by simp [nilH]) (by simp [nilH]) _ nil_hs nil_hs nil_hs nil_hs true (by simp)))
      · exact st_pick_t (.tmp 82) (.tmp 85) (.const (.bool false)) rfl (K.dep 2 82 rfl) (K.dep 5 85 rfl)
      · exact st_move (.tmp 86) rfl (K.dep 6 86 rfl)
      · exact st_call 8 (.func 8) _ _ #[] rfl rfl rfl Tryd.enter8 (fk_of (awake_any _ (hK.below (bl.trans (Below.mono K.grow bl.size)))))
      · exact st_pick_t (.tmp 87) (.tmp 88) (.const (.bool false)) rfl (K.dep 7 87 rfl) (K.dep 8 88 rfl)
      · exact st_assign (.tmp 89) rfl (K.dep 9 89 rfl)
      intro f12 w12 A hb
      replace bl0 := bl
      replace x1 := (A.old 1 rfl).trans x1
      clear x2
      replace x16 := (A.old 16 rfl).trans x16
      replace x3 := f_at (A.old 3 rfl) (Fk.mono _ _ _ _ x3 hb)
      replace x44 := (A.old 44 rfl).trans x44
      replace x5 := (A.old 5 rfl).trans x5
      replace x6 := (A.old 6 rfl).trans x6
      replace x79 := (A.old 79 rfl).trans x79
      have x2 : f12.eval (.tmp 2) = .bool true := A.has 10 2 rfl
      have lt_m1 := Ob.lt m1
      replace m1 := Ob.below m1 hb
      have lt_m5 := Ob.lt m5
      replace m5 := Ob.below m5 hb
      replace bl := (bl.trans (Below.mono hb bl.size))
      replace sz := A.size.trans sz
      replace df := A.defs.trans df
      clear A hb
      show Code.wp _ _ _ _ _
      refine wp_ret ?_
      repeat (first | with_reducible refine then_ret ?_ | with_reducible refine block_ret ?_)
      exact bodyPost_ret (v := .bool true) (ret_slot rfl f12 _ x2 _ _) df ⟨rfl, bl⟩
    · skip
      -- R8
      refine wp_all_seq [.eq (.pointer (some ⟨g1, 0, none⟩)), .eq (.int .i64 (k)), .eq (.bool false), .eq (.bool false), .eq (.pointer (some ⟨g1, 0, none⟩)), .eq (.int .i64 (k)), .eq (.bool false), .eq (.bool false), .eq (.bool false), .eq (.pointer (some ⟨g1, 1, none⟩)), .eq (.int .i64 (i)), .eq (.bool false), .eq (.bool false), .eq (.bool false), .eq (.pointer (some ⟨g1, 1, none⟩)), .eq (.int .i64 (i)), .eq (.bool true), .eq (.bool true), .eq (.bool true), .any, .any, .any, .any, .eq (.bool true), .eq (.bool true), .any, .any, .any, .any, .eq (.bool true)] (by kernel_rfl) (by kernel_rfl) (by rw [sz]; kernel_rfl) (by kernel_rfl) ⟨fun hw ac u K => ?_, fun hw ac u K => ?_, fun hw ac u K => ?_, fun hw ac u K => ?_, fun hw ac u K => ?_, fun hw ac u K => ?_, fun hw ac u K => ?_, fun hw ac u K => ?_, fun hw ac u K => ?_, fun hw ac u K => ?_, fun hw ac u K => ?_, fun hw ac u K => ?_, fun hw ac u K => ?_, fun hw ac u K => ?_, fun hw ac u K => ?_, fun hw ac u K => ?_, fun hw ac u K => ?_, fun hw ac u K => ?_, fun hw ac u K => ?_, fun hw ac u K => ?_, fun hw ac u K => ?_, fun hw ac u K => ?_, fun hw ac u K => ?_, fun hw ac u K => ?_, fun hw ac u K => ?_, fun hw ac u K => ?_, fun hw ac u K => ?_, fun hw ac u K => ?_, fun hw ac u K => ?_, fun hw ac u K => ?_, trivial⟩ ?_
      · exact st_field 38 0 (.tmp 1) rfl ((K.old 1 rfl).trans x1) (by kernel_rfl)
      · exact st_loadc 3 (.tmp 50) rfl (by kernel_rfl) (K.dep 0 50 rfl) (Ob.cell (Ob.below m1 K.grow) 0 rfl)
      · exact st_lss 3 (.tmp 51) (.const (.int .i64 1)) rfl .i64 ((k)) (1) (K.dep 1 51 rfl) rfl _ (by rw [eq_comm, decide_eq_false_iff_not]; omega)
      · exact st_move (.tmp 52) rfl (K.dep 2 52 rfl)
      · exact st_field 38 0 (.tmp 1) rfl ((K.old 1 rfl).trans x1) (by kernel_rfl)
      · exact st_loadc 3 (.tmp 54) rfl (by kernel_rfl) (K.dep 4 54 rfl) (Ob.cell (Ob.below m1 K.grow) 0 rfl)
      · exact st_gtr 3 (.tmp 55) (.const (.int .i64 2)) rfl .i64 ((k)) (2) (K.dep 5 55 rfl) rfl _ (by rw [eq_comm, decide_eq_false_iff_not]; omega)
      · exact st_pick_f' (.tmp 53) (.const (.bool true)) (.tmp 56) rfl (K.dep 3 53 rfl) (K.dep 6 56 rfl)
      · exact st_move (.tmp 57) rfl (K.dep 7 57 rfl)
      · exact st_field 38 1 (.tmp 1) rfl ((K.old 1 rfl).trans x1) (by kernel_rfl)
      · exact st_loadc 3 (.tmp 59) rfl (by kernel_rfl) (K.dep 9 59 rfl) (Ob.cell (Ob.below m1 K.grow) 1 rfl)
      · exact st_lss 3 (.tmp 60) (.const (.int .i64 0)) rfl .i64 ((i)) (0) (K.dep 10 60 rfl) rfl _ (by rw [eq_comm, decide_eq_false_iff_not]; omega)
      · exact st_pick_f' (.tmp 58) (.const (.bool true)) (.tmp 61) rfl (K.dep 8 58 rfl) (K.dep 11 61 rfl)
      · exact st_move (.tmp 62) rfl (K.dep 12 62 rfl)
      · exact st_field 38 1 (.tmp 1) rfl ((K.old 1 rfl).trans x1) (by kernel_rfl)
      · exact st_loadc 3 (.tmp 64) rfl (by kernel_rfl) (K.dep 14 64 rfl) (Ob.cell (Ob.below m1 K.grow) 1 rfl)
      · exact st_gtr 3 (.tmp 65) (.const (.int .i64 255)) rfl .i64 ((i)) (255) (K.dep 15 65 rfl) rfl _ (by rw [eq_comm, decide_eq_true_iff]; omega)
      · exact st_pick_f' (.tmp 63) (.const (.bool true)) (.tmp 66) rfl (K.dep 13 63 rfl) (K.dep 16 66 rfl)
      · exact st_move (.tmp 67) rfl (K.dep 17 67 rfl)
      · exact (Bool.false_ne_true hw).elim
      · exact (Bool.false_ne_true hw).elim
      · exact (Bool.false_ne_true hw).elim
      · exact (Bool.false_ne_true hw).elim
      · exact st_pick_t (.tmp 68) (.const (.bool true)) (.tmp 72) rfl (K.dep 18 68 rfl) rfl
      · exact st_move (.tmp 73) rfl (K.dep 23 73 rfl)
      · exact (Bool.false_ne_true hw).elim
      · exact (Bool.false_ne_true hw).elim
      · exact (Bool.false_ne_true hw).elim
      · exact (Bool.false_ne_true hw).elim
      · exact st_pick_t (.tmp 74) (.const (.bool true)) (.tmp 78) rfl (K.dep 24 74 rfl) rfl
      intro f11 w11 A hb
      replace bl0 := bl
      replace x1 := (A.old 1 rfl).trans x1
      replace x2 := (A.old 2 rfl).trans x2
      replace x16 := (A.old 16 rfl).trans x16
      replace x3 := f_at (A.old 3 rfl) (Fk.mono _ _ _ _ x3 hb)
      replace x44 := (A.old 44 rfl).trans x44
      replace x5 := (A.old 5 rfl).trans x5
      replace x6 := (A.old 6 rfl).trans x6
      have x79 : f11.eval (.tmp 79) = .bool true := A.has 29 79 rfl
      have lt_m1 := Ob.lt m1
      replace m1 := Ob.below m1 hb
      have lt_m5 := Ob.lt m5
      replace m5 := Ob.below m5 hb
      replace bl := (bl.trans (Below.mono hb bl.size))
      replace sz := A.size.trans sz
      replace df := A.defs.trans df
      clear A hb
      show Code.wp _ _ _ _ _
      refine wp_cond_true x79 ?_
      refine wp_seq ?_
      -- R9
      refine wp_all_seq [.eq (.int .i64 10), .eq (.bool true), .eq (.bool true), .eq (.agg ([.int .i64 0, .int .i64 0, .slice none 0 0, .slice none 0 0] : List Value).toArray), .eq (.agg ([.int .i64 0, .int .i64 0, .slice none 0 0, .slice none 0 0] : List Value).toArray), .eq (.bool true), .eq (.bool true), .eq (.bool true), .eq (.bool true), .eq (.bool true), .eq (.bool true)] (by kernel_rfl) (by kernel_rfl) (by rw [sz]; kernel_rfl) (by kernel_rfl) ⟨fun hw ac u K => ?_, fun hw ac u K => ?_, fun hw ac u K => ?_, fun hw ac u K => ?_, fun hw ac u K => ?_, fun hw ac u K => ?_, fun hw ac u K => ?_, fun hw ac u K => ?_, fun hw ac u K => ?_, fun hw ac u K => ?_, fun hw ac u K => ?_, trivial⟩ ?_
      · exact st_move (.tmp 6) rfl ((K.old 6 rfl).trans x6)
      · exact st_eqi 29 (.tmp 80) (.const (.int .i64 10)) rfl .i64 (10) (10) (K.dep 0 80 rfl) rfl _ (by rfl)
      · exact st_move (.tmp 81) rfl (K.dep 1 81 rfl)
      · exact st_loadz 38 (.tmp 5) rfl (g5) 0 [.int .i64 0, .int .i64 0, .slice none 0 0, .slice none 0 0] (by kernel_rfl) (by kernel_rfl) ((K.old 5 rfl).trans x5) (Ob.range (Ob.below m5 K.grow) 0 _ (fun j v hj => by simpa using hj))
      · exact st_build 38 _ rfl (by kernel_rfl)
      · exact st_call 31 (.func 31) _ _ #[.agg ([.int .i64 0, .int .i64 0, .slice none 0 0, .slice none 0 0] : List Value).toArray, .agg ([.int .i64 0, .int .i64 0, .slice none 0 0, .slice none 0 0] : List Value).toArray] rfl rfl (arg2 (K.dep 3 83 rfl) (K.dep 4 84 rfl)) Tryd.enter31 (fk_of (sigEqual_any (S := nilH) (P := nilH) (S2 := nilH) (P2 := nilH) 0 0 0 0 (by simp [nilH]) (by simp [nilH]) _ nil_hs nil_hs nil_hs nil_hs true (by simp)))
      · exact st_pick_t (.tmp 82) (.tmp 85) (.const (.bool false)) rfl (K.dep 2 82 rfl) (K.dep 5 85 rfl)
      · exact st_move (.tmp 86) rfl (K.dep 6 86 rfl)
      · exact st_call 8 (.func 8) _ _ #[] rfl rfl rfl Tryd.enter8 (fk_of (awake_any _ (hK.below (bl.trans (Below.mono K.grow bl.size)))))
      · exact st_pick_t (.tmp 87) (.tmp 88) (.const (.bool false)) rfl (K.dep 7 87 rfl) (K.dep 8 88 rfl)
      · exact st_assign (.tmp 89) rfl (K.dep 9 89 rfl)
      intro f12 w12 A hb
      replace bl0 := bl
      replace x1 := (A.old 1 rfl).trans x1
      clear x2
      replace x16 := (A.old 16 rfl).trans x16
      replace x3 := f_at (A.old 3 rfl) (Fk.mono _ _ _ _ x3 hb)
      replace x44 := (A.old 44 rfl).trans x44
      replace x5 := (A.old 5 rfl).trans x5
      replace x6 := (A.old 6 rfl).trans x6
      replace x79 := (A.old 79 rfl).trans x79
      have x2 : f12.eval (.tmp 2) = .bool true := A.has 10 2 rfl
      have lt_m1 := Ob.lt m1
      replace m1 := Ob.below m1 hb
      have lt_m5 := Ob.lt m5
      replace m5 := Ob.below m5 hb
      replace bl := (bl.trans (Below.mono hb bl.size))
      replace sz := A.size.trans sz
      replace df := A.defs.trans df
      clear A hb
      show Code.wp _ _ _ _ _
      refine wp_ret ?_
      repeat (first | with_reducible refine then_ret ?_ | with_reducible refine block_ret ?_)
      exact bodyPost_ret (v := .bool true) (ret_slot rfl f12 _ x2 _ _) df ⟨rfl, bl⟩
    · skip
      -- R8
      refine wp_all_seq [.eq (.pointer (some ⟨g1, 0, none⟩)), .eq (.int .i64 (k)), .eq (.bool false), .eq (.bool false), .eq (.pointer (some ⟨g1, 0, none⟩)), .eq (.int .i64 (k)), .eq (.bool false), .eq (.bool false), .eq (.bool false), .eq (.pointer (some ⟨g1, 1, none⟩)), .eq (.int .i64 (i)), .eq (.bool false), .eq (.bool false), .eq (.bool false), .eq (.pointer (some ⟨g1, 1, none⟩)), .eq (.int .i64 (i)), .eq (.bool false), .eq (.bool false), .eq (.bool false), .eq (.pointer (some ⟨g1, 2, none⟩)), .eq (.slice sA (S).length sC), .eq (.int .i64 (((S).length : Nat) : Int)), .eq (.bool true), .eq (.bool true), .eq (.bool true), .any, .any, .any, .any, .eq (.bool true)] (by kernel_rfl) (by kernel_rfl) (by rw [sz]; kernel_rfl) (by kernel_rfl) ⟨fun hw ac u K => ?_, fun hw ac u K => ?_, fun hw ac u K => ?_, fun hw ac u K => ?_, fun hw ac u K => ?_, fun hw ac u K => ?_, fun hw ac u K => ?_, fun hw ac u K => ?_, fun hw ac u K => ?_, fun hw ac u K => ?_, fun hw ac u K => ?_, fun hw ac u K => ?_, fun hw ac u K => ?_, fun hw ac u K => ?_, fun hw ac u K => ?_, fun hw ac u K => ?_, fun hw ac u K => ?_, fun hw ac u K => ?_, fun hw ac u K => ?_, fun hw ac u K => ?_, fun hw ac u K => ?_, fun hw ac u K => ?_, fun hw ac u K => ?_, fun hw ac u K => ?_, fun hw ac u K => ?_, fun hw ac u K => ?_, fun hw ac u K => ?_, fun hw ac u K => ?_, fun hw ac u K => ?_, fun hw ac u K => ?_, trivial⟩ ?_
      · exact st_field 38 0 (.tmp 1) rfl ((K.old 1 rfl).trans x1) (by kernel_rfl)
      · exact st_loadc 3 (.tmp 50) rfl (by kernel_rfl) (K.dep 0 50 rfl) (Ob.cell (Ob.below m1 K.grow) 0 rfl)
      · exact st_lss 3 (.tmp 51) (.const (.int .i64 1)) rfl .i64 ((k)) (1) (K.dep 1 51 rfl) rfl _ (by rw [eq_comm, decide_eq_false_iff_not]; omega)
      · exact st_move (.tmp 52) rfl (K.dep 2 52 rfl)
      · exact st_field 38 0 (.tmp 1) rfl ((K.old 1 rfl).trans x1) (by kernel_rfl)
      · exact st_loadc 3 (.tmp 54) rfl (by kernel_rfl) (K.dep 4 54 rfl) (Ob.cell (Ob.below m1 K.grow) 0 rfl)
      · exact st_gtr 3 (.tmp 55) (.const (.int .i64 2)) rfl .i64 ((k)) (2) (K.dep 5 55 rfl) rfl _ (by rw [eq_comm, decide_eq_false_iff_not]; omega)
      · exact st_pick_f' (.tmp 53) (.const (.bool true)) (.tmp 56) rfl (K.dep 3 53 rfl) (K.dep 6 56 rfl)
      · exact st_move (.tmp 57) rfl (K.dep 7 57 rfl)
      · exact st_field 38 1 (.tmp 1) rfl ((K.old 1 rfl).trans x1) (by kernel_rfl)
      · exact st_loadc 3 (.tmp 59) rfl (by kernel_rfl) (K.dep 9 59 rfl) (Ob.cell (Ob.below m1 K.grow) 1 rfl)
      · exact st_lss 3 (.tmp 60) (.const (.int .i64 0)) rfl .i64 ((i)) (0) (K.dep 10 60 rfl) rfl _ (by rw [eq_comm, decide_eq_false_iff_not]; omega)
      · exact st_pick_f' (.tmp 58) (.const (.bool true)) (.tmp 61) rfl (K.dep 8 58 rfl) (K.dep 11 61 rfl)
      · exact st_move (.tmp 62) rfl (K.dep 12 62 rfl)
      · exact st_field 38 1 (.tmp 1) rfl ((K.old 1 rfl).trans x1) (by kernel_rfl)
      · exact st_loadc 3 (.tmp 64) rfl (by kernel_rfl) (K.dep 14 64 rfl) (Ob.cell (Ob.below m1 K.grow) 1 rfl)
      · exact st_gtr 3 (.tmp 65) (.const (.int .i64 255)) rfl .i64 ((i)) (255) (K.dep 15 65 rfl) rfl _ (by rw [eq_comm, decide_eq_false_iff_not]; omega)
      · exact st_pick_f' (.tmp 63) (.const (.bool true)) (.tmp 66) rfl (K.dep 13 63 rfl) (K.dep 16 66 rfl)
      · exact st_move (.tmp 67) rfl (K.dep 17 67 rfl)
      · exact st_field 38 2 (.tmp 1) rfl ((K.old 1 rfl).trans x1) (by kernel_rfl)
      · exact st_loadc 32 (.tmp 69) rfl (by kernel_rfl) (K.dep 19 69 rfl) (Ob.cell (Ob.below m1 K.grow) 2 rfl)
      · exact st_lenh (.tmp 70) rfl (fk_val (K.dep 20 70 rfl) (Fk.mono _ _ _ _ vS (bl.trans (Below.mono K.grow bl.size))))
      · exact st_gtr 3 (.tmp 71) (.const (.int .i64 512)) rfl .i64 ((((S).length : Nat) : Int)) (512) (K.dep 21 71 rfl) rfl _ (by rw [eq_comm, decide_eq_true_iff]; omega)
      · exact st_pick_f' (.tmp 68) (.const (.bool true)) (.tmp 72) rfl (K.dep 18 68 rfl) (K.dep 22 72 rfl)
      · exact st_move (.tmp 73) rfl (K.dep 23 73 rfl)
      · exact (Bool.false_ne_true hw).elim
      · exact (Bool.false_ne_true hw).elim
      · exact (Bool.false_ne_true hw).elim
      · exact (Bool.false_ne_true hw).elim
      · exact st_pick_t (.tmp 74) (.const (.bool true)) (.tmp 78) rfl (K.dep 24 74 rfl) rfl
      intro f11 w11 A hb
      replace bl0 := bl
      replace x1 := (A.old 1 rfl).trans x1
      replace x2 := (A.old 2 rfl).trans x2
      replace x16 := (A.old 16 rfl).trans x16
      replace x3 := f_at (A.old 3 rfl) (Fk.mono _ _ _ _ x3 hb)
      replace x44 := (A.old 44 rfl).trans x44
      replace x5 := (A.old 5 rfl).trans x5
      replace x6 := (A.old 6 rfl).trans x6
      have x79 : f11.eval (.tmp 79) = .bool true := A.has 29 79 rfl
      have lt_m1 := Ob.lt m1
      replace m1 := Ob.below m1 hb
      have lt_m5 := Ob.lt m5
      replace m5 := Ob.below m5 hb
      replace bl := (bl.trans (Below.mono hb bl.size))
      replace sz := A.size.trans sz
      replace df := A.defs.trans df
      clear A hb
      show Code.wp _ _ _ _ _
      refine wp_cond_true x79 ?_
      refine wp_seq ?_
      -- R9
      refine wp_all_seq [.eq (.int .i64 10), .eq (.bool true), .eq (.bool true), .eq (.agg ([.int .i64 0, .int .i64 0, .slice none 0 0, .slice none 0 0] : List Value).toArray), .eq (.agg ([.int .i64 0, .int .i64 0, .slice none 0 0, .slice none 0 0] : List Value).toArray), .eq (.bool true), .eq (.bool true), .eq (.bool true), .eq (.bool true), .eq (.bool true), .eq (.bool true)] (by kernel_rfl) (by kernel_rfl) (by rw [sz]; kernel_rfl) (by kernel_rfl) ⟨fun hw ac u K => ?_, fun hw ac u K => ?_, fun hw ac u K => ?_, fun hw ac u K => ?_, fun hw ac u K => ?_, fun hw ac u K => ?_, fun hw ac u K => ?_, fun hw ac u K => ?_, fun hw ac u K => ?_, fun hw ac u K => ?_, fun hw ac u K => ?_, trivial⟩ ?_
      · exact st_move (.tmp 6) rfl ((K.old 6 rfl).trans x6)
      · exact st_eqi 29 (.tmp 80) (.const (.int .i64 10)) rfl .i64 (10) (10) (K.dep 0 80 rfl) rfl _ (by rfl)
      · exact st_move (.tmp 81) rfl (K.dep 1 81 rfl)
      · exact st_loadz 38 (.tmp 5) rfl (g5) 0 [.int .i64 0, .int .i64 0, .slice none 0 0, .slice none 0 0] (by kernel_rfl) (by kernel_rfl) ((K.old 5 rfl).trans x5) (Ob.range (Ob.below m5 K.grow) 0 _ (fun j v hj => by simpa using hj))
      · exact st_build 38 _ rfl (by kernel_rfl)
      · exact st_call 31 (.func 31) _ _ #[.agg ([.int .i64 0, .int .i64 0, .slice none 0 0, .slice none 0 0] : List Value).toArray, .agg ([.int .i64 0, .int .i64 0, .slice none 0 0, .slice none 0 0] : List Value).toArray] rfl rfl (arg2 (K.dep 3 83 rfl) (K.dep 4 84 rfl)) Tryd.enter31 (fk_of (sigEqual_any (S := nilH) (P := nilH) (S2 := nilH) (P2 := nilH) 0 0 0 0 (by simp [nilH]) (by simp [nilH]) _ nil_hs nil_hs nil_hs nil_hs true (by simp)))
      · exact st_pick_t (.tmp 82) (.tmp 85) (.const (.bool false)) rfl (K.dep 2 82 rfl) (K.dep 5 85 rfl)
      · exact st_move (.tmp 86) rfl (K.dep 6 86 rfl)
      · exact st_call 8 (.func 8) _ _ #[] rfl rfl rfl Tryd.enter8 (fk_of (awake_any _ (hK.below (bl.trans (Below.mono K.grow bl.size)))))
      · exact st_pick_t (.tmp 87) (.tmp 88) (.const (.bool false)) rfl (K.dep 7 87 rfl) (K.dep 8 88 rfl)
      · exact st_assign (.tmp 89) rfl (K.dep 9 89 rfl)
      intro f12 w12 A hb
      replace bl0 := bl
      replace x1 := (A.old 1 rfl).trans x1
      clear x2
      replace x16 := (A.old 16 rfl).trans x16
      replace x3 := f_at (A.old 3 rfl) (Fk.mono _ _ _ _ x3 hb)
      replace x44 := (A.old 44 rfl).trans x44
      replace x5 := (A.old 5 rfl).trans x5
      replace x6 := (A.old 6 rfl).trans x6
      replace x79 := (A.old 79 rfl).trans x79
      have x2 : f12.eval (.tmp 2) = .bool true := A.has 10 2 rfl
      have lt_m1 := Ob.lt m1
      replace m1 := Ob.below m1 hb
      have lt_m5 := Ob.lt m5
      replace m5 := Ob.below m5 hb
      replace bl := (bl.trans (Below.mono hb bl.size))
      replace sz := A.size.trans sz
      replace df := A.defs.trans df
      clear A hb
      show Code.wp _ _ _ _ _
      refine wp_ret ?_
      repeat (first | with_reducible refine then_ret ?_ | with_reducible refine block_ret ?_)
      exact bodyPost_ret (v := .bool true) (ret_slot rfl f12 _ x2 _ _) df ⟨rfl, bl⟩
    -- R8
    refine wp_all_seq [.eq (.pointer (some ⟨g1, 0, none⟩)), .eq (.int .i64 (k)), .eq (.bool false), .eq (.bool false), .eq (.pointer (some ⟨g1, 0, none⟩)), .eq (.int .i64 (k)), .eq (.bool false), .eq (.bool false), .eq (.bool false), .eq (.pointer (some ⟨g1, 1, none⟩)), .eq (.int .i64 (i)), .eq (.bool false), .eq (.bool false), .eq (.bool false), .eq (.pointer (some ⟨g1, 1, none⟩)), .eq (.int .i64 (i)), .eq (.bool false), .eq (.bool false), .eq (.bool false), .eq (.pointer (some ⟨g1, 2, none⟩)), .eq (.slice sA (S).length sC), .eq (.int .i64 (((S).length : Nat) : Int)), .eq (.bool false), .eq (.bool false), .eq (.bool false), .eq (.pointer (some ⟨g1, 3, none⟩)), .eq (.slice pA (P).length pC), .eq (.int .i64 (((P).length : Nat) : Int)), .eq (.bool true), .eq (.bool true)] (by kernel_rfl) (by kernel_rfl) (by rw [sz]; kernel_rfl) (by kernel_rfl) ⟨fun hw ac u K => ?_, fun hw ac u K => ?_, fun hw ac u K => ?_, fun hw ac u K => ?_, fun hw ac u K => ?_, fun hw ac u K => ?_, fun hw ac u K => ?_, fun hw ac u K => ?_, fun hw ac u K => ?_, fun hw ac u K => ?_, fun hw ac u K => ?_, fun hw ac u K => ?_, fun hw ac u K => ?_, fun hw ac u K => ?_, fun hw ac u K => ?_, fun hw ac u K => ?_, fun hw ac u K => ?_, fun hw ac u K => ?_, fun hw ac u K => ?_, fun hw ac u K => ?_, fun hw ac u K => ?_, fun hw ac u K => ?_, fun hw ac u K => ?_, fun hw ac u K => ?_, fun hw ac u K => ?_, fun hw ac u K => ?_, fun hw ac u K => ?_, fun hw ac u K => ?_, fun hw ac u K => ?_, fun hw ac u K => ?_, trivial⟩ ?_
    · exact st_field 38 0 (.tmp 1) rfl ((K.old 1 rfl).trans x1) (by kernel_rfl)
    · exact st_loadc 3 (.tmp 50) rfl (by kernel_rfl) (K.dep 0 50 rfl) (Ob.cell (Ob.below m1 K.grow) 0 rfl)
    · exact st_lss 3 (.tmp 51) (.const (.int .i64 1)) rfl .i64 ((k)) (1) (K.dep 1 51 rfl) rfl _ (by rw [eq_comm, decide_eq_false_iff_not]; omega)
    · exact st_move (.tmp 52) rfl (K.dep 2 52 rfl)
    · exact st_field 38 0 (.tmp 1) rfl ((K.old 1 rfl).trans x1) (by kernel_rfl)
    · exact st_loadc 3 (.tmp 54) rfl (by kernel_rfl) (K.dep 4 54 rfl) (Ob.cell (Ob.below m1 K.grow) 0 rfl)
    · exact st_gtr 3 (.tmp 55) (.const (.int .i64 2)) rfl .i64 ((k)) (2) (K.dep 5 55 rfl) rfl _ (by rw [eq_comm, decide_eq_false_iff_not]; omega)
    · exact st_pick_f' (.tmp 53) (.const (.bool true)) (.tmp 56) rfl (K.dep 3 53 rfl) (K.dep 6 56 rfl)
    · exact st_move (.tmp 57) rfl (K.dep 7 57 rfl)
    · exact st_field 38 1 (.tmp 1) rfl ((K.old 1 rfl).trans x1) (by kernel_rfl)
    · exact st_loadc 3 (.tmp 59) rfl (by kernel_rfl) (K.dep 9 59 rfl) (Ob.cell (Ob.below m1 K.grow) 1 rfl)
    · exact st_lss 3 (.tmp 60) (.const (.int .i64 0)) rfl .i64 ((i)) (0) (K.dep 10 60 rfl) rfl _ (by rw [eq_comm, decide_eq_false_iff_not]; omega)
    · exact st_pick_f' (.tmp 58) (.const (.bool true)) (.tmp 61) rfl (K.dep 8 58 rfl) (K.dep 11 61 rfl)
    · exact st_move (.tmp 62) rfl (K.dep 12 62 rfl)
    · exact st_field 38 1 (.tmp 1) rfl ((K.old 1 rfl).trans x1) (by kernel_rfl)
    · exact st_loadc 3 (.tmp 64) rfl (by kernel_rfl) (K.dep 14 64 rfl) (Ob.cell (Ob.below m1 K.grow) 1 rfl)
    · exact st_gtr 3 (.tmp 65) (.const (.int .i64 255)) rfl .i64 ((i)) (255) (K.dep 15 65 rfl) rfl _ (by rw [eq_comm, decide_eq_false_iff_not]; omega)
    · exact st_pick_f' (.tmp 63) (.const (.bool true)) (.tmp 66) rfl (K.dep 13 63 rfl) (K.dep 16 66 rfl)
    · exact st_move (.tmp 67) rfl (K.dep 17 67 rfl)
    · exact st_field 38 2 (.tmp 1) rfl ((K.old 1 rfl).trans x1) (by kernel_rfl)
    · exact st_loadc 32 (.tmp 69) rfl (by kernel_rfl) (K.dep 19 69 rfl) (Ob.cell (Ob.below m1 K.grow) 2 rfl)
    · exact st_lenh (.tmp 70) rfl (fk_val (K.dep 20 70 rfl) (Fk.mono _ _ _ _ vS (bl.trans (Below.mono K.grow bl.size))))
    · exact st_gtr 3 (.tmp 71) (.const (.int .i64 512)) rfl .i64 ((((S).length : Nat) : Int)) (512) (K.dep 21 71 rfl) rfl _ (by rw [eq_comm, decide_eq_false_iff_not]; omega)
    · exact st_pick_f' (.tmp 68) (.const (.bool true)) (.tmp 72) rfl (K.dep 18 68 rfl) (K.dep 22 72 rfl)
    · exact st_move (.tmp 73) rfl (K.dep 23 73 rfl)
    · exact st_field 38 3 (.tmp 1) rfl ((K.old 1 rfl).trans x1) (by kernel_rfl)
    · exact st_loadc 32 (.tmp 75) rfl (by kernel_rfl) (K.dep 25 75 rfl) (Ob.cell (Ob.below m1 K.grow) 3 rfl)
    · exact st_lenh (.tmp 76) rfl (fk_val (K.dep 26 76 rfl) (Fk.mono _ _ _ _ vP (bl.trans (Below.mono K.grow bl.size))))
    · exact st_gtr 3 (.tmp 77) (.const (.int .i64 8)) rfl .i64 ((((P).length : Nat) : Int)) (8) (K.dep 27 77 rfl) rfl _ (by rw [eq_comm, decide_eq_true_iff]; omega)
    · exact st_pick_f' (.tmp 74) (.const (.bool true)) (.tmp 78) rfl (K.dep 24 74 rfl) (K.dep 28 78 rfl)
    intro f11 w11 A hb
    replace bl0 := bl
    replace x1 := (A.old 1 rfl).trans x1
    replace x2 := (A.old 2 rfl).trans x2
    replace x16 := (A.old 16 rfl).trans x16
    replace x3 := f_at (A.old 3 rfl) (Fk.mono _ _ _ _ x3 hb)
    replace x44 := (A.old 44 rfl).trans x44
    replace x5 := (A.old 5 rfl).trans x5
    replace x6 := (A.old 6 rfl).trans x6
    have x79 : f11.eval (.tmp 79) = .bool true := A.has 29 79 rfl
    have lt_m1 := Ob.lt m1
    replace m1 := Ob.below m1 hb
    have lt_m5 := Ob.lt m5
    replace m5 := Ob.below m5 hb
    replace bl := (bl.trans (Below.mono hb bl.size))
    replace sz := A.size.trans sz
    replace df := A.defs.trans df
    clear A hb
    show Code.wp _ _ _ _ _
    refine wp_cond_true x79 ?_
    refine wp_seq ?_
    -- R9
    refine wp_all_seq [.eq (.int .i64 10), .eq (.bool true), .eq (.bool true), .eq (.agg ([.int .i64 0, .int .i64 0, .slice none 0 0, .slice none 0 0] : List Value).toArray), .eq (.agg ([.int .i64 0, .int .i64 0, .slice none 0 0, .slice none 0 0] : List Value).toArray), .eq (.bool true), .eq (.bool true), .eq (.bool true), .eq (.bool true), .eq (.bool true), .eq (.bool true)] (by kernel_rfl) (by kernel_rfl) (by rw [sz]; kernel_rfl) (by kernel_rfl) ⟨fun hw ac u K => ?_, fun hw ac u K => ?_, fun hw ac u K => ?_, fun hw ac u K => ?_, fun hw ac u K => ?_, fun hw ac u K => ?_, fun hw ac u K => ?_, fun hw ac u K => ?_, fun hw ac u K => ?_, fun hw ac u K => ?_, fun hw ac u K => ?_, trivial⟩ ?_
    · exact st_move (.tmp 6) rfl ((K.old 6 rfl).trans x6)
    · exact st_eqi 29 (.tmp 80) (.const (.int .i64 10)) rfl .i64 (10) (10) (K.dep 0 80 rfl) rfl _ (by rfl)
    · exact st_move (.tmp 81) rfl (K.dep 1 81 rfl)
    · exact st_loadz 38 (.tmp 5) rfl (g5) 0 [.int .i64 0, .int .i64 0, .slice none 0 0, .slice none 0 0] (by kernel_rfl) (by kernel_rfl) ((K.old 5 rfl).trans x5) (Ob.range (Ob.below m5 K.grow) 0 _ (fun j v hj => by simpa using hj))
    · exact st_build 38 _ rfl (by kernel_rfl)
    · exact st_call 31 (.func 31) _ _ #[.agg ([.int .i64 0, .int .i64 0, .slice none 0 0, .slice none 0 0] : List Value).toArray, .agg ([.int .i64 0, .int .i64 0, .slice none 0 0, .slice none 0 0] : List Value).toArray] rfl rfl (arg2 (K.dep 3 83 rfl) (K.dep 4 84 rfl)) Tryd.enter31 (fk_of (sigEqual_any (S := nilH) (P := nilH) (S2 := nilH) (P2 := nilH) 0 0 0 0 (by simp [nilH]) (by simp [nilH]) _ nil_hs nil_hs nil_hs nil_hs true (by simp)))
    · exact st_pick_t (.tmp 82) (.tmp 85) (.const (.bool false)) rfl (K.dep 2 82 rfl) (K.dep 5 85 rfl)
    · exact st_move (.tmp 86) rfl (K.dep 6 86 rfl)
    · exact st_call 8 (.func 8) _ _ #[] rfl rfl rfl Tryd.enter8 (fk_of (awake_any _ (hK.below (bl.trans (Below.mono K.grow bl.size)))))
    · exact st_pick_t (.tmp 87) (.tmp 88) (.const (.bool false)) rfl (K.dep 7 87 rfl) (K.dep 8 88 rfl)
    · exact st_assign (.tmp 89) rfl (K.dep 9 89 rfl)
    intro f12 w12 A hb
    replace bl0 := bl
    replace x1 := (A.old 1 rfl).trans x1
    clear x2
    replace x16 := (A.old 16 rfl).trans x16
    replace x3 := f_at (A.old 3 rfl) (Fk.mono _ _ _ _ x3 hb)
    replace x44 := (A.old 44 rfl).trans x44
    replace x5 := (A.old 5 rfl).trans x5
    replace x6 := (A.old 6 rfl).trans x6
    replace x79 := (A.old 79 rfl).trans x79
    have x2 : f12.eval (.tmp 2) = .bool true := A.has 10 2 rfl
    have lt_m1 := Ob.lt m1
    replace m1 := Ob.below m1 hb
    have lt_m5 := Ob.lt m5
    replace m5 := Ob.below m5 hb
    replace bl := (bl.trans (Below.mono hb bl.size))
    replace sz := A.size.trans sz
    replace df := A.defs.trans df
    clear A hb
    show Code.wp _ _ _ _ _
    refine wp_ret ?_
    repeat (first | with_reducible refine then_ret ?_ | with_reducible refine block_ret ?_)
    exact bodyPost_ret (v := .bool true) (ret_slot rfl f12 _ x2 _ _) df ⟨rfl, bl⟩
  obtain ⟨c1, c2, c3, c4, c5, c6⟩ := he
  have henc : Enc B k i S P := ⟨eB.out.symm, c1, c2, c3, c4, c5, c6, hs_all vS, hs_all vP⟩
  -- R7
  refine wp_region_seq [.sl (B), .t2 (.sv w7.heap.size k i S P) (.int .i64 0)] (by kernel_rfl) (by kernel_rfl) (by rw [sz]; kernel_rfl) (by kernel_rfl) ⟨fun hw ac u K => ?_, fun hw ac u K => ?_, trivial⟩ ?_
  · exact st_move (.tmp 3) rfl (f_at (K.old 3 rfl) (Fk.mono _ _ _ _ x3 K.grow))
  · exact st_call 32 (.func 32) _ _ #[ac.eval (.tmp 46)] rfl rfl (one_arg rfl) Tryd.enter32 (fk_parse_ok hBl (K.dep 0 46 rfl) K.grow.size henc)
  intro f8 w8 A hb
  have S_x3 : Fk.f (.sl (B)) (f8.eval (.tmp 3)) w7 := f_at (A.old 3 rfl) x3
  have hbS0 := Below.refl w7.heap.size w7
  have hbS := hb
  replace bl0 := bl
  replace x1 := (A.old 1 rfl).trans x1
  replace x2 := (A.old 2 rfl).trans x2
  replace x16 := (A.old 16 rfl).trans x16
  replace x3 := f_at (A.old 3 rfl) (Fk.mono _ _ _ _ x3 hb)
  replace x44 := (A.old 44 rfl).trans x44
  have x47 : Fk.f (.t2 (.sv w7.heap.size k i S P) (.int .i64 0)) (f8.eval (.tmp 47)) w8 := A.has 1 47 rfl
  have lt_m1 := Ob.lt m1
  replace m1 := Ob.below m1 hb
  replace bl := (bl.trans (Below.mono hb bl.size))
  replace sz := A.size.trans sz
  replace df := A.defs.trans df
  clear A hb
  refine wl_one (.t2 (.sv w7.heap.size k i S P) (.int .i64 0)) rfl 45 rfl (by rw [sz]; decide) (st_move (.tmp 47) rfl x47) ?_
  intro f9 w9 df2 sz2 old2 new2 hb
  replace hbS0 := hbS
  replace hbS := hbS.trans (Below.mono hb hbS.size)
  replace S_x3 := f_at (old2 3 rfl) S_x3
  replace bl0 := bl
  replace x1 := (old2 1 rfl).trans x1
  replace x2 := (old2 2 rfl).trans x2
  replace x16 := (old2 16 rfl).trans x16
  replace x3 := f_at (old2 3 rfl) (Fk.mono _ _ _ _ x3 hb)
  replace x44 := (old2 44 rfl).trans x44
  replace x47 := f_at (old2 47 rfl) (Fk.mono _ _ _ _ x47 hb)
  have x45 : Fk.f (.t2 (.sv w7.heap.size k i S P) (.int .i64 0)) (f9.eval (.tmp 45)) w9 := new2
  have lt_m1 := Ob.lt m1
  replace m1 := Ob.below m1 hb
  replace bl := (bl.trans (Below.mono hb bl.size))
  replace sz := sz2.trans sz
  replace df := df2.trans df
  clear df2 sz2 old2 new2 hb
  clear x47
  refine wl_one (.sv w7.heap.size k i S P) rfl 48 rfl (by rw [sz]; decide) (st_t2a (.tmp 45) rfl x45) ?_
  intro f10 w10 df2 sz2 old2 new2 hb
  replace hbS0 := hbS
  replace hbS := hbS.trans (Below.mono hb hbS.size)
  replace S_x3 := f_at (old2 3 rfl) S_x3
  replace bl0 := bl
  replace x1 := (old2 1 rfl).trans x1
  replace x2 := (old2 2 rfl).trans x2
  replace x16 := (old2 16 rfl).trans x16
  replace x3 := f_at (old2 3 rfl) (Fk.mono _ _ _ _ x3 hb)
  replace x44 := (old2 44 rfl).trans x44
  replace x45 := f_at (old2 45 rfl) (Fk.mono _ _ _ _ x45 hb)
  have x48 : Fk.f (.sv w7.heap.size k i S P) (f10.eval (.tmp 48)) w10 := new2
  have lt_m1 := Ob.lt m1
  replace m1 := Ob.below m1 hb
  replace bl := (bl.trans (Below.mono hb bl.size))
  replace sz := sz2.trans sz
  replace df := df2.trans df
  clear df2 sz2 old2 new2 hb
  obtain ⟨sA48, sC48, sb48, so48, pA48, pC48, pb48, po48, e48, hsb48, q48a, hpb48, q48b⟩ := x48
  have x48 : Fk.f (.eq (.agg ([.int .i64 k, .int .i64 i, .slice sA48 (S).length sC48, .slice pA48 (P).length pC48] : List Value).toArray)) (f10.eval (.tmp 48)) w10 := e48
  have v48a : Fk.f (.hs (S)) (.slice sA48 (S).length sC48) w10 := hl_hs q48a
  have v48b : Fk.f (.hs (P)) (.slice pA48 (P).length pC48) w10 := hl_hs q48b
  clear e48
  have S_v48a := v48a
  have S_v48b := v48b
  have hbS := Below.refl w10.heap.size w10
  have hbS0 := hbS
  have S_x3 := x3
  have S_x45 := x45
  refine wl_one (.eq (.int .i64 0)) rfl 49 rfl (by rw [sz]; decide) (st_t2b (.tmp 45) rfl x45) ?_
  intro f11 w11 df2 sz2 old2 new2 hb
  replace hbS0 := hbS
  replace hbS := hbS.trans (Below.mono hb hbS.size)
  replace S_x3 := f_at (old2 3 rfl) S_x3
  replace S_x45 := f_at (old2 45 rfl) S_x45
  replace bl0 := bl
  replace x1 := (old2 1 rfl).trans x1
  replace x2 := (old2 2 rfl).trans x2
  replace x16 := (old2 16 rfl).trans x16
  replace x3 := f_at (old2 3 rfl) (Fk.mono _ _ _ _ x3 hb)
  replace x44 := (old2 44 rfl).trans x44
  replace x45 := f_at (old2 45 rfl) (Fk.mono _ _ _ _ x45 hb)
  replace x48 := (old2 48 rfl).trans x48
  have x49 : f11.eval (.tmp 49) = .int .i64 0 := new2
  have lt_m1 := Ob.lt m1
  replace m1 := Ob.below m1 hb
  replace v48a := Fk.mono _ _ _ _ v48a hb
  replace v48b := Fk.mono _ _ _ _ v48b hb
  replace bl := (bl.trans (Below.mono hb bl.size))
  replace sz := sz2.trans sz
  replace df := df2.trans df
  clear df2 sz2 old2 new2 hb
  clear x45
  refine wl_one (.nw w11.heap.size 38 [.int .i64 0, .int .i64 0, .slice none 0 0, .slice none 0 0]) rfl 5 rfl (by rw [sz]; decide) (st_alloc 38 rfl _ _ (by kernel_rfl) (Nat.le_refl _)) ?_
  intro f12 w12 df2 sz2 old2 new2 hb
  replace hbS0 := hbS
  replace hbS := hbS.trans (Below.mono hb hbS.size)
  replace S_x3 := f_at (old2 3 rfl) S_x3
  clear S_x45
  replace bl0 := bl
  replace x1 := (old2 1 rfl).trans x1
  replace x2 := (old2 2 rfl).trans x2
  replace x16 := (old2 16 rfl).trans x16
  replace x3 := f_at (old2 3 rfl) (Fk.mono _ _ _ _ x3 hb)
  replace x44 := (old2 44 rfl).trans x44
  replace x48 := (old2 48 rfl).trans x48
  replace x49 := (old2 49 rfl).trans x49
  have x5 : Fk.f (.nw w11.heap.size 38 [.int .i64 0, .int .i64 0, .slice none 0 0, .slice none 0 0]) (f12.eval (.tmp 5)) w12 := new2
  have lt_m1 := Ob.lt m1
  replace m1 := Ob.below m1 hb
  replace v48a := Fk.mono _ _ _ _ v48a hb
  replace v48b := Fk.mono _ _ _ _ v48b hb
  replace bl := (bl.trans (Below.mono hb bl.size))
  replace sz := sz2.trans sz
  replace df := df2.trans df
  clear df2 sz2 old2 new2 hb
  obtain ⟨g5, hg5, e5, m5⟩ := x5
  have x5 := e5
  clear e5
  have nm1_5 : g1 ≠ g5 := Nat.ne_of_lt (Nat.lt_of_lt_of_le lt_m1 hg5)
  have hw5 : w.heap.size ≤ g5 := Nat.le_trans bl0.size hg5
  have hs5 := Nat.le_trans hbS0.size hg5
  refine wl_str rfl 38 (.tmp 5) (.tmp 48) rfl rfl (g5) ([.int .i64 k, .int .i64 i, .slice sA48 (S).length sC48, .slice pA48 (P).length pC48] : List Value).toArray x5 x48 38 _ m5 (by kernel_rfl) (by kernel_rfl) (by kernel_rfl) ?_
  replace m1 : Ob (w12.setRow g5 ([.int .i64 k, .int .i64 i, .slice sA48 (S).length sC48, .slice pA48 (P).length pC48] : List Value).toArray) (g1) 38 ([.int .i64 (k), .int .i64 (i), .slice sA (S).length sC, .slice pA (P).length pC]) := Ob.setRow_other m1 _ nm1_5
  replace m5 : Ob (w12.setRow g5 ([.int .i64 k, .int .i64 i, .slice sA48 (S).length sC48, .slice pA48 (P).length pC48] : List Value).toArray) (g5) 38 ([.int .i64 k, .int .i64 i, .slice sA48 (S).length sC48, .slice pA48 (P).length pC48]) := Ob.setRow m5 ([.int .i64 k, .int .i64 i, .slice sA48 (S).length sC48, .slice pA48 (P).length pC48])
  replace hbS : Below _ _ (w12.setRow g5 ([.int .i64 k, .int .i64 i, .slice sA48 (S).length sC48, .slice pA48 (P).length pC48] : List Value).toArray) := hbS.trans (below_setRow _ _ _ _ hs5)
  replace v48a := Fk.mono _ _ _ _ S_v48a hbS
  replace v48b := Fk.mono _ _ _ _ S_v48b hbS
  replace bl : Below w.heap.size w (w12.setRow g5 ([.int .i64 k, .int .i64 i, .slice sA48 (S).length sC48, .slice pA48 (P).length pC48] : List Value).toArray) := bl.trans (below_setRow _ _ _ _ hw5)
  generalize w12.setRow g5 ([.int .i64 k, .int .i64 i, .slice sA48 (S).length sC48, .slice pA48 (P).length pC48] : List Value).toArray = w13b at bl m1 m5 v48a v48b hbS ⊢
  replace x3 : Fk.f (.sl (B)) (f12.eval (.tmp 3)) w13b := Fk.mono _ _ _ _ S_x3 hbS
  clear x48
  refine wl_one (.eq (.int .i64 0)) rfl 6 rfl (by rw [sz]; decide) (st_assign (.tmp 49) rfl x49) ?_
  intro f14 w14 df2 sz2 old2 new2 hb
  replace hbS0 := hbS
  replace hbS := hbS.trans (Below.mono hb hbS.size)
  replace S_x3 := f_at (old2 3 rfl) S_x3
  replace bl0 := bl
  replace x1 := (old2 1 rfl).trans x1
  replace x2 := (old2 2 rfl).trans x2
  replace x16 := (old2 16 rfl).trans x16
  replace x3 := f_at (old2 3 rfl) (Fk.mono _ _ _ _ x3 hb)
  replace x44 := (old2 44 rfl).trans x44
  replace x49 := (old2 49 rfl).trans x49
  replace x5 := (old2 5 rfl).trans x5
  have x6 : f14.eval (.tmp 6) = .int .i64 0 := new2
  have lt_m1 := Ob.lt m1
  replace m1 := Ob.below m1 hb
  have lt_m5 := Ob.lt m5
  replace m5 := Ob.below m5 hb
  replace v48a := Fk.mono _ _ _ _ v48a hb
  replace v48b := Fk.mono _ _ _ _ v48b hb
  replace bl := (bl.trans (Below.mono hb bl.size))
  replace sz := sz2.trans sz
  replace df := df2.trans df
  clear df2 sz2 old2 new2 hb
  refine wpList_nil ?_
  clear hbS hbS0 S_v48a S_v48b S_x3
  clear x49
  show Code.wp _ _ _ _ _
  refine wp_seq ?_
  refine wp_seq ?_
  -- R8
  refine wp_all_seq [.eq (.pointer (some ⟨g1, 0, none⟩)), .eq (.int .i64 (k)), .eq (.bool false), .eq (.bool false), .eq (.pointer (some ⟨g1, 0, none⟩)), .eq (.int .i64 (k)), .eq (.bool false), .eq (.bool false), .eq (.bool false), .eq (.pointer (some ⟨g1, 1, none⟩)), .eq (.int .i64 (i)), .eq (.bool false), .eq (.bool false), .eq (.bool false), .eq (.pointer (some ⟨g1, 1, none⟩)), .eq (.int .i64 (i)), .eq (.bool false), .eq (.bool false), .eq (.bool false), .eq (.pointer (some ⟨g1, 2, none⟩)), .eq (.slice sA (S).length sC), .eq (.int .i64 (((S).length : Nat) : Int)), .eq (.bool false), .eq (.bool false), .eq (.bool false), .eq (.pointer (some ⟨g1, 3, none⟩)), .eq (.slice pA (P).length pC), .eq (.int .i64 (((P).length : Nat) : Int)), .eq (.bool false), .eq (.bool false)] (by kernel_rfl) (by kernel_rfl) (by rw [sz]; kernel_rfl) (by kernel_rfl) ⟨fun hw ac u K => ?_, fun hw ac u K => ?_, fun hw ac u K => ?_, fun hw ac u K => ?_, fun hw ac u K => ?_, fun hw ac u K => ?_, fun hw ac u K => ?_, fun hw ac u K => ?_, fun hw ac u K => ?_, fun hw ac u K => ?_, fun hw ac u K => ?_, fun hw ac u K => ?_, fun hw ac u K => ?_, fun hw ac u K => ?_, fun hw ac u K => ?_, fun hw ac u K => ?_, fun hw ac u K => ?_, fun hw ac u K => ?_, fun hw ac u K => ?_, fun hw ac u K => ?_, fun hw ac u K => ?_, fun hw ac u K => ?_, fun hw ac u K => ?_, fun hw ac u K => ?_, fun hw ac u K => ?_, fun hw ac u K => ?_, fun hw ac u K => ?_, fun hw ac u K => ?_, fun hw ac u K => ?_, fun hw ac u K => ?_, trivial⟩ ?_
  · exact st_field 38 0 (.tmp 1) rfl ((K.old 1 rfl).trans x1) (by kernel_rfl)
  · exact st_loadc 3 (.tmp 50) rfl (by kernel_rfl) (K.dep 0 50 rfl) (Ob.cell (Ob.below m1 K.grow) 0 rfl)
  · exact st_lss 3 (.tmp 51) (.const (.int .i64 1)) rfl .i64 ((k)) (1) (K.dep 1 51 rfl) rfl _ (by rw [eq_comm, decide_eq_false_iff_not]; omega)
  · exact st_move (.tmp 52) rfl (K.dep 2 52 rfl)
  · exact st_field 38 0 (.tmp 1) rfl ((K.old 1 rfl).trans x1) (by kernel_rfl)
  · exact st_loadc 3 (.tmp 54) rfl (by kernel_rfl) (K.dep 4 54 rfl) (Ob.cell (Ob.below m1 K.grow) 0 rfl)
  · exact st_gtr 3 (.tmp 55) (.const (.int .i64 2)) rfl .i64 ((k)) (2) (K.dep 5 55 rfl) rfl _ (by rw [eq_comm, decide_eq_false_iff_not]; omega)
  · exact st_pick_f' (.tmp 53) (.const (.bool true)) (.tmp 56) rfl (K.dep 3 53 rfl) (K.dep 6 56 rfl)
  · exact st_move (.tmp 57) rfl (K.dep 7 57 rfl)
  · exact st_field 38 1 (.tmp 1) rfl ((K.old 1 rfl).trans x1) (by kernel_rfl)
  · exact st_loadc 3 (.tmp 59) rfl (by kernel_rfl) (K.dep 9 59 rfl) (Ob.cell (Ob.below m1 K.grow) 1 rfl)
  · exact st_lss 3 (.tmp 60) (.const (.int .i64 0)) rfl .i64 ((i)) (0) (K.dep 10 60 rfl) rfl _ (by rw [eq_comm, decide_eq_false_iff_not]; omega)
  · exact st_pick_f' (.tmp 58) (.const (.bool true)) (.tmp 61) rfl (K.dep 8 58 rfl) (K.dep 11 61 rfl)
  · exact st_move (.tmp 62) rfl (K.dep 12 62 rfl)
  · exact st_field 38 1 (.tmp 1) rfl ((K.old 1 rfl).trans x1) (by kernel_rfl)
  · exact st_loadc 3 (.tmp 64) rfl (by kernel_rfl) (K.dep 14 64 rfl) (Ob.cell (Ob.below m1 K.grow) 1 rfl)
  · exact st_gtr 3 (.tmp 65) (.const (.int .i64 255)) rfl .i64 ((i)) (255) (K.dep 15 65 rfl) rfl _ (by rw [eq_comm, decide_eq_false_iff_not]; omega)
  · exact st_pick_f' (.tmp 63) (.const (.bool true)) (.tmp 66) rfl (K.dep 13 63 rfl) (K.dep 16 66 rfl)
  · exact st_move (.tmp 67) rfl (K.dep 17 67 rfl)
  · exact st_field 38 2 (.tmp 1) rfl ((K.old 1 rfl).trans x1) (by kernel_rfl)
  · exact st_loadc 32 (.tmp 69) rfl (by kernel_rfl) (K.dep 19 69 rfl) (Ob.cell (Ob.below m1 K.grow) 2 rfl)
  · exact st_lenh (.tmp 70) rfl (fk_val (K.dep 20 70 rfl) (Fk.mono _ _ _ _ vS (bl.trans (Below.mono K.grow bl.size))))
  · exact st_gtr 3 (.tmp 71) (.const (.int .i64 512)) rfl .i64 ((((S).length : Nat) : Int)) (512) (K.dep 21 71 rfl) rfl _ (by rw [eq_comm, decide_eq_false_iff_not]; omega)
  · exact st_pick_f' (.tmp 68) (.const (.bool true)) (.tmp 72) rfl (K.dep 18 68 rfl) (K.dep 22 72 rfl)
  · exact st_move (.tmp 73) rfl (K.dep 23 73 rfl)
  · exact st_field 38 3 (.tmp 1) rfl ((K.old 1 rfl).trans x1) (by kernel_rfl)
  · exact st_loadc 32 (.tmp 75) rfl (by kernel_rfl) (K.dep 25 75 rfl) (Ob.cell (Ob.below m1 K.grow) 3 rfl)
  · exact st_lenh (.tmp 76) rfl (fk_val (K.dep 26 76 rfl) (Fk.mono _ _ _ _ vP (bl.trans (Below.mono K.grow bl.size))))
  · exact st_gtr 3 (.tmp 77) (.const (.int .i64 8)) rfl .i64 ((((P).length : Nat) : Int)) (8) (K.dep 27 77 rfl) rfl _ (by rw [eq_comm, decide_eq_false_iff_not]; omega)
  · exact st_pick_f' (.tmp 74) (.const (.bool true)) (.tmp 78) rfl (K.dep 24 74 rfl) (K.dep 28 78 rfl)
  intro f15 w15 A hb
  replace bl0 := bl
  replace x1 := (A.old 1 rfl).trans x1
  replace x2 := (A.old 2 rfl).trans x2
  replace x16 := (A.old 16 rfl).trans x16
  replace x3 := f_at (A.old 3 rfl) (Fk.mono _ _ _ _ x3 hb)
  replace x44 := (A.old 44 rfl).trans x44
  replace x5 := (A.old 5 rfl).trans x5
  replace x6 := (A.old 6 rfl).trans x6
  have x79 : f15.eval (.tmp 79) = .bool false := A.has 29 79 rfl
  have lt_m1 := Ob.lt m1
  replace m1 := Ob.below m1 hb
  have lt_m5 := Ob.lt m5
  replace m5 := Ob.below m5 hb
  replace v48a := Fk.mono _ _ _ _ v48a hb
  replace v48b := Fk.mono _ _ _ _ v48b hb
  replace bl := (bl.trans (Below.mono hb bl.size))
  replace sz := A.size.trans sz
  replace df := A.defs.trans df
  clear A hb
  show Code.wp _ _ _ _ _
  refine wp_cond_false x79 ?_
  refine wp_skip ?_
  show Code.wp _ _ _ _ _
  refine wp_seq ?_
  -- R10
  refine wp_all_seq [.eq (.int .i64 0), .eq (.bool true), .eq (.bool true), .eq (.agg ([.int .i64 k, .int .i64 i, .slice sA48 (S).length sC48, .slice pA48 (P).length pC48] : List Value).toArray), .eq (.agg ([.int .i64 (k), .int .i64 (i), .slice sA (S).length sC, .slice pA (P).length pC] : List Value).toArray), .eq (.bool true), .eq (.bool true), .eq (.bool true), .eq (.bool true), .eq (.bool true), .eq (.bool true)] (by kernel_rfl) (by kernel_rfl) (by rw [sz]; kernel_rfl) (by kernel_rfl) ⟨fun hw ac u K => ?_, fun hw ac u K => ?_, fun hw ac u K => ?_, fun hw ac u K => ?_, fun hw ac u K => ?_, fun hw ac u K => ?_, fun hw ac u K => ?_, fun hw ac u K => ?_, fun hw ac u K => ?_, fun hw ac u K => ?_, fun hw ac u K => ?_, trivial⟩ ?_
  · exact st_move (.tmp 6) rfl ((K.old 6 rfl).trans x6)
  · exact st_eqi 29 (.tmp 90) (.const (.int .i64 0)) rfl .i64 (0) (0) (K.dep 0 90 rfl) rfl _ (by rfl)
  · exact st_move (.tmp 91) rfl (K.dep 1 91 rfl)
  · exact st_loadz 38 (.tmp 5) rfl (g5) 0 [.int .i64 k, .int .i64 i, .slice sA48 (S).length sC48, .slice pA48 (P).length pC48] (by kernel_rfl) (by kernel_rfl) ((K.old 5 rfl).trans x5) (Ob.range (Ob.below m5 K.grow) 0 _ (fun j v hj => by simpa using hj))
  · exact st_loadz 38 (.tmp 1) rfl (g1) 0 [.int .i64 (k), .int .i64 (i), .slice sA (S).length sC, .slice pA (P).length pC] (by kernel_rfl) (by kernel_rfl) ((K.old 1 rfl).trans x1) (Ob.range (Ob.below m1 K.grow) 0 _ (fun j v hj => by simpa using hj))
  · exact st_call 31 (.func 31) _ _ #[.agg ([.int .i64 k, .int .i64 i, .slice sA48 (S).length sC48, .slice pA48 (P).length pC48] : List Value).toArray, .agg ([.int .i64 (k), .int .i64 (i), .slice sA (S).length sC, .slice pA (P).length pC] : List Value).toArray] rfl rfl (arg2 (K.dep 3 93 rfl) (K.dep 4 94 rfl)) Tryd.enter31 (fk_of (sigEqual_any k i k i (by omega) (by omega) _ (Fk.mono _ _ _ _ v48a K.grow) (Fk.mono _ _ _ _ v48b K.grow) (Fk.mono _ _ _ _ vS (bl.trans (Below.mono K.grow bl.size))) (Fk.mono _ _ _ _ vP (bl.trans (Below.mono K.grow bl.size))) true (by simp)))
  · exact st_pick_t (.tmp 92) (.tmp 95) (.const (.bool false)) rfl (K.dep 2 92 rfl) (K.dep 5 95 rfl)
  · exact st_move (.tmp 96) rfl (K.dep 6 96 rfl)
  · exact st_call 8 (.func 8) _ _ #[] rfl rfl rfl Tryd.enter8 (fk_of (awake_any _ (hK.below (bl.trans (Below.mono K.grow bl.size)))))
  · exact st_pick_t (.tmp 97) (.tmp 98) (.const (.bool false)) rfl (K.dep 7 97 rfl) (K.dep 8 98 rfl)
  · exact st_assign (.tmp 99) rfl (K.dep 9 99 rfl)
  intro f16 w16 A hb
  replace bl0 := bl
  replace x1 := (A.old 1 rfl).trans x1
  clear x2
  replace x16 := (A.old 16 rfl).trans x16
  replace x3 := f_at (A.old 3 rfl) (Fk.mono _ _ _ _ x3 hb)
  replace x44 := (A.old 44 rfl).trans x44
  replace x5 := (A.old 5 rfl).trans x5
  replace x6 := (A.old 6 rfl).trans x6
  replace x79 := (A.old 79 rfl).trans x79
  have x2 : f16.eval (.tmp 2) = .bool true := A.has 10 2 rfl
  have lt_m1 := Ob.lt m1
  replace m1 := Ob.below m1 hb
  have lt_m5 := Ob.lt m5
  replace m5 := Ob.below m5 hb
  replace v48a := Fk.mono _ _ _ _ v48a hb
  replace v48b := Fk.mono _ _ _ _ v48b hb
  replace bl := (bl.trans (Below.mono hb bl.size))
  replace sz := A.size.trans sz
  replace df := A.defs.trans df
  clear A hb
  show Code.wp _ _ _ _ _
  refine wp_ret ?_
  repeat (first | with_reducible refine then_ret ?_ | with_reducible refine block_ret ?_)
  exact bodyPost_ret (v := .bool true) (ret_slot rfl f16 _ x2 _ _) df ⟨rfl, bl⟩
end Go.Proofs.YtnanipeapjpkfaaDoor
