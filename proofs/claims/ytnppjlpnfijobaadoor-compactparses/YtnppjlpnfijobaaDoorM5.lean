/- The law's same; lists cut in the midst. Open: what is asked of package compact. Clone and Equal of lists of hashes. The short contracts of package compact. A range's bytes, plainly: what is written is read back, what is read was so written (any bound on the hashes). Copy and Bytes of package compact. Hashes of an In once more: what is told lies in a block of its own, all of it hashes. -/
import Derived.Test.YtnppjlpnfijobaaDoorM3
import Derived.Test.YtnppjlpnfijobaaDoorM4
namespace Go.Proofs.YtnppjlpnfijobaaDoor
set_option maxRecDepth 100000
open Go.RowKit
theorem take_one (A : List (List (BitVec 8))) {k : Nat} {x : List (BitVec 8)} (h : A[k]? = some x) : A.take (k + 1) = A.take k ++ [x] := by rw [List.take_add_one, h]; rfl
theorem hs_all {P : List (List (BitVec 8))} {v : Value} {w : World} (h : (Fk.hs P).f v w) : ∀ (i : Nat) (x : List (BitVec 8)), P[i]? = some x → x.length = 32 := fun _ _ hx => hs_len h hx
theorem rgb_len (n : Int) {S : List (List (BitVec 8))} (h : ∀ (i : Nat) (x : List (BitVec 8)), S[i]? = some x → x.length = 32) (hl : S.length ≤ 1000) : 12 ≤ (be8 n ++ hsb S).length ∧ (be8 n ++ hsb S).length ≤ 900000 := by
  have e1 := flat_len2 S h
  unfold hsb
  simp only [List.length_append, be8_len, beN_len, e1]
  omega
theorem rbytes_any {A0 : List (List (BitVec 8))} {va : Value} (hA0 : A0.length ≤ 1000) (n : Int) (w : World) (hA : (Fk.hs A0).f va w) :
    Calls Tryd.prog 17 #[.int .i64 n, va] w fun e w' => e = .returned (.string (str (be8 n ++ hsb A0))) ∧ Below w.heap.size w w' := by
  go_enter Tryd.func17, Tryd.ntmps17
  refine code_both (fun f w1 => f.tmps.size = 26 ∧ f.defers = [] ∧ f.eval (.tmp 0) = .int .i64 (n) ∧ f.eval (.tmp 1) = va ∧ Below w.heap.size w (w1)) ⟨rfl, rfl, rfl, rfl, Below.refl _ _⟩ ?_
  rintro f0 w0 ⟨sz, df, x0, x1, bl⟩
  have bl0 := bl
  refine wp_seq ?_
  refine wp_all_seq [.eq (.string { data := #[] })] (by kernel_rfl) (by kernel_rfl) (by rw [sz]; kernel_rfl) (by kernel_rfl) ⟨fun hw ac u K => ?_, trivial⟩ ?_
  · exact st_assign (.const (.string { data := #[] })) rfl rfl
  intro f1 w1 A hb
  replace bl0 := bl
  replace x0 := (A.old 0 rfl).trans x0
  replace x1 := (A.old 1 rfl).trans x1
  have x4 : f1.eval (.tmp 4) = .string { data := #[] } := A.has 0 4 rfl
  replace bl := (bl.trans (Below.mono hb bl.size))
  replace sz := A.size.trans sz
  replace df := A.defs.trans df
  clear A hb
  show Code.wp _ _ _ _ _
  refine wp_seq ?_
  refine wp_all_seq [.ow2 w.heap.size ([])] (by kernel_rfl) (by kernel_rfl) (by rw [sz]; kernel_rfl) (by kernel_rfl) ⟨fun hw ac u K => ?_, trivial⟩ ?_
  · exact st_assign (.const (.slice none 0 0)) rfl (ow2_nil _ _)
  intro f2 w2 A hb
  replace bl0 := bl
  replace x0 := (A.old 0 rfl).trans x0
  replace x1 := (A.old 1 rfl).trans x1
  replace x4 := (A.old 4 rfl).trans x4
  have x5 : Fk.f (.ow2 w.heap.size ([])) (f2.eval (.tmp 5)) w2 := A.has 0 5 rfl
  replace bl := (bl.trans (Below.mono hb bl.size))
  replace sz := A.size.trans sz
  replace df := A.defs.trans df
  clear A hb
  show Code.wp _ _ _ _ _
  refine wp_seq ?_
  refine wp_seq ?_
  refine wp_all_seq [.eq (va), .eq (.int .i64 (((A0).length : Nat) : Int)), .eq (.int .i64 0)] (by kernel_rfl) (by kernel_rfl) (by rw [sz]; kernel_rfl) (by kernel_rfl) ⟨fun hw ac u K => ?_, fun hw ac u K => ?_, fun hw ac u K => ?_, trivial⟩ ?_
  · exact st_move (.tmp 1) rfl ((K.old 1 rfl).trans x1)
  · exact st_lenh (.tmp 8) rfl (fk_val (K.dep 0 8 rfl) (Fk.mono _ _ _ _ hA (bl.trans (Below.mono K.grow bl.size))))
  · exact st_move (.const (.int .i64 0)) rfl rfl
  intro f3 w3 A hb
  replace bl0 := bl
  replace x0 := (A.old 0 rfl).trans x0
  replace x1 := (A.old 1 rfl).trans x1
  replace x4 := (A.old 4 rfl).trans x4
  replace x5 := f_at (A.old 5 rfl) (Fk.mono _ _ _ _ x5 hb)
  have x8 : f3.eval (.tmp 8) = va := A.has 0 8 rfl
  have x9 : f3.eval (.tmp 9) = .int .i64 (((A0).length : Nat) : Int) := A.has 1 9 rfl
  have x10 : f3.eval (.tmp 10) = .int .i64 0 := A.has 2 10 rfl
  replace bl := (bl.trans (Below.mono hb bl.size))
  replace sz := A.size.trans sz
  replace df := A.defs.trans df
  clear A hb
  clear x1
  show Code.wp _ _ _ _ _
  refine wp_block ?_
  refine wp_loop (fun f v1 => ∃ k : Nat, k ≤ A0.length ∧ f.tmps.size = 26 ∧ f.defers = [] ∧ f.eval (.tmp 0) = .int .i64 (n) ∧ f.eval (.tmp 4) = .string { data := #[] } ∧ f.eval (.tmp 8) = va ∧ f.eval (.tmp 9) = .int .i64 (((A0).length : Nat) : Int) ∧ f.eval (.tmp 10) = .int .i64 ((k : Nat) : Int) ∧ Fk.f (.ow2 w.heap.size (A0.take k)) (f.eval (.tmp 5)) v1 ∧ Below w.heap.size w (v1)) (fun f _ => A0.length - (intOf (f.eval (.tmp 10))).toNat) ⟨0, Nat.zero_le _, sz, df, x0, x4, x8, x9, x10, x5, bl⟩ ?_
  intro f4 w4 hI
  clear sz df bl bl0 x0 x4 x5 x8 x9 x10
  obtain ⟨k, hk, sz, df, x0, x4, x8, x9, x10, x5, bl⟩ := hI
  have bl0 := bl
  have hcnt := x10
  refine wp_seq ?_
  by_cases hlt : k < A0.length
  rotate_left
  · skip
    refine wp_all_seq [.eq (.bool false)] (by kernel_rfl) (by kernel_rfl) (by rw [sz]; kernel_rfl) (by kernel_rfl) ⟨fun hw ac u K => ?_, trivial⟩ ?_
    · exact st_lss 3 (.tmp 10) (.tmp 9) rfl .i64 (((k : Nat) : Int)) ((((A0).length : Nat) : Int)) ((K.old 10 rfl).trans x10) ((K.old 9 rfl).trans x9) _ (by first | (simp; done) | (simp; omega))
    intro f5 w5 A hb
    replace bl0 := bl
    replace x0 := (A.old 0 rfl).trans x0
    replace x4 := (A.old 4 rfl).trans x4
    replace x5 := f_at (A.old 5 rfl) (Fk.mono _ _ _ _ x5 hb)
    replace x8 := (A.old 8 rfl).trans x8
    replace x9 := (A.old 9 rfl).trans x9
    replace x10 := (A.old 10 rfl).trans x10
    have x11 : f5.eval (.tmp 11) = .bool false := A.has 0 11 rfl
    replace bl := (bl.trans (Below.mono hb bl.size))
    replace sz := A.size.trans sz
    replace df := A.defs.trans df
    clear A hb
    show Code.wp _ _ _ _ _
    refine wp_seq ?_
    refine wp_cond_false x11 ?_
    refine wp_exit ?_
    show Code.wp _ _ _ _ _
    refine wp_seq ?_
    rw [show A0.take k = A0 from List.take_of_length_le (by omega)] at x5
    obtain ⟨B, eB⟩ : ∃ B, Box (be8 n ++ hsb A0 = B) := ⟨_, ⟨rfl⟩⟩
    have hB := rgb_len n (hs_all hA) hA0
    rw [eB.out] at hB
    refine wp_all_seq [.eq (.int .i64 (n)), .sl (be8 n), .ow2 w.heap.size (A0), .sl (hsb A0), .ls 2 (B), .sl (B), .eq (.string (str (B))), .eq (.string (str (B)))] (by kernel_rfl) (by kernel_rfl) (by rw [sz]; kernel_rfl) (by kernel_rfl) ⟨fun hw ac u K => ?_, fun hw ac u K => ?_, fun hw ac u K => ?_, fun hw ac u K => ?_, fun hw ac u K => ?_, fun hw ac u K => ?_, fun hw ac u K => ?_, fun hw ac u K => ?_, trivial⟩ ?_
    · exact st_move (.tmp 0) rfl ((K.old 0 rfl).trans x0)
    · exact st_call 32 (.func 32) _ _ #[.int .i64 (n)] rfl rfl (one_arg (K.dep 0 19 rfl)) Tryd.enter32 (fk_refInt n _)
    · exact st_move (.tmp 5) rfl (f_at (K.old 5 rfl) (Fk.mono _ _ _ _ x5 K.grow))
    · exact st_call 33 (.func 33) _ _ #[ac.eval (.tmp 21)] rfl rfl (one_arg rfl) Tryd.enter33 (fk_refHashes hA0 (K.dep 2 21 rfl))
    · exact by rw [← eB.out]; exact st_build2 (.tmp 20) (.tmp 22) rfl (K.dep 1 20 rfl) (K.dep 3 22 rfl)
    · exact st_call 31 (.func 31) _ _ #[ac.eval (.tmp 23)] rfl rfl (one_arg rfl) Tryd.enter31 (fk_join (by omega) (by omega) (K.dep 4 23 rfl))
    · exact st_str (.tmp 24) rfl (by omega) (K.dep 5 24 rfl)
    · exact st_assign (.tmp 25) rfl (K.dep 6 25 rfl)
    intro f6 w6 A hb
    replace bl0 := bl
    replace x0 := (A.old 0 rfl).trans x0
    clear x4
    replace x5 := f_at (A.old 5 rfl) (Fk.mono _ _ _ _ x5 hb)
    replace x8 := (A.old 8 rfl).trans x8
    replace x9 := (A.old 9 rfl).trans x9
    replace x10 := (A.old 10 rfl).trans x10
    replace x11 := (A.old 11 rfl).trans x11
    have x4 : f6.eval (.tmp 4) = .string (str (B)) := A.has 7 4 rfl
    replace bl := (bl.trans (Below.mono hb bl.size))
    replace sz := A.size.trans sz
    replace df := A.defs.trans df
    clear A hb
    show Code.wp _ _ _ _ _
    refine wp_ret ?_
    repeat (first | with_reducible refine then_ret ?_ | with_reducible refine block_ret ?_)
    rw [← eB.out] at x4
    exact bodyPost_ret (v := .string (str (be8 n ++ hsb A0))) (ret_slot rfl f6 _ x4 _ _) df ⟨rfl, bl⟩
  obtain ⟨x, hxk⟩ : ∃ p, A0[k]? = some p := ⟨_, List.getElem?_eq_getElem hlt⟩
  have hx : x.length = 32 := hs_len hA hxk
  refine wp_all_seq [.eq (.bool true)] (by kernel_rfl) (by kernel_rfl) (by rw [sz]; kernel_rfl) (by kernel_rfl) ⟨fun hw ac u K => ?_, trivial⟩ ?_
  · exact st_lss 3 (.tmp 10) (.tmp 9) rfl .i64 (((k : Nat) : Int)) ((((A0).length : Nat) : Int)) ((K.old 10 rfl).trans x10) ((K.old 9 rfl).trans x9) _ (by first | (simp; done) | (simp; omega))
  intro f5 w5 A hb
  replace bl0 := bl
  replace x0 := (A.old 0 rfl).trans x0
  replace x4 := (A.old 4 rfl).trans x4
  replace x5 := f_at (A.old 5 rfl) (Fk.mono _ _ _ _ x5 hb)
  replace x8 := (A.old 8 rfl).trans x8
  replace x9 := (A.old 9 rfl).trans x9
  replace x10 := (A.old 10 rfl).trans x10
  have x11 : f5.eval (.tmp 11) = .bool true := A.has 0 11 rfl
  replace bl := (bl.trans (Below.mono hb bl.size))
  replace sz := A.size.trans sz
  replace df := A.defs.trans df
  clear A hb
  show Code.wp _ _ _ _ _
  refine wp_seq ?_
  refine wp_cond_true x11 ?_
  refine wp_skip ?_
  show Code.wp _ _ _ _ _
  refine wp_seq ?_
  refine wp_block ?_
  refine wp_seq ?_
  refine wp_region_seq [.ph (x), .eq (.agg ((x).map V).toArray), .nw w5.heap.size 33 ((hz).map V)] (by kernel_rfl) (by kernel_rfl) (by rw [sz]; kernel_rfl) (by kernel_rfl) ⟨fun hw ac u K => ?_, fun hw ac u K => ?_, fun hw ac u K => ?_, trivial⟩ ?_
  · exact st_idxh (.tmp 8) (.tmp 10) rfl (fk_val ((K.old 8 rfl).trans x8) (Fk.mono _ _ _ _ hA (bl.trans (Below.mono K.grow bl.size)))) (k) (x) ((K.old 10 rfl).trans x10) hxk
  · exact st_loadh (.tmp 12) rfl (K.dep 0 12 rfl)
  · exact st_alloc33 rfl _ K.grow.size
  intro f6 w6 A hb
  have S_x5 : Fk.f (.ow2 w.heap.size (A0.take k)) (f6.eval (.tmp 5)) w5 := f_at (A.old 5 rfl) x5
  have hbS0 := Below.refl w5.heap.size w5
  have hbS := hb
  replace bl0 := bl
  replace x0 := (A.old 0 rfl).trans x0
  replace x4 := (A.old 4 rfl).trans x4
  replace x5 := f_at (A.old 5 rfl) (Fk.mono _ _ _ _ x5 hb)
  replace x8 := (A.old 8 rfl).trans x8
  replace x9 := (A.old 9 rfl).trans x9
  replace x10 := (A.old 10 rfl).trans x10
  replace x11 := (A.old 11 rfl).trans x11
  have x7 : Fk.f (.nw w5.heap.size 33 ((hz).map V)) (f6.eval (.tmp 7)) w6 := A.has 2 7 rfl
  have x13 : f6.eval (.tmp 13) = .agg ((x).map V).toArray := A.has 1 13 rfl
  replace bl := (bl.trans (Below.mono hb bl.size))
  replace sz := A.size.trans sz
  replace df := A.defs.trans df
  clear A hb
  obtain ⟨g7, hg7, e7, m7⟩ := x7
  have x7 := e7
  clear e7
  have hw7 : w.heap.size ≤ g7 := Nat.le_trans bl0.size hg7
  have hs7 := Nat.le_trans hbS0.size hg7
  refine wl_store rfl (.tmp 7) (.tmp 13) rfl rfl (g7) (x) (hz) x7 x13 m7 hz_len hx ?_
  replace m7 : Ob (w6.setRow g7 ((x).map V : List Value).toArray) (g7) 33 ((x).map V) := Ob.setRow m7 ((x).map V)
  replace hbS : Below _ _ (w6.setRow g7 ((x).map V : List Value).toArray) := hbS.trans (below_setRow _ _ _ _ hs7)
  replace bl : Below w.heap.size w (w6.setRow g7 ((x).map V : List Value).toArray) := bl.trans (below_setRow _ _ _ _ hw7)
  generalize w6.setRow g7 ((x).map V : List Value).toArray = w7b at bl m7 hbS ⊢
  replace x5 : Fk.f (.ow2 w.heap.size (A0.take k)) (f6.eval (.tmp 5)) w7b := Fk.mono _ _ _ _ S_x5 hbS
  refine wpList_nil ?_
  clear hbS hbS0 S_x5
  clear x13
  show Code.wp _ _ _ _ _
  refine wp_region_seq [.ow2 w.heap.size (A0.take k), .eq (.agg ((x).map V).toArray), .hs ([x])] (by kernel_rfl) (by kernel_rfl) (by rw [sz]; kernel_rfl) (by kernel_rfl) ⟨fun hw ac u K => ?_, fun hw ac u K => ?_, fun hw ac u K => ?_, trivial⟩ ?_
  · exact st_move (.tmp 5) rfl (f_at (K.old 5 rfl) (Fk.mono _ _ _ _ x5 K.grow))
  · exact st_load33 (.tmp 7) rfl (g7) (x) ((K.old 7 rfl).trans x7) hx (Ob.below m7 K.grow)
  · exact st_bh2 (.tmp 15) rfl hx (K.dep 1 15 rfl)
  intro f8 w8 A hb
  replace bl0 := bl
  replace x0 := (A.old 0 rfl).trans x0
  replace x4 := (A.old 4 rfl).trans x4
  replace x5 := f_at (A.old 5 rfl) (Fk.mono _ _ _ _ x5 hb)
  replace x8 := (A.old 8 rfl).trans x8
  replace x9 := (A.old 9 rfl).trans x9
  replace x10 := (A.old 10 rfl).trans x10
  replace x11 := (A.old 11 rfl).trans x11
  replace x7 := (A.old 7 rfl).trans x7
  have x14 : Fk.f (.ow2 w.heap.size (A0.take k)) (f8.eval (.tmp 14)) w8 := A.has 0 14 rfl
  have x16 : Fk.f (.hs ([x])) (f8.eval (.tmp 16)) w8 := A.has 2 16 rfl
  have lt_m7 := Ob.lt m7
  replace m7 := Ob.below m7 hb
  replace bl := (bl.trans (Below.mono hb bl.size))
  replace sz := A.size.trans sz
  replace df := A.defs.trans df
  clear A hb
  refine wl_append2 rfl (.tmp 14) (.tmp 16) rfl 17 rfl (by rw [sz]; decide) x14 x16 bl (by rw [List.length_take]; omega) ?_
  intro f9 w9 df2 sz2 old2 new2 bl2
  clear x5
  clear x14
  clear x16
  replace x0 := (old2 0 rfl).trans x0
  replace x4 := (old2 4 rfl).trans x4
  replace x8 := (old2 8 rfl).trans x8
  replace x9 := (old2 9 rfl).trans x9
  replace x10 := (old2 10 rfl).trans x10
  replace x11 := (old2 11 rfl).trans x11
  replace x7 := (old2 7 rfl).trans x7
  clear m7
  have x17 : Fk.f (.ow2 w.heap.size (A0.take k ++ [x])) (f9.eval (.tmp 17)) w9 := new2
  replace bl := bl2
  replace bl0 := bl
  replace sz := sz2.trans sz
  replace df := df2.trans df
  clear df2 sz2 old2 new2 bl2
  refine wl_one (.ow2 w.heap.size (A0.take k ++ [x])) rfl 5 rfl (by rw [sz]; decide) (st_assign (.tmp 17) rfl x17) ?_
  intro f10 w10 df2 sz2 old2 new2 hb
  replace bl0 := bl
  replace x0 := (old2 0 rfl).trans x0
  replace x4 := (old2 4 rfl).trans x4
  replace x8 := (old2 8 rfl).trans x8
  replace x9 := (old2 9 rfl).trans x9
  replace x10 := (old2 10 rfl).trans x10
  replace x11 := (old2 11 rfl).trans x11
  replace x7 := (old2 7 rfl).trans x7
  replace x17 := f_at (old2 17 rfl) (Fk.mono _ _ _ _ x17 hb)
  have x5 : Fk.f (.ow2 w.heap.size (A0.take k ++ [x])) (f10.eval (.tmp 5)) w10 := new2
  replace bl := (bl.trans (Below.mono hb bl.size))
  replace sz := sz2.trans sz
  replace df := df2.trans df
  clear df2 sz2 old2 new2 hb
  refine wpList_nil ?_
  clear x17
  show Code.wp _ _ _ _ _
  refine wp_region_seq [.eq (.int .i64 ((k + 1 : Nat) : Int))] (by kernel_rfl) (by kernel_rfl) (by rw [sz]; kernel_rfl) (by kernel_rfl) ⟨fun hw ac u K => ?_, trivial⟩ ?_
  · exact st_add (.tmp 10) (.const (.int .i64 1)) rfl (k) (1) (k + 1) ((K.old 10 rfl).trans x10) rfl (by omega) (by omega)
  intro f11 w11 A hb
  replace bl0 := bl
  replace x0 := (A.old 0 rfl).trans x0
  replace x4 := (A.old 4 rfl).trans x4
  replace x8 := (A.old 8 rfl).trans x8
  replace x9 := (A.old 9 rfl).trans x9
  replace x10 := (A.old 10 rfl).trans x10
  replace x11 := (A.old 11 rfl).trans x11
  replace x7 := (A.old 7 rfl).trans x7
  replace x5 := f_at (A.old 5 rfl) (Fk.mono _ _ _ _ x5 hb)
  have x18 : f11.eval (.tmp 18) = .int .i64 ((k + 1 : Nat) : Int) := A.has 0 18 rfl
  replace bl := (bl.trans (Below.mono hb bl.size))
  replace sz := A.size.trans sz
  replace df := A.defs.trans df
  clear A hb
  refine wl_one (.eq (.int .i64 ((k + 1 : Nat) : Int))) rfl 10 rfl (by rw [sz]; decide) (st_move (.tmp 18) rfl x18) ?_
  intro f12 w12 df2 sz2 old2 new2 hb
  replace bl0 := bl
  replace x0 := (old2 0 rfl).trans x0
  replace x4 := (old2 4 rfl).trans x4
  replace x8 := (old2 8 rfl).trans x8
  replace x9 := (old2 9 rfl).trans x9
  clear x10
  replace x11 := (old2 11 rfl).trans x11
  replace x7 := (old2 7 rfl).trans x7
  replace x5 := f_at (old2 5 rfl) (Fk.mono _ _ _ _ x5 hb)
  replace x18 := (old2 18 rfl).trans x18
  have x10 : f12.eval (.tmp 10) = .int .i64 ((k + 1 : Nat) : Int) := new2
  replace bl := (bl.trans (Below.mono hb bl.size))
  replace sz := sz2.trans sz
  replace df := df2.trans df
  clear df2 sz2 old2 new2 hb
  refine wpList_nil ?_
  clear x18
  show (∃ _, _) ∧ _
  replace x5 : Fk.f (.ow2 w.heap.size (A0.take (k + 1))) (f12.eval (.tmp 5)) w12 := (by rw [take_one A0 hxk]; exact x5)
  refine ⟨⟨k + 1, by omega, sz, df, x0, x4, x8, x9, x10, x5, bl⟩, ?_⟩
  rw [show f12.eval (.tmp 10) = _ from x10, show _ = _ from hcnt]
  simp [intOf]
  omega
end Go.Proofs.YtnppjlpnfijobaaDoor
namespace Go.Proofs.YtnppjlpnfijobaaDoor
set_option maxRecDepth 100000
open Go.RowKit
/-- A Range in memory: at block g, its row of peaks (if it has one) at block k; it has so many leaves, and these peaks. (Turn to the landed struct.) -/
def HR (w : World) (g k n : Nat) (P : List (List (BitVec 8))) : Prop :=
  n ≤ 1048576 ∧ P.length = pcn n ∧ (∀ x ∈ P, x.length = 32) ∧ ∃ v, Ob w g 51 [.int .i64 (n : Int), v] ∧ ((v = .slice none 0 0 ∧ P = [] ∧ k = g) ∨ ∃ cap cur, v = .slice (some ⟨k, 0, none⟩) P.length cap ∧ k ≠ g ∧ w.heap[k]? = some (.cells cur 33 (0, 0)) ∧ P.length ≤ cap ∧ cap ≤ maxLen ∧ cur.size = cap * 32 ∧ cur.toList.take (P.length * 32) = P.flatten.map V)
theorem HR.lt {w : World} {g k n : Nat} {P : List (List (BitVec 8))} (h : HR w g k n P) : g < w.heap.size ∧ k < w.heap.size := by
  obtain ⟨_, _, _, v, hob, h | ⟨cap, cur, _, _, hk, _⟩⟩ := h
  · exact ⟨Ob.lt hob, by rw [h.2.2]; exact Ob.lt hob⟩
  · exact ⟨Ob.lt hob, (Array.getElem?_eq_some_iff.1 hk).1⟩
theorem HR.keep {w w' : World} {g k n : Nat} {P : List (List (BitVec 8))} (h : HR w g k n P) (hg : w'.heap[g]? = w.heap[g]?) (hk : w'.heap[k]? = w.heap[k]?) : HR w' g k n P := by
  obtain ⟨h1, h2, h3, v, hob, h4⟩ := h
  refine ⟨h1, h2, h3, v, by unfold Ob; rw [hg]; exact hob, ?_⟩
  rcases h4 with h4 | ⟨cap, cur, e, hkg, hr, h5⟩
  · exact .inl h4
  · exact .inr ⟨cap, cur, e, hkg, by rw [hk]; exact hr, h5⟩
theorem HR.n {w : World} {g k n : Nat} {P : List (List (BitVec 8))} (h : HR w g k n P) : n ≤ 1048576 := h.1
theorem HR.pcn {w : World} {g k n : Nat} {P : List (List (BitVec 8))} (h : HR w g k n P) : P.length = pcn n := h.2.1
theorem HR.h32 {w : World} {g k n : Nat} {P : List (List (BitVec 8))} (h : HR w g k n P) : ∀ x ∈ P, x.length = 32 := h.2.2.1
theorem HR.mono {w w' : World} {g k n : Nat} {P : List (List (BitVec 8))} (h : HR w g k n P) (hb : Below w.heap.size w w') : HR w' g k n P := h.keep (hb.block g h.lt.1) (hb.block k h.lt.2)
theorem HR.len {w : World} {g k n : Nat} {P : List (List (BitVec 8))} (h : HR w g k n P) : P.length ≤ 21 := by rw [h.pcn]; exact pcn_log 21 n (by have := h.n; omega)
/-- A pointer to a Range, all of it at or behind g0. -/
def Fk.rn (g0 n : Nat) (P : List (List (BitVec 8))) : Fk := .inr (.inl ⟨fun v w => ∃ g k, v = .pointer (some ⟨g, 0, none⟩) ∧ g0 ≤ g ∧ g0 ≤ k ∧ HR w g k n P, by
  rintro v w w' ⟨g, k, e, h1, h2, h⟩ hb
  exact ⟨g, k, e, h1, h2, h.mono hb⟩⟩)
/-- All blocks but two are as they were. -/
structure Kp (g k : Nat) (w w' : World) : Prop where
  os : w'.os = w.os
  tape : w'.tape = w.tape
  output : w'.output = w.output
  size : w.heap.size ≤ w'.heap.size
  block : ∀ j, j < w.heap.size → j ≠ g → j ≠ k → w'.heap[j]? = w.heap[j]?
theorem Kp.below {g k B : Nat} {w w' : World} (h : Kp g k w w') (hB : B ≤ w.heap.size) (hg : B ≤ g) (hk : B ≤ k) : Below B w w' := ⟨h.os, h.tape, h.output, h.size, fun j hj => h.block j (by omega) (by omega) (by omega)⟩
theorem Kp.grow {g k : Nat} {w w1 w2 : World} (h : Kp g k w w1) (hb : Below w1.heap.size w1 w2) : Kp g k w w2 := ⟨hb.os.trans h.os, hb.tape.trans h.tape, hb.output.trans h.output, Nat.le_trans h.size hb.size, fun j hj h1 h2 => (hb.block j (Nat.lt_of_lt_of_le hj h.size)).trans (h.block j hj h1 h2)⟩
theorem Kp.of_below (g k : Nat) {w w1 : World} (h : Below w.heap.size w w1) : Kp g k w w1 := ⟨h.os, h.tape, h.output, h.size, fun j hj _ _ => h.block j hj⟩
theorem Kp.setRow_new {g k b : Nat} {w w1 : World} (h : Kp g k w w1) (hb : w.heap.size ≤ b) (cs : Array Value) : Kp g k w (w1.setRow b cs) := by
  have h2 := (Only.refl b w1).setRow cs
  exact ⟨h2.os.trans h.os, h2.tape.trans h.tape, h2.output.trans h.output, Nat.le_trans h.size h2.size, fun j hj h3 h4 => (h2.block j (Nat.lt_of_lt_of_le hj h.size) (by omega)).trans (h.block j hj h3 h4)⟩
theorem Kp.step {g k k1 : Nat} {w w1 w2 : World} (h : Kp g k w w1) (h2 : Kp g k1 w1 w2) (hk : k1 = k ∨ w.heap.size ≤ k1) : Kp g k w w2 := ⟨h2.os.trans h.os, h2.tape.trans h.tape, h2.output.trans h.output, Nat.le_trans h.size h2.size, fun j hj h3 h4 => (h2.block j (Nat.lt_of_lt_of_le hj h.size) h3 (by rcases hk with e | e <;> omega)).trans (h.block j hj h3 h4)⟩
theorem hc_kp {g k : Nat} {w w1 : World} {M : List (List (BitVec 8))} {v : Value} (hv : (Fk.hc M).f v w) (hap : 0 < M.length → v.ownBlock ≠ some g ∧ v.ownBlock ≠ some k) (h : Kp g k w w1) : (Fk.hc M).f v w1 := by
  obtain ⟨A, C, lb, lo, rfl, hc, hl⟩ := hv
  refine ⟨A, C, lb, lo, rfl, hc, hl.ptr, fun h0 => Nat.lt_of_lt_of_le (hl.lt h0) h.size, fun i x hi => ⟨(hl.all i x hi).1, fun j hj => ?_⟩⟩
  have h0 : 0 < M.length := by have := (List.getElem?_eq_some_iff.1 hi).1; omega
  have hp := hl.ptr h0
  have hlt := hl.lt h0
  obtain ⟨a1, a2⟩ := hap h0
  subst hp
  have n1 : lb ≠ g := fun e => a1 (by rw [e]; rfl)
  have n2 : lb ≠ k := fun e => a2 (by rw [e]; rfl)
  rw [World.cell?_of_block (w := w) (h.block lb hlt n1 n2)]
  exact (hl.all i x hi).2 j hj
theorem tab_kp {g k : Nat} {w w1 : World} (hK : Tab w) (h00 : 2 < g ∧ 2 < k) (h : Kp g k w w1) : Tab w1 := by
  refine ⟨fun i hi => ?_, Nat.lt_of_lt_of_le hK.pos h.size, fun i hi => ?_, Nat.lt_of_lt_of_le hK.zpos h.size⟩
  · have := hK.K i hi
    rw [World.cell?_of_block (w := w) (h.block 2 hK.pos (by omega) (by omega))]
    exact this
  · have := hK.Z i hi
    rw [World.cell?_of_block (w := w) (h.block 1 hK.zpos (by omega) (by omega))]
    exact this
theorem HR.kp {w w' : World} {g k g2 k2 n : Nat} {P : List (List (BitVec 8))} (h : HR w g k n P) (hK : Kp g2 k2 w w') (h1 : g ≠ g2) (h2 : g ≠ k2) (h3 : k ≠ g2) (h4 : k ≠ k2) : HR w' g k n P := h.keep (hK.block g h.lt.1 h1 h2) (hK.block k h.lt.2 h3 h4)
theorem Ob.kp {w w' : World} {b g2 k2 : Nat} {T : TypeId} {cs : List Value} (h : Ob w b T cs) (hK : Kp g2 k2 w w') (h1 : b ≠ g2) (h2 : b ≠ k2) : Ob w' b T cs := by
  unfold Ob at *
  rw [hK.block b (Ob.lt h) h1 h2]
  exact h
/-- The root, by the peaks. -/
def rtp (P : List (List (BitVec 8))) : List (BitVec 8) := if P = [] then shaOf [] else jn P (P.length - 1)
/-- A slice of hashes, and where it lies. -/
def Fk.hq (p : Nat → Prop) (hs : List (List (BitVec 8))) : Fk := .inr (.inl ⟨fun v w => (Fk.hc hs).f v w ∧ (0 < hs.length → ∀ b, v.ownBlock = some b → p b), by
  rintro v w w' ⟨h, ho⟩ hb
  exact ⟨Fk.mono _ _ _ _ h hb, ho⟩⟩)
end Go.Proofs.YtnppjlpnfijobaaDoor
namespace Go.Proofs.YtnppjlpnfijobaaDoor
set_option maxRecDepth 100000
open Go.RowKit
theorem own_h0 (w : World) (base : Nat) (h : base ≤ w.heap.size) : (Fk.ow base []).f (.slice (some ⟨w.heap.size, 0, none⟩) 0 0) (w.alloc (.cells #[] 33)) :=
  ⟨⟨rfl, .inr ⟨w.heap.size, 0, #[], rfl, h, heap_alloc_new _ _, Nat.le_refl _, by unfold maxLen; omega, rfl, rfl⟩⟩, fun i x hi => by simp at hi⟩
theorem st_bo0 {Q : Exit → Act → World → Prop} {o : Oper} {a : Act} {w : World} (ho : o.op = .buildSlice 22 0 #[]) (g0 : Nat) (hg : g0 ≤ w.heap.size) : o.wp Tryd.prog a w (Ends a o.dst w (Fk.ow g0 []).f) Q := by
  refine st_run (v := .slice (some ⟨w.heap.size, 0, none⟩) 0 0) (w' := w.alloc (.cells #[] 33)) ?_ ((Below.refl _ _).alloc (Nat.le_refl _) _) (own_h0 w g0 hg)
  have h : (Instr.buildSlice 22 0 #[]).run Tryd.prog w = .ok (.slice (some ⟨w.heap.size, 0, none⟩) 0 0) (w.alloc (.cells #[] 33)) := by kernel_rfl
  unfold execOp
  rw [ho]
  simp [h]
theorem flat_len32 : ∀ (l : List (List (BitVec 8))), (∀ (i : Nat) (x : List (BitVec 8)), l[i]? = some x → x.length = 32) → l.flatten.length = l.length * 32
  | [], _ => rfl
  | y :: r, h => by
    have h0 := h 0 y rfl
    have h1 := flat_len32 r (fun i x hi => h (i + 1) x (by simpa using hi))
    rw [List.flatten_cons, List.length_append, h0, h1, List.length_cons]
    omega
theorem wl_appl {Q : Exit → Act → World → Prop} {o : Oper} {a : Act} {w : World} {ops : Array Oper} {rest : List Oper} (hgd : o.guard = none) (s x : Operand) (ho : o.op = .call { callee := .builtin .append, args := #[s, x], argTypes := #[22, 22] }) (d : Nat) (hd : o.dst = some d) (hsz : d < a.tmps.size)
    {wL : World} {l : List (List (BitVec 8))} {ad : Addr} {C : Nat} (hs1 : (Fk.ow wL.heap.size []).f (a.eval s) w) (hx : a.eval x = .slice (some ad) l.length C) (hl0 : (Fk.hs l).f (.slice (some ad) l.length C) w) (hL : Below wL.heap.size wL w) (hN : l.length ≤ 1000)
    (h : ∀ a2 w2, a2.defers = a.defers → a2.tmps.size = a.tmps.size → (∀ t, (t == d) = false → a2.eval (.tmp t) = a.eval (.tmp t)) → (Fk.ow wL.heap.size l).f (a2.eval (.tmp d)) w2 → Below wL.heap.size wL w2 → wpList Tryd.prog ops Q rest a2 w2) : wpList Tryd.prog ops Q (o :: rest) a w := by
  obtain ⟨i0, hi, hz0, hz1, hz2⟩ := info_parts Tryd.info33
  obtain ⟨A', C', lb, lo, e, hl⟩ := hl0
  cases e
  have h32 : ∀ (i : Nat) (y : List (BitVec 8)), l[i]? = some y → y.length = 32 := fun i y hi => (hl.all i y hi).1
  have hfl := flat_len32 l h32
  obtain ⟨hown, _⟩ := hs1
  refine wpList_append_own w hgd s x 22 ho wL.heap.size 33 i0 _ 32 32 Tryd.under22' hi hz0 hz1 hz2 (by simp [Value.cells, hz_len]) (by decide) _ 0 [] rfl (by simpa using hown) ad l.length C (l.flatten.map V) hx (by rw [List.length_map, hfl]) ?_ (V_one _) (by unfold maxLen; omega) (by omega) hL.size ?_
  · intro j u hj
    have hjl : j < l.length * 32 := by
      have := (List.getElem?_eq_some_iff.1 hj).1
      rw [List.length_map, hfl] at this
      exact this
    have hp := hl.ptr (by omega)
    obtain rfl := Option.some.inj hp
    have hil : j / 32 < l.length := by omega
    have hxi : l[j / 32]? = some l[j / 32] := List.getElem?_eq_getElem hil
    have hlen := h32 _ _ hxi
    have hat := flat_at l h32 _ _ hxi (j % 32) (by omega)
    rw [show j / 32 * 32 + j % 32 = j by omega] at hat
    have hr : j % 32 < (l[j / 32]).length := by rw [hlen]; omega
    rw [List.getElem?_map, hat, List.getElem?_eq_getElem hr, Option.map_some] at hj
    obtain rfl := Option.some.inj hj
    have hc := (hl.all _ _ hxi).2 (j % 32) hr
    rw [Addr.add_mid, show lo + j = lo + j / 32 * 32 + j % 32 by omega, hc]
    simp [V, hr]
  · intro v' w' h1 h2 _
    refine h _ _ (put_def _ _ _) (put_size _ _ _) (fun t ht => ?_) ?_ (hL.grown h2 hL.size (fun k e => (World.ownsRow.lt hown k e).1))
    · rw [hd]
      exact put_eval_other _ _ _ _ (fun e => by subst e; simp at ht)
    · rw [hd, put_eval_same _ _ _ hsz]
      exact ⟨by simpa using h1, h32⟩
theorem nil_no (ad : Addr) (n C : Nat) (w : World) {x y : Operand} : (do eqGuard .eql 22 x y (.slice (some ad) n C) (.slice none 0 0); binOp .eql 22 (.slice (some ad) n C) (.slice none 0 0) : Sem Value).run Tryd.prog w = .ok (.bool false) w := by
  have h := Lib.run_eql_slice_nil (P := Tryd.prog) w 22 33 (some ad) n C 0 0 Tryd.under22'
  simp only [eqGuard, Sem.run_bind]
  exact h
theorem clone_nil (w : World) :
    Calls Tryd.prog 26 #[.slice none 0 0] w fun e w' => e = .returned (.slice none 0 0) ∧ Below w.heap.size w w' := by
  go_enter Tryd.func26, Tryd.ntmps26
  refine code_both (fun f w1 => f.tmps.size = 8 ∧ f.defers = [] ∧ f.eval (.tmp 0) = .slice none 0 0 ∧ Below w.heap.size w (w1)) ⟨rfl, rfl, rfl, Below.refl _ _⟩ ?_
  rintro f0 w0 ⟨sz, df, x0, bl⟩
  have bl0 := bl
  refine wp_seq ?_
  refine wp_all_seq [.eq (.slice none 0 0)] (by kernel_rfl) (by kernel_rfl) (by rw [sz]; kernel_rfl) (by kernel_rfl) ⟨fun hw ac u K => ?_, trivial⟩ ?_
  · exact st_assign (.const (.slice none 0 0)) rfl rfl
  intro f1 w1 A hb
  replace bl0 := bl
  replace x0 := (A.old 0 rfl).trans x0
  have x2 : f1.eval (.tmp 2) = .slice none 0 0 := A.has 0 2 rfl
  replace bl := (bl.trans (Below.mono hb bl.size))
  replace sz := A.size.trans sz
  replace df := A.defs.trans df
  clear A hb
  show Code.wp _ _ _ _ _
  refine wp_seq ?_
  refine wp_seq ?_
  refine wp_all_seq [.eq (.slice none 0 0), .eq (.bool true)] (by kernel_rfl) (by kernel_rfl) (by rw [sz]; kernel_rfl) (by kernel_rfl) ⟨fun hw ac u K => ?_, fun hw ac u K => ?_, trivial⟩ ?_
  · exact st_move (.tmp 0) rfl ((K.old 0 rfl).trans x0)
  · exact st_bin .eql 22 22 (.tmp 3) _ rfl (K.dep 0 3 rfl) rfl (by kernel_rfl)
  intro f2 w2 A hb
  replace bl0 := bl
  replace x0 := (A.old 0 rfl).trans x0
  replace x2 := (A.old 2 rfl).trans x2
  have x4 : f2.eval (.tmp 4) = .bool true := A.has 1 4 rfl
  replace bl := (bl.trans (Below.mono hb bl.size))
  replace sz := A.size.trans sz
  replace df := A.defs.trans df
  clear A hb
  show Code.wp _ _ _ _ _
  refine wp_cond_true x4 ?_
  refine wp_seq ?_
  refine wp_all_seq [.eq (.slice none 0 0)] (by kernel_rfl) (by kernel_rfl) (by rw [sz]; kernel_rfl) (by kernel_rfl) ⟨fun hw ac u K => ?_, trivial⟩ ?_
  · exact st_assign (.const (.slice none 0 0)) rfl rfl
  intro f3 w3 A hb
  replace bl0 := bl
  replace x0 := (A.old 0 rfl).trans x0
  clear x2
  replace x4 := (A.old 4 rfl).trans x4
  have x2 : f3.eval (.tmp 2) = .slice none 0 0 := A.has 0 2 rfl
  replace bl := (bl.trans (Below.mono hb bl.size))
  replace sz := A.size.trans sz
  replace df := A.defs.trans df
  clear A hb
  show Code.wp _ _ _ _ _
  refine wp_ret ?_
  repeat (first | with_reducible refine then_ret ?_ | with_reducible refine block_ret ?_)
  exact bodyPost_ret (v := .slice none 0 0) (ret_slot rfl f3 _ x2 _ _) df ⟨rfl, bl⟩
theorem clone_some {l : List (List (BitVec 8))} {ad : Addr} {C : Nat} (hl : l.length ≤ 1000) (w : World) (hv : (Fk.hs l).f (.slice (some ad) l.length C) w) :
    Calls Tryd.prog 26 #[.slice (some ad) l.length C] w fun e w' => ∃ u, e = .returned u ∧ (Fk.ow w.heap.size l).f u w' ∧ Below w.heap.size w w' := by
  go_enter Tryd.func26, Tryd.ntmps26
  refine code_both (fun f w1 => f.tmps.size = 8 ∧ f.defers = [] ∧ f.eval (.tmp 0) = .slice (some ad) l.length C ∧ Below w.heap.size w (w1)) ⟨rfl, rfl, rfl, Below.refl _ _⟩ ?_
  rintro f0 w0 ⟨sz, df, x0, bl⟩
  have bl0 := bl
  refine wp_seq ?_
  refine wp_all_seq [.eq (.slice none 0 0)] (by kernel_rfl) (by kernel_rfl) (by rw [sz]; kernel_rfl) (by kernel_rfl) ⟨fun hw ac u K => ?_, trivial⟩ ?_
  · exact st_assign (.const (.slice none 0 0)) rfl rfl
  intro f1 w1 A hb
  replace bl0 := bl
  replace x0 := (A.old 0 rfl).trans x0
  have x2 : f1.eval (.tmp 2) = .slice none 0 0 := A.has 0 2 rfl
  replace bl := (bl.trans (Below.mono hb bl.size))
  replace sz := A.size.trans sz
  replace df := A.defs.trans df
  clear A hb
  show Code.wp _ _ _ _ _
  refine wp_seq ?_
  refine wp_seq ?_
  refine wp_all_seq [.eq (.slice (some ad) l.length C), .eq (.bool false)] (by kernel_rfl) (by kernel_rfl) (by rw [sz]; kernel_rfl) (by kernel_rfl) ⟨fun hw ac u K => ?_, fun hw ac u K => ?_, trivial⟩ ?_
  · exact st_move (.tmp 0) rfl ((K.old 0 rfl).trans x0)
  · exact st_bin .eql 22 22 (.tmp 3) _ rfl (K.dep 0 3 rfl) rfl (nil_no _ _ _ _)
  intro f2 w2 A hb
  replace bl0 := bl
  replace x0 := (A.old 0 rfl).trans x0
  replace x2 := (A.old 2 rfl).trans x2
  have x4 : f2.eval (.tmp 4) = .bool false := A.has 1 4 rfl
  replace bl := (bl.trans (Below.mono hb bl.size))
  replace sz := A.size.trans sz
  replace df := A.defs.trans df
  clear A hb
  show Code.wp _ _ _ _ _
  refine wp_cond_false x4 ?_
  refine wp_skip ?_
  show Code.wp _ _ _ _ _
  refine wp_seq ?_
  refine wp_region_seq [.ow w.heap.size ([]), .eq (.slice (some ad) l.length C)] (by kernel_rfl) (by kernel_rfl) (by rw [sz]; kernel_rfl) (by kernel_rfl) ⟨fun hw ac u K => ?_, fun hw ac u K => ?_, trivial⟩ ?_
  · exact st_bo0 rfl _ (bl.trans (Below.mono K.grow bl.size)).size
  · exact st_move (.tmp 0) rfl ((K.old 0 rfl).trans x0)
  intro f3 w3 A hb
  replace bl0 := bl
  replace x0 := (A.old 0 rfl).trans x0
  replace x2 := (A.old 2 rfl).trans x2
  replace x4 := (A.old 4 rfl).trans x4
  have x5 : Fk.f (.ow w.heap.size ([])) (f3.eval (.tmp 5)) w3 := A.has 0 5 rfl
  have x6 : f3.eval (.tmp 6) = .slice (some ad) l.length C := A.has 1 6 rfl
  replace bl := (bl.trans (Below.mono hb bl.size))
  replace sz := A.size.trans sz
  replace df := A.defs.trans df
  clear A hb
  refine wl_appl rfl (.tmp 5) (.tmp 6) rfl 7 rfl (by rw [sz]; decide) x5 x6 (Fk.mono _ _ _ _ hv bl) bl hl ?_
  intro f4 w4 df2 sz2 old2 new2 bl2
  clear x5
  replace x0 := (old2 0 rfl).trans x0
  replace x2 := (old2 2 rfl).trans x2
  replace x4 := (old2 4 rfl).trans x4
  replace x6 := (old2 6 rfl).trans x6
  have x7 : Fk.f (.ow w.heap.size (l)) (f4.eval (.tmp 7)) w4 := new2
  replace bl := bl2
  replace bl0 := bl
  replace sz := sz2.trans sz
  replace df := df2.trans df
  clear df2 sz2 old2 new2 bl2
  clear x6
  refine wl_one (.ow w.heap.size (l)) rfl 2 rfl (by rw [sz]; decide) (st_assign (.tmp 7) rfl x7) ?_
  intro f5 w5 df2 sz2 old2 new2 hb
  replace bl0 := bl
  replace x0 := (old2 0 rfl).trans x0
  clear x2
  replace x4 := (old2 4 rfl).trans x4
  replace x7 := f_at (old2 7 rfl) (Fk.mono _ _ _ _ x7 hb)
  have x2 : Fk.f (.ow w.heap.size (l)) (f5.eval (.tmp 2)) w5 := new2
  replace bl := (bl.trans (Below.mono hb bl.size))
  replace sz := sz2.trans sz
  replace df := df2.trans df
  clear df2 sz2 old2 new2 hb
  refine wpList_nil ?_
  clear x7
  show Code.wp _ _ _ _ _
  refine wp_ret ?_
  repeat (first | with_reducible refine then_ret ?_ | with_reducible refine block_ret ?_)
  exact bodyPost_ret (v := f5.eval (.tmp 2)) (ret_slot rfl f5 _ rfl _ _) df ⟨_, rfl, x2, bl⟩
theorem fk_clone {l : List (List (BitVec 8))} (hl : l.length ≤ 1000) {w : World} {v : Value} (hv : (Fk.hc l).f v w) (hn : v = .slice none 0 0 ∨ ∃ ad n C, v = .slice (some ad) n C) : Calls Tryd.prog 26 #[v] w fun e w' => ∃ u, e = .returned u ∧ (Fk.ow w.heap.size l).f u w' ∧ Below w.heap.size w w' := by
  rcases hn with rfl | ⟨ad, n, C, rfl⟩
  · refine (clone_nil w).mono ?_
    rintro e w' ⟨rfl, hb⟩
    have h0 : l = [] := by
      obtain ⟨A', C', lb, lo, e, _⟩ := hv
      injection e with _ e2 _
      exact List.eq_nil_of_length_eq_zero e2.symm
    subst h0
    exact ⟨_, rfl, ow_nil _ _, hb⟩
  · obtain ⟨A', C', lb, lo, e, hc, hq⟩ := hv
    cases e
    exact clone_some hl w ⟨_, _, lb, lo, rfl, hq⟩
end Go.Proofs.YtnppjlpnfijobaaDoor
namespace Go.Proofs.YtnppjlpnfijobaaDoor
set_option maxRecDepth 100000
open Go.RowKit
theorem HR.row {w : World} {g k n : Nat} {P : List (List (BitVec 8))} (h : HR w g k n P) : ∃ v, Ob w g 51 [.int .i64 ((n : Nat) : Int), v] ∧ (Fk.ow 0 P).f v w := by
  obtain ⟨_, _, h32, v, hob, h | ⟨cap, cur, e, _, hk, hc, hm, hs, ht⟩⟩ := h
  · obtain ⟨rfl, rfl, _⟩ := h
    exact ⟨_, hob, ow_nil _ _⟩
  · have hfl := flat_len32 P (fun i x hx => h32 x (List.mem_of_getElem? hx))
    exact ⟨v, hob, ⟨by rw [List.length_map, hfl], .inr ⟨k, cap, cur, e, Nat.zero_le _, hk, hc, hm, hs, ht⟩⟩, fun i x hx => h32 x (List.mem_of_getElem? hx)⟩
theorem hr_make {w : World} {g g0 n : Nat} {P : List (List (BitVec 8))} {v : Value} (hn : n ≤ 1048576) (hP : P.length = pcn n) (m : Ob w g 51 [.int .i64 ((n : Nat) : Int), v]) (ho : (Fk.ow g0 P).f v w) : ∃ k, HR w g k n P ∧ (k = g ∨ g0 ≤ k) := by
  obtain ⟨⟨_, h2⟩, h32⟩ := ho
  have h32' : ∀ x ∈ P, x.length = 32 := fun x hx => by
    obtain ⟨i, hi⟩ := List.getElem?_of_mem hx
    exact h32 i x hi
  rcases h2 with ⟨rfl, h0⟩ | ⟨k, cap, cur, rfl, hk, hg, h3, h4, h5, h6⟩
  · exact ⟨g, ⟨hn, hP, h32', _, m, .inl ⟨rfl, List.eq_nil_of_length_eq_zero h0, rfl⟩⟩, .inl rfl⟩
  · refine ⟨k, ⟨hn, hP, h32', _, m, .inr ⟨cap, cur, rfl, ?_, hg, h3, h4, h5, h6⟩⟩, .inr hk⟩
    intro e
    rw [e] at hg
    unfold Ob at m
    rw [m] at hg
    cases hg
/-- A slice that is nil, or points to something. -/
theorem ow_nn {g0 : Nat} {P : List (List (BitVec 8))} {v : Value} {w : World} (h : (Fk.ow g0 P).f v w) : v = .slice none 0 0 ∨ ∃ ad n C, v = .slice (some ad) n C := by
  obtain ⟨⟨_, h2⟩, _⟩ := h
  rcases h2 with ⟨rfl, _⟩ | ⟨k, cap, cur, rfl, _⟩
  · exact .inl rfl
  · exact .inr ⟨_, _, _, rfl⟩
theorem fk_new (w : World) :
    Calls Tryd.prog 8 #[] w fun e w' => ∃ u, e = .returned u ∧ (Fk.rn w.heap.size 0 []).f u w' ∧ Below w.heap.size w w' := by
  go_enter Tryd.func8, Tryd.ntmps8
  refine code_both (fun f w1 => f.tmps.size = 3 ∧ f.defers = [] ∧ Below w.heap.size w (w1)) ⟨rfl, rfl, Below.refl _ _⟩ ?_
  rintro f0 w0 ⟨sz, df, bl⟩
  have bl0 := bl
  refine wp_seq ?_
  refine wp_all_seq [.eq (.pointer none)] (by kernel_rfl) (by kernel_rfl) (by rw [sz]; kernel_rfl) (by kernel_rfl) ⟨fun hw ac u K => ?_, trivial⟩ ?_
  · exact st_assign (.const (.pointer none)) rfl rfl
  intro f1 w1 A hb
  replace bl0 := bl
  have x0 : f1.eval (.tmp 0) = .pointer none := A.has 0 0 rfl
  replace bl := (bl.trans (Below.mono hb bl.size))
  replace sz := A.size.trans sz
  replace df := A.defs.trans df
  clear A hb
  show Code.wp _ _ _ _ _
  refine wp_seq ?_
  refine wp_all_seq [.eq (.agg ([.int .i64 0, .slice none 0 0] : List Value).toArray), .nw w1.heap.size 51 ([.int .i64 0, .slice none 0 0] : List Value), .nw w1.heap.size 51 ([.int .i64 0, .slice none 0 0] : List Value)] (by kernel_rfl) (by kernel_rfl) (by rw [sz]; kernel_rfl) (by kernel_rfl) ⟨fun hw ac u K => ?_, fun hw ac u K => ?_, fun hw ac u K => ?_, trivial⟩ ?_
  · exact st_build 51 _ rfl (by kernel_rfl)
  · exact st_box 51 (.tmp 1) rfl _ _ (by rw [show _ = _ from (K.dep 0 1 rfl)]; kernel_rfl) K.grow.size
  · exact st_assign (.tmp 2) rfl (K.dep 1 2 rfl)
  intro f2 w2 A hb
  replace bl0 := bl
  clear x0
  have x0 : Fk.f (.nw w1.heap.size 51 ([.int .i64 0, .slice none 0 0] : List Value)) (f2.eval (.tmp 0)) w2 := A.has 2 0 rfl
  replace bl := (bl.trans (Below.mono hb bl.size))
  replace sz := A.size.trans sz
  replace df := A.defs.trans df
  clear A hb
  obtain ⟨g0, hg0, e0, m0⟩ := x0
  have x0 := e0
  clear e0
  have hw0 : w.heap.size ≤ g0 := Nat.le_trans bl0.size hg0
  show Code.wp _ _ _ _ _
  refine wp_ret ?_
  repeat (first | with_reducible refine then_ret ?_ | with_reducible refine block_ret ?_)
  obtain ⟨k, hR, hk⟩ := hr_make (g0 := w.heap.size) (P := []) (n := 0) (by omega) (by rw [pcn_zero]; rfl) m0 (ow_nil _ _)
  exact bodyPost_ret (v := .pointer (some ⟨g0, 0, none⟩)) (ret_slot rfl f2 _ x0 _ _) df ⟨_, rfl, ⟨_, k, rfl, hw0, by rcases hk with rfl | hk <;> omega, hR⟩, bl⟩
theorem fk_size {w : World} {g k n : Nat} {P : List (List (BitVec 8))} (hr : HR w g k n P) :
    Calls Tryd.prog 12 #[.pointer (some ⟨g, 0, none⟩)] w fun e w' => ∃ u, e = .returned u ∧ (Fk.eq (.int .i64 ((n : Nat) : Int))).f u w' ∧ Below w.heap.size w w' := by
  obtain ⟨v, m0, hv⟩ := hr.row
  have hvc := ow_hc hv
  have hvs := ow_hs hv
  have hl21 := hr.len
  go_enter Tryd.func12, Tryd.ntmps12
  refine code_both (fun f w1 => f.tmps.size = 7 ∧ f.defers = [] ∧ f.eval (.tmp 0) = .pointer (some ⟨g, 0, none⟩) ∧ Below w.heap.size w (w1)) ⟨rfl, rfl, rfl, Below.refl _ _⟩ ?_
  rintro f0 w0 ⟨sz, df, x0, bl⟩
  have bl0 := bl
  refine wp_seq ?_
  refine wp_all_seq [.eq (.int .i64 0)] (by kernel_rfl) (by kernel_rfl) (by rw [sz]; kernel_rfl) (by kernel_rfl) ⟨fun hw ac u K => ?_, trivial⟩ ?_
  · exact st_assign (.const (.int .i64 0)) rfl rfl
  intro f1 w1 A hb
  replace bl0 := bl
  replace x0 := (A.old 0 rfl).trans x0
  have x2 : f1.eval (.tmp 2) = .int .i64 0 := A.has 0 2 rfl
  replace bl := (bl.trans (Below.mono hb bl.size))
  replace sz := A.size.trans sz
  replace df := A.defs.trans df
  clear A hb
  show Code.wp _ _ _ _ _
  refine wp_seq ?_
  refine wp_all_seq [.eq (.pointer (some ⟨g, 0, none⟩)), .eq (.pointer (some ⟨g, 0, none⟩)), .eq (.pointer (some ⟨g, 0, none⟩)), .eq (.int .i64 ((n : Nat) : Int)), .eq (.int .i64 ((n : Nat) : Int))] (by kernel_rfl) (by kernel_rfl) (by rw [sz]; kernel_rfl) (by kernel_rfl) ⟨fun hw ac u K => ?_, fun hw ac u K => ?_, fun hw ac u K => ?_, fun hw ac u K => ?_, fun hw ac u K => ?_, trivial⟩ ?_
  · exact st_move (.tmp 0) rfl ((K.old 0 rfl).trans x0)
  · exact st_nil (.tmp 3) rfl (K.dep 0 3 rfl)
  · exact st_field 51 0 (.tmp 4) rfl (K.dep 1 4 rfl) (by kernel_rfl)
  · exact st_loadc 3 (.tmp 5) rfl (by kernel_rfl) (K.dep 2 5 rfl) (Ob.cell (Ob.below m0 (bl.trans (Below.mono K.grow bl.size))) 0 rfl)
  · exact st_assign (.tmp 6) rfl (K.dep 3 6 rfl)
  intro f2 w2 A hb
  replace bl0 := bl
  replace x0 := (A.old 0 rfl).trans x0
  clear x2
  have x2 : f2.eval (.tmp 2) = .int .i64 ((n : Nat) : Int) := A.has 4 2 rfl
  replace bl := (bl.trans (Below.mono hb bl.size))
  replace sz := A.size.trans sz
  replace df := A.defs.trans df
  clear A hb
  clear x0
  show Code.wp _ _ _ _ _
  refine wp_ret ?_
  repeat (first | with_reducible refine then_ret ?_ | with_reducible refine block_ret ?_)
  exact bodyPost_ret (v := .int .i64 ((n : Nat) : Int)) (ret_slot rfl f2 _ x2 _ _) df ⟨_, rfl, rfl, bl⟩
theorem fk_peaks {w : World} {g k n : Nat} {P : List (List (BitVec 8))} (hr : HR w g k n P) :
    Calls Tryd.prog 14 #[.pointer (some ⟨g, 0, none⟩)] w fun e w' => ∃ u, e = .returned u ∧ (Fk.ow w.heap.size P).f u w' ∧ Below w.heap.size w w' := by
  obtain ⟨v, m0, hv⟩ := hr.row
  have hvc := ow_hc hv
  have hvs := ow_hs hv
  have hl21 := hr.len
  go_enter Tryd.func14, Tryd.ntmps14
  refine code_both (fun f w1 => f.tmps.size = 8 ∧ f.defers = [] ∧ f.eval (.tmp 0) = .pointer (some ⟨g, 0, none⟩) ∧ Below w.heap.size w (w1)) ⟨rfl, rfl, rfl, Below.refl _ _⟩ ?_
  rintro f0 w0 ⟨sz, df, x0, bl⟩
  have bl0 := bl
  refine wp_seq ?_
  refine wp_all_seq [.eq (.slice none 0 0)] (by kernel_rfl) (by kernel_rfl) (by rw [sz]; kernel_rfl) (by kernel_rfl) ⟨fun hw ac u K => ?_, trivial⟩ ?_
  · exact st_assign (.const (.slice none 0 0)) rfl rfl
  intro f1 w1 A hb
  replace bl0 := bl
  replace x0 := (A.old 0 rfl).trans x0
  have x2 : f1.eval (.tmp 2) = .slice none 0 0 := A.has 0 2 rfl
  replace bl := (bl.trans (Below.mono hb bl.size))
  replace sz := A.size.trans sz
  replace df := A.defs.trans df
  clear A hb
  show Code.wp _ _ _ _ _
  refine wp_seq ?_
  refine wp_all_seq [.eq (.pointer (some ⟨g, 0, none⟩)), .eq (.pointer (some ⟨g, 0, none⟩)), .eq (.pointer (some ⟨g, 1, none⟩)), .eq (v), .ow w.heap.size (P), .ow w.heap.size (P)] (by kernel_rfl) (by kernel_rfl) (by rw [sz]; kernel_rfl) (by kernel_rfl) ⟨fun hw ac u K => ?_, fun hw ac u K => ?_, fun hw ac u K => ?_, fun hw ac u K => ?_, fun hw ac u K => ?_, fun hw ac u K => ?_, trivial⟩ ?_
  · exact st_move (.tmp 0) rfl ((K.old 0 rfl).trans x0)
  · exact st_nil (.tmp 3) rfl (K.dep 0 3 rfl)
  · exact st_field 51 1 (.tmp 4) rfl (K.dep 1 4 rfl) (by kernel_rfl)
  · exact st_loadc 22 (.tmp 5) rfl (by kernel_rfl) (K.dep 2 5 rfl) (Ob.cell (Ob.below m0 (bl.trans (Below.mono K.grow bl.size))) 1 rfl)
  · exact st_call 26 (.func 26) _ _ #[v] rfl rfl (one_arg (K.dep 3 6 rfl)) Tryd.enter26 (fk_ow (bl.trans (Below.mono K.grow bl.size)).size (fk_clone (by omega) (Fk.mono _ _ _ _ hvc (bl.trans (Below.mono K.grow bl.size))) (ow_nn hv)))
  · exact st_assign (.tmp 7) rfl (K.dep 4 7 rfl)
  intro f2 w2 A hb
  replace bl0 := bl
  replace x0 := (A.old 0 rfl).trans x0
  clear x2
  have x2 : Fk.f (.ow w.heap.size (P)) (f2.eval (.tmp 2)) w2 := A.has 5 2 rfl
  replace bl := (bl.trans (Below.mono hb bl.size))
  replace sz := A.size.trans sz
  replace df := A.defs.trans df
  clear A hb
  clear x0
  show Code.wp _ _ _ _ _
  refine wp_ret ?_
  repeat (first | with_reducible refine then_ret ?_ | with_reducible refine block_ret ?_)
  exact bodyPost_ret (v := f2.eval (.tmp 2)) (ret_slot rfl f2 _ rfl _ _) df ⟨_, rfl, x2, bl⟩
end Go.Proofs.YtnppjlpnfijobaaDoor
namespace Go.Proofs.YtnppjlpnfijobaaDoor
set_option maxRecDepth 100000
open Go.RowKit
/-- What is left behind the number, behind the hashes; is it bad; the number; the hashes. -/
def d1 (bs : List (BitVec 8)) := cR 0 1048576 bs
def s1 (bs : List (BitVec 8)) := cX 0 1048576 bs false
def d2 (bs : List (BitVec 8)) (m : Nat) := (hsD (d1 bs) m).drop (32 * hsN (d1 bs) m)
def s2 (bs : List (BitVec 8)) (m : Nat) := hsX (d1 bs) (s1 bs) m
def rN (bs : List (BitVec 8)) : Nat := (cV 0 1048576 bs).toNat
def rP (bs : List (BitVec 8)) (m : Nat) := chk (hsN (d1 bs) m) (hsD (d1 bs) m)
theorem cV_nat (bs : List (BitVec 8)) : cV 0 1048576 bs = ((rN bs : Nat) : Int) ∧ rN bs ≤ 1048576 := by
  have h : 0 ≤ cV 0 1048576 bs ∧ cV 0 1048576 bs ≤ 1048576 := by
    unfold cV
    split <;> omega
  unfold rN
  omega
theorem d1_len (bs : List (BitVec 8)) : (d1 bs).length ≤ bs.length := cR_len _ _ _
theorem range_done {bs : List (BitVec 8)} {m : Nat} (h : s2 bs m = false) (hb : d2 bs m = []) : (rP bs m).length ≤ m ∧ (∀ x ∈ rP bs m, x.length = 32) ∧ be8 (rN bs) ++ hsb (rP bs m) = bs := by
  obtain ⟨h1, n2, l2, e2⟩ := hsX_false h
  obtain ⟨_, _, _, _, e1⟩ := cX_false h1
  refine ⟨by unfold rP; rw [chk_len]; exact n2, fun x hx => ?_, ?_⟩
  · obtain ⟨i, hi⟩ := List.getElem?_of_mem hx
    exact (chk_at _ _ l2 i x hi).2.2
  · have f2 : (rP bs m).flatten = hsD (d1 bs) m := by
      have : (rP bs m).flatten ++ d2 bs m = hsD (d1 bs) m := by
        unfold rP d2
        rw [chk_flat _ _ l2, List.take_append_drop]
      rw [hb, List.append_nil] at this
      exact this
    have g2 : d1 bs = hsb (rP bs m) := by
      unfold hsb
      rw [f2, show (rP bs m).length = hsN (d1 bs) m from chk_len _ _]
      exact e2
    rw [← g2, ← (cV_nat bs).1]
    exact e1.symm
theorem done_range {bs : List (BitVec 8)} {m n : Nat} {P : List (List (BitVec 8))} (hm : m ≤ 1000) (hb : be8 n ++ hsb P = bs) (hn : n ≤ 1048576) (hP : P.length ≤ m) (h32 : ∀ x ∈ P, x.length = 32) : s2 bs m = false ∧ d2 bs m = [] ∧ rN bs = n ∧ rP bs m = P := by
  have h32' : ∀ (i : Nat) (x : List (BitVec 8)), P[i]? = some x → x.length = 32 := fun i x hx => h32 x (List.mem_of_getElem? hx)
  obtain ⟨x1, x2, x3⟩ := c_be8 0 1048576 n (hsb P) (by omega) (by omega) (by omega) (by omega)
  rw [hb] at x1 x2 x3
  have q1 : d1 bs = beN P.length 4 ++ P.flatten ++ [] := by rw [List.append_nil]; exact x2
  obtain ⟨u1, u2, u3⟩ := hs_whole P.length P.flatten [] m hm (flat_len2 P h32') hP
  rw [← q1] at u1 u2 u3
  have r1 : s1 bs = false := x3
  refine ⟨by unfold s2; rw [r1]; exact u3, ?_, by unfold rN; rw [x1]; rfl, ?_⟩
  · unfold d2
    rw [u1, u2, List.drop_left' (flat_len2 P h32')]
  · unfold rP
    rw [u1, u2]
    exact chk_of P h32' _
end Go.Proofs.YtnppjlpnfijobaaDoor
namespace Go.Proofs.YtnppjlpnfijobaaDoor
set_option maxRecDepth 100000
open Go.RowKit
end Go.Proofs.YtnppjlpnfijobaaDoor
namespace Go.Proofs.YtnppjlpnfijobaaDoor
set_option maxRecDepth 100000
open Go.RowKit
/-- The block is a row of so many hashes. -/
def RowAt (w : World) (L n : Nat) : Prop := ∃ cs, Ob w L 33 cs ∧ cs.length = n * 32
theorem RowAt.only {w w' : World} {L n g : Nat} (h : RowAt w L n) (ho : Only g w w') (hL : L < w.heap.size) (hne : L ≠ g) : RowAt w' L n := by
  obtain ⟨cs, h1, h2⟩ := h
  refine ⟨cs, ?_, h2⟩
  unfold Ob at *
  rw [ho.block L hL hne]
  exact h1
theorem RowAt.below {w w' : World} {L n : Nat} (h : RowAt w L n) (hb : Below w.heap.size w w') : RowAt w' L n := by
  obtain ⟨cs, h1, h2⟩ := h
  exact ⟨cs, h1.below hb, h2⟩
theorem RowAt.cells {L n : Nat} : ∀ (vs : List Value) (o : Nat) {w : World}, RowAt w L n → RowAt (w.setCells L o vs) L n
  | [], _, _, h => h
  | v :: r, o, w, h => RowAt.cells r (o + 1) (by
    obtain ⟨cs, h1, h2⟩ := h
    exact ⟨_, Ob.set h1 o v, by rw [List.length_set]; exact h2⟩)
set_option maxHeartbeats 400000 in
theorem inHashes_sh (ib : Nat) (bs : List (BitVec 8)) (bad : Bool) (most : Int) (w : World) (h : HasI w ib bs bad) (hbs : bs.length ≤ 900000) :
    Calls Tryd.prog 37 #[.pointer (some ⟨ib, 0, none⟩), .int .i64 most] w fun e w' => ∃ L, e = .returned (.slice (some ⟨L, 0, none⟩) (hsN bs most) (hsN bs most)) ∧ w.heap.size ≤ L ∧ RowAt w' L (hsN bs most) ∧ L < w'.heap.size ∧ HasB w' L 0 ((hsD bs most).take (32 * hsN bs most)) ∧ HasI w' ib ((hsD bs most).drop (32 * hsN bs most)) (hsX bs bad most) ∧ Only ib w w' := by
  have hib := h.lt
  obtain ⟨gb, h', hgb⟩ := h.pick
  have hT := Box.mk (length_h ib gb bs bad most w h' (by omega))
  have hle := hs_le bs most
  have hDl := hsD_len bs most
  have hnil : w.heap.size + 9 ≤ gb → hsN bs most = 0 := by
    intro hg
    obtain ⟨v, _, hr, _⟩ := h'
    rcases hr with ⟨_, rfl⟩ | ⟨_, _, _, _, hlt, _⟩
    · simp at hDl
      rw [hDl] at hle
      simp at hle
      omega
    · omega
  clear h h'
  have hT2 : Box (Calls Tryd.prog 54 #[.pointer (some ⟨ib, 0, none⟩), .int .i64 most, .int .i64 32] w fun e w1 => e = .returned (.int .i64 (hsN bs most : Int)) ∧ Only ib w w1 ∧ ∃ w2, (Instr.makeSlice 22 (.int .i64 (hsN bs most : Int)) (.int .i64 (hsN bs most : Int))).run Tryd.prog w1 = .ok (.slice (some ⟨w1.heap.size, 0, none⟩) (hsN bs most) (hsN bs most)) w2 ∧ Box (w2.there w1.heap.size 0 (32 * hsN bs most)) ∧ Box (HasIn w2 ib (hsD bs most) (hsX bs bad most) gb) ∧ Box (Only ib w w2) ∧ Box (RowAt w2 w1.heap.size (hsN bs most)) ∧ w1.heap.size < w2.heap.size) := ⟨by
    refine hT.out.mono ?_
    rintro e w1 ⟨rfl, h1, h2⟩
    obtain ⟨cs, hcs, hmk⟩ := Tryd.makeH (hsN bs most) (by omega) w1
    refine ⟨rfl, h2, _, hmk, ⟨?_⟩, ⟨h1.below ((Below.refl _ _).alloc (Nat.le_refl _) _)⟩, ⟨h2.trans (Only.of_below ((Below.refl _ _).alloc (Nat.le_refl _) _))⟩, ⟨⟨cs.toList, by unfold Ob; exact heap_alloc_new _ _, by rw [Array.length_toList, hcs]⟩⟩, by simp⟩
    have := there_new w1 cs 33
    rw [hcs, Nat.mul_comm] at this
    exact this⟩
  clear hT
  generalize hsX bs bad most = X at hT2 ⊢
  generalize hsD bs most = D at hT2 hle hDl ⊢
  generalize hsN bs most = n at hT2 hle hnil ⊢
  have hn : n ≤ 100000 := by omega
  have hnil := Box.mk hnil
  have hDl := Nat.le_trans hDl hbs
  go_enter Tryd.func37, Tryd.ntmps37
  go_wp2_with (refine hT2.out.mono ?_; rintro e w1 ⟨rfl, h2, w2, hmk, t2, i2, o2, r2, s2⟩; have hz1 := h2.size; clear h2)
  clear hmk
  generalize w1.heap.size = L at *
  go_loopw [14] (fun i wr => ∃ k : Nat, k ≤ n ∧ i = .int .i64 k ∧ Box (HasB wr L 0 (D.take (32 * k))) ∧ Box (wr.there L 0 (32 * n)) ∧ Box (HasIn wr ib (D.drop (32 * k)) X gb) ∧ Box (Only ib w wr) ∧ Box (RowAt wr L n) ∧ L < wr.heap.size) (fun i _ => n - (intOf i).toNat)
  case atStart => exact ⟨0, by omega, rfl, ⟨fun i hi => by simp at hi⟩, t2, by simpa using i2, o2, r2, s2⟩
  case round =>
    clear t2 i2 o2 r2 s2
    obtain ⟨k, hk, rfl, hB, ht, hI, hO, hRA, hL⟩ := hrel
    by_cases hlt : k < n
    · have hgl : gb < w.heap.size := by
        rcases hgb with hgb | hgb
        · exact hgb
        · have := hnil.out hgb; omega
      have hwz := hO.out.size
      have hDk : (D.drop (32 * k)).length = D.length - 32 * k := List.length_drop
      have hH : hOf (D.drop (32 * k)) = (D.drop (32 * k)).take 32 := by unfold hOf; rw [if_pos (by omega)]
      have hd : dropB (D.drop (32 * k)) 32 = D.drop (32 * (k + 1)) := by unfold dropB; rw [if_pos (by omega), List.drop_drop, show 32 * k + 32 = 32 * (k + 1) by omega]
      have hx : badB (D.drop (32 * k)) X 32 = X := by unfold badB; rw [if_pos (by omega)]
      have hC : Box (Calls Tryd.prog 55 #[.pointer (some ⟨ib, 0, none⟩)] wr fun e w3 => e = .returned (.agg (((D.drop (32 * k)).take 32).map V).toArray) ∧ Box (HasIn w3 ib (D.drop (32 * (k + 1))) X gb) ∧ Box (Only ib wr w3)) := ⟨by
        refine (hash_at ib gb _ X wr hI.out (by omega) (by omega)).mono ?_
        rintro e w3 ⟨rfl, h1, h2⟩
        rw [hH]
        rw [hd, hx] at h1
        exact ⟨rfl, ⟨h1⟩, ⟨h2⟩⟩⟩
      clear hd hx hH hI
      have hl32 : Box (((D.drop (32 * k)).take 32).length = 32) := ⟨by simp; omega⟩
      obtain ⟨H, hH⟩ : ∃ H, Box ((D.drop (32 * k)).take 32 = H) := ⟨_, ⟨rfl⟩⟩
      rw [hH.out] at hC hl32
      have hsz : Box ((H.map V).toArray.size = 32) := ⟨by simp [hl32.out]⟩
      have hne : L ≠ ib := by omega
      go_wp2_with (first | (refine hC.out.mono ?_; rintro e w3 ⟨rfl, h1, h2⟩; have ht3 : Box (w3.there L 0 (32 * n)) := ⟨there_only ht.out h2.out hL hne⟩; have hm3 : Box (w3.there L (k * 32) (H.map V).toArray.size) := ⟨fun j hj => by have := ht3.out (k * 32 + j) (by rw [hsz.out] at hj; omega); rwa [Nat.zero_add] at this⟩) | (refine wpList_store_mid rfl 33 (.tmp 21) (.tmp 20) rfl L (k * 32) (H.map V).toArray rfl rfl hm3.out (by rw [hsz.out]; exact Tryd.size33) (V_all _) ?_))
      have k1 : Box (HasB (w3.setCells L (k * 32) (H.map V).toArray.toList) L 0 (D.take (32 * (k + 1)))) := ⟨by
        have := put_h (w := w3) (hB.out.only h2.out hL hne) ht3.out hlt hle hH.out.symm
        rw [Nat.mul_comm k 32]
        exact this⟩
      have k2 : Box ((w3.setCells L (k * 32) (H.map V).toArray.toList).there L 0 (32 * n)) := ⟨World.there_setCells ht3.out _ _ _⟩
      have k3 : Box (HasIn (w3.setCells L (k * 32) (H.map V).toArray.toList) ib (D.drop (32 * (k + 1))) X gb) := ⟨h1.out.setCells _ _ (by omega) (by omega)⟩
      have k4 : Box (Only ib w (w3.setCells L (k * 32) (H.map V).toArray.toList)) := ⟨by
        have o1 := hO.out.trans h2.out
        have o2 := Only.setCells (g := L) (a := w3) (H.map V).toArray.toList (k * 32) w3 (Only.refl _ _)
        have := h2.out.size
        exact ⟨o2.os.trans o1.os, o2.tape.trans o1.tape, o2.output.trans o1.output, Nat.le_trans o1.size o2.size, fun q hq hne2 => by rw [o2.block q (by omega) (by omega)]; exact o1.block q hq hne2⟩⟩
      have k6 : Box (RowAt (w3.setCells L (k * 32) (H.map V).toArray.toList) L n) := ⟨RowAt.cells _ _ (RowAt.only hRA.out h2.out hL hne)⟩
      have k5 : L < (w3.setCells L (k * 32) (H.map V).toArray.toList).heap.size := by
        have o2 := (Only.setCells (g := L) (a := w3) (H.map V).toArray.toList (k * 32) w3 (Only.refl _ _)).size
        have := h2.out.size
        omega
      clear h1 h2 ht3 hm3 ht hB hO hRA hC
      generalize w3.setCells L (k * 32) (H.map V).toArray.toList = w4 at *
      go_wp2
      go_roundw
      case rel => exact ⟨k + 1, by omega, by go_num, k1, k2, k3, k4, k6, k5⟩
      case measure => simp [intOf]; omega
    · have hkn : Box (k = n) := ⟨by omega⟩
      go_wp2
      go_ret
      rw [hkn.out] at hB hI
      exact ⟨L, rfl, hz1, hRA.out, hL, hB.out, ⟨gb, hI.out⟩, hO.out⟩
theorem in_hashes9 {ib : Nat} {bs : List (BitVec 8)} {bad : Bool} (most : Nat) (w : World) (h : HasI w ib bs bad) (hbs : bs.length ≤ 900000) {S : List (List (BitVec 8))} (eS : Box (chk (hsN bs most) (hsD bs most) = S)) :
    Calls Tryd.prog 37 #[.pointer (some ⟨ib, 0, none⟩), .int .i64 ((most : Nat) : Int)] w fun e w' => ∃ u, e = .returned u ∧ ∃ L, u = .slice (some ⟨L, 0, none⟩) S.length S.length ∧ w.heap.size ≤ L ∧ (Hl w' (some ⟨L, 0, none⟩) L 0 S ∧ RowAt w' L S.length) ∧ HasI w' ib ((hsD bs most).drop (32 * hsN bs most)) (hsX bs bad most) ∧ Only ib w w' := by
  refine (inHashes_sh ib bs bad most w h hbs).mono ?_
  rintro e w' ⟨L, rfl, h1, hr, h2, h3, h4, h5⟩
  have hl : hsN bs most = S.length := by rw [← eS.out, chk_len]
  refine ⟨_, rfl, L, by rw [hl], h1, ⟨?_, by rw [← hl]; exact hr⟩, h4, h5⟩
  rw [← eS.out]
  exact hl_chk h3 h2 (hs_le bs most)
/-- A row of hashes that is read as this list is an own slice of it. -/
theorem row_ow {w : World} {L : Nat} {S : List (List (BitVec 8))} (hr : RowAt w L S.length) (hh : Hl w (some ⟨L, 0, none⟩) L 0 S) (hm : S.length ≤ maxLen) : (Fk.ow L S).f (.slice (some ⟨L, 0, none⟩) S.length S.length) w := by
  obtain ⟨cs, h1, h2⟩ := hr
  have h32 : ∀ (i : Nat) (x : List (BitVec 8)), S[i]? = some x → x.length = 32 := fun i x hi => (hh.all i x hi).1
  have hfl := flat_len2 S h32
  refine ⟨⟨by rw [List.length_map, hfl, Nat.mul_comm], .inr ⟨L, S.length, cs.toArray, rfl, Nat.le_refl _, h1, Nat.le_refl _, hm, by simp [h2], ?_⟩⟩, h32⟩
  rw [← h2, show cs.toArray.toList = cs from rfl, List.take_of_length_le (Nat.le_refl _)]
  apply List.ext_getElem?
  intro j
  rw [List.getElem?_map]
  by_cases hj : j < S.length * 32
  · have hil : j / 32 < S.length := by omega
    have hxi : S[j / 32]? = some S[j / 32] := List.getElem?_eq_getElem hil
    have hlen := h32 _ _ hxi
    have hat := flat_at S h32 _ _ hxi (j % 32) (by omega)
    rw [show j / 32 * 32 + j % 32 = j by omega] at hat
    have hrj : j % 32 < (S[j / 32]).length := by rw [hlen]; omega
    have hc := (hh.all _ _ hxi).2 (j % 32) hrj
    rw [show 0 + j / 32 * 32 + j % 32 = j by omega, cell_of_row _ _ _ _ _ _ h1] at hc
    rw [hat, List.getElem?_eq_getElem hrj, Option.map_some]
    have : cs[j]? = some (.int .u8 (bv ((S[j / 32]).getD (j % 32) 0))) := by simpa using hc
    rw [this]
    simp [V, hrj]
  · rw [List.getElem?_eq_none (by omega), List.getElem?_eq_none (by omega)]
    rfl
end Go.Proofs.YtnppjlpnfijobaaDoor
