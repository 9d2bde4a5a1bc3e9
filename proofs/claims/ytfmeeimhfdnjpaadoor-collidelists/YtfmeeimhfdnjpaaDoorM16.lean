/- CollideRight, CollideLists. Arguments opened: numbers with their bounds, slices of hashes with their room. Places and steps of layer 8 that came in, opened. Lists of slices of bytes that came in, opened: with their room and the bound of their length; claims and growths of layer 10. -/
import Derived.Test.YtfmeeimhfdnjpaaDoorM15
import Derived.Test.YtfmeeimhfdnjpaaDoorM5
import Derived.Test.YtfmeeimhfdnjpaaDoorM4
import Derived.Test.YtfmeeimhfdnjpaaDoorM7
namespace Go.Proofs.YtfmeeimhfdnjpaaDoor
set_option maxRecDepth 100000
open Go.RowKit
set_option maxHeartbeats 1000000 in
theorem lists_law {pa pb : List Pt} {aA aB : Option Addr} {dA dB : Nat} (hla : pa.length ≤ 140737488351232) (hlb : pb.length ≤ 140737488351232) (w : World) (hK : Tab w) (ha : (Fk.mc pa).f (.slice aA pa.length dA) w) (hb : (Fk.mc pb).f (.slice aB pb.length dB) w) :
    Calls Tryd.prog 4 #[.slice aA pa.length dA, .slice aB pb.length dB] w fun e w' => e = .returned (.bool true) ∧ Below w.heap.size w w' := by
  have ham := ha.1
  have hbm := hb.1
  go_enter Tryd.func4, Tryd.ntmps4
  refine code_both (fun f w1 => f.tmps.size = 57 ∧ f.defers = [] ∧ f.eval (.tmp 0) = .slice aA pa.length dA ∧ f.eval (.tmp 1) = .slice aB pb.length dB ∧ Below w.heap.size w (w1)) ⟨rfl, rfl, rfl, rfl, Below.refl _ _⟩ ?_
  rintro f0 w0 ⟨sz, df, x0, x1, bl⟩
  have sd := And.intro sz df
  clear sz df
  have bl0 := bl
  refine wp_seq ?_
  refine wr_a [.eq (.bool false)] (by rw [sd.1]; kernel_rfl) ⟨fun hw ac u K => ?_, trivial⟩ ?_
  · exact st_assign (.const (.bool false)) rfl rfl
  intro f1 w1 A hb
  replace x0 := A.t x0 rfl
  replace x1 := A.t x1 rfl
  replace bl := bgo bl hb
  replace sd := A.sd sd
  clear A hb
  show Code.wp _ _ _ _ _
  refine wp_seq ?_
  refine wp_seq ?_
  by_cases hsa : smallP pa
  rotate_left
  · skip
    refine wr_a [.eq (.slice aA pa.length dA), .eq (.bool false), .eq (.bool true), .eq (.bool true), .any, .any, .any, .eq (.bool true)] (by rw [sd.1]; kernel_rfl) ⟨fun hw ac u K => ?_, fun hw ac u K => ?_, fun hw ac u K => ?_, fun hw ac u K => ?_, fun hw ac u K => ?_, fun hw ac u K => ?_, fun hw ac u K => ?_, fun hw ac u K => ?_, trivial⟩ ?_
    · exact st_move (.tmp 0) rfl (K.t x0 rfl)
    · exact st_call 11 (.func 11) _ _ _ rfl rfl (one_arg (K.dep 0 8 rfl)) Tryd.enter11 (fk_small hla (Fk.mono _ _ _ _ ham (bgo bl K.grow)) (by symm; rw [decide_eq_false_iff_not]; exact hsa))
    · exact st_not (.tmp 9) rfl false (K.dep 1 9 rfl)
    · exact st_move (.tmp 10) rfl (K.dep 2 10 rfl)
    · exact (Bool.false_ne_true hw).elim
    · exact (Bool.false_ne_true hw).elim
    · exact (Bool.false_ne_true hw).elim
    · exact st_pick_t (.tmp 11) (.const (.bool true)) (.tmp 14) rfl (K.dep 3 11 rfl) rfl
    intro f2 w2 A hb
    replace x0 := A.t x0 rfl
    replace x1 := A.t x1 rfl
    have x15 := A.e 7 15 rfl rfl
    replace bl := bgo bl hb
    replace sd := A.sd sd
    clear A hb
    show Code.wp _ _ _ _ _
    refine wp_cond_true x15 ?_
    refine wp_seq ?_
    refine wr_a [.eq (.bool true), .eq (.bool true)] (by rw [sd.1]; kernel_rfl) ⟨fun hw ac u K => ?_, fun hw ac u K => ?_, trivial⟩ ?_
    · exact st_call 8 (.func 8) _ _ _ rfl rfl rfl Tryd.enter8 (fk_of (awake_any _ (hK.below (bgo bl K.grow))))
    · exact st_assign (.tmp 16) rfl (K.dep 0 16 rfl)
    intro f3 w3 A hb
    replace x0 := A.t x0 rfl
    replace x1 := A.t x1 rfl
    replace x15 := A.t x15 rfl
    have x4 := A.e 1 4 rfl rfl
    replace bl := bgo bl hb
    replace sd := A.sd sd
    clear A hb
    clear x0
    clear x1
    clear x15
    show Code.wp _ _ _ _ _
    refine wp_ret ?_
    repeat (first | with_reducible refine then_ret ?_ | with_reducible refine block_ret ?_)
    exact bodyPost_ret (v := .bool true) (ret_slot rfl f3 _ x4 _ _) sd.2 ⟨rfl, bl⟩
  by_cases hsb : smallP pb
  rotate_left
  · skip
    refine wr_a [.eq (.slice aA pa.length dA), .eq (.bool true), .eq (.bool false), .eq (.bool false), .eq (.slice aB pb.length dB), .eq (.bool false), .eq (.bool true), .eq (.bool true)] (by rw [sd.1]; kernel_rfl) ⟨fun hw ac u K => ?_, fun hw ac u K => ?_, fun hw ac u K => ?_, fun hw ac u K => ?_, fun hw ac u K => ?_, fun hw ac u K => ?_, fun hw ac u K => ?_, fun hw ac u K => ?_, trivial⟩ ?_
    · exact st_move (.tmp 0) rfl (K.t x0 rfl)
    · exact st_call 11 (.func 11) _ _ _ rfl rfl (one_arg (K.dep 0 8 rfl)) Tryd.enter11 (fk_small hla (Fk.mono _ _ _ _ ham (bgo bl K.grow)) (by symm; rw [decide_eq_true_iff]; exact hsa))
    · exact st_not (.tmp 9) rfl true (K.dep 1 9 rfl)
    · exact st_move (.tmp 10) rfl (K.dep 2 10 rfl)
    · exact st_move (.tmp 1) rfl (K.t x1 rfl)
    · exact st_call 11 (.func 11) _ _ _ rfl rfl (one_arg (K.dep 4 12 rfl)) Tryd.enter11 (fk_small hlb (Fk.mono _ _ _ _ hbm (bgo bl K.grow)) (by symm; rw [decide_eq_false_iff_not]; exact hsb))
    · exact st_not (.tmp 13) rfl false (K.dep 5 13 rfl)
    · exact st_pick_f' (.tmp 11) (.const (.bool true)) (.tmp 14) rfl (K.dep 3 11 rfl) (K.dep 6 14 rfl)
    intro f2 w2 A hb
    replace x0 := A.t x0 rfl
    replace x1 := A.t x1 rfl
    have x15 := A.e 7 15 rfl rfl
    replace bl := bgo bl hb
    replace sd := A.sd sd
    clear A hb
    show Code.wp _ _ _ _ _
    refine wp_cond_true x15 ?_
    refine wp_seq ?_
    refine wr_a [.eq (.bool true), .eq (.bool true)] (by rw [sd.1]; kernel_rfl) ⟨fun hw ac u K => ?_, fun hw ac u K => ?_, trivial⟩ ?_
    · exact st_call 8 (.func 8) _ _ _ rfl rfl rfl Tryd.enter8 (fk_of (awake_any _ (hK.below (bgo bl K.grow))))
    · exact st_assign (.tmp 16) rfl (K.dep 0 16 rfl)
    intro f3 w3 A hb
    replace x0 := A.t x0 rfl
    replace x1 := A.t x1 rfl
    replace x15 := A.t x15 rfl
    have x4 := A.e 1 4 rfl rfl
    replace bl := bgo bl hb
    replace sd := A.sd sd
    clear A hb
    clear x0
    clear x1
    clear x15
    show Code.wp _ _ _ _ _
    refine wp_ret ?_
    repeat (first | with_reducible refine then_ret ?_ | with_reducible refine block_ret ?_)
    exact bodyPost_ret (v := .bool true) (ret_slot rfl f3 _ x4 _ _) sd.2 ⟨rfl, bl⟩
  refine wr_a [.eq (.slice aA pa.length dA), .eq (.bool true), .eq (.bool false), .eq (.bool false), .eq (.slice aB pb.length dB), .eq (.bool true), .eq (.bool false), .eq (.bool false)] (by rw [sd.1]; kernel_rfl) ⟨fun hw ac u K => ?_, fun hw ac u K => ?_, fun hw ac u K => ?_, fun hw ac u K => ?_, fun hw ac u K => ?_, fun hw ac u K => ?_, fun hw ac u K => ?_, fun hw ac u K => ?_, trivial⟩ ?_
  · exact st_move (.tmp 0) rfl (K.t x0 rfl)
  · exact st_call 11 (.func 11) _ _ _ rfl rfl (one_arg (K.dep 0 8 rfl)) Tryd.enter11 (fk_small hla (Fk.mono _ _ _ _ ham (bgo bl K.grow)) (by symm; rw [decide_eq_true_iff]; exact hsa))
  · exact st_not (.tmp 9) rfl true (K.dep 1 9 rfl)
  · exact st_move (.tmp 10) rfl (K.dep 2 10 rfl)
  · exact st_move (.tmp 1) rfl (K.t x1 rfl)
  · exact st_call 11 (.func 11) _ _ _ rfl rfl (one_arg (K.dep 4 12 rfl)) Tryd.enter11 (fk_small hlb (Fk.mono _ _ _ _ hbm (bgo bl K.grow)) (by symm; rw [decide_eq_true_iff]; exact hsb))
  · exact st_not (.tmp 13) rfl true (K.dep 5 13 rfl)
  · exact st_pick_f' (.tmp 11) (.const (.bool true)) (.tmp 14) rfl (K.dep 3 11 rfl) (K.dep 6 14 rfl)
  intro f2 w2 A hb
  replace x0 := A.t x0 rfl
  replace x1 := A.t x1 rfl
  have x15 := A.e 7 15 rfl rfl
  replace bl := bgo bl hb
  replace sd := A.sd sd
  clear A hb
  show Code.wp _ _ _ _ _
  refine wp_cond_false x15 ?_
  refine wp_skip ?_
  show Code.wp _ _ _ _ _
  refine wp_seq ?_
  have hpa := hsa.2
  have hpb := hsb.2
  have hxa := fun p hp => Nat.le_trans (hsa.1 p hp) (show 200 ≤ 140737488351232 by omega)
  have hxb := fun p hp => Nat.le_trans (hsb.1 p hp) (show 200 ≤ 140737488351232 by omega)
  obtain ⟨x, ex⟩ : ∃ x, Box (mroot (lhs pa) = x) := ⟨_, ⟨rfl⟩⟩
  obtain ⟨y, ey⟩ : ∃ x, Box (mroot (lhs pb) = x) := ⟨_, ⟨rfl⟩⟩
  have hx : x.length = 32 := by rw [← ex.out]; exact mroot_len (lhs_32 pa)
  have hy : y.length = 32 := by rw [← ey.out]; exact mroot_len (lhs_32 pb)
  by_cases hl : pa.length = pb.length
  rotate_left
  · skip
    refine wr_s [.eq (.slice aA pa.length dA), .eq (.slice aB pb.length dB)] (by rw [sd.1]; kernel_rfl) ⟨fun hw ac u K => ?_, fun hw ac u K => ?_, trivial⟩ ?_
    · exact st_move (.tmp 0) rfl (K.t x0 rfl)
    · exact st_move (.tmp 1) rfl (K.t x1 rfl)
    intro f3 w3 A hb
    replace x0 := A.t x0 rfl
    replace x1 := A.t x1 rfl
    replace x15 := A.t x15 rfl
    have x18 := A.e 0 18 rfl rfl
    have x19 := A.e 1 19 rfl rfl
    replace bl := bgo bl hb
    replace sd := A.sd sd
    clear A hb
    clear x15
    refine wl_call 12 (.func 12) _ _ #[.slice aA pa.length dA, .slice aB pb.length dB] rfl 20 rfl (by rw [sd.1]; decide) rfl rfl (arg2 x18 x19) Tryd.enter12 (fun u W => (Fk.c2 false).f u W ∧ Below w3.heap.size w3 W) (fk_lists hsa hsb (Fk.mono _ _ _ _ ha bl) (Fk.mono _ _ _ _ hb bl) (hK.below bl) (f := false) (by symm; rw [decide_eq_false_iff_not]; exact fun h => hl h.1)) ?_
    rintro f4 w4 df2 sz2 old2 ⟨⟨A, B, u1, u2, new2, hA, hB, hlA, hlB, hr⟩, hb⟩
    obtain ⟨pA, mA, cA, _, _, rfl, _⟩ := id hA
    obtain ⟨pB, mB, cB, _, _, rfl, _⟩ := id hB
    replace bl0 := bl
    replace x0 := tr old2 x0 rfl
    replace x1 := tr old2 x1 rfl
    replace x18 := tr old2 x18 rfl
    replace x19 := tr old2 x19 rfl
    have x20 : f4.eval (.tmp 20) = .tuple #[.agg ([.slice pA mA cA, .slice pB mB cB] : List Value).toArray, .bool false] := new2
    replace bl := bgo bl hb
    replace sd := sd2 sz2 df2 sd
    clear df2 sz2 old2 new2 hb
    have blw := bl
    replace ha := Fk.mono _ _ _ _ ha bl
    replace ham := Fk.mono _ _ _ _ ham bl
    replace hb := Fk.mono _ _ _ _ hb bl
    replace hbm := Fk.mono _ _ _ _ hbm bl
    replace hK := hK.below bl
    replace bl := Below.refl w4.heap.size w4
    replace bl0 := bl
    clear x18
    clear x19
    refine wl_one (.eq (.tuple #[.agg ([.slice pA mA cA, .slice pB mB cB] : List Value).toArray, .bool false])) rfl 17 rfl (by rw [sd.1]; decide) (st_move (.tmp 20) rfl x20) ?_
    intro f5 w5 df2 sz2 old2 new2 hb
    replace x0 := tr old2 x0 rfl
    replace x1 := tr old2 x1 rfl
    replace x20 := tr old2 x20 rfl
    have x17 := Fk.e new2
    replace bl := bgo bl hb
    replace sd := sd2 sz2 df2 sd
    clear df2 sz2 old2 new2 hb
    clear x20
    refine wl_one (.eq (.agg ([.slice pA mA cA, .slice pB mB cB] : List Value).toArray)) rfl 21 rfl (by rw [sd.1]; decide) (st_tup (.tmp 17) rfl x17 (by rfl)) ?_
    intro f6 w6 df2 sz2 old2 new2 hb
    replace x0 := tr old2 x0 rfl
    replace x1 := tr old2 x1 rfl
    replace x17 := tr old2 x17 rfl
    have x21 := Fk.e new2
    replace bl := bgo bl hb
    replace sd := sd2 sz2 df2 sd
    clear df2 sz2 old2 new2 hb
    refine wl_one (.eq (.bool false)) rfl 22 rfl (by rw [sd.1]; decide) (st_tup (.tmp 17) rfl x17 (by rfl)) ?_
    intro f7 w7 df2 sz2 old2 new2 hb
    replace x0 := tr old2 x0 rfl
    replace x1 := tr old2 x1 rfl
    replace x17 := tr old2 x17 rfl
    replace x21 := tr old2 x21 rfl
    have x22 := Fk.e new2
    replace bl := bgo bl hb
    replace sd := sd2 sz2 df2 sd
    clear df2 sz2 old2 new2 hb
    clear x17
    refine wl_one (.nw w7.heap.size 25 [.slice none 0 0, .slice none 0 0]) rfl 5 rfl (by rw [sd.1]; decide) (st_alloc 25 rfl _ _ (by kernel_rfl) (Nat.le_refl _)) ?_
    intro f8 w8 df2 sz2 old2 new2 hb
    replace bl0 := bl
    replace x0 := tr old2 x0 rfl
    replace x1 := tr old2 x1 rfl
    replace x21 := tr old2 x21 rfl
    replace x22 := tr old2 x22 rfl
    have x5 : Fk.f (.nw w7.heap.size 25 [.slice none 0 0, .slice none 0 0]) (f8.eval (.tmp 5)) w8 := new2
    replace bl := bgo bl hb
    replace sd := sd2 sz2 df2 sd
    clear df2 sz2 old2 new2 hb
    obtain ⟨g5, hg5, e5, m5⟩ := x5
    have x5 := e5
    clear e5
    have hw5 : w4.heap.size ≤ g5 := Nat.le_trans bl0.size hg5
    refine wl_str rfl 25 (.tmp 5) (.tmp 21) rfl rfl (g5) ([.slice pA mA cA, .slice pB mB cB] : List Value).toArray x5 x21 25 _ m5 (by kernel_rfl) (by kernel_rfl) (by kernel_rfl) ?_
    replace m5 : Ob (w8.setRow g5 ([.slice pA mA cA, .slice pB mB cB] : List Value).toArray) (g5) 25 ([.slice pA mA cA, .slice pB mB cB]) := Ob.setRow m5 ([.slice pA mA cA, .slice pB mB cB])
    replace bl : Below w4.heap.size w4 (w8.setRow g5 ([.slice pA mA cA, .slice pB mB cB] : List Value).toArray) := bl.trans (below_setRow _ _ _ _ hw5)
    generalize w8.setRow g5 ([.slice pA mA cA, .slice pB mB cB] : List Value).toArray = w9b at bl m5 ⊢
    clear x21
    refine wl_one (.eq (.bool false)) rfl 6 rfl (by rw [sd.1]; decide) (st_assign (.tmp 22) rfl x22) ?_
    intro f10 w10 df2 sz2 old2 new2 hb
    replace x0 := tr old2 x0 rfl
    replace x1 := tr old2 x1 rfl
    replace x22 := tr old2 x22 rfl
    replace x5 := tr old2 x5 rfl
    have x6 := Fk.e new2
    replace m5 := Ob.below m5 hb
    replace bl := bgo bl hb
    replace sd := sd2 sz2 df2 sd
    clear df2 sz2 old2 new2 hb
    refine wpList_nil ?_
    clear x22
    show Code.wp _ _ _ _ _
    refine wp_seq ?_
    refine wr_a [.eq (.slice aA pa.length dA), .eq (.int .i64 (((pa).length : Nat) : Int)), .eq (.slice aB pb.length dB), .eq (.int .i64 (((pb).length : Nat) : Int)), .eq (.bool false), .eq (.bool false), .any, .any, .any, .any, .any, .any, .any, .eq (.bool false), .eq (.bool false), .any, .any, .any, .any, .eq (.bool false), .eq (.bool false)] (by rw [sd.1]; kernel_rfl) ⟨fun hw ac u K => ?_, fun hw ac u K => ?_, fun hw ac u K => ?_, fun hw ac u K => ?_, fun hw ac u K => ?_, fun hw ac u K => ?_, fun hw ac u K => ?_, fun hw ac u K => ?_, fun hw ac u K => ?_, fun hw ac u K => ?_, fun hw ac u K => ?_, fun hw ac u K => ?_, fun hw ac u K => ?_, fun hw ac u K => ?_, fun hw ac u K => ?_, fun hw ac u K => ?_, fun hw ac u K => ?_, fun hw ac u K => ?_, fun hw ac u K => ?_, fun hw ac u K => ?_, fun hw ac u K => ?_, trivial⟩ ?_
    · exact st_move (.tmp 0) rfl (K.t x0 rfl)
    · exact st_lenm (.tmp 23) rfl (fk_val (K.dep 0 23 rfl) (Fk.mono _ _ _ _ ham (bgo bl K.grow)))
    · exact st_move (.tmp 1) rfl (K.t x1 rfl)
    · exact st_lenm (.tmp 25) rfl (fk_val (K.dep 2 25 rfl) (Fk.mono _ _ _ _ hbm (bgo bl K.grow)))
    · exact st_eqi 3 (.tmp 24) (.tmp 26) rfl .i64 ((((pa).length : Nat) : Int)) ((((pb).length : Nat) : Int)) (K.dep 1 24 rfl) (K.dep 3 26 rfl) _ (by symm; rw [decide_eq_false_iff_not]; exact (by omega))
    · exact st_move (.tmp 27) rfl (K.dep 4 27 rfl)
    · exact (Bool.false_ne_true hw).elim
    · exact (Bool.false_ne_true hw).elim
    · exact (Bool.false_ne_true hw).elim
    · exact (Bool.false_ne_true hw).elim
    · exact (Bool.false_ne_true hw).elim
    · exact (Bool.false_ne_true hw).elim
    · exact (Bool.false_ne_true hw).elim
    · exact st_pick_f' (.tmp 28) (.tmp 35) (.const (.bool false)) rfl (K.dep 5 28 rfl) rfl
    · exact st_move (.tmp 36) rfl (K.dep 13 36 rfl)
    · exact (Bool.false_ne_true hw).elim
    · exact (Bool.false_ne_true hw).elim
    · exact (Bool.false_ne_true hw).elim
    · exact (Bool.false_ne_true hw).elim
    · exact st_pick_f' (.tmp 37) (.tmp 41) (.const (.bool false)) rfl (K.dep 14 37 rfl) rfl
    · exact st_assign (.tmp 42) rfl (K.dep 19 42 rfl)
    intro f11 w11 A hb
    replace x0 := A.t x0 rfl
    replace x1 := A.t x1 rfl
    replace x5 := A.t x5 rfl
    replace x6 := A.t x6 rfl
    have x7 := A.e 20 7 rfl rfl
    replace m5 := Ob.below m5 hb
    replace bl := bgo bl hb
    replace sd := A.sd sd
    clear A hb
    clear x0
    clear x1
    show Code.wp _ _ _ _ _
    refine wp_seq ?_
    refine wr_a [.eq (.bool false), .eq (.bool false), .eq (.bool true), .eq (.bool true), .eq (.bool false), .eq (.bool true), .eq (.bool true), .any, .any, .eq (.bool true), .eq (.bool true), .eq (.bool true), .eq (.bool true), .eq (.bool true), .eq (.bool true)] (by rw [sd.1]; kernel_rfl) ⟨fun hw ac u K => ?_, fun hw ac u K => ?_, fun hw ac u K => ?_, fun hw ac u K => ?_, fun hw ac u K => ?_, fun hw ac u K => ?_, fun hw ac u K => ?_, fun hw ac u K => ?_, fun hw ac u K => ?_, fun hw ac u K => ?_, fun hw ac u K => ?_, fun hw ac u K => ?_, fun hw ac u K => ?_, fun hw ac u K => ?_, fun hw ac u K => ?_, trivial⟩ ?_
    · exact st_move (.tmp 6) rfl (K.t x6 rfl)
    · exact st_move (.tmp 7) rfl (K.t x7 rfl)
    · exact st_bin .eql 4 4 (.tmp 43) (.tmp 44) rfl (K.dep 0 43 rfl) (K.dep 1 44 rfl) (by rfl)
    · exact st_move (.tmp 45) rfl (K.dep 2 45 rfl)
    · exact st_move (.tmp 6) rfl (K.t x6 rfl)
    · exact st_not (.tmp 47) rfl false (K.dep 4 47 rfl)
    · exact st_move (.tmp 48) rfl (K.dep 5 48 rfl)
    · exact (Bool.false_ne_true hw).elim
    · exact (Bool.false_ne_true hw).elim
    · exact st_pick_t (.tmp 49) (.const (.bool true)) (.tmp 51) rfl (K.dep 6 49 rfl) rfl
    · exact st_pick_t (.tmp 46) (.tmp 52) (.const (.bool false)) rfl (K.dep 3 46 rfl) (K.dep 9 52 rfl)
    · exact st_move (.tmp 53) rfl (K.dep 10 53 rfl)
    · exact st_call 8 (.func 8) _ _ _ rfl rfl rfl Tryd.enter8 (fk_of (awake_any _ (hK.below (bgo bl K.grow))))
    · exact st_pick_t (.tmp 54) (.tmp 55) (.const (.bool false)) rfl (K.dep 11 54 rfl) (K.dep 12 55 rfl)
    · exact st_assign (.tmp 56) rfl (K.dep 13 56 rfl)
    intro f12 w12 A hb
    replace x5 := A.t x5 rfl
    replace x6 := A.t x6 rfl
    replace x7 := A.t x7 rfl
    have x4 := A.e 14 4 rfl rfl
    replace m5 := Ob.below m5 hb
    replace bl := bgo bl hb
    replace sd := A.sd sd
    clear A hb
    clear x5
    clear x6
    clear x7
    clear m5
    show Code.wp _ _ _ _ _
    refine wp_ret ?_
    repeat (first | with_reducible refine then_ret ?_ | with_reducible refine block_ret ?_)
    exact bodyPost_ret (v := .bool true) (ret_slot rfl f12 _ x4 _ _) sd.2 ⟨rfl, (bgo blw bl)⟩
  by_cases hxy : x = y
  rotate_left
  · skip
    refine wr_s [.eq (.slice aA pa.length dA), .eq (.slice aB pb.length dB)] (by rw [sd.1]; kernel_rfl) ⟨fun hw ac u K => ?_, fun hw ac u K => ?_, trivial⟩ ?_
    · exact st_move (.tmp 0) rfl (K.t x0 rfl)
    · exact st_move (.tmp 1) rfl (K.t x1 rfl)
    intro f3 w3 A hb
    replace x0 := A.t x0 rfl
    replace x1 := A.t x1 rfl
    replace x15 := A.t x15 rfl
    have x18 := A.e 0 18 rfl rfl
    have x19 := A.e 1 19 rfl rfl
    replace bl := bgo bl hb
    replace sd := A.sd sd
    clear A hb
    clear x15
    refine wl_call 12 (.func 12) _ _ #[.slice aA pa.length dA, .slice aB pb.length dB] rfl 20 rfl (by rw [sd.1]; decide) rfl rfl (arg2 x18 x19) Tryd.enter12 (fun u W => (Fk.c2 false).f u W ∧ Below w3.heap.size w3 W) (fk_lists hsa hsb (Fk.mono _ _ _ _ ha bl) (Fk.mono _ _ _ _ hb bl) (hK.below bl) (f := false) (by symm; rw [decide_eq_false_iff_not]; exact fun h => hxy (by rw [← ex.out, ← ey.out]; exact h.2.1))) ?_
    rintro f4 w4 df2 sz2 old2 ⟨⟨A, B, u1, u2, new2, hA, hB, hlA, hlB, hr⟩, hb⟩
    obtain ⟨pA, mA, cA, _, _, rfl, _⟩ := id hA
    obtain ⟨pB, mB, cB, _, _, rfl, _⟩ := id hB
    replace bl0 := bl
    replace x0 := tr old2 x0 rfl
    replace x1 := tr old2 x1 rfl
    replace x18 := tr old2 x18 rfl
    replace x19 := tr old2 x19 rfl
    have x20 : f4.eval (.tmp 20) = .tuple #[.agg ([.slice pA mA cA, .slice pB mB cB] : List Value).toArray, .bool false] := new2
    replace bl := bgo bl hb
    replace sd := sd2 sz2 df2 sd
    clear df2 sz2 old2 new2 hb
    have blw := bl
    replace ha := Fk.mono _ _ _ _ ha bl
    replace ham := Fk.mono _ _ _ _ ham bl
    replace hb := Fk.mono _ _ _ _ hb bl
    replace hbm := Fk.mono _ _ _ _ hbm bl
    replace hK := hK.below bl
    replace bl := Below.refl w4.heap.size w4
    replace bl0 := bl
    clear x18
    clear x19
    refine wl_one (.eq (.tuple #[.agg ([.slice pA mA cA, .slice pB mB cB] : List Value).toArray, .bool false])) rfl 17 rfl (by rw [sd.1]; decide) (st_move (.tmp 20) rfl x20) ?_
    intro f5 w5 df2 sz2 old2 new2 hb
    replace x0 := tr old2 x0 rfl
    replace x1 := tr old2 x1 rfl
    replace x20 := tr old2 x20 rfl
    have x17 := Fk.e new2
    replace bl := bgo bl hb
    replace sd := sd2 sz2 df2 sd
    clear df2 sz2 old2 new2 hb
    clear x20
    refine wl_one (.eq (.agg ([.slice pA mA cA, .slice pB mB cB] : List Value).toArray)) rfl 21 rfl (by rw [sd.1]; decide) (st_tup (.tmp 17) rfl x17 (by rfl)) ?_
    intro f6 w6 df2 sz2 old2 new2 hb
    replace x0 := tr old2 x0 rfl
    replace x1 := tr old2 x1 rfl
    replace x17 := tr old2 x17 rfl
    have x21 := Fk.e new2
    replace bl := bgo bl hb
    replace sd := sd2 sz2 df2 sd
    clear df2 sz2 old2 new2 hb
    refine wl_one (.eq (.bool false)) rfl 22 rfl (by rw [sd.1]; decide) (st_tup (.tmp 17) rfl x17 (by rfl)) ?_
    intro f7 w7 df2 sz2 old2 new2 hb
    replace x0 := tr old2 x0 rfl
    replace x1 := tr old2 x1 rfl
    replace x17 := tr old2 x17 rfl
    replace x21 := tr old2 x21 rfl
    have x22 := Fk.e new2
    replace bl := bgo bl hb
    replace sd := sd2 sz2 df2 sd
    clear df2 sz2 old2 new2 hb
    clear x17
    refine wl_one (.nw w7.heap.size 25 [.slice none 0 0, .slice none 0 0]) rfl 5 rfl (by rw [sd.1]; decide) (st_alloc 25 rfl _ _ (by kernel_rfl) (Nat.le_refl _)) ?_
    intro f8 w8 df2 sz2 old2 new2 hb
    replace bl0 := bl
    replace x0 := tr old2 x0 rfl
    replace x1 := tr old2 x1 rfl
    replace x21 := tr old2 x21 rfl
    replace x22 := tr old2 x22 rfl
    have x5 : Fk.f (.nw w7.heap.size 25 [.slice none 0 0, .slice none 0 0]) (f8.eval (.tmp 5)) w8 := new2
    replace bl := bgo bl hb
    replace sd := sd2 sz2 df2 sd
    clear df2 sz2 old2 new2 hb
    obtain ⟨g5, hg5, e5, m5⟩ := x5
    have x5 := e5
    clear e5
    have hw5 : w4.heap.size ≤ g5 := Nat.le_trans bl0.size hg5
    refine wl_str rfl 25 (.tmp 5) (.tmp 21) rfl rfl (g5) ([.slice pA mA cA, .slice pB mB cB] : List Value).toArray x5 x21 25 _ m5 (by kernel_rfl) (by kernel_rfl) (by kernel_rfl) ?_
    replace m5 : Ob (w8.setRow g5 ([.slice pA mA cA, .slice pB mB cB] : List Value).toArray) (g5) 25 ([.slice pA mA cA, .slice pB mB cB]) := Ob.setRow m5 ([.slice pA mA cA, .slice pB mB cB])
    replace bl : Below w4.heap.size w4 (w8.setRow g5 ([.slice pA mA cA, .slice pB mB cB] : List Value).toArray) := bl.trans (below_setRow _ _ _ _ hw5)
    generalize w8.setRow g5 ([.slice pA mA cA, .slice pB mB cB] : List Value).toArray = w9b at bl m5 ⊢
    clear x21
    refine wl_one (.eq (.bool false)) rfl 6 rfl (by rw [sd.1]; decide) (st_assign (.tmp 22) rfl x22) ?_
    intro f10 w10 df2 sz2 old2 new2 hb
    replace x0 := tr old2 x0 rfl
    replace x1 := tr old2 x1 rfl
    replace x22 := tr old2 x22 rfl
    replace x5 := tr old2 x5 rfl
    have x6 := Fk.e new2
    replace m5 := Ob.below m5 hb
    replace bl := bgo bl hb
    replace sd := sd2 sz2 df2 sd
    clear df2 sz2 old2 new2 hb
    refine wpList_nil ?_
    clear x22
    show Code.wp _ _ _ _ _
    refine wp_seq ?_
    refine wr_a [.eq (.slice aA pa.length dA), .eq (.int .i64 (((pa).length : Nat) : Int)), .eq (.slice aB pb.length dB), .eq (.int .i64 (((pb).length : Nat) : Int)), .eq (.bool true), .eq (.bool true), .eq (.slice aA pa.length dA), .ow w4.heap.size (lhs pa), .eq (.agg ((x).map V).toArray), .eq (.slice aB pb.length dB), .ow w4.heap.size (lhs pb), .eq (.agg ((y).map V).toArray), .eq (.bool false), .eq (.bool false), .eq (.bool false), .any, .any, .any, .any, .eq (.bool false), .eq (.bool false)] (by rw [sd.1]; kernel_rfl) ⟨fun hw ac u K => ?_, fun hw ac u K => ?_, fun hw ac u K => ?_, fun hw ac u K => ?_, fun hw ac u K => ?_, fun hw ac u K => ?_, fun hw ac u K => ?_, fun hw ac u K => ?_, fun hw ac u K => ?_, fun hw ac u K => ?_, fun hw ac u K => ?_, fun hw ac u K => ?_, fun hw ac u K => ?_, fun hw ac u K => ?_, fun hw ac u K => ?_, fun hw ac u K => ?_, fun hw ac u K => ?_, fun hw ac u K => ?_, fun hw ac u K => ?_, fun hw ac u K => ?_, fun hw ac u K => ?_, trivial⟩ ?_
    · exact st_move (.tmp 0) rfl (K.t x0 rfl)
    · exact st_lenm (.tmp 23) rfl (fk_val (K.dep 0 23 rfl) (Fk.mono _ _ _ _ ham (bgo bl K.grow)))
    · exact st_move (.tmp 1) rfl (K.t x1 rfl)
    · exact st_lenm (.tmp 25) rfl (fk_val (K.dep 2 25 rfl) (Fk.mono _ _ _ _ hbm (bgo bl K.grow)))
    · exact st_eqi 3 (.tmp 24) (.tmp 26) rfl .i64 ((((pa).length : Nat) : Int)) ((((pb).length : Nat) : Int)) (K.dep 1 24 rfl) (K.dep 3 26 rfl) _ (by symm; rw [decide_eq_true_iff]; exact (by omega))
    · exact st_move (.tmp 27) rfl (K.dep 4 27 rfl)
    · exact st_move (.tmp 0) rfl (K.t x0 rfl)
    · exact st_call 14 (.func 14) _ _ _ rfl rfl (one_arg (K.dep 6 29 rfl)) Tryd.enter14 (fk_ow (bgo bl K.grow).size (fk_hashes (by omega) hxa (Fk.mono _ _ _ _ ham (bgo bl K.grow)) (hK.below (bgo bl K.grow))))
    · exact st_call 13 (.func 13) _ _ _ rfl rfl (one_arg rfl) Tryd.enter13 (fk_of (lroot_any (by rw [lhs_len]; omega) _ (ow_hc (K.dep 7 30 rfl)) (hK.below (bgo bl K.grow)) ex))
    · exact st_move (.tmp 1) rfl (K.t x1 rfl)
    · exact st_call 14 (.func 14) _ _ _ rfl rfl (one_arg (K.dep 9 32 rfl)) Tryd.enter14 (fk_ow (bgo bl K.grow).size (fk_hashes (by omega) hxb (Fk.mono _ _ _ _ hbm (bgo bl K.grow)) (hK.below (bgo bl K.grow))))
    · exact st_call 13 (.func 13) _ _ _ rfl rfl (one_arg rfl) Tryd.enter13 (fk_of (lroot_any (by rw [lhs_len]; omega) _ (ow_hc (K.dep 10 33 rfl)) (hK.below (bgo bl K.grow)) ey))
    · exact st_eqh (.tmp 31) (.tmp 34) rfl (x) (y) hx hy (K.dep 8 31 rfl) (K.dep 11 34 rfl) _ (by simp [hxy])
    · exact st_pick_t (.tmp 28) (.tmp 35) (.const (.bool false)) rfl (K.dep 5 28 rfl) (K.dep 12 35 rfl)
    · exact st_move (.tmp 36) rfl (K.dep 13 36 rfl)
    · exact (Bool.false_ne_true hw).elim
    · exact (Bool.false_ne_true hw).elim
    · exact (Bool.false_ne_true hw).elim
    · exact (Bool.false_ne_true hw).elim
    · exact st_pick_f' (.tmp 37) (.tmp 41) (.const (.bool false)) rfl (K.dep 14 37 rfl) rfl
    · exact st_assign (.tmp 42) rfl (K.dep 19 42 rfl)
    intro f11 w11 A hb
    replace x0 := A.t x0 rfl
    replace x1 := A.t x1 rfl
    replace x5 := A.t x5 rfl
    replace x6 := A.t x6 rfl
    have x7 := A.e 20 7 rfl rfl
    replace m5 := Ob.below m5 hb
    replace bl := bgo bl hb
    replace sd := A.sd sd
    clear A hb
    clear x0
    clear x1
    show Code.wp _ _ _ _ _
    refine wp_seq ?_
    refine wr_a [.eq (.bool false), .eq (.bool false), .eq (.bool true), .eq (.bool true), .eq (.bool false), .eq (.bool true), .eq (.bool true), .any, .any, .eq (.bool true), .eq (.bool true), .eq (.bool true), .eq (.bool true), .eq (.bool true), .eq (.bool true)] (by rw [sd.1]; kernel_rfl) ⟨fun hw ac u K => ?_, fun hw ac u K => ?_, fun hw ac u K => ?_, fun hw ac u K => ?_, fun hw ac u K => ?_, fun hw ac u K => ?_, fun hw ac u K => ?_, fun hw ac u K => ?_, fun hw ac u K => ?_, fun hw ac u K => ?_, fun hw ac u K => ?_, fun hw ac u K => ?_, fun hw ac u K => ?_, fun hw ac u K => ?_, fun hw ac u K => ?_, trivial⟩ ?_
    · exact st_move (.tmp 6) rfl (K.t x6 rfl)
    · exact st_move (.tmp 7) rfl (K.t x7 rfl)
    · exact st_bin .eql 4 4 (.tmp 43) (.tmp 44) rfl (K.dep 0 43 rfl) (K.dep 1 44 rfl) (by rfl)
    · exact st_move (.tmp 45) rfl (K.dep 2 45 rfl)
    · exact st_move (.tmp 6) rfl (K.t x6 rfl)
    · exact st_not (.tmp 47) rfl false (K.dep 4 47 rfl)
    · exact st_move (.tmp 48) rfl (K.dep 5 48 rfl)
    · exact (Bool.false_ne_true hw).elim
    · exact (Bool.false_ne_true hw).elim
    · exact st_pick_t (.tmp 49) (.const (.bool true)) (.tmp 51) rfl (K.dep 6 49 rfl) rfl
    · exact st_pick_t (.tmp 46) (.tmp 52) (.const (.bool false)) rfl (K.dep 3 46 rfl) (K.dep 9 52 rfl)
    · exact st_move (.tmp 53) rfl (K.dep 10 53 rfl)
    · exact st_call 8 (.func 8) _ _ _ rfl rfl rfl Tryd.enter8 (fk_of (awake_any _ (hK.below (bgo bl K.grow))))
    · exact st_pick_t (.tmp 54) (.tmp 55) (.const (.bool false)) rfl (K.dep 11 54 rfl) (K.dep 12 55 rfl)
    · exact st_assign (.tmp 56) rfl (K.dep 13 56 rfl)
    intro f12 w12 A hb
    replace x5 := A.t x5 rfl
    replace x6 := A.t x6 rfl
    replace x7 := A.t x7 rfl
    have x4 := A.e 14 4 rfl rfl
    replace m5 := Ob.below m5 hb
    replace bl := bgo bl hb
    replace sd := A.sd sd
    clear A hb
    clear x5
    clear x6
    clear x7
    clear m5
    show Code.wp _ _ _ _ _
    refine wp_ret ?_
    repeat (first | with_reducible refine then_ret ?_ | with_reducible refine block_ret ?_)
    exact bodyPost_ret (v := .bool true) (ret_slot rfl f12 _ x4 _ _) sd.2 ⟨rfl, (bgo blw bl)⟩
  by_cases hsm : bys pa = bys pb
  rotate_left
  · skip
    refine wr_s [.eq (.slice aA pa.length dA), .eq (.slice aB pb.length dB)] (by rw [sd.1]; kernel_rfl) ⟨fun hw ac u K => ?_, fun hw ac u K => ?_, trivial⟩ ?_
    · exact st_move (.tmp 0) rfl (K.t x0 rfl)
    · exact st_move (.tmp 1) rfl (K.t x1 rfl)
    intro f3 w3 A hb
    replace x0 := A.t x0 rfl
    replace x1 := A.t x1 rfl
    replace x15 := A.t x15 rfl
    have x18 := A.e 0 18 rfl rfl
    have x19 := A.e 1 19 rfl rfl
    replace bl := bgo bl hb
    replace sd := A.sd sd
    clear A hb
    clear x15
    refine wl_call 12 (.func 12) _ _ #[.slice aA pa.length dA, .slice aB pb.length dB] rfl 20 rfl (by rw [sd.1]; decide) rfl rfl (arg2 x18 x19) Tryd.enter12 (fun u W => (Fk.c2 true).f u W ∧ Below w3.heap.size w3 W) (fk_lists hsa hsb (Fk.mono _ _ _ _ ha bl) (Fk.mono _ _ _ _ hb bl) (hK.below bl) (f := true) (by symm; rw [decide_eq_true_iff]; exact ⟨hl, by rw [ex.out, ey.out]; exact hxy, hsm⟩)) ?_
    rintro f4 w4 df2 sz2 old2 ⟨⟨A, B, u1, u2, new2, hA, hB, hlA, hlB, hr⟩, hb⟩
    obtain ⟨pA, mA, cA, _, _, rfl, _⟩ := id hA
    obtain ⟨pB, mB, cB, _, _, rfl, _⟩ := id hB
    replace bl0 := bl
    replace x0 := tr old2 x0 rfl
    replace x1 := tr old2 x1 rfl
    replace x18 := tr old2 x18 rfl
    replace x19 := tr old2 x19 rfl
    have x20 : f4.eval (.tmp 20) = .tuple #[.agg ([.slice pA mA cA, .slice pB mB cB] : List Value).toArray, .bool true] := new2
    replace bl := bgo bl hb
    replace sd := sd2 sz2 df2 sd
    clear df2 sz2 old2 new2 hb
    have blw := bl
    replace ha := Fk.mono _ _ _ _ ha bl
    replace ham := Fk.mono _ _ _ _ ham bl
    replace hb := Fk.mono _ _ _ _ hb bl
    replace hbm := Fk.mono _ _ _ _ hbm bl
    replace hK := hK.below bl
    replace bl := Below.refl w4.heap.size w4
    replace bl0 := bl
    clear x18
    clear x19
    refine wl_one (.eq (.tuple #[.agg ([.slice pA mA cA, .slice pB mB cB] : List Value).toArray, .bool true])) rfl 17 rfl (by rw [sd.1]; decide) (st_move (.tmp 20) rfl x20) ?_
    intro f5 w5 df2 sz2 old2 new2 hb
    replace x0 := tr old2 x0 rfl
    replace x1 := tr old2 x1 rfl
    replace x20 := tr old2 x20 rfl
    have x17 := Fk.e new2
    replace bl := bgo bl hb
    replace sd := sd2 sz2 df2 sd
    clear df2 sz2 old2 new2 hb
    clear x20
    refine wl_one (.eq (.agg ([.slice pA mA cA, .slice pB mB cB] : List Value).toArray)) rfl 21 rfl (by rw [sd.1]; decide) (st_tup (.tmp 17) rfl x17 (by rfl)) ?_
    intro f6 w6 df2 sz2 old2 new2 hb
    replace x0 := tr old2 x0 rfl
    replace x1 := tr old2 x1 rfl
    replace x17 := tr old2 x17 rfl
    have x21 := Fk.e new2
    replace bl := bgo bl hb
    replace sd := sd2 sz2 df2 sd
    clear df2 sz2 old2 new2 hb
    refine wl_one (.eq (.bool true)) rfl 22 rfl (by rw [sd.1]; decide) (st_tup (.tmp 17) rfl x17 (by rfl)) ?_
    intro f7 w7 df2 sz2 old2 new2 hb
    replace x0 := tr old2 x0 rfl
    replace x1 := tr old2 x1 rfl
    replace x17 := tr old2 x17 rfl
    replace x21 := tr old2 x21 rfl
    have x22 := Fk.e new2
    replace bl := bgo bl hb
    replace sd := sd2 sz2 df2 sd
    clear df2 sz2 old2 new2 hb
    clear x17
    refine wl_one (.nw w7.heap.size 25 [.slice none 0 0, .slice none 0 0]) rfl 5 rfl (by rw [sd.1]; decide) (st_alloc 25 rfl _ _ (by kernel_rfl) (Nat.le_refl _)) ?_
    intro f8 w8 df2 sz2 old2 new2 hb
    replace bl0 := bl
    replace x0 := tr old2 x0 rfl
    replace x1 := tr old2 x1 rfl
    replace x21 := tr old2 x21 rfl
    replace x22 := tr old2 x22 rfl
    have x5 : Fk.f (.nw w7.heap.size 25 [.slice none 0 0, .slice none 0 0]) (f8.eval (.tmp 5)) w8 := new2
    replace bl := bgo bl hb
    replace sd := sd2 sz2 df2 sd
    clear df2 sz2 old2 new2 hb
    obtain ⟨g5, hg5, e5, m5⟩ := x5
    have x5 := e5
    clear e5
    have hw5 : w4.heap.size ≤ g5 := Nat.le_trans bl0.size hg5
    refine wl_str rfl 25 (.tmp 5) (.tmp 21) rfl rfl (g5) ([.slice pA mA cA, .slice pB mB cB] : List Value).toArray x5 x21 25 _ m5 (by kernel_rfl) (by kernel_rfl) (by kernel_rfl) ?_
    replace m5 : Ob (w8.setRow g5 ([.slice pA mA cA, .slice pB mB cB] : List Value).toArray) (g5) 25 ([.slice pA mA cA, .slice pB mB cB]) := Ob.setRow m5 ([.slice pA mA cA, .slice pB mB cB])
    replace bl : Below w4.heap.size w4 (w8.setRow g5 ([.slice pA mA cA, .slice pB mB cB] : List Value).toArray) := bl.trans (below_setRow _ _ _ _ hw5)
    generalize w8.setRow g5 ([.slice pA mA cA, .slice pB mB cB] : List Value).toArray = w9b at bl m5 ⊢
    clear x21
    refine wl_one (.eq (.bool true)) rfl 6 rfl (by rw [sd.1]; decide) (st_assign (.tmp 22) rfl x22) ?_
    intro f10 w10 df2 sz2 old2 new2 hb
    replace x0 := tr old2 x0 rfl
    replace x1 := tr old2 x1 rfl
    replace x22 := tr old2 x22 rfl
    replace x5 := tr old2 x5 rfl
    have x6 := Fk.e new2
    replace m5 := Ob.below m5 hb
    replace bl := bgo bl hb
    replace sd := sd2 sz2 df2 sd
    clear df2 sz2 old2 new2 hb
    refine wpList_nil ?_
    clear x22
    show Code.wp _ _ _ _ _
    refine wp_seq ?_
    refine wr_a [.eq (.slice aA pa.length dA), .eq (.int .i64 (((pa).length : Nat) : Int)), .eq (.slice aB pb.length dB), .eq (.int .i64 (((pb).length : Nat) : Int)), .eq (.bool true), .eq (.bool true), .eq (.slice aA pa.length dA), .ow w4.heap.size (lhs pa), .eq (.agg ((x).map V).toArray), .eq (.slice aB pb.length dB), .ow w4.heap.size (lhs pb), .eq (.agg ((y).map V).toArray), .eq (.bool true), .eq (.bool true), .eq (.bool true), .eq (.slice aA pa.length dA), .eq (.slice aB pb.length dB), .eq (.bool false), .eq (.bool true), .eq (.bool true), .eq (.bool true)] (by rw [sd.1]; kernel_rfl) ⟨fun hw ac u K => ?_, fun hw ac u K => ?_, fun hw ac u K => ?_, fun hw ac u K => ?_, fun hw ac u K => ?_, fun hw ac u K => ?_, fun hw ac u K => ?_, fun hw ac u K => ?_, fun hw ac u K => ?_, fun hw ac u K => ?_, fun hw ac u K => ?_, fun hw ac u K => ?_, fun hw ac u K => ?_, fun hw ac u K => ?_, fun hw ac u K => ?_, fun hw ac u K => ?_, fun hw ac u K => ?_, fun hw ac u K => ?_, fun hw ac u K => ?_, fun hw ac u K => ?_, fun hw ac u K => ?_, trivial⟩ ?_
    · exact st_move (.tmp 0) rfl (K.t x0 rfl)
    · exact st_lenm (.tmp 23) rfl (fk_val (K.dep 0 23 rfl) (Fk.mono _ _ _ _ ham (bgo bl K.grow)))
    · exact st_move (.tmp 1) rfl (K.t x1 rfl)
    · exact st_lenm (.tmp 25) rfl (fk_val (K.dep 2 25 rfl) (Fk.mono _ _ _ _ hbm (bgo bl K.grow)))
    · exact st_eqi 3 (.tmp 24) (.tmp 26) rfl .i64 ((((pa).length : Nat) : Int)) ((((pb).length : Nat) : Int)) (K.dep 1 24 rfl) (K.dep 3 26 rfl) _ (by symm; rw [decide_eq_true_iff]; exact (by omega))
    · exact st_move (.tmp 27) rfl (K.dep 4 27 rfl)
    · exact st_move (.tmp 0) rfl (K.t x0 rfl)
    · exact st_call 14 (.func 14) _ _ _ rfl rfl (one_arg (K.dep 6 29 rfl)) Tryd.enter14 (fk_ow (bgo bl K.grow).size (fk_hashes (by omega) hxa (Fk.mono _ _ _ _ ham (bgo bl K.grow)) (hK.below (bgo bl K.grow))))
    · exact st_call 13 (.func 13) _ _ _ rfl rfl (one_arg rfl) Tryd.enter13 (fk_of (lroot_any (by rw [lhs_len]; omega) _ (ow_hc (K.dep 7 30 rfl)) (hK.below (bgo bl K.grow)) ex))
    · exact st_move (.tmp 1) rfl (K.t x1 rfl)
    · exact st_call 14 (.func 14) _ _ _ rfl rfl (one_arg (K.dep 9 32 rfl)) Tryd.enter14 (fk_ow (bgo bl K.grow).size (fk_hashes (by omega) hxb (Fk.mono _ _ _ _ hbm (bgo bl K.grow)) (hK.below (bgo bl K.grow))))
    · exact st_call 13 (.func 13) _ _ _ rfl rfl (one_arg rfl) Tryd.enter13 (fk_of (lroot_any (by rw [lhs_len]; omega) _ (ow_hc (K.dep 10 33 rfl)) (hK.below (bgo bl K.grow)) ey))
    · exact st_eqh (.tmp 31) (.tmp 34) rfl (x) (y) hx hy (K.dep 8 31 rfl) (K.dep 11 34 rfl) _ (by simp [hxy])
    · exact st_pick_t (.tmp 28) (.tmp 35) (.const (.bool false)) rfl (K.dep 5 28 rfl) (K.dep 12 35 rfl)
    · exact st_move (.tmp 36) rfl (K.dep 13 36 rfl)
    · exact st_move (.tmp 0) rfl (K.t x0 rfl)
    · exact st_move (.tmp 1) rfl (K.t x1 rfl)
    · exact st_call 15 (.func 15) _ _ _ rfl rfl (arg2 (K.dep 15 38 rfl) (K.dep 16 39 rfl)) Tryd.enter15 (fk_same (by omega) (by omega) (Fk.mono _ _ _ _ ham (bgo bl K.grow)) (Fk.mono _ _ _ _ hbm (bgo bl K.grow)) (by symm; rw [decide_eq_false_iff_not]; exact hsm))
    · exact st_not (.tmp 40) rfl false (K.dep 17 40 rfl)
    · exact st_pick_t (.tmp 37) (.tmp 41) (.const (.bool false)) rfl (K.dep 14 37 rfl) (K.dep 18 41 rfl)
    · exact st_assign (.tmp 42) rfl (K.dep 19 42 rfl)
    intro f11 w11 A hb
    replace x0 := A.t x0 rfl
    replace x1 := A.t x1 rfl
    replace x5 := A.t x5 rfl
    replace x6 := A.t x6 rfl
    have x7 := A.e 20 7 rfl rfl
    replace m5 := Ob.below m5 hb
    replace bl := bgo bl hb
    replace sd := A.sd sd
    clear A hb
    clear x0
    clear x1
    show Code.wp _ _ _ _ _
    refine wp_seq ?_
    refine wr_a [.eq (.bool true), .eq (.bool true), .eq (.bool true), .eq (.bool true), .eq (.bool true), .eq (.bool false), .eq (.bool false), .eq (.agg ([.slice pA mA cA, .slice pB mB cB] : List Value).toArray), .eq (.bool true), .eq (.bool true), .eq (.bool true), .eq (.bool true), .eq (.bool true), .eq (.bool true), .eq (.bool true)] (by rw [sd.1]; kernel_rfl) ⟨fun hw ac u K => ?_, fun hw ac u K => ?_, fun hw ac u K => ?_, fun hw ac u K => ?_, fun hw ac u K => ?_, fun hw ac u K => ?_, fun hw ac u K => ?_, fun hw ac u K => ?_, fun hw ac u K => ?_, fun hw ac u K => ?_, fun hw ac u K => ?_, fun hw ac u K => ?_, fun hw ac u K => ?_, fun hw ac u K => ?_, fun hw ac u K => ?_, trivial⟩ ?_
    · exact st_move (.tmp 6) rfl (K.t x6 rfl)
    · exact st_move (.tmp 7) rfl (K.t x7 rfl)
    · exact st_bin .eql 4 4 (.tmp 43) (.tmp 44) rfl (K.dep 0 43 rfl) (K.dep 1 44 rfl) (by rfl)
    · exact st_move (.tmp 45) rfl (K.dep 2 45 rfl)
    · exact st_move (.tmp 6) rfl (K.t x6 rfl)
    · exact st_not (.tmp 47) rfl true (K.dep 4 47 rfl)
    · exact st_move (.tmp 48) rfl (K.dep 5 48 rfl)
    · exact st_loadz 25 (.tmp 5) rfl (g5) 0 [.slice pA mA cA, .slice pB mB cB] (by kernel_rfl) (by kernel_rfl) (K.t x5 rfl) (Ob.range (Ob.below m5 K.grow) 0 _ (fun j v hj => by simpa using hj))
    · exact st_call 10 (.func 10) _ _ _ rfl rfl (one_arg (K.dep 7 50 rfl)) Tryd.enter10 (fk_lright hlA hlB (Fk.mono _ _ _ _ hA (bgo bl K.grow)) (Fk.mono _ _ _ _ hB (bgo bl K.grow)) (hK.below (bgo bl K.grow)) (by symm; rw [decide_eq_true_iff]; exact (hr rfl)))
    · exact st_pick_f' (.tmp 49) (.const (.bool true)) (.tmp 51) rfl (K.dep 6 49 rfl) (K.dep 8 51 rfl)
    · exact st_pick_t (.tmp 46) (.tmp 52) (.const (.bool false)) rfl (K.dep 3 46 rfl) (K.dep 9 52 rfl)
    · exact st_move (.tmp 53) rfl (K.dep 10 53 rfl)
    · exact st_call 8 (.func 8) _ _ _ rfl rfl rfl Tryd.enter8 (fk_of (awake_any _ (hK.below (bgo bl K.grow))))
    · exact st_pick_t (.tmp 54) (.tmp 55) (.const (.bool false)) rfl (K.dep 11 54 rfl) (K.dep 12 55 rfl)
    · exact st_assign (.tmp 56) rfl (K.dep 13 56 rfl)
    intro f12 w12 A hb
    replace x5 := A.t x5 rfl
    replace x6 := A.t x6 rfl
    replace x7 := A.t x7 rfl
    have x4 := A.e 14 4 rfl rfl
    replace m5 := Ob.below m5 hb
    replace bl := bgo bl hb
    replace sd := A.sd sd
    clear A hb
    clear x5
    clear x6
    clear x7
    clear m5
    show Code.wp _ _ _ _ _
    refine wp_ret ?_
    repeat (first | with_reducible refine then_ret ?_ | with_reducible refine block_ret ?_)
    exact bodyPost_ret (v := .bool true) (ret_slot rfl f12 _ x4 _ _) sd.2 ⟨rfl, (bgo blw bl)⟩
  refine wr_s [.eq (.slice aA pa.length dA), .eq (.slice aB pb.length dB)] (by rw [sd.1]; kernel_rfl) ⟨fun hw ac u K => ?_, fun hw ac u K => ?_, trivial⟩ ?_
  · exact st_move (.tmp 0) rfl (K.t x0 rfl)
  · exact st_move (.tmp 1) rfl (K.t x1 rfl)
  intro f3 w3 A hb
  replace x0 := A.t x0 rfl
  replace x1 := A.t x1 rfl
  replace x15 := A.t x15 rfl
  have x18 := A.e 0 18 rfl rfl
  have x19 := A.e 1 19 rfl rfl
  replace bl := bgo bl hb
  replace sd := A.sd sd
  clear A hb
  clear x15
  refine wl_call 12 (.func 12) _ _ #[.slice aA pa.length dA, .slice aB pb.length dB] rfl 20 rfl (by rw [sd.1]; decide) rfl rfl (arg2 x18 x19) Tryd.enter12 (fun u W => (Fk.c2 false).f u W ∧ Below w3.heap.size w3 W) (fk_lists hsa hsb (Fk.mono _ _ _ _ ha bl) (Fk.mono _ _ _ _ hb bl) (hK.below bl) (f := false) (by symm; rw [decide_eq_false_iff_not]; exact fun h => h.2.2 hsm)) ?_
  rintro f4 w4 df2 sz2 old2 ⟨⟨A, B, u1, u2, new2, hA, hB, hlA, hlB, hr⟩, hb⟩
  obtain ⟨pA, mA, cA, _, _, rfl, _⟩ := id hA
  obtain ⟨pB, mB, cB, _, _, rfl, _⟩ := id hB
  replace bl0 := bl
  replace x0 := tr old2 x0 rfl
  replace x1 := tr old2 x1 rfl
  replace x18 := tr old2 x18 rfl
  replace x19 := tr old2 x19 rfl
  have x20 : f4.eval (.tmp 20) = .tuple #[.agg ([.slice pA mA cA, .slice pB mB cB] : List Value).toArray, .bool false] := new2
  replace bl := bgo bl hb
  replace sd := sd2 sz2 df2 sd
  clear df2 sz2 old2 new2 hb
  have blw := bl
  replace ha := Fk.mono _ _ _ _ ha bl
  replace ham := Fk.mono _ _ _ _ ham bl
  replace hb := Fk.mono _ _ _ _ hb bl
  replace hbm := Fk.mono _ _ _ _ hbm bl
  replace hK := hK.below bl
  replace bl := Below.refl w4.heap.size w4
  replace bl0 := bl
  clear x18
  clear x19
  refine wl_one (.eq (.tuple #[.agg ([.slice pA mA cA, .slice pB mB cB] : List Value).toArray, .bool false])) rfl 17 rfl (by rw [sd.1]; decide) (st_move (.tmp 20) rfl x20) ?_
  intro f5 w5 df2 sz2 old2 new2 hb
  replace x0 := tr old2 x0 rfl
  replace x1 := tr old2 x1 rfl
  replace x20 := tr old2 x20 rfl
  have x17 := Fk.e new2
  replace bl := bgo bl hb
  replace sd := sd2 sz2 df2 sd
  clear df2 sz2 old2 new2 hb
  clear x20
  refine wl_one (.eq (.agg ([.slice pA mA cA, .slice pB mB cB] : List Value).toArray)) rfl 21 rfl (by rw [sd.1]; decide) (st_tup (.tmp 17) rfl x17 (by rfl)) ?_
  intro f6 w6 df2 sz2 old2 new2 hb
  replace x0 := tr old2 x0 rfl
  replace x1 := tr old2 x1 rfl
  replace x17 := tr old2 x17 rfl
  have x21 := Fk.e new2
  replace bl := bgo bl hb
  replace sd := sd2 sz2 df2 sd
  clear df2 sz2 old2 new2 hb
  refine wl_one (.eq (.bool false)) rfl 22 rfl (by rw [sd.1]; decide) (st_tup (.tmp 17) rfl x17 (by rfl)) ?_
  intro f7 w7 df2 sz2 old2 new2 hb
  replace x0 := tr old2 x0 rfl
  replace x1 := tr old2 x1 rfl
  replace x17 := tr old2 x17 rfl
  replace x21 := tr old2 x21 rfl
  have x22 := Fk.e new2
  replace bl := bgo bl hb
  replace sd := sd2 sz2 df2 sd
  clear df2 sz2 old2 new2 hb
  clear x17
  refine wl_one (.nw w7.heap.size 25 [.slice none 0 0, .slice none 0 0]) rfl 5 rfl (by rw [sd.1]; decide) (st_alloc 25 rfl _ _ (by kernel_rfl) (Nat.le_refl _)) ?_
  intro f8 w8 df2 sz2 old2 new2 hb
  replace bl0 := bl
  replace x0 := tr old2 x0 rfl
  replace x1 := tr old2 x1 rfl
  replace x21 := tr old2 x21 rfl
  replace x22 := tr old2 x22 rfl
  have x5 : Fk.f (.nw w7.heap.size 25 [.slice none 0 0, .slice none 0 0]) (f8.eval (.tmp 5)) w8 := new2
  replace bl := bgo bl hb
  replace sd := sd2 sz2 df2 sd
  clear df2 sz2 old2 new2 hb
  obtain ⟨g5, hg5, e5, m5⟩ := x5
  have x5 := e5
  clear e5
  have hw5 : w4.heap.size ≤ g5 := Nat.le_trans bl0.size hg5
  refine wl_str rfl 25 (.tmp 5) (.tmp 21) rfl rfl (g5) ([.slice pA mA cA, .slice pB mB cB] : List Value).toArray x5 x21 25 _ m5 (by kernel_rfl) (by kernel_rfl) (by kernel_rfl) ?_
  replace m5 : Ob (w8.setRow g5 ([.slice pA mA cA, .slice pB mB cB] : List Value).toArray) (g5) 25 ([.slice pA mA cA, .slice pB mB cB]) := Ob.setRow m5 ([.slice pA mA cA, .slice pB mB cB])
  replace bl : Below w4.heap.size w4 (w8.setRow g5 ([.slice pA mA cA, .slice pB mB cB] : List Value).toArray) := bl.trans (below_setRow _ _ _ _ hw5)
  generalize w8.setRow g5 ([.slice pA mA cA, .slice pB mB cB] : List Value).toArray = w9b at bl m5 ⊢
  clear x21
  refine wl_one (.eq (.bool false)) rfl 6 rfl (by rw [sd.1]; decide) (st_assign (.tmp 22) rfl x22) ?_
  intro f10 w10 df2 sz2 old2 new2 hb
  replace x0 := tr old2 x0 rfl
  replace x1 := tr old2 x1 rfl
  replace x22 := tr old2 x22 rfl
  replace x5 := tr old2 x5 rfl
  have x6 := Fk.e new2
  replace m5 := Ob.below m5 hb
  replace bl := bgo bl hb
  replace sd := sd2 sz2 df2 sd
  clear df2 sz2 old2 new2 hb
  refine wpList_nil ?_
  clear x22
  show Code.wp _ _ _ _ _
  refine wp_seq ?_
  refine wr_a [.eq (.slice aA pa.length dA), .eq (.int .i64 (((pa).length : Nat) : Int)), .eq (.slice aB pb.length dB), .eq (.int .i64 (((pb).length : Nat) : Int)), .eq (.bool true), .eq (.bool true), .eq (.slice aA pa.length dA), .ow w4.heap.size (lhs pa), .eq (.agg ((x).map V).toArray), .eq (.slice aB pb.length dB), .ow w4.heap.size (lhs pb), .eq (.agg ((y).map V).toArray), .eq (.bool true), .eq (.bool true), .eq (.bool true), .eq (.slice aA pa.length dA), .eq (.slice aB pb.length dB), .eq (.bool true), .eq (.bool false), .eq (.bool false), .eq (.bool false)] (by rw [sd.1]; kernel_rfl) ⟨fun hw ac u K => ?_, fun hw ac u K => ?_, fun hw ac u K => ?_, fun hw ac u K => ?_, fun hw ac u K => ?_, fun hw ac u K => ?_, fun hw ac u K => ?_, fun hw ac u K => ?_, fun hw ac u K => ?_, fun hw ac u K => ?_, fun hw ac u K => ?_, fun hw ac u K => ?_, fun hw ac u K => ?_, fun hw ac u K => ?_, fun hw ac u K => ?_, fun hw ac u K => ?_, fun hw ac u K => ?_, fun hw ac u K => ?_, fun hw ac u K => ?_, fun hw ac u K => ?_, fun hw ac u K => ?_, trivial⟩ ?_
  · exact st_move (.tmp 0) rfl (K.t x0 rfl)
  · exact st_lenm (.tmp 23) rfl (fk_val (K.dep 0 23 rfl) (Fk.mono _ _ _ _ ham (bgo bl K.grow)))
  · exact st_move (.tmp 1) rfl (K.t x1 rfl)
  · exact st_lenm (.tmp 25) rfl (fk_val (K.dep 2 25 rfl) (Fk.mono _ _ _ _ hbm (bgo bl K.grow)))
  · exact st_eqi 3 (.tmp 24) (.tmp 26) rfl .i64 ((((pa).length : Nat) : Int)) ((((pb).length : Nat) : Int)) (K.dep 1 24 rfl) (K.dep 3 26 rfl) _ (by symm; rw [decide_eq_true_iff]; exact (by omega))
  · exact st_move (.tmp 27) rfl (K.dep 4 27 rfl)
  · exact st_move (.tmp 0) rfl (K.t x0 rfl)
  · exact st_call 14 (.func 14) _ _ _ rfl rfl (one_arg (K.dep 6 29 rfl)) Tryd.enter14 (fk_ow (bgo bl K.grow).size (fk_hashes (by omega) hxa (Fk.mono _ _ _ _ ham (bgo bl K.grow)) (hK.below (bgo bl K.grow))))
  · exact st_call 13 (.func 13) _ _ _ rfl rfl (one_arg rfl) Tryd.enter13 (fk_of (lroot_any (by rw [lhs_len]; omega) _ (ow_hc (K.dep 7 30 rfl)) (hK.below (bgo bl K.grow)) ex))
  · exact st_move (.tmp 1) rfl (K.t x1 rfl)
  · exact st_call 14 (.func 14) _ _ _ rfl rfl (one_arg (K.dep 9 32 rfl)) Tryd.enter14 (fk_ow (bgo bl K.grow).size (fk_hashes (by omega) hxb (Fk.mono _ _ _ _ hbm (bgo bl K.grow)) (hK.below (bgo bl K.grow))))
  · exact st_call 13 (.func 13) _ _ _ rfl rfl (one_arg rfl) Tryd.enter13 (fk_of (lroot_any (by rw [lhs_len]; omega) _ (ow_hc (K.dep 10 33 rfl)) (hK.below (bgo bl K.grow)) ey))
  · exact st_eqh (.tmp 31) (.tmp 34) rfl (x) (y) hx hy (K.dep 8 31 rfl) (K.dep 11 34 rfl) _ (by simp [hxy])
  · exact st_pick_t (.tmp 28) (.tmp 35) (.const (.bool false)) rfl (K.dep 5 28 rfl) (K.dep 12 35 rfl)
  · exact st_move (.tmp 36) rfl (K.dep 13 36 rfl)
  · exact st_move (.tmp 0) rfl (K.t x0 rfl)
  · exact st_move (.tmp 1) rfl (K.t x1 rfl)
  · exact st_call 15 (.func 15) _ _ _ rfl rfl (arg2 (K.dep 15 38 rfl) (K.dep 16 39 rfl)) Tryd.enter15 (fk_same (by omega) (by omega) (Fk.mono _ _ _ _ ham (bgo bl K.grow)) (Fk.mono _ _ _ _ hbm (bgo bl K.grow)) (by symm; rw [decide_eq_true_iff]; exact hsm))
  · exact st_not (.tmp 40) rfl true (K.dep 17 40 rfl)
  · exact st_pick_t (.tmp 37) (.tmp 41) (.const (.bool false)) rfl (K.dep 14 37 rfl) (K.dep 18 41 rfl)
  · exact st_assign (.tmp 42) rfl (K.dep 19 42 rfl)
  intro f11 w11 A hb
  replace x0 := A.t x0 rfl
  replace x1 := A.t x1 rfl
  replace x5 := A.t x5 rfl
  replace x6 := A.t x6 rfl
  have x7 := A.e 20 7 rfl rfl
  replace m5 := Ob.below m5 hb
  replace bl := bgo bl hb
  replace sd := A.sd sd
  clear A hb
  clear x0
  clear x1
  show Code.wp _ _ _ _ _
  refine wp_seq ?_
  refine wr_a [.eq (.bool false), .eq (.bool false), .eq (.bool true), .eq (.bool true), .eq (.bool false), .eq (.bool true), .eq (.bool true), .any, .any, .eq (.bool true), .eq (.bool true), .eq (.bool true), .eq (.bool true), .eq (.bool true), .eq (.bool true)] (by rw [sd.1]; kernel_rfl) ⟨fun hw ac u K => ?_, fun hw ac u K => ?_, fun hw ac u K => ?_, fun hw ac u K => ?_, fun hw ac u K => ?_, fun hw ac u K => ?_, fun hw ac u K => ?_, fun hw ac u K => ?_, fun hw ac u K => ?_, fun hw ac u K => ?_, fun hw ac u K => ?_, fun hw ac u K => ?_, fun hw ac u K => ?_, fun hw ac u K => ?_, fun hw ac u K => ?_, trivial⟩ ?_
  · exact st_move (.tmp 6) rfl (K.t x6 rfl)
  · exact st_move (.tmp 7) rfl (K.t x7 rfl)
  · exact st_bin .eql 4 4 (.tmp 43) (.tmp 44) rfl (K.dep 0 43 rfl) (K.dep 1 44 rfl) (by rfl)
  · exact st_move (.tmp 45) rfl (K.dep 2 45 rfl)
  · exact st_move (.tmp 6) rfl (K.t x6 rfl)
  · exact st_not (.tmp 47) rfl false (K.dep 4 47 rfl)
  · exact st_move (.tmp 48) rfl (K.dep 5 48 rfl)
  · exact (Bool.false_ne_true hw).elim
  · exact (Bool.false_ne_true hw).elim
  · exact st_pick_t (.tmp 49) (.const (.bool true)) (.tmp 51) rfl (K.dep 6 49 rfl) rfl
  · exact st_pick_t (.tmp 46) (.tmp 52) (.const (.bool false)) rfl (K.dep 3 46 rfl) (K.dep 9 52 rfl)
  · exact st_move (.tmp 53) rfl (K.dep 10 53 rfl)
  · exact st_call 8 (.func 8) _ _ _ rfl rfl rfl Tryd.enter8 (fk_of (awake_any _ (hK.below (bgo bl K.grow))))
  · exact st_pick_t (.tmp 54) (.tmp 55) (.const (.bool false)) rfl (K.dep 11 54 rfl) (K.dep 12 55 rfl)
  · exact st_assign (.tmp 56) rfl (K.dep 13 56 rfl)
  intro f12 w12 A hb
  replace x5 := A.t x5 rfl
  replace x6 := A.t x6 rfl
  replace x7 := A.t x7 rfl
  have x4 := A.e 14 4 rfl rfl
  replace m5 := Ob.below m5 hb
  replace bl := bgo bl hb
  replace sd := A.sd sd
  clear A hb
  clear x5
  clear x6
  clear x7
  clear m5
  show Code.wp _ _ _ _ _
  refine wp_ret ?_
  repeat (first | with_reducible refine then_ret ?_ | with_reducible refine block_ret ?_)
  exact bodyPost_ret (v := .bool true) (ret_slot rfl f12 _ x4 _ _) sd.2 ⟨rfl, (bgo blw bl)⟩
end Go.Proofs.YtfmeeimhfdnjpaaDoor
namespace Go.Proofs.YtfmeeimhfdnjpaaDoor
set_option maxRecDepth 100000
set_option maxRecDepth 100000
open Go.ChangeShapes Go.WideShapes Go.ChangeAt Go.RowKit
variable {H : Type} {enc : TypeId × Value → H} {W : World}
end Go.Proofs.YtfmeeimhfdnjpaaDoor
namespace Go.Proofs.YtfmeeimhfdnjpaaDoor
set_option maxRecDepth 100000
open Go.ChangeShapes Go.WideShapes Go.ChangeAt Go.RowKit
section
variable {H : Type} {enc : TypeId × Value → H} {W : World}
end
end Go.Proofs.YtfmeeimhfdnjpaaDoor
namespace Go.Proofs.YtfmeeimhfdnjpaaDoor
set_option maxRecDepth 100000
open Go.ChangeShapes Go.WideShapes Go.ChangeAt Go.RowKit
theorem bytesB : Tryd.prog.bytesOf 22 = 24 := by kernel_rfl
section
variable {H : Type} {enc : TypeId × Value → H} {W : World}
theorem mc_part {n : Nat} {cs : List Value} {y : DataW H × List MemPlace} (h : DataW.trod enc Tryd.prog W 0 (fun _ => true) true n 28 cs = some y) (hw : (y.1.weights Tryd.prog 28).all (· ≤ reachBytes) = true) : ∃ A C ps, cs = [.slice A ps.length C] ∧ (Fk.mg ps).f (.slice A ps.length C) W ∧ ps.length ≤ C ∧ ps.length ≤ 140737488351232 := by
  rcases Deep.open_slice1 Tryd.under28 cells22 h with ⟨hcs, _⟩ | ⟨a, len, cap, m, n', V', D, Pl, hcs, _, hl, hm, hmm, hx, hel⟩
  · exact ⟨none, 0, [], hcs, ⟨none, 0, 0, 0, rfl, fun h => by simp at h, fun i p hi => by simp at hi, fun i p hi => by simp at hi⟩, Nat.le_refl _, by simp⟩
  · have hmc : m = cap := by simpa using hmm
    subst hmc
    have hE : ∀ k, k < len → ∃ p : Pt, W.cell? ⟨a.block, a.off + k, none⟩ = some (.slice p.sp p.m p.c) ∧ p.ok W ∧ p.bs.length ≤ 140737488351232 := by
      intro k hk
      have h0 := (hel 0 (by omega)).1
      have e0 : a.add 0 = a := by simp [Addr.add]
      rw [e0] at h0
      obtain ⟨hc, ht⟩ := hel k (by omega)
      rw [add_plain h0 k] at hc
      have hwk : ∀ n ∈ (D k).weights Tryd.prog 22, n ≤ reachBytes := by
        intro n hn
        rw [hx] at hw
        simp only [DataW.weights, Tryd.under28, List.all_eq_true, decide_eq_true_eq] at hw
        refine hw n (List.mem_cons_of_mem _ (List.mem_append_left _ (weightsAll_mem ?_ n hn)))
        exact List.mem_map.2 ⟨k, List.mem_range.2 hk, rfl⟩
      obtain ⟨sp, l, c, hv, hlc⟩ : ∃ sp l c, V' k = .slice sp l c ∧ l ≤ reachBytes := by
        rcases Deep.open_slice Tryd.under22 ht with ⟨hcs, _⟩ | ⟨a', len', cap', _, _, _, _, hcs, _, _, _, _, hx', _⟩
        · exact ⟨none, 0, 0, by simpa using hcs, Nat.zero_le _⟩
        · refine ⟨some a', len', cap', by simpa using hcs, ?_⟩
          have e := congrArg Prod.fst hx'
          simp only at e
          rw [e] at hwk
          have := hwk _ (by simp only [DataW.weights, Tryd.under22]; exact List.mem_cons_self ..)
          rw [bytes5, Nat.mul_one, List.length_map, List.length_range] at this
          omega
      rw [hv] at hc ht
      obtain ⟨bs, b, o, hsl, hml⟩ := sl_of (enc := enc) (W := W) (a := sp) (len := l) (cap := c) (d := D k) (p := Pl k) ⟨n', by simpa [Value.cells] using ht⟩
      refine ⟨⟨sp, l, c, bs, b, o⟩, hc, hsl, ?_⟩
      have := hsl.len
      unfold reachBytes at hlc
      show bs.length ≤ _
      omega
    obtain ⟨ps, hps, hp⟩ := list_of len hE
    subst hps
    refine ⟨some a, _, ps, hcs, ⟨some a, _, a.block, a.off, rfl, fun hp0 => ?_, fun i p hi => (hp i p hi).1, fun i p hi => (hp i p hi).2.1⟩, hl, ?_⟩
    · have h0 := (hel 0 (by omega)).1
      have e0 : a.add 0 = a := by simp [Addr.add]
      rw [e0] at h0
      have := add_plain h0 0
      rw [e0, Nat.add_zero] at this
      rw [← this]
    · rw [hx] at hw
      simp only [DataW.weights, Tryd.under28, List.all_cons, Bool.and_eq_true, decide_eq_true_eq] at hw
      have hw1 := hw.1
      rw [bytesB, List.length_map, List.length_range] at hw1
      unfold reachBytes at hw1
      omega
theorem mc_of {A : Option Addr} {C : Nat} {ps : List Pt} (h : (Fk.mg ps).f (.slice A ps.length C) W) (hc : ps.length ≤ C) : (Fk.mc ps).f (.slice A ps.length C) W := ⟨h, fun A' C' e => by injection e with _ _ e3; rw [← e3]; exact hc⟩
theorem open_mc {r : Reach} {b0 : Nat} {v : Value} {d : DataW H} {p : List MemPlace} (hv : Value.okWide Tryd.prog W r b0 28 v) (h : DataW.Trod enc Tryd.prog W 0 (fun _ => true) true 28 v d p) (hw : (d.weights Tryd.prog 28).all (· ≤ reachBytes) = true) : ∃ A C ps, v = .slice A ps.length C ∧ (Fk.mc ps).f (.slice A ps.length C) W ∧ ps.length ≤ 140737488351232 := by
  obtain ⟨A, N, C, rfl⟩ := okWide_slice Tryd.under28 hv
  obtain ⟨m, hm⟩ := h
  obtain ⟨A', C', ps, e, h1, hc, h2⟩ := mc_part hm hw
  have e2 : Value.slice A N C = .slice A' ps.length C' := by simpa [Value.cells] using e
  exact ⟨A', C', ps, e2, mc_of h1 hc, h2⟩
end
end Go.Proofs.YtfmeeimhfdnjpaaDoor
