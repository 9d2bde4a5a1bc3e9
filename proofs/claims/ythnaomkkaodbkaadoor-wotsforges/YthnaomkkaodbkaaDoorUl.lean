/- Made by gen_ul.py. What awake answers. -/
import Derived.Test.YthnaomkkaodbkaaDoorUk
namespace Go.Proofs.YthnaomkkaodbkaaDoor
open Go.RowKit
set_option maxHeartbeats 400000 in
theorem awake_any (w : World) (hK : Tab w) :
    Calls Tryd.prog 10 #[] w fun e w' => e = .returned (.bool true) ∧ Below w.heap.size w w' := by
  have hyl : (chn 1 2 hz).length = 32 := chn_len _ _ _
  obtain ⟨y, hy⟩ : ∃ y, Box (chn 1 2 hz = y) := ⟨_, ⟨rfl⟩⟩
  have hyw : Box (wk 1 2 hz (3 - 2) = y) := ⟨by rw [hz_walk]; exact hy.out⟩
  rw [hy.out] at hyl
  obtain ⟨d64, d65, d66⟩ := hz_dig
  have hdl := dig_len hz
  go_enter Tryd.func10, Tryd.ntmps10
  go_upto_region 1 with fail
  rename_i KK hKK
  refine code_both (fun f w1 => f.tmps.size = 32 ∧ f.defers = [] ∧ w1 = w) ⟨rfl, rfl, rfl⟩ ?_
  rintro f0 w0 ⟨sz, df, rfl⟩
  have bl := Below.refl w0.heap.size w0
  have tb := hK
  refine wp_all_seq [.eq (.agg ((hz).map V).toArray), .ds (dig (hz)), .ds (dig (hz))] (by kernel_rfl) (by kernel_rfl) (by rw [sz]; kernel_rfl) (by kernel_rfl) ⟨fun hw ac w' K => ?_, fun hw ac w' K => ?_, fun hw ac w' K => ?_, trivial⟩ ?_
  · exact st_zero23 rfl
  · exact st_call 8 (.func 8) _ _ #[.agg ((hz).map V).toArray] rfl rfl (one_arg (K.dep 0 2 rfl)) Tryd.enter8 (fk_digits hz_len)
  · exact st_assign (.tmp 3) rfl (K.dep 1 3 rfl)
  intro f1 w1 A hb
  have x1 : Fk.f (.ds (dig (hz))) (f1.eval (.tmp 1)) w1 := A.has 2 1 rfl
  replace tb := tb.below hb
  replace bl := bl.trans (Below.mono hb bl.size)
  replace sz := A.size.trans sz
  replace df := A.defs.trans df
  clear A hb
  refine hKK _ _ ?_
  refine wp_seq ?_
  refine wp_all_seq [.ds (dig (hz)), .eq (.int .i64 (((dig (hz)).length : Nat) : Int)), .eq (.bool true), .eq (.bool true), .ds (dig (hz)), .pi ((3 : Nat) : Int), .eq (.int .i64 ((3 : Nat) : Int)), .eq (.bool true), .eq (.bool true), .eq (.bool true), .ds (dig (hz)), .pi ((12 : Nat) : Int), .eq (.int .i64 ((12 : Nat) : Int)), .eq (.bool true), .eq (.bool true), .eq (.bool true), .ds (dig (hz)), .pi ((0 : Nat) : Int), .eq (.int .i64 ((0 : Nat) : Int)), .eq (.bool true), .eq (.bool true), .eq (.bool true), .eq (.agg ((hz).map V).toArray), .eq (.agg ((y).map V).toArray), .eq (.agg ((hz).map V).toArray), .eq (.agg ((y).map V).toArray), .eq (.bool true), .eq (.bool true), .eq (.bool true)] (by kernel_rfl) (by kernel_rfl) (by rw [sz]; kernel_rfl) (by kernel_rfl) ⟨fun hw ac w' K => ?_, fun hw ac w' K => ?_, fun hw ac w' K => ?_, fun hw ac w' K => ?_, fun hw ac w' K => ?_, fun hw ac w' K => ?_, fun hw ac w' K => ?_, fun hw ac w' K => ?_, fun hw ac w' K => ?_, fun hw ac w' K => ?_, fun hw ac w' K => ?_, fun hw ac w' K => ?_, fun hw ac w' K => ?_, fun hw ac w' K => ?_, fun hw ac w' K => ?_, fun hw ac w' K => ?_, fun hw ac w' K => ?_, fun hw ac w' K => ?_, fun hw ac w' K => ?_, fun hw ac w' K => ?_, fun hw ac w' K => ?_, fun hw ac w' K => ?_, fun hw ac w' K => ?_, fun hw ac w' K => ?_, fun hw ac w' K => ?_, fun hw ac w' K => ?_, fun hw ac w' K => ?_, fun hw ac w' K => ?_, fun hw ac w' K => ?_, trivial⟩ ?_
  · exact st_move (.tmp 1) rfl (f_at (K.old 1 rfl) (Fk.mono _ _ _ _ x1 K.grow))
  · exact st_leni (.tmp 4) rfl (K.dep 0 4 rfl)
  · exact st_eqi 3 (.tmp 5) (.const (.int .i64 67)) rfl .i64 ((((dig (hz)).length : Nat) : Int)) (67) (K.dep 1 5 rfl) rfl _ (by rw [hdl]; rfl)
  · exact st_move (.tmp 6) rfl (K.dep 2 6 rfl)
  · exact st_move (.tmp 1) rfl (f_at (K.old 1 rfl) (Fk.mono _ _ _ _ x1 K.grow))
  · exact st_idxi (.tmp 8) (.const (.int .i64 64)) rfl (K.dep 4 8 rfl) (64) (3) rfl d64
  · exact st_loadi (.tmp 9) rfl (K.dep 5 9 rfl)
  · exact st_eqi 3 (.tmp 10) (.const (.int .i64 3)) rfl .i64 (((3 : Nat) : Int)) (3) (K.dep 6 10 rfl) rfl _ (by rfl)
  · exact st_pick_t (.tmp 7) (.tmp 11) (.const (.bool false)) rfl (K.dep 3 7 rfl) (K.dep 7 11 rfl)
  · exact st_move (.tmp 12) rfl (K.dep 8 12 rfl)
  · exact st_move (.tmp 1) rfl (f_at (K.old 1 rfl) (Fk.mono _ _ _ _ x1 K.grow))
  · exact st_idxi (.tmp 14) (.const (.int .i64 65)) rfl (K.dep 10 14 rfl) (65) (12) rfl d65
  · exact st_loadi (.tmp 15) rfl (K.dep 11 15 rfl)
  · exact st_eqi 3 (.tmp 16) (.const (.int .i64 12)) rfl .i64 (((12 : Nat) : Int)) (12) (K.dep 12 16 rfl) rfl _ (by rfl)
  · exact st_pick_t (.tmp 13) (.tmp 17) (.const (.bool false)) rfl (K.dep 9 13 rfl) (K.dep 13 17 rfl)
  · exact st_move (.tmp 18) rfl (K.dep 14 18 rfl)
  · exact st_move (.tmp 1) rfl (f_at (K.old 1 rfl) (Fk.mono _ _ _ _ x1 K.grow))
  · exact st_idxi (.tmp 20) (.const (.int .i64 66)) rfl (K.dep 16 20 rfl) (66) (0) rfl d66
  · exact st_loadi (.tmp 21) rfl (K.dep 17 21 rfl)
  · exact st_eqi 3 (.tmp 22) (.const (.int .i64 0)) rfl .i64 (((0 : Nat) : Int)) (0) (K.dep 18 22 rfl) rfl _ (by rfl)
  · exact st_pick_t (.tmp 19) (.tmp 23) (.const (.bool false)) rfl (K.dep 15 19 rfl) (K.dep 19 23 rfl)
  · exact st_move (.tmp 24) rfl (K.dep 20 24 rfl)
  · exact st_zero23 rfl
  · exact st_call 17 (.func 17) _ _ #[.agg ((hz).map V).toArray, .int .i64 1, .int .i64 2, .int .i64 3] rfl rfl (arg4 (K.dep 22 26 rfl) rfl rfl rfl) Tryd.enter17 (fk_of (walk_to (hz) (1) (2) (3) _ hz_len (by omega) (tb.below K.grow) hyw))
  · exact st_zero23 rfl
  · exact st_call 19 (.func 19) _ _ #[.agg ((hz).map V).toArray, .int .i64 1, .int .i64 2] rfl rfl (arg3 (K.dep 24 28 rfl) rfl rfl) Tryd.enter19 (fk_of (chn_to (hz) (1) (2) _ hz_len (tb.below K.grow) hy))
  · exact st_eqh (.tmp 27) (.tmp 29) rfl (y) (y) hyl hyl (K.dep 23 27 rfl) (K.dep 25 29 rfl) _ (by simp)
  · exact st_pick_t (.tmp 25) (.tmp 30) (.const (.bool false)) rfl (K.dep 21 25 rfl) (K.dep 26 30 rfl)
  · exact st_assign (.tmp 31) rfl (K.dep 27 31 rfl)
  intro f2 w2 A hb
  replace x1 : Fk.f (.ds (dig (hz))) (f2.eval (.tmp 1)) w2 := f_at (A.old 1 rfl) (Fk.mono _ _ _ _ x1 hb)
  have x0 : Fk.f (.eq (.bool true)) (f2.eval (.tmp 0)) w2 := A.has 28 0 rfl
  replace tb := tb.below hb
  replace bl := bl.trans (Below.mono hb bl.size)
  replace sz := A.size.trans sz
  replace df := A.defs.trans df
  clear A hb
  show Code.wp _ _ _ _ _
  refine wp_ret ?_
  exact bodyPost_ret (v := .bool true) (ret_slot rfl f2 _ x0 _ _) df ⟨rfl, bl⟩
end Go.Proofs.YthnaomkkaodbkaaDoor
