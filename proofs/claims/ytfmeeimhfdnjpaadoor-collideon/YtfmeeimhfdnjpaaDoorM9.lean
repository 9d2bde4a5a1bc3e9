/- leadBoth, Both. -/
import Derived.Test.YtfmeeimhfdnjpaaDoorM8
namespace Go.Proofs.YtfmeeimhfdnjpaaDoor
set_option maxRecDepth 100000
open Go.RowKit
set_option maxHeartbeats 1000000 in
theorem leadboth_any {a : List (BitVec 8)} (ha : a.length = 32) {L S : List Bool} {R : List (List (BitVec 8))} {u1 u2 : Value} {w : World} (h1 : (Fk.bs L).f u1 w) (h2 : (Fk.hc R).f u2 w) (hLS : L = S.map (!·)) (hRl : R.length = S.length) (hS60 : S.length ≤ 60) (hK : Tab w) {xa xb : List (BitVec 8)} (hxy : bth a R S = (xa, xb)) :
    Calls Tryd.prog 55 #[.agg ((a).map V).toArray, u1, u2] w fun e w' => e = .returned (.tuple #[.agg ((xa).map V).toArray, .agg ((xb).map V).toArray]) ∧ Below w.heap.size w w' := by
  have h2s := hc_hs h2
  have hLl : L.length = S.length := by rw [hLS, List.length_map]
  have hxa : xa.length = 32 := by have := (bk_len ha R S S.length).1; rw [bk_all a hRl, hxy] at this; exact this
  have hxb : xb.length = 32 := by have := (bk_len ha R S S.length).2; rw [bk_all a hRl, hxy] at this; exact this
  go_enter Tryd.func55, Tryd.ntmps55
  refine code_both (fun f w1 => f.tmps.size = 35 ∧ f.defers = [] ∧ f.eval (.tmp 0) = .agg ((a).map V).toArray ∧ f.eval (.tmp 1) = u1 ∧ f.eval (.tmp 2) = u2 ∧ Below w.heap.size w (w1)) ⟨rfl, rfl, rfl, rfl, rfl, Below.refl _ _⟩ ?_
  rintro f0 w0 ⟨sz, df, x0, x1, x2, bl⟩
  have sd := And.intro sz df
  clear sz df
  have bl0 := bl
  refine wp_seq ?_
  refine wr_s [] (by rw [sd.1]; kernel_rfl) trivial ?_
  intro f1 w1 A hb
  replace x0 := A.t x0 rfl
  replace x1 := A.t x1 rfl
  replace x2 := A.t x2 rfl
  replace bl := bgo bl hb
  replace sd := A.sd sd
  clear A hb
  refine wl_one (.nw w1.heap.size 33 ((a).map V)) rfl 3 rfl (by rw [sd.1]; decide) (st_box 33 (.tmp 0) rfl _ _ (by rw [show _ = _ from x0]; kernel_rfl) (Nat.le_refl _)) ?_
  intro f2 w2 df2 sz2 old2 new2 hb
  replace bl0 := bl
  replace x0 := tr old2 x0 rfl
  replace x1 := tr old2 x1 rfl
  replace x2 := tr old2 x2 rfl
  have x3 : Fk.f (.nw w1.heap.size 33 ((a).map V)) (f2.eval (.tmp 3)) w2 := new2
  replace bl := bgo bl hb
  replace sd := sd2 sz2 df2 sd
  clear df2 sz2 old2 new2 hb
  obtain ⟨g3, hg3, e3, m3⟩ := x3
  have x3 := e3
  clear e3
  have hw3 : w.heap.size ≤ g3 := Nat.le_trans bl0.size hg3
  clear x0
  refine wl_one (.nw w2.heap.size 33 ((hz).map V)) rfl 6 rfl (by rw [sd.1]; decide) (st_alloc33 rfl _ (Nat.le_refl _)) ?_
  intro f3 w3 df2 sz2 old2 new2 hb
  replace bl0 := bl
  replace x1 := tr old2 x1 rfl
  replace x2 := tr old2 x2 rfl
  replace x3 := tr old2 x3 rfl
  have x6 : Fk.f (.nw w2.heap.size 33 ((hz).map V)) (f3.eval (.tmp 6)) w3 := new2
  have lt_m3 := Ob.lt m3
  replace m3 := Ob.below m3 hb
  replace bl := bgo bl hb
  replace sd := sd2 sz2 df2 sd
  clear df2 sz2 old2 new2 hb
  obtain ⟨g6, hg6, e6, m6⟩ := x6
  have x6 := e6
  clear e6
  have nm3_6 : g3 ≠ g6 := Nat.ne_of_lt (Nat.lt_of_lt_of_le lt_m3 hg6)
  have hw6 : w.heap.size ≤ g6 := Nat.le_trans bl0.size hg6
  refine wl_one (.nw w3.heap.size 33 ((hz).map V)) rfl 7 rfl (by rw [sd.1]; decide) (st_alloc33 rfl _ (Nat.le_refl _)) ?_
  intro f4 w4 df2 sz2 old2 new2 hb
  replace bl0 := bl
  replace x1 := tr old2 x1 rfl
  replace x2 := tr old2 x2 rfl
  replace x3 := tr old2 x3 rfl
  replace x6 := tr old2 x6 rfl
  have x7 : Fk.f (.nw w3.heap.size 33 ((hz).map V)) (f4.eval (.tmp 7)) w4 := new2
  have lt_m3 := Ob.lt m3
  replace m3 := Ob.below m3 hb
  have lt_m6 := Ob.lt m6
  replace m6 := Ob.below m6 hb
  replace bl := bgo bl hb
  replace sd := sd2 sz2 df2 sd
  clear df2 sz2 old2 new2 hb
  obtain ⟨g7, hg7, e7, m7⟩ := x7
  have x7 := e7
  clear e7
  have nm3_7 : g3 ≠ g7 := Nat.ne_of_lt (Nat.lt_of_lt_of_le lt_m3 hg7)
  have nm6_7 : g6 ≠ g7 := Nat.ne_of_lt (Nat.lt_of_lt_of_le lt_m6 hg7)
  have hw7 : w.heap.size ≤ g7 := Nat.le_trans bl0.size hg7
  refine wpList_nil ?_
  show Code.wp _ _ _ _ _
  refine wp_seq ?_
  refine wp_region_held_drew (S := fun W => Ob (W) g3 33 ((a).map V)) Tryd.mixed m3 (fun hS0 => ?_)
  replace m6 : Ob w4.drew g6 33 ((hz).map V) := m6
  replace m7 : Ob w4.drew g7 33 ((hz).map V) := m7
  replace bl := bl.drew
  clear bl0 m3
  generalize w4.drew = w5 at hS0 m6 m7 bl ⊢
  refine wh_take 0 10 (v := .agg ((a).map V).toArray) rfl rfl (by rw [sd.1]; decide) rfl (by kernel_rfl) (by kernel_rfl) (by kernel_rfl) (fun _ _ _ h => h) (run_ldh rfl ha x3 (fun W hW => Ob.range hW 0 _ (fun j v hj => by simpa using hj))) hS0 ?_
  intro f6 df2 sz2 old2 new2
  replace x1 := tr old2 x1 rfl
  replace x2 := tr old2 x2 rfl
  replace x3 := tr old2 x3 rfl
  replace x6 := tr old2 x6 rfl
  replace x7 := tr old2 x7 rfl
  have x10 := new2
  replace sd := sd2 sz2 df2 sd
  clear df2 sz2 old2 new2
  refine wh_take 1 11 (v := .agg ((a).map V).toArray) rfl rfl (by rw [sd.1]; decide) rfl (by kernel_rfl) (by kernel_rfl) (by kernel_rfl) (fun _ _ _ h => h) (run_ldh rfl ha x3 (fun W hW => Ob.range hW 0 _ (fun j v hj => by simpa using hj))) hS0 ?_
  intro f7 df2 sz2 old2 new2
  replace x1 := tr old2 x1 rfl
  replace x2 := tr old2 x2 rfl
  replace x3 := tr old2 x3 rfl
  replace x6 := tr old2 x6 rfl
  replace x7 := tr old2 x7 rfl
  replace x10 := tr old2 x10 rfl
  have x11 := new2
  replace sd := sd2 sz2 df2 sd
  clear df2 sz2 old2 new2
  have hS1 : Ob (w5.setRow g6 ((a).map V : List Value).toArray) g3 33 ((a).map V) := Ob.setRow_other hS0 _ nm3_6
  refine wh_store 2 rfl rfl rfl (by kernel_rfl) (.tmp 6) (.tmp 10) rfl g6 (a) (hz) x6 x10 m6 hz_len ha hS1 ?_
  replace m6 : Ob (w5.setRow g6 ((a).map V : List Value).toArray) (g6) 33 ((a).map V) := Ob.setRow m6 ((a).map V)
  replace m7 : Ob (w5.setRow g6 ((a).map V : List Value).toArray) (g7) 33 ((hz).map V) := Ob.setRow_other m7 _ nm6_7.symm
  replace bl : Below w.heap.size w (w5.setRow g6 ((a).map V : List Value).toArray) := bl.trans (below_setRow _ _ _ _ hw6)
  replace hS0 := hS1
  clear hS1
  generalize w5.setRow g6 ((a).map V : List Value).toArray = w8 at hS0 m6 m7 bl ⊢
  have hS1 : Ob (w8.setRow g7 ((a).map V : List Value).toArray) g3 33 ((a).map V) := Ob.setRow_other hS0 _ nm3_7
  refine wh_store 3 rfl rfl rfl (by kernel_rfl) (.tmp 7) (.tmp 11) rfl g7 (a) (hz) x7 x11 m7 hz_len ha hS1 ?_
  replace m6 : Ob (w8.setRow g7 ((a).map V : List Value).toArray) (g6) 33 ((a).map V) := Ob.setRow_other m6 _ nm6_7
  replace m7 : Ob (w8.setRow g7 ((a).map V : List Value).toArray) (g7) 33 ((a).map V) := Ob.setRow m7 ((a).map V)
  replace bl : Below w.heap.size w (w8.setRow g7 ((a).map V : List Value).toArray) := bl.trans (below_setRow _ _ _ _ hw7)
  replace hS0 := hS1
  clear hS1
  generalize w8.setRow g7 ((a).map V : List Value).toArray = w9 at hS0 m6 m7 bl ⊢
  refine wpAnyH_done (by kernel_rfl) ?_ _
  have m3 := hS0
  have bl0 := bl
  clear hS0
  clear x3
  clear x10
  clear x11
  clear m3
  show Code.wp _ _ _ _ _
  refine wp_seq ?_
  refine wp_seq ?_
  refine wr_a [.eq (u2), .eq (.int .i64 (((R).length : Nat) : Int)), .eq (.int .i64 0)] (by rw [sd.1]; kernel_rfl) ⟨fun hw ac u K => ?_, fun hw ac u K => ?_, fun hw ac u K => ?_, trivial⟩ ?_
  · exact st_move (.tmp 2) rfl (K.t x2 rfl)
  · exact st_lenc (.tmp 12) rfl ((R).length) rfl (fk_val (K.dep 0 12 rfl) (Fk.mono _ _ _ _ h2 (bgo bl K.grow)))
  · exact st_move (.const (.int .i64 0)) rfl rfl
  intro f10 w10 A hb
  replace x1 := A.t x1 rfl
  replace x2 := A.t x2 rfl
  replace x6 := A.t x6 rfl
  replace x7 := A.t x7 rfl
  have x12 := A.e 0 12 rfl rfl
  have x13 := A.e 1 13 rfl rfl
  have x14 := A.e 2 14 rfl rfl
  replace m6 := Ob.below m6 hb
  replace m7 := Ob.below m7 hb
  replace bl := bgo bl hb
  replace sd := A.sd sd
  clear A hb
  clear x2
  show Code.wp _ _ _ _ _
  refine wp_block ?_
  refine wp_loop (fun f v1 => ∃ k : Nat, k ≤ (R).length ∧ f.tmps.size = 35 ∧ f.defers = [] ∧ f.eval (.tmp 1) = u1 ∧ f.eval (.tmp 6) = .pointer (some ⟨g6, 0, none⟩) ∧ f.eval (.tmp 7) = .pointer (some ⟨g7, 0, none⟩) ∧ f.eval (.tmp 12) = u2 ∧ f.eval (.tmp 13) = .int .i64 (((R).length : Nat) : Int) ∧ f.eval (.tmp 14) = .int .i64 (k : Int) ∧ Ob v1 (g6) 33 (((bk a R S k).1).map V) ∧ Ob v1 (g7) 33 (((bk a R S k).2).map V) ∧ Below w.heap.size w (v1)) (fun f _ => (R).length - (intOf (f.eval (.tmp 14))).toNat) ⟨0, Nat.zero_le _, sd.1, sd.2, x1, x6, x7, x12, x13, x14, (by rw [bk_zero]; exact m6), (by rw [bk_zero]; exact m7), bl⟩ ?_
  intro f11 w11 hI
  clear sd bl bl0 x1 x6 x7 x12 x13 x14 m6 m7
  obtain ⟨k, hk, sz, df, x1, x6, x7, x12, x13, x14, m6, m7, bl⟩ := hI
  have sd := And.intro sz df
  clear sz df
  have bl0 := bl
  have hcnt := x14
  refine wp_seq ?_
  by_cases hlt : k < (R).length
  rotate_left
  · skip
    refine wr_a [.eq (.bool false)] (by rw [sd.1]; kernel_rfl) ⟨fun hw ac u K => ?_, trivial⟩ ?_
    · exact st_lss 3 (.tmp 14) (.tmp 13) rfl .i64 ((k : Int)) ((((R).length : Nat) : Int)) (K.t x14 rfl) (K.t x13 rfl) _ (by rw [eq_comm, decide_eq_false_iff_not]; exact fun h => hlt (Int.ofNat_lt.1 h))
    intro f12 w12 A hb
    replace x1 := A.t x1 rfl
    replace x6 := A.t x6 rfl
    replace x7 := A.t x7 rfl
    replace x12 := A.t x12 rfl
    replace x13 := A.t x13 rfl
    replace x14 := A.t x14 rfl
    have x15 := A.e 0 15 rfl rfl
    replace m6 := Ob.below m6 hb
    replace m7 := Ob.below m7 hb
    replace bl := bgo bl hb
    replace sd := A.sd sd
    clear A hb
    show Code.wp _ _ _ _ _
    refine wp_seq ?_
    refine wp_cond_false x15 ?_
    refine wp_exit ?_
    show Code.wp _ _ _ _ _
    refine wp_seq ?_
    have hkS : k = (S).length := by omega
    rw [hkS, bk_all a hRl, hxy] at m6 m7
    dsimp only at m6 m7
    refine wp_region_held_drew (S := fun W => Ob (W) g6 33 ((xa).map V) ∧ Ob (W) g7 33 ((xb).map V)) Tryd.mixed ⟨m6, m7⟩ (fun hS0 => ?_)
    replace bl := bl.drew
    clear bl0 m6 m7
    generalize w12.drew = w13 at hS0  bl ⊢
    refine wh_take 0 33 (v := .agg ((xa).map V).toArray) rfl rfl (by rw [sd.1]; decide) rfl (by kernel_rfl) (by kernel_rfl) (by kernel_rfl) (fun _ _ _ h => h) (run_ldh rfl hxa x6 (fun W hW => Ob.range hW.1 0 _ (fun j v hj => by simpa using hj))) hS0 ?_
    intro f14 df2 sz2 old2 new2
    replace x1 := tr old2 x1 rfl
    replace x6 := tr old2 x6 rfl
    replace x7 := tr old2 x7 rfl
    replace x12 := tr old2 x12 rfl
    replace x13 := tr old2 x13 rfl
    replace x14 := tr old2 x14 rfl
    replace x15 := tr old2 x15 rfl
    have x33 := new2
    replace sd := sd2 sz2 df2 sd
    clear df2 sz2 old2 new2
    refine wh_take 1 34 (v := .agg ((xb).map V).toArray) rfl rfl (by rw [sd.1]; decide) rfl (by kernel_rfl) (by kernel_rfl) (by kernel_rfl) (fun _ _ _ h => h) (run_ldh rfl hxb x7 (fun W hW => Ob.range hW.2 0 _ (fun j v hj => by simpa using hj))) hS0 ?_
    intro f15 df2 sz2 old2 new2
    replace x1 := tr old2 x1 rfl
    replace x6 := tr old2 x6 rfl
    replace x7 := tr old2 x7 rfl
    replace x12 := tr old2 x12 rfl
    replace x13 := tr old2 x13 rfl
    replace x14 := tr old2 x14 rfl
    replace x15 := tr old2 x15 rfl
    replace x33 := tr old2 x33 rfl
    have x34 := new2
    replace sd := sd2 sz2 df2 sd
    clear df2 sz2 old2 new2
    have hS1 : Ob (w13.setRow g6 ((xa).map V : List Value).toArray) g6 33 ((xa).map V) ∧ Ob (w13.setRow g6 ((xa).map V : List Value).toArray) g7 33 ((xb).map V) := ⟨Ob.setRow hS0.1 ((xa).map V), Ob.setRow_other hS0.2 _ nm6_7.symm⟩
    refine wh_store 2 rfl rfl rfl (by kernel_rfl) (.tmp 6) (.tmp 33) rfl g6 (xa) (xa) x6 x33 hS0.1 hxa hxa hS1 ?_
    replace bl : Below w.heap.size w (w13.setRow g6 ((xa).map V : List Value).toArray) := bl.trans (below_setRow _ _ _ _ hw6)
    replace hS0 := hS1
    clear hS1
    generalize w13.setRow g6 ((xa).map V : List Value).toArray = w16 at hS0  bl ⊢
    have hS1 : Ob (w16.setRow g7 ((xb).map V : List Value).toArray) g6 33 ((xa).map V) ∧ Ob (w16.setRow g7 ((xb).map V : List Value).toArray) g7 33 ((xb).map V) := ⟨Ob.setRow_other hS0.1 _ nm6_7, Ob.setRow hS0.2 ((xb).map V)⟩
    refine wh_store 3 rfl rfl rfl (by kernel_rfl) (.tmp 7) (.tmp 34) rfl g7 (xb) (xb) x7 x34 hS0.2 hxb hxb hS1 ?_
    replace bl : Below w.heap.size w (w16.setRow g7 ((xb).map V : List Value).toArray) := bl.trans (below_setRow _ _ _ _ hw7)
    replace hS0 := hS1
    clear hS1
    generalize w16.setRow g7 ((xb).map V : List Value).toArray = w17 at hS0  bl ⊢
    refine wpAnyH_done (by kernel_rfl) ?_ _
    have m6 := hS0.1
    have m7 := hS0.2
    have bl0 := bl
    clear hS0
    clear x15
    clear x33
    clear x34
    show Code.wp _ _ _ _ _
    refine wp_ret ?_
    repeat (first | with_reducible refine then_ret ?_ | with_reducible refine block_ret ?_)
    exact bodyPost_ret (v := .tuple #[.agg ((xa).map V).toArray, .agg ((xb).map V).toArray]) (ret_hh rfl f15 _ g6 g7 (xa) (xb) hxa hxb x6 x7 m6 m7) sd.2 ⟨rfl, bl⟩
  obtain ⟨bb, hSk⟩ : ∃ b, S[k]? = some b := ⟨_, List.getElem?_eq_getElem (by omega)⟩
  obtain ⟨p, hRk⟩ : ∃ p, R[k]? = some p := ⟨_, List.getElem?_eq_getElem hlt⟩
  have hp : p.length = 32 := hc_len h2 p (List.mem_of_getElem? hRk)
  have hLk : L[k]? = some (!bb) := by rw [hLS]; exact neg_at hSk
  have hbk := bk_succ a hRk hSk
  refine wr_a [.eq (.bool true)] (by rw [sd.1]; kernel_rfl) ⟨fun hw ac u K => ?_, trivial⟩ ?_
  · exact st_lss 3 (.tmp 14) (.tmp 13) rfl .i64 ((k : Int)) ((((R).length : Nat) : Int)) (K.t x14 rfl) (K.t x13 rfl) _ (by rw [eq_comm, decide_eq_true_iff]; exact Int.ofNat_lt.2 hlt)
  intro f12 w12 A hb
  replace x1 := A.t x1 rfl
  replace x6 := A.t x6 rfl
  replace x7 := A.t x7 rfl
  replace x12 := A.t x12 rfl
  replace x13 := A.t x13 rfl
  replace x14 := A.t x14 rfl
  have x15 := A.e 0 15 rfl rfl
  replace m6 := Ob.below m6 hb
  replace m7 := Ob.below m7 hb
  replace bl := bgo bl hb
  replace sd := A.sd sd
  clear A hb
  show Code.wp _ _ _ _ _
  refine wp_seq ?_
  refine wp_cond_true x15 ?_
  refine wp_skip ?_
  show Code.wp _ _ _ _ _
  refine wp_seq ?_
  refine wp_block ?_
  refine wp_seq ?_
  refine wr_s [.eq (.int .i64 (k : Int)), .ph (p), .eq (.agg ((p).map V).toArray), .nw w12.heap.size 33 ((hz).map V), .eq (.int .i64 (k : Int))] (by rw [sd.1]; kernel_rfl) ⟨fun hw ac u K => ?_, fun hw ac u K => ?_, fun hw ac u K => ?_, fun hw ac u K => ?_, fun hw ac u K => ?_, trivial⟩ ?_
  · exact st_move (.tmp 14) rfl (K.t x14 rfl)
  · exact st_idxh (.tmp 12) (.tmp 14) rfl (fk_val (K.t x12 rfl) (Fk.mono _ _ _ _ h2s (bgo bl K.grow))) (k) (p) (K.t x14 rfl) hRk
  · exact st_loadh (.tmp 17) rfl (K.dep 1 17 rfl)
  · exact st_alloc33 rfl _ K.grow.size
  · exact st_assign (.tmp 16) rfl (K.dep 0 16 rfl)
  intro f13 w13 A hb
  replace bl0 := bl
  replace x1 := A.t x1 rfl
  replace x6 := A.t x6 rfl
  replace x7 := A.t x7 rfl
  replace x12 := A.t x12 rfl
  replace x13 := A.t x13 rfl
  replace x14 := A.t x14 rfl
  replace x15 := A.t x15 rfl
  have x8 := A.e 4 8 rfl rfl
  have x9 : Fk.f (.nw w12.heap.size 33 ((hz).map V)) (f13.eval (.tmp 9)) w13 := A.has 3 9 rfl
  have x18 := A.e 2 18 rfl rfl
  have lt_m6 := Ob.lt m6
  replace m6 := Ob.below m6 hb
  have lt_m7 := Ob.lt m7
  replace m7 := Ob.below m7 hb
  replace bl := bgo bl hb
  replace sd := A.sd sd
  clear A hb
  clear x15
  obtain ⟨g9, hg9, e9, m9⟩ := x9
  have x9 := e9
  clear e9
  have nm6_9 : g6 ≠ g9 := Nat.ne_of_lt (Nat.lt_of_lt_of_le lt_m6 hg9)
  have nm7_9 : g7 ≠ g9 := Nat.ne_of_lt (Nat.lt_of_lt_of_le lt_m7 hg9)
  have hw9 : w.heap.size ≤ g9 := Nat.le_trans bl0.size hg9
  refine wl_store rfl (.tmp 9) (.tmp 18) rfl rfl (g9) (p) (hz) x9 x18 m9 hz_len hp ?_
  replace m6 : Ob (w13.setRow g9 ((p).map V : List Value).toArray) (g6) 33 (((bk a R S k).1).map V) := Ob.setRow_other m6 _ nm6_9
  replace m7 : Ob (w13.setRow g9 ((p).map V : List Value).toArray) (g7) 33 (((bk a R S k).2).map V) := Ob.setRow_other m7 _ nm7_9
  replace m9 : Ob (w13.setRow g9 ((p).map V : List Value).toArray) (g9) 33 ((p).map V) := Ob.setRow m9 ((p).map V)
  replace bl : Below w.heap.size w (w13.setRow g9 ((p).map V : List Value).toArray) := bl.trans (below_setRow _ _ _ _ hw9)
  generalize w13.setRow g9 ((p).map V : List Value).toArray = w14b at bl m6 m7 m9 ⊢
  refine wpList_nil ?_
  clear x18
  show Code.wp _ _ _ _ _
  refine wp_seq ?_
  cases bb
  rotate_left
  · skip
    rw [show (!true) = false from rfl] at hLk
    obtain ⟨y1, ey1⟩ : ∃ y, Box (nd p (bk a R S k).1 = y) := ⟨_, ⟨rfl⟩⟩
    have hy1 : y1.length = 32 := by rw [← ey1.out]; exact nd_len _ _
    have hbk1 : (bk a R S (k + 1)).1 = y1 := by rw [hbk, bst_t]; exact ey1.out
    obtain ⟨y2, ey2⟩ : ∃ y, Box (nd p (bk a R S k).2 = y) := ⟨_, ⟨rfl⟩⟩
    have hy2 : y2.length = 32 := by rw [← ey2.out]; exact nd_len _ _
    have hbk2 : (bk a R S (k + 1)).2 = y2 := by rw [hbk, bst_2]; exact ey2.out
    refine wr_a [.eq (u1), .eq (.int .i64 (k : Int)), .prg [.bool false], .eq (.bool false)] (by rw [sd.1]; kernel_rfl) ⟨fun hw ac u K => ?_, fun hw ac u K => ?_, fun hw ac u K => ?_, fun hw ac u K => ?_, trivial⟩ ?_
    · exact st_move (.tmp 1) rfl (K.t x1 rfl)
    · exact st_move (.tmp 8) rfl (K.t x8 rfl)
    · exact st_idxbs (.tmp 19) (.tmp 20) rfl (fk_val (K.dep 0 19 rfl) (Fk.mono _ _ _ _ h1 (bgo bl K.grow))) k (K.dep 1 20 rfl) false hLk
    · exact st_loadr1 4 (.tmp 21) rfl (by kernel_rfl) (K.dep 2 21 rfl)
    intro f15 w15 A hb
    replace x1 := A.t x1 rfl
    replace x6 := A.t x6 rfl
    replace x7 := A.t x7 rfl
    replace x12 := A.t x12 rfl
    replace x13 := A.t x13 rfl
    replace x14 := A.t x14 rfl
    replace x8 := A.t x8 rfl
    replace x9 := A.t x9 rfl
    have x22 := A.e 3 22 rfl rfl
    replace m6 := Ob.below m6 hb
    replace m7 := Ob.below m7 hb
    replace m9 := Ob.below m9 hb
    replace bl := bgo bl hb
    replace sd := A.sd sd
    clear A hb
    clear x8
    show Code.wp _ _ _ _ _
    refine wp_cond_false x22 ?_
    refine wr_t [.eq (.agg ((p).map V).toArray), .eq (.agg (((bk a R S k).1).map V).toArray), .eq (.agg ((y1).map V).toArray), .eq (.agg ((p).map V).toArray), .eq (.agg (((bk a R S k).2).map V).toArray), .eq (.agg ((y2).map V).toArray)] [6, 7] Tryd.mixed (by rw [sd.1]; kernel_rfl) ⟨fun hw ac u K => ?_, fun hw ac u K => ?_, fun hw ac u K => ?_, fun hw ac u K => ?_, fun hw ac u K => ?_, fun hw ac u K => ?_, trivial⟩ ?_
    · exact st_load33 (.tmp 9) rfl (g9) (p) (K.t x9 rfl) hp (Ob.below m9 K.grow)
    · exact st_load33 (.tmp 6) rfl (g6) ((bk a R S k).1) (K.t x6 rfl) (bk_len ha R S k).1 (Ob.below m6 K.grow)
    · exact st_call 30 (.func 30) _ _ _ rfl rfl (arg2 (K.dep 0 26 rfl) (K.dep 1 27 rfl)) Tryd.enter30 (fk_node hp (bk_len ha R S k).1 (hK.below (bgo bl K.grow)) ey1)
    · exact st_load33 (.tmp 9) rfl (g9) (p) (K.t x9 rfl) hp (Ob.below m9 K.grow)
    · exact st_load33 (.tmp 7) rfl (g7) ((bk a R S k).2) (K.t x7 rfl) (bk_len ha R S k).2 (Ob.below m7 K.grow)
    · exact st_call 30 (.func 30) _ _ _ rfl rfl (arg2 (K.dep 3 29 rfl) (K.dep 4 30 rfl)) Tryd.enter30 (fk_node hp (bk_len ha R S k).2 (hK.below (bgo bl K.grow)) ey2)
    intro f16 w16 A hb
    replace x1 := A.t x1 rfl
    replace x6 := A.t x6 rfl
    replace x7 := A.t x7 rfl
    replace x12 := A.t x12 rfl
    replace x13 := A.t x13 rfl
    replace x14 := A.t x14 rfl
    replace x9 := A.t x9 rfl
    replace x22 := A.t x22 rfl
    have x28 := A.e 2 28 rfl rfl
    have x31 := A.e 5 31 rfl rfl
    replace m6 := Ob.below m6 hb
    replace m7 := Ob.below m7 hb
    replace m9 := Ob.below m9 hb
    replace bl := bgo bl hb
    replace sd := A.sd sd
    clear A hb
    clear x9
    clear x22
    refine wl_store rfl (.tmp 6) (.tmp 28) rfl rfl (g6) (y1) ((bk a R S k).1) x6 x28 m6 (bk_len ha R S k).1 hy1 ?_
    replace m6 : Ob (w16.setRow g6 ((y1).map V : List Value).toArray) (g6) 33 ((y1).map V) := Ob.setRow m6 ((y1).map V)
    replace m7 : Ob (w16.setRow g6 ((y1).map V : List Value).toArray) (g7) 33 (((bk a R S k).2).map V) := Ob.setRow_other m7 _ nm6_7.symm
    replace m9 : Ob (w16.setRow g6 ((y1).map V : List Value).toArray) (g9) 33 ((p).map V) := Ob.setRow_other m9 _ nm6_9.symm
    replace bl : Below w.heap.size w (w16.setRow g6 ((y1).map V : List Value).toArray) := bl.trans (below_setRow _ _ _ _ hw6)
    generalize w16.setRow g6 ((y1).map V : List Value).toArray = w17b at bl m6 m7 m9 ⊢
    clear x28
    refine wl_store rfl (.tmp 7) (.tmp 31) rfl rfl (g7) (y2) ((bk a R S k).2) x7 x31 m7 (bk_len ha R S k).2 hy2 ?_
    replace m6 : Ob (w17b.setRow g7 ((y2).map V : List Value).toArray) (g6) 33 ((y1).map V) := Ob.setRow_other m6 _ nm6_7
    replace m7 : Ob (w17b.setRow g7 ((y2).map V : List Value).toArray) (g7) 33 ((y2).map V) := Ob.setRow m7 ((y2).map V)
    replace m9 : Ob (w17b.setRow g7 ((y2).map V : List Value).toArray) (g9) 33 ((p).map V) := Ob.setRow_other m9 _ nm7_9.symm
    replace bl : Below w.heap.size w (w17b.setRow g7 ((y2).map V : List Value).toArray) := bl.trans (below_setRow _ _ _ _ hw7)
    generalize w17b.setRow g7 ((y2).map V : List Value).toArray = w18b at bl m6 m7 m9 ⊢
    refine wpList_nil ?_
    clear x31
    clear m9
    show Code.wp _ _ _ _ _
    refine wr_s [.eq (.int .i64 ((k + 1 : Nat) : Int))] (by rw [sd.1]; kernel_rfl) ⟨fun hw ac u K => ?_, trivial⟩ ?_
    · exact st_add (.tmp 14) (.const (.int .i64 1)) rfl (k) (1) (k + 1) (K.t x14 rfl) rfl (by omega) (by omega)
    intro f19 w19 A hb
    replace x1 := A.t x1 rfl
    replace x6 := A.t x6 rfl
    replace x7 := A.t x7 rfl
    replace x12 := A.t x12 rfl
    replace x13 := A.t x13 rfl
    replace x14 := A.t x14 rfl
    have x32 := A.e 0 32 rfl rfl
    replace m6 := Ob.below m6 hb
    replace m7 := Ob.below m7 hb
    replace bl := bgo bl hb
    replace sd := A.sd sd
    clear A hb
    refine wl_one (.eq (.int .i64 ((k + 1 : Nat) : Int))) rfl 14 rfl (by rw [sd.1]; decide) (st_move (.tmp 32) rfl x32) ?_
    intro f20 w20 df2 sz2 old2 new2 hb
    replace x1 := tr old2 x1 rfl
    replace x6 := tr old2 x6 rfl
    replace x7 := tr old2 x7 rfl
    replace x12 := tr old2 x12 rfl
    replace x13 := tr old2 x13 rfl
    clear x14
    replace x32 := tr old2 x32 rfl
    have x14 := Fk.e new2
    replace m6 := Ob.below m6 hb
    replace m7 := Ob.below m7 hb
    replace bl := bgo bl hb
    replace sd := sd2 sz2 df2 sd
    clear df2 sz2 old2 new2 hb
    refine wpList_nil ?_
    clear x32
    show (∃ _, _) ∧ _
    refine ⟨⟨k + 1, by omega, sd.1, sd.2, x1, x6, x7, x12, x13, x14, (by rw [hbk1]; exact m6), (by rw [hbk2]; exact m7), bl⟩, ?_⟩
    rw [show f20.eval (.tmp 14) = _ from x14, show _ = _ from hcnt]
    first | (simp [intOf]; done) | (simp [intOf]; omega)
  rw [show (!false) = true from rfl] at hLk
  have hbk1 : (bk a R S (k + 1)).1 = (bk a R S k).1 := by rw [hbk, bst_f]
  obtain ⟨y2, ey2⟩ : ∃ y, Box (nd (bk a R S k).2 p = y) := ⟨_, ⟨rfl⟩⟩
  have hy2 : y2.length = 32 := by rw [← ey2.out]; exact nd_len _ _
  have hbk2 : (bk a R S (k + 1)).2 = y2 := by rw [hbk, bst_2]; exact ey2.out
  refine wr_a [.eq (u1), .eq (.int .i64 (k : Int)), .prg [.bool true], .eq (.bool true)] (by rw [sd.1]; kernel_rfl) ⟨fun hw ac u K => ?_, fun hw ac u K => ?_, fun hw ac u K => ?_, fun hw ac u K => ?_, trivial⟩ ?_
  · exact st_move (.tmp 1) rfl (K.t x1 rfl)
  · exact st_move (.tmp 8) rfl (K.t x8 rfl)
  · exact st_idxbs (.tmp 19) (.tmp 20) rfl (fk_val (K.dep 0 19 rfl) (Fk.mono _ _ _ _ h1 (bgo bl K.grow))) k (K.dep 1 20 rfl) true hLk
  · exact st_loadr1 4 (.tmp 21) rfl (by kernel_rfl) (K.dep 2 21 rfl)
  intro f15 w15 A hb
  replace x1 := A.t x1 rfl
  replace x6 := A.t x6 rfl
  replace x7 := A.t x7 rfl
  replace x12 := A.t x12 rfl
  replace x13 := A.t x13 rfl
  replace x14 := A.t x14 rfl
  replace x8 := A.t x8 rfl
  replace x9 := A.t x9 rfl
  have x22 := A.e 3 22 rfl rfl
  replace m6 := Ob.below m6 hb
  replace m7 := Ob.below m7 hb
  replace m9 := Ob.below m9 hb
  replace bl := bgo bl hb
  replace sd := A.sd sd
  clear A hb
  clear x8
  show Code.wp _ _ _ _ _
  refine wp_cond_true x22 ?_
  refine wr_s [.eq (.agg (((bk a R S k).2).map V).toArray), .eq (.agg ((p).map V).toArray), .eq (.agg ((y2).map V).toArray)] (by rw [sd.1]; kernel_rfl) ⟨fun hw ac u K => ?_, fun hw ac u K => ?_, fun hw ac u K => ?_, trivial⟩ ?_
  · exact st_load33 (.tmp 7) rfl (g7) ((bk a R S k).2) (K.t x7 rfl) (bk_len ha R S k).2 (Ob.below m7 K.grow)
  · exact st_load33 (.tmp 9) rfl (g9) (p) (K.t x9 rfl) hp (Ob.below m9 K.grow)
  · exact st_call 30 (.func 30) _ _ _ rfl rfl (arg2 (K.dep 0 23 rfl) (K.dep 1 24 rfl)) Tryd.enter30 (fk_node (bk_len ha R S k).2 hp (hK.below (bgo bl K.grow)) ey2)
  intro f16 w16 A hb
  replace x1 := A.t x1 rfl
  replace x6 := A.t x6 rfl
  replace x7 := A.t x7 rfl
  replace x12 := A.t x12 rfl
  replace x13 := A.t x13 rfl
  replace x14 := A.t x14 rfl
  replace x9 := A.t x9 rfl
  replace x22 := A.t x22 rfl
  have x25 := A.e 2 25 rfl rfl
  replace m6 := Ob.below m6 hb
  replace m7 := Ob.below m7 hb
  replace m9 := Ob.below m9 hb
  replace bl := bgo bl hb
  replace sd := A.sd sd
  clear A hb
  clear x9
  clear x22
  refine wl_store rfl (.tmp 7) (.tmp 25) rfl rfl (g7) (y2) ((bk a R S k).2) x7 x25 m7 (bk_len ha R S k).2 hy2 ?_
  replace m6 : Ob (w16.setRow g7 ((y2).map V : List Value).toArray) (g6) 33 (((bk a R S k).1).map V) := Ob.setRow_other m6 _ nm6_7
  replace m7 : Ob (w16.setRow g7 ((y2).map V : List Value).toArray) (g7) 33 ((y2).map V) := Ob.setRow m7 ((y2).map V)
  replace m9 : Ob (w16.setRow g7 ((y2).map V : List Value).toArray) (g9) 33 ((p).map V) := Ob.setRow_other m9 _ nm7_9.symm
  replace bl : Below w.heap.size w (w16.setRow g7 ((y2).map V : List Value).toArray) := bl.trans (below_setRow _ _ _ _ hw7)
  generalize w16.setRow g7 ((y2).map V : List Value).toArray = w17b at bl m6 m7 m9 ⊢
  refine wpList_nil ?_
  clear x25
  clear m9
  show Code.wp _ _ _ _ _
  refine wr_s [.eq (.int .i64 ((k + 1 : Nat) : Int))] (by rw [sd.1]; kernel_rfl) ⟨fun hw ac u K => ?_, trivial⟩ ?_
  · exact st_add (.tmp 14) (.const (.int .i64 1)) rfl (k) (1) (k + 1) (K.t x14 rfl) rfl (by omega) (by omega)
  intro f18 w18 A hb
  replace x1 := A.t x1 rfl
  replace x6 := A.t x6 rfl
  replace x7 := A.t x7 rfl
  replace x12 := A.t x12 rfl
  replace x13 := A.t x13 rfl
  replace x14 := A.t x14 rfl
  have x32 := A.e 0 32 rfl rfl
  replace m6 := Ob.below m6 hb
  replace m7 := Ob.below m7 hb
  replace bl := bgo bl hb
  replace sd := A.sd sd
  clear A hb
  refine wl_one (.eq (.int .i64 ((k + 1 : Nat) : Int))) rfl 14 rfl (by rw [sd.1]; decide) (st_move (.tmp 32) rfl x32) ?_
  intro f19 w19 df2 sz2 old2 new2 hb
  replace x1 := tr old2 x1 rfl
  replace x6 := tr old2 x6 rfl
  replace x7 := tr old2 x7 rfl
  replace x12 := tr old2 x12 rfl
  replace x13 := tr old2 x13 rfl
  clear x14
  replace x32 := tr old2 x32 rfl
  have x14 := Fk.e new2
  replace m6 := Ob.below m6 hb
  replace m7 := Ob.below m7 hb
  replace bl := bgo bl hb
  replace sd := sd2 sz2 df2 sd
  clear df2 sz2 old2 new2 hb
  refine wpList_nil ?_
  clear x32
  show (∃ _, _) ∧ _
  refine ⟨⟨k + 1, by omega, sd.1, sd.2, x1, x6, x7, x12, x13, x14, (by rw [hbk1]; exact m6), (by rw [hbk2]; exact m7), bl⟩, ?_⟩
  rw [show f19.eval (.tmp 14) = _ from x14, show _ = _ from hcnt]
  first | (simp [intOf]; done) | (simp [intOf]; omega)
theorem pboth_bad0 {old : List (BitVec 8)} (_hold : old.length = 32) {m n : Int} (h1 : 0 ≤ m) (h2 : m ≤ n) {L S : List Bool} {c : Bool} (ht : ∀ w : World, Calls Tryd.prog 53 #[.int .i64 m, .int .i64 n] w fun e w' => ∃ u, e = .returned u ∧ (Fk.ob w.heap.size L).f u w' ∧ Below w.heap.size w w') (hcc : (L.any fun y => false == y) = c) (hLS : L = S.map (!·)) (hS60 : S.length ≤ 60) (hc0 : c = false) {P : List (List (BitVec 8))} {v : Value} {w : World} (hv : (Fk.hc P).f v w) (_hP : P.length ≤ 100000) (_hK : Tab w) (hl : P.length ≠ S.length) :
    Calls Tryd.prog 38 #[.int .i64 m, .int .i64 n, .agg ((old).map V).toArray, v] w fun e w' => ∃ u, e = .returned u ∧ (Fk.eq (.tuple #[.agg ((hz).map V).toArray, .agg ((hz).map V).toArray, .int .i64 22])).f u w' ∧ Below w.heap.size w w' := by
  have hvs := hc_hs hv
  have hLl : L.length = S.length := by rw [hLS, List.length_map]
  have hc : (L.any fun y => false == y) = false := by rw [hcc, hc0]
  go_enter Tryd.func38, Tryd.ntmps38
  refine code_both (fun f w1 => f.tmps.size = 61 ∧ f.defers = [] ∧ f.eval (.tmp 0) = .int .i64 (m) ∧ f.eval (.tmp 1) = .int .i64 (n) ∧ f.eval (.tmp 2) = .agg ((old).map V).toArray ∧ f.eval (.tmp 3) = v ∧ Below w.heap.size w (w1)) ⟨rfl, rfl, rfl, rfl, rfl, rfl, Below.refl _ _⟩ ?_
  rintro f0 w0 ⟨sz, df, x0, x1, x2, x3, bl⟩
  have sd := And.intro sz df
  clear sz df
  have bl0 := bl
  refine wp_seq ?_
  refine wr_s [] (by rw [sd.1]; kernel_rfl) trivial ?_
  intro f1 w1 A hb
  replace x0 := A.t x0 rfl
  replace x1 := A.t x1 rfl
  replace x2 := A.t x2 rfl
  replace x3 := A.t x3 rfl
  replace bl := bgo bl hb
  replace sd := A.sd sd
  clear A hb
  refine wl_one (.nw w1.heap.size 33 ((old).map V)) rfl 6 rfl (by rw [sd.1]; decide) (st_box 33 (.tmp 2) rfl _ _ (by rw [show _ = _ from x2]; kernel_rfl) (Nat.le_refl _)) ?_
  intro f2 w2 df2 sz2 old2 new2 hb
  replace bl0 := bl
  replace x0 := tr old2 x0 rfl
  replace x1 := tr old2 x1 rfl
  replace x2 := tr old2 x2 rfl
  replace x3 := tr old2 x3 rfl
  have x6 : Fk.f (.nw w1.heap.size 33 ((old).map V)) (f2.eval (.tmp 6)) w2 := new2
  replace bl := bgo bl hb
  replace sd := sd2 sz2 df2 sd
  clear df2 sz2 old2 new2 hb
  obtain ⟨g6, hg6, e6, m6⟩ := x6
  have x6 := e6
  clear e6
  have hw6 : w.heap.size ≤ g6 := Nat.le_trans bl0.size hg6
  clear x2
  refine wl_one (.nw w2.heap.size 33 ((hz).map V)) rfl 8 rfl (by rw [sd.1]; decide) (st_alloc33 rfl _ (Nat.le_refl _)) ?_
  intro f3 w3 df2 sz2 old2 new2 hb
  replace bl0 := bl
  replace x0 := tr old2 x0 rfl
  replace x1 := tr old2 x1 rfl
  replace x3 := tr old2 x3 rfl
  replace x6 := tr old2 x6 rfl
  have x8 : Fk.f (.nw w2.heap.size 33 ((hz).map V)) (f3.eval (.tmp 8)) w3 := new2
  have lt_m6 := Ob.lt m6
  replace m6 := Ob.below m6 hb
  replace bl := bgo bl hb
  replace sd := sd2 sz2 df2 sd
  clear df2 sz2 old2 new2 hb
  obtain ⟨g8, hg8, e8, m8⟩ := x8
  have x8 := e8
  clear e8
  have nm6_8 : g6 ≠ g8 := Nat.ne_of_lt (Nat.lt_of_lt_of_le lt_m6 hg8)
  have hw8 : w.heap.size ≤ g8 := Nat.le_trans bl0.size hg8
  refine wl_one (.nw w3.heap.size 33 ((hz).map V)) rfl 9 rfl (by rw [sd.1]; decide) (st_alloc33 rfl _ (Nat.le_refl _)) ?_
  intro f4 w4 df2 sz2 old2 new2 hb
  replace bl0 := bl
  replace x0 := tr old2 x0 rfl
  replace x1 := tr old2 x1 rfl
  replace x3 := tr old2 x3 rfl
  replace x6 := tr old2 x6 rfl
  replace x8 := tr old2 x8 rfl
  have x9 : Fk.f (.nw w3.heap.size 33 ((hz).map V)) (f4.eval (.tmp 9)) w4 := new2
  have lt_m6 := Ob.lt m6
  replace m6 := Ob.below m6 hb
  have lt_m8 := Ob.lt m8
  replace m8 := Ob.below m8 hb
  replace bl := bgo bl hb
  replace sd := sd2 sz2 df2 sd
  clear df2 sz2 old2 new2 hb
  obtain ⟨g9, hg9, e9, m9⟩ := x9
  have x9 := e9
  clear e9
  have nm6_9 : g6 ≠ g9 := Nat.ne_of_lt (Nat.lt_of_lt_of_le lt_m6 hg9)
  have nm8_9 : g8 ≠ g9 := Nat.ne_of_lt (Nat.lt_of_lt_of_le lt_m8 hg9)
  have hw9 : w.heap.size ≤ g9 := Nat.le_trans bl0.size hg9
  refine wl_one (.eq (.int .i64 0)) rfl 10 rfl (by rw [sd.1]; decide) (st_assign (.const (.int .i64 0)) rfl rfl) ?_
  intro f5 w5 df2 sz2 old2 new2 hb
  replace x0 := tr old2 x0 rfl
  replace x1 := tr old2 x1 rfl
  replace x3 := tr old2 x3 rfl
  replace x6 := tr old2 x6 rfl
  replace x8 := tr old2 x8 rfl
  replace x9 := tr old2 x9 rfl
  have x10 := Fk.e new2
  replace m6 := Ob.below m6 hb
  replace m8 := Ob.below m8 hb
  replace m9 := Ob.below m9 hb
  replace bl := bgo bl hb
  replace sd := sd2 sz2 df2 sd
  clear df2 sz2 old2 new2 hb
  refine wpList_nil ?_
  clear x10
  show Code.wp _ _ _ _ _
  refine wp_seq ?_
  refine wp_seq ?_
  refine wr_a [.eq (.int .i64 (m)), .eq (.bool false), .eq (.bool false), .eq (.int .i64 (m)), .eq (.int .i64 (n)), .eq (.bool false), .eq (.bool false)] (by rw [sd.1]; kernel_rfl) ⟨fun hw ac u K => ?_, fun hw ac u K => ?_, fun hw ac u K => ?_, fun hw ac u K => ?_, fun hw ac u K => ?_, fun hw ac u K => ?_, fun hw ac u K => ?_, trivial⟩ ?_
  · exact st_move (.tmp 0) rfl (K.t x0 rfl)
  · exact st_lss 3 (.tmp 14) (.const (.int .i64 0)) rfl .i64 ((m)) (0) (K.dep 0 14 rfl) rfl _ (by rw [eq_comm, decide_eq_false_iff_not]; omega)
  · exact st_move (.tmp 15) rfl (K.dep 1 15 rfl)
  · exact st_move (.tmp 0) rfl (K.t x0 rfl)
  · exact st_move (.tmp 1) rfl (K.t x1 rfl)
  · exact st_gtr 3 (.tmp 17) (.tmp 18) rfl .i64 ((m)) ((n)) (K.dep 3 17 rfl) (K.dep 4 18 rfl) _ (by rw [eq_comm, decide_eq_false_iff_not]; omega)
  · exact st_pick_f' (.tmp 16) (.const (.bool true)) (.tmp 19) rfl (K.dep 2 16 rfl) (K.dep 5 19 rfl)
  intro f6 w6 A hb
  replace x0 := A.t x0 rfl
  replace x1 := A.t x1 rfl
  replace x3 := A.t x3 rfl
  replace x6 := A.t x6 rfl
  replace x8 := A.t x8 rfl
  replace x9 := A.t x9 rfl
  have x20 := A.e 6 20 rfl rfl
  replace m6 := Ob.below m6 hb
  replace m8 := Ob.below m8 hb
  replace m9 := Ob.below m9 hb
  replace bl := bgo bl hb
  replace sd := A.sd sd
  clear A hb
  show Code.wp _ _ _ _ _
  refine wp_cond_false x20 ?_
  refine wp_skip ?_
  show Code.wp _ _ _ _ _
  refine wp_seq ?_
  refine wr_a [.eq (.int .i64 (m)), .eq (.int .i64 (n)), .ob w.heap.size (L), .ob w.heap.size (L)] (by rw [sd.1]; kernel_rfl) ⟨fun hw ac u K => ?_, fun hw ac u K => ?_, fun hw ac u K => ?_, fun hw ac u K => ?_, trivial⟩ ?_
  · exact st_move (.tmp 0) rfl (K.t x0 rfl)
  · exact st_move (.tmp 1) rfl (K.t x1 rfl)
  · exact st_call 53 (.func 53) _ _ _ rfl rfl (arg2 (K.dep 0 23 rfl) (K.dep 1 24 rfl)) Tryd.enter53 (fk_orw (bgo bl K.grow).size (ht _))
  · exact st_assign (.tmp 25) rfl (K.dep 2 25 rfl)
  intro f7 w7 A hb
  replace x0 := A.t x0 rfl
  replace x1 := A.t x1 rfl
  replace x3 := A.t x3 rfl
  replace x6 := A.t x6 rfl
  replace x8 := A.t x8 rfl
  replace x9 := A.t x9 rfl
  replace x20 := A.t x20 rfl
  have x11 : Fk.f (.ob w.heap.size (L)) (f7.eval (.tmp 11)) w7 := A.has 3 11 rfl
  replace m6 := Ob.below m6 hb
  replace m8 := Ob.below m8 hb
  replace m9 := Ob.below m9 hb
  replace bl := bgo bl hb
  replace sd := A.sd sd
  clear A hb
  clear x0
  clear x1
  clear x20
  obtain ⟨v11, e11⟩ : ∃ v, f7.eval (.tmp 11) = v := ⟨_, rfl⟩
  have h11 := ob_bs x11
  rw [e11] at h11
  replace x11 := e11
  clear e11
  show Code.wp _ _ _ _ _
  refine wp_seq ?_
  refine wr_a [.eq (v11), .eq (.bool false), .eq (.bool true), .eq (.bool true)] (by rw [sd.1]; kernel_rfl) ⟨fun hw ac u K => ?_, fun hw ac u K => ?_, fun hw ac u K => ?_, fun hw ac u K => ?_, trivial⟩ ?_
  · exact st_move (.tmp 11) rfl (K.t x11 rfl)
  · exact st_call 54 (.func 54) _ _ _ rfl rfl (arg2 (K.dep 0 26 rfl) rfl) Tryd.enter54 (fk_containsb false hc (Fk.mono _ _ _ _ h11 K.grow) (by omega))
  · exact st_not (.tmp 27) rfl false (K.dep 1 27 rfl)
  · exact st_assign (.tmp 28) rfl (K.dep 2 28 rfl)
  intro f8 w8 A hb
  replace x3 := A.t x3 rfl
  replace x6 := A.t x6 rfl
  replace x8 := A.t x8 rfl
  replace x9 := A.t x9 rfl
  replace x11 := A.t x11 rfl
  have x12 := A.e 3 12 rfl rfl
  replace m6 := Ob.below m6 hb
  replace m8 := Ob.below m8 hb
  replace m9 := Ob.below m9 hb
  replace h11 := Fk.mono _ _ _ _ h11 hb
  replace bl := bgo bl hb
  replace sd := A.sd sd
  clear A hb
  show Code.wp _ _ _ _ _
  refine wp_seq ?_
  refine wr_a [.eq (v11), .eq (.int .i64 (((L).length : Nat) : Int)), .eq (.int .i64 (((L).length : Nat) : Int))] (by rw [sd.1]; kernel_rfl) ⟨fun hw ac u K => ?_, fun hw ac u K => ?_, fun hw ac u K => ?_, trivial⟩ ?_
  · exact st_move (.tmp 11) rfl (K.t x11 rfl)
  · exact st_lenbs (.tmp 29) rfl (fk_val (K.dep 0 29 rfl) (Fk.mono _ _ _ _ h11 K.grow))
  · exact st_assign (.tmp 30) rfl (K.dep 1 30 rfl)
  intro f9 w9 A hb
  replace x3 := A.t x3 rfl
  replace x6 := A.t x6 rfl
  replace x8 := A.t x8 rfl
  replace x9 := A.t x9 rfl
  replace x11 := A.t x11 rfl
  replace x12 := A.t x12 rfl
  have x13 := A.e 2 13 rfl rfl
  replace m6 := Ob.below m6 hb
  replace m8 := Ob.below m8 hb
  replace m9 := Ob.below m9 hb
  replace h11 := Fk.mono _ _ _ _ h11 hb
  replace bl := bgo bl hb
  replace sd := A.sd sd
  clear A hb
  show Code.wp _ _ _ _ _
  refine wp_seq ?_
  refine wp_seq ?_
  refine wr_a [.eq (.bool true), .eq (.bool false)] (by rw [sd.1]; kernel_rfl) ⟨fun hw ac u K => ?_, fun hw ac u K => ?_, trivial⟩ ?_
  · exact st_move (.tmp 12) rfl (K.t x12 rfl)
  · exact st_not (.tmp 31) rfl true (K.dep 0 31 rfl)
  intro f10 w10 A hb
  replace x3 := A.t x3 rfl
  replace x6 := A.t x6 rfl
  replace x8 := A.t x8 rfl
  replace x9 := A.t x9 rfl
  replace x11 := A.t x11 rfl
  replace x12 := A.t x12 rfl
  replace x13 := A.t x13 rfl
  have x32 := A.e 1 32 rfl rfl
  replace m6 := Ob.below m6 hb
  replace m8 := Ob.below m8 hb
  replace m9 := Ob.below m9 hb
  replace h11 := Fk.mono _ _ _ _ h11 hb
  replace bl := bgo bl hb
  replace sd := A.sd sd
  clear A hb
  show Code.wp _ _ _ _ _
  refine wp_cond_false x32 ?_
  refine wp_skip ?_
  show Code.wp _ _ _ _ _
  refine wp_seq ?_
  refine wp_seq ?_
  refine wr_a [.eq (v), .eq (.int .i64 (((P).length : Nat) : Int)), .eq (.int .i64 (((L).length : Nat) : Int)), .eq (.bool true)] (by rw [sd.1]; kernel_rfl) ⟨fun hw ac u K => ?_, fun hw ac u K => ?_, fun hw ac u K => ?_, fun hw ac u K => ?_, trivial⟩ ?_
  · exact st_move (.tmp 3) rfl (K.t x3 rfl)
  · exact st_lenc (.tmp 35) rfl ((P).length) rfl (fk_val (K.dep 0 35 rfl) (Fk.mono _ _ _ _ hv (bgo bl K.grow)))
  · exact st_move (.tmp 13) rfl (K.t x13 rfl)
  · exact st_neqi 3 (.tmp 36) (.tmp 37) rfl .i64 ((((P).length : Nat) : Int)) ((((L).length : Nat) : Int)) (K.dep 1 36 rfl) (K.dep 2 37 rfl) _ (by rw [eq_comm, decide_eq_true_iff]; omega)
  intro f11 w11 A hb
  replace x3 := A.t x3 rfl
  replace x6 := A.t x6 rfl
  replace x8 := A.t x8 rfl
  replace x9 := A.t x9 rfl
  replace x11 := A.t x11 rfl
  replace x12 := A.t x12 rfl
  replace x13 := A.t x13 rfl
  replace x32 := A.t x32 rfl
  have x38 := A.e 3 38 rfl rfl
  replace m6 := Ob.below m6 hb
  replace m8 := Ob.below m8 hb
  replace m9 := Ob.below m9 hb
  replace h11 := Fk.mono _ _ _ _ h11 hb
  replace bl := bgo bl hb
  replace sd := A.sd sd
  clear A hb
  clear x13
  clear x32
  show Code.wp _ _ _ _ _
  refine wp_cond_true x38 ?_
  refine wp_seq ?_
  clear h11
  refine wr_s [.eq (.agg ((hz).map V).toArray), .eq (.agg ((hz).map V).toArray)] (by rw [sd.1]; kernel_rfl) ⟨fun hw ac u K => ?_, fun hw ac u K => ?_, trivial⟩ ?_
  · exact st_zero33 rfl
  · exact st_zero33 rfl
  intro f12 w12 A hb
  replace x3 := A.t x3 rfl
  replace x6 := A.t x6 rfl
  replace x8 := A.t x8 rfl
  replace x9 := A.t x9 rfl
  replace x11 := A.t x11 rfl
  replace x12 := A.t x12 rfl
  replace x38 := A.t x38 rfl
  have x39 := A.e 0 39 rfl rfl
  have x40 := A.e 1 40 rfl rfl
  replace m6 := Ob.below m6 hb
  replace m8 := Ob.below m8 hb
  replace m9 := Ob.below m9 hb
  replace bl := bgo bl hb
  replace sd := A.sd sd
  clear A hb
  clear x3
  clear x6
  clear x11
  clear x12
  clear x38
  refine wl_store rfl (.tmp 8) (.tmp 39) rfl rfl (g8) (hz) (hz) x8 x39 m8 hz_len hz_len ?_
  replace m6 : Ob (w12.setRow g8 ((hz).map V : List Value).toArray) (g6) 33 ((old).map V) := Ob.setRow_other m6 _ nm6_8
  replace m8 : Ob (w12.setRow g8 ((hz).map V : List Value).toArray) (g8) 33 ((hz).map V) := Ob.setRow m8 ((hz).map V)
  replace m9 : Ob (w12.setRow g8 ((hz).map V : List Value).toArray) (g9) 33 ((hz).map V) := Ob.setRow_other m9 _ nm8_9.symm
  replace bl : Below w.heap.size w (w12.setRow g8 ((hz).map V : List Value).toArray) := bl.trans (below_setRow _ _ _ _ hw8)
  generalize w12.setRow g8 ((hz).map V : List Value).toArray = w13b at bl m6 m8 m9 ⊢
  clear x39
  refine wl_store rfl (.tmp 9) (.tmp 40) rfl rfl (g9) (hz) (hz) x9 x40 m9 hz_len hz_len ?_
  replace m6 : Ob (w13b.setRow g9 ((hz).map V : List Value).toArray) (g6) 33 ((old).map V) := Ob.setRow_other m6 _ nm6_9
  replace m8 : Ob (w13b.setRow g9 ((hz).map V : List Value).toArray) (g8) 33 ((hz).map V) := Ob.setRow_other m8 _ nm8_9
  replace m9 : Ob (w13b.setRow g9 ((hz).map V : List Value).toArray) (g9) 33 ((hz).map V) := Ob.setRow m9 ((hz).map V)
  replace bl : Below w.heap.size w (w13b.setRow g9 ((hz).map V : List Value).toArray) := bl.trans (below_setRow _ _ _ _ hw9)
  generalize w13b.setRow g9 ((hz).map V : List Value).toArray = w14b at bl m6 m8 m9 ⊢
  clear x40
  refine wl_one (.eq (.int .i64 22)) rfl 10 rfl (by rw [sd.1]; decide) (st_assign (.const (.int .i64 22)) rfl rfl) ?_
  intro f15 w15 df2 sz2 old2 new2 hb
  replace x8 := tr old2 x8 rfl
  replace x9 := tr old2 x9 rfl
  have x10 := Fk.e new2
  replace m6 := Ob.below m6 hb
  replace m8 := Ob.below m8 hb
  replace m9 := Ob.below m9 hb
  replace bl := bgo bl hb
  replace sd := sd2 sz2 df2 sd
  clear df2 sz2 old2 new2 hb
  refine wpList_nil ?_
  clear m6
  show Code.wp _ _ _ _ _
  refine wp_ret ?_
  repeat (first | with_reducible refine then_ret ?_ | with_reducible refine block_ret ?_)
  exact bodyPost_ret (v := .tuple #[.agg ((hz).map V).toArray, .agg ((hz).map V).toArray, .int .i64 22]) (ret_hhi rfl f15 _ g8 g9 (hz) (hz) (.int .i64 22) hz_len hz_len x8 x9 m8 m9 x10) sd.2 ⟨_, rfl, rfl, bl⟩
set_option maxHeartbeats 1000000 in
theorem pboth_ok0 {old : List (BitVec 8)} (hold : old.length = 32) {m n : Int} (h1 : 0 ≤ m) (h2 : m ≤ n) {L S : List Bool} {c : Bool} (ht : ∀ w : World, Calls Tryd.prog 53 #[.int .i64 m, .int .i64 n] w fun e w' => ∃ u, e = .returned u ∧ (Fk.ob w.heap.size L).f u w' ∧ Below w.heap.size w w') (hcc : (L.any fun y => false == y) = c) (hLS : L = S.map (!·)) (hS60 : S.length ≤ 60) (hc0 : c = false) {P : List (List (BitVec 8))} {v : Value} {w : World} (hv : (Fk.hc P).f v w) (_hP : P.length ≤ 100000) (hK : Tab w) (hl : P.length = S.length) {xa xb : List (BitVec 8)} (hxy : bth old P S = (xa, xb)) :
    Calls Tryd.prog 38 #[.int .i64 m, .int .i64 n, .agg ((old).map V).toArray, v] w fun e w' => ∃ u, e = .returned u ∧ (Fk.eq (.tuple #[.agg ((xa).map V).toArray, .agg ((xb).map V).toArray, .int .i64 0])).f u w' ∧ Below w.heap.size w w' := by
  have hvs := hc_hs hv
  have hLl : L.length = S.length := by rw [hLS, List.length_map]
  have hc : (L.any fun y => false == y) = false := by rw [hcc, hc0]
  have hRl : P.length = S.length := hl
  have hxa : xa.length = 32 := by have := (bk_len hold P S S.length).1; rw [bk_all old hRl, hxy] at this; exact this
  have hxb : xb.length = 32 := by have := (bk_len hold P S S.length).2; rw [bk_all old hRl, hxy] at this; exact this
  go_enter Tryd.func38, Tryd.ntmps38
  refine code_both (fun f w1 => f.tmps.size = 61 ∧ f.defers = [] ∧ f.eval (.tmp 0) = .int .i64 (m) ∧ f.eval (.tmp 1) = .int .i64 (n) ∧ f.eval (.tmp 2) = .agg ((old).map V).toArray ∧ f.eval (.tmp 3) = v ∧ Below w.heap.size w (w1)) ⟨rfl, rfl, rfl, rfl, rfl, rfl, Below.refl _ _⟩ ?_
  rintro f0 w0 ⟨sz, df, x0, x1, x2, x3, bl⟩
  have sd := And.intro sz df
  clear sz df
  have bl0 := bl
  refine wp_seq ?_
  refine wr_s [] (by rw [sd.1]; kernel_rfl) trivial ?_
  intro f1 w1 A hb
  replace x0 := A.t x0 rfl
  replace x1 := A.t x1 rfl
  replace x2 := A.t x2 rfl
  replace x3 := A.t x3 rfl
  replace bl := bgo bl hb
  replace sd := A.sd sd
  clear A hb
  refine wl_one (.nw w1.heap.size 33 ((old).map V)) rfl 6 rfl (by rw [sd.1]; decide) (st_box 33 (.tmp 2) rfl _ _ (by rw [show _ = _ from x2]; kernel_rfl) (Nat.le_refl _)) ?_
  intro f2 w2 df2 sz2 old2 new2 hb
  replace bl0 := bl
  replace x0 := tr old2 x0 rfl
  replace x1 := tr old2 x1 rfl
  replace x2 := tr old2 x2 rfl
  replace x3 := tr old2 x3 rfl
  have x6 : Fk.f (.nw w1.heap.size 33 ((old).map V)) (f2.eval (.tmp 6)) w2 := new2
  replace bl := bgo bl hb
  replace sd := sd2 sz2 df2 sd
  clear df2 sz2 old2 new2 hb
  obtain ⟨g6, hg6, e6, m6⟩ := x6
  have x6 := e6
  clear e6
  have hw6 : w.heap.size ≤ g6 := Nat.le_trans bl0.size hg6
  clear x2
  refine wl_one (.nw w2.heap.size 33 ((hz).map V)) rfl 8 rfl (by rw [sd.1]; decide) (st_alloc33 rfl _ (Nat.le_refl _)) ?_
  intro f3 w3 df2 sz2 old2 new2 hb
  replace bl0 := bl
  replace x0 := tr old2 x0 rfl
  replace x1 := tr old2 x1 rfl
  replace x3 := tr old2 x3 rfl
  replace x6 := tr old2 x6 rfl
  have x8 : Fk.f (.nw w2.heap.size 33 ((hz).map V)) (f3.eval (.tmp 8)) w3 := new2
  have lt_m6 := Ob.lt m6
  replace m6 := Ob.below m6 hb
  replace bl := bgo bl hb
  replace sd := sd2 sz2 df2 sd
  clear df2 sz2 old2 new2 hb
  obtain ⟨g8, hg8, e8, m8⟩ := x8
  have x8 := e8
  clear e8
  have nm6_8 : g6 ≠ g8 := Nat.ne_of_lt (Nat.lt_of_lt_of_le lt_m6 hg8)
  have hw8 : w.heap.size ≤ g8 := Nat.le_trans bl0.size hg8
  refine wl_one (.nw w3.heap.size 33 ((hz).map V)) rfl 9 rfl (by rw [sd.1]; decide) (st_alloc33 rfl _ (Nat.le_refl _)) ?_
  intro f4 w4 df2 sz2 old2 new2 hb
  replace bl0 := bl
  replace x0 := tr old2 x0 rfl
  replace x1 := tr old2 x1 rfl
  replace x3 := tr old2 x3 rfl
  replace x6 := tr old2 x6 rfl
  replace x8 := tr old2 x8 rfl
  have x9 : Fk.f (.nw w3.heap.size 33 ((hz).map V)) (f4.eval (.tmp 9)) w4 := new2
  have lt_m6 := Ob.lt m6
  replace m6 := Ob.below m6 hb
  have lt_m8 := Ob.lt m8
  replace m8 := Ob.below m8 hb
  replace bl := bgo bl hb
  replace sd := sd2 sz2 df2 sd
  clear df2 sz2 old2 new2 hb
  obtain ⟨g9, hg9, e9, m9⟩ := x9
  have x9 := e9
  clear e9
  have nm6_9 : g6 ≠ g9 := Nat.ne_of_lt (Nat.lt_of_lt_of_le lt_m6 hg9)
  have nm8_9 : g8 ≠ g9 := Nat.ne_of_lt (Nat.lt_of_lt_of_le lt_m8 hg9)
  have hw9 : w.heap.size ≤ g9 := Nat.le_trans bl0.size hg9
  refine wl_one (.eq (.int .i64 0)) rfl 10 rfl (by rw [sd.1]; decide) (st_assign (.const (.int .i64 0)) rfl rfl) ?_
  intro f5 w5 df2 sz2 old2 new2 hb
  replace x0 := tr old2 x0 rfl
  replace x1 := tr old2 x1 rfl
  replace x3 := tr old2 x3 rfl
  replace x6 := tr old2 x6 rfl
  replace x8 := tr old2 x8 rfl
  replace x9 := tr old2 x9 rfl
  have x10 := Fk.e new2
  replace m6 := Ob.below m6 hb
  replace m8 := Ob.below m8 hb
  replace m9 := Ob.below m9 hb
  replace bl := bgo bl hb
  replace sd := sd2 sz2 df2 sd
  clear df2 sz2 old2 new2 hb
  refine wpList_nil ?_
  clear x10
  show Code.wp _ _ _ _ _
  refine wp_seq ?_
  refine wp_seq ?_
  refine wr_a [.eq (.int .i64 (m)), .eq (.bool false), .eq (.bool false), .eq (.int .i64 (m)), .eq (.int .i64 (n)), .eq (.bool false), .eq (.bool false)] (by rw [sd.1]; kernel_rfl) ⟨fun hw ac u K => ?_, fun hw ac u K => ?_, fun hw ac u K => ?_, fun hw ac u K => ?_, fun hw ac u K => ?_, fun hw ac u K => ?_, fun hw ac u K => ?_, trivial⟩ ?_
  · exact st_move (.tmp 0) rfl (K.t x0 rfl)
  · exact st_lss 3 (.tmp 14) (.const (.int .i64 0)) rfl .i64 ((m)) (0) (K.dep 0 14 rfl) rfl _ (by rw [eq_comm, decide_eq_false_iff_not]; omega)
  · exact st_move (.tmp 15) rfl (K.dep 1 15 rfl)
  · exact st_move (.tmp 0) rfl (K.t x0 rfl)
  · exact st_move (.tmp 1) rfl (K.t x1 rfl)
  · exact st_gtr 3 (.tmp 17) (.tmp 18) rfl .i64 ((m)) ((n)) (K.dep 3 17 rfl) (K.dep 4 18 rfl) _ (by rw [eq_comm, decide_eq_false_iff_not]; omega)
  · exact st_pick_f' (.tmp 16) (.const (.bool true)) (.tmp 19) rfl (K.dep 2 16 rfl) (K.dep 5 19 rfl)
  intro f6 w6 A hb
  replace x0 := A.t x0 rfl
  replace x1 := A.t x1 rfl
  replace x3 := A.t x3 rfl
  replace x6 := A.t x6 rfl
  replace x8 := A.t x8 rfl
  replace x9 := A.t x9 rfl
  have x20 := A.e 6 20 rfl rfl
  replace m6 := Ob.below m6 hb
  replace m8 := Ob.below m8 hb
  replace m9 := Ob.below m9 hb
  replace bl := bgo bl hb
  replace sd := A.sd sd
  clear A hb
  show Code.wp _ _ _ _ _
  refine wp_cond_false x20 ?_
  refine wp_skip ?_
  show Code.wp _ _ _ _ _
  refine wp_seq ?_
  refine wr_a [.eq (.int .i64 (m)), .eq (.int .i64 (n)), .ob w.heap.size (L), .ob w.heap.size (L)] (by rw [sd.1]; kernel_rfl) ⟨fun hw ac u K => ?_, fun hw ac u K => ?_, fun hw ac u K => ?_, fun hw ac u K => ?_, trivial⟩ ?_
  · exact st_move (.tmp 0) rfl (K.t x0 rfl)
  · exact st_move (.tmp 1) rfl (K.t x1 rfl)
  · exact st_call 53 (.func 53) _ _ _ rfl rfl (arg2 (K.dep 0 23 rfl) (K.dep 1 24 rfl)) Tryd.enter53 (fk_orw (bgo bl K.grow).size (ht _))
  · exact st_assign (.tmp 25) rfl (K.dep 2 25 rfl)
  intro f7 w7 A hb
  replace x0 := A.t x0 rfl
  replace x1 := A.t x1 rfl
  replace x3 := A.t x3 rfl
  replace x6 := A.t x6 rfl
  replace x8 := A.t x8 rfl
  replace x9 := A.t x9 rfl
  replace x20 := A.t x20 rfl
  have x11 : Fk.f (.ob w.heap.size (L)) (f7.eval (.tmp 11)) w7 := A.has 3 11 rfl
  replace m6 := Ob.below m6 hb
  replace m8 := Ob.below m8 hb
  replace m9 := Ob.below m9 hb
  replace bl := bgo bl hb
  replace sd := A.sd sd
  clear A hb
  clear x0
  clear x1
  clear x20
  obtain ⟨v11, e11⟩ : ∃ v, f7.eval (.tmp 11) = v := ⟨_, rfl⟩
  have h11 := ob_bs x11
  rw [e11] at h11
  replace x11 := e11
  clear e11
  show Code.wp _ _ _ _ _
  refine wp_seq ?_
  refine wr_a [.eq (v11), .eq (.bool false), .eq (.bool true), .eq (.bool true)] (by rw [sd.1]; kernel_rfl) ⟨fun hw ac u K => ?_, fun hw ac u K => ?_, fun hw ac u K => ?_, fun hw ac u K => ?_, trivial⟩ ?_
  · exact st_move (.tmp 11) rfl (K.t x11 rfl)
  · exact st_call 54 (.func 54) _ _ _ rfl rfl (arg2 (K.dep 0 26 rfl) rfl) Tryd.enter54 (fk_containsb false hc (Fk.mono _ _ _ _ h11 K.grow) (by omega))
  · exact st_not (.tmp 27) rfl false (K.dep 1 27 rfl)
  · exact st_assign (.tmp 28) rfl (K.dep 2 28 rfl)
  intro f8 w8 A hb
  replace x3 := A.t x3 rfl
  replace x6 := A.t x6 rfl
  replace x8 := A.t x8 rfl
  replace x9 := A.t x9 rfl
  replace x11 := A.t x11 rfl
  have x12 := A.e 3 12 rfl rfl
  replace m6 := Ob.below m6 hb
  replace m8 := Ob.below m8 hb
  replace m9 := Ob.below m9 hb
  replace h11 := Fk.mono _ _ _ _ h11 hb
  replace bl := bgo bl hb
  replace sd := A.sd sd
  clear A hb
  show Code.wp _ _ _ _ _
  refine wp_seq ?_
  refine wr_a [.eq (v11), .eq (.int .i64 (((L).length : Nat) : Int)), .eq (.int .i64 (((L).length : Nat) : Int))] (by rw [sd.1]; kernel_rfl) ⟨fun hw ac u K => ?_, fun hw ac u K => ?_, fun hw ac u K => ?_, trivial⟩ ?_
  · exact st_move (.tmp 11) rfl (K.t x11 rfl)
  · exact st_lenbs (.tmp 29) rfl (fk_val (K.dep 0 29 rfl) (Fk.mono _ _ _ _ h11 K.grow))
  · exact st_assign (.tmp 30) rfl (K.dep 1 30 rfl)
  intro f9 w9 A hb
  replace x3 := A.t x3 rfl
  replace x6 := A.t x6 rfl
  replace x8 := A.t x8 rfl
  replace x9 := A.t x9 rfl
  replace x11 := A.t x11 rfl
  replace x12 := A.t x12 rfl
  have x13 := A.e 2 13 rfl rfl
  replace m6 := Ob.below m6 hb
  replace m8 := Ob.below m8 hb
  replace m9 := Ob.below m9 hb
  replace h11 := Fk.mono _ _ _ _ h11 hb
  replace bl := bgo bl hb
  replace sd := A.sd sd
  clear A hb
  show Code.wp _ _ _ _ _
  refine wp_seq ?_
  refine wp_seq ?_
  refine wr_a [.eq (.bool true), .eq (.bool false)] (by rw [sd.1]; kernel_rfl) ⟨fun hw ac u K => ?_, fun hw ac u K => ?_, trivial⟩ ?_
  · exact st_move (.tmp 12) rfl (K.t x12 rfl)
  · exact st_not (.tmp 31) rfl true (K.dep 0 31 rfl)
  intro f10 w10 A hb
  replace x3 := A.t x3 rfl
  replace x6 := A.t x6 rfl
  replace x8 := A.t x8 rfl
  replace x9 := A.t x9 rfl
  replace x11 := A.t x11 rfl
  replace x12 := A.t x12 rfl
  replace x13 := A.t x13 rfl
  have x32 := A.e 1 32 rfl rfl
  replace m6 := Ob.below m6 hb
  replace m8 := Ob.below m8 hb
  replace m9 := Ob.below m9 hb
  replace h11 := Fk.mono _ _ _ _ h11 hb
  replace bl := bgo bl hb
  replace sd := A.sd sd
  clear A hb
  show Code.wp _ _ _ _ _
  refine wp_cond_false x32 ?_
  refine wp_skip ?_
  show Code.wp _ _ _ _ _
  refine wp_seq ?_
  refine wp_seq ?_
  refine wr_a [.eq (v), .eq (.int .i64 (((P).length : Nat) : Int)), .eq (.int .i64 (((L).length : Nat) : Int)), .eq (.bool false)] (by rw [sd.1]; kernel_rfl) ⟨fun hw ac u K => ?_, fun hw ac u K => ?_, fun hw ac u K => ?_, fun hw ac u K => ?_, trivial⟩ ?_
  · exact st_move (.tmp 3) rfl (K.t x3 rfl)
  · exact st_lenc (.tmp 35) rfl ((P).length) rfl (fk_val (K.dep 0 35 rfl) (Fk.mono _ _ _ _ hv (bgo bl K.grow)))
  · exact st_move (.tmp 13) rfl (K.t x13 rfl)
  · exact st_neqi 3 (.tmp 36) (.tmp 37) rfl .i64 ((((P).length : Nat) : Int)) ((((L).length : Nat) : Int)) (K.dep 1 36 rfl) (K.dep 2 37 rfl) _ (by rw [eq_comm, decide_eq_false_iff_not]; omega)
  intro f11 w11 A hb
  replace x3 := A.t x3 rfl
  replace x6 := A.t x6 rfl
  replace x8 := A.t x8 rfl
  replace x9 := A.t x9 rfl
  replace x11 := A.t x11 rfl
  replace x12 := A.t x12 rfl
  replace x13 := A.t x13 rfl
  replace x32 := A.t x32 rfl
  have x38 := A.e 3 38 rfl rfl
  replace m6 := Ob.below m6 hb
  replace m8 := Ob.below m8 hb
  replace m9 := Ob.below m9 hb
  replace h11 := Fk.mono _ _ _ _ h11 hb
  replace bl := bgo bl hb
  replace sd := A.sd sd
  clear A hb
  clear x13
  clear x32
  show Code.wp _ _ _ _ _
  refine wp_cond_false x38 ?_
  refine wp_skip ?_
  show Code.wp _ _ _ _ _
  refine wp_seq ?_
  refine wp_seq ?_
  refine wr_a [.eq (.bool true)] (by rw [sd.1]; kernel_rfl) ⟨fun hw ac u K => ?_, trivial⟩ ?_
  · exact st_move (.tmp 12) rfl (K.t x12 rfl)
  intro f12 w12 A hb
  replace x3 := A.t x3 rfl
  replace x6 := A.t x6 rfl
  replace x8 := A.t x8 rfl
  replace x9 := A.t x9 rfl
  replace x11 := A.t x11 rfl
  replace x12 := A.t x12 rfl
  replace x38 := A.t x38 rfl
  have x41 := A.e 0 41 rfl rfl
  replace m6 := Ob.below m6 hb
  replace m8 := Ob.below m8 hb
  replace m9 := Ob.below m9 hb
  replace h11 := Fk.mono _ _ _ _ h11 hb
  replace bl := bgo bl hb
  replace sd := A.sd sd
  clear A hb
  clear x12
  clear x38
  show Code.wp _ _ _ _ _
  refine wp_cond_true x41 ?_
  refine wr_s [.eq (.agg ((old).map V).toArray), .eq (v11), .eq (v), .eq (.tuple #[.agg ((xa).map V).toArray, .agg ((xb).map V).toArray]), .eq (.tuple #[.agg ((xa).map V).toArray, .agg ((xb).map V).toArray]), .eq (.agg ((xa).map V).toArray), .eq (.agg ((xb).map V).toArray)] (by rw [sd.1]; kernel_rfl) ⟨fun hw ac u K => ?_, fun hw ac u K => ?_, fun hw ac u K => ?_, fun hw ac u K => ?_, fun hw ac u K => ?_, fun hw ac u K => ?_, fun hw ac u K => ?_, trivial⟩ ?_
  · exact st_load33 (.tmp 6) rfl (g6) (old) (K.t x6 rfl) hold (Ob.below m6 K.grow)
  · exact st_move (.tmp 11) rfl (K.t x11 rfl)
  · exact st_move (.tmp 3) rfl (K.t x3 rfl)
  · exact st_call 55 (.func 55) _ _ _ rfl rfl (arg3 (K.dep 0 43 rfl) (K.dep 1 44 rfl) (K.dep 2 45 rfl)) Tryd.enter55 (fk_of (leadboth_any hold (Fk.mono _ _ _ _ h11 K.grow) (Fk.mono _ _ _ _ hv (bgo bl K.grow)) hLS hRl (by omega) (hK.below (bgo bl K.grow)) hxy))
  · exact st_move (.tmp 46) rfl (K.dep 3 46 rfl)
  · exact st_ext0 (.tmp 42) rfl (K.dep 4 42 rfl) rfl
  · exact st_ext1 (.tmp 42) rfl (K.dep 4 42 rfl) rfl
  intro f13 w13 A hb
  replace x3 := A.t x3 rfl
  replace x6 := A.t x6 rfl
  replace x8 := A.t x8 rfl
  replace x9 := A.t x9 rfl
  replace x11 := A.t x11 rfl
  replace x41 := A.t x41 rfl
  have x47 := A.e 5 47 rfl rfl
  have x48 := A.e 6 48 rfl rfl
  replace m6 := Ob.below m6 hb
  replace m8 := Ob.below m8 hb
  replace m9 := Ob.below m9 hb
  replace h11 := Fk.mono _ _ _ _ h11 hb
  replace bl := bgo bl hb
  replace sd := A.sd sd
  clear A hb
  clear x3
  clear x6
  clear x11
  clear x41
  clear h11
  refine wl_store rfl (.tmp 8) (.tmp 47) rfl rfl (g8) (xa) (hz) x8 x47 m8 hz_len hxa ?_
  replace m6 : Ob (w13.setRow g8 ((xa).map V : List Value).toArray) (g6) 33 ((old).map V) := Ob.setRow_other m6 _ nm6_8
  replace m8 : Ob (w13.setRow g8 ((xa).map V : List Value).toArray) (g8) 33 ((xa).map V) := Ob.setRow m8 ((xa).map V)
  replace m9 : Ob (w13.setRow g8 ((xa).map V : List Value).toArray) (g9) 33 ((hz).map V) := Ob.setRow_other m9 _ nm8_9.symm
  replace bl : Below w.heap.size w (w13.setRow g8 ((xa).map V : List Value).toArray) := bl.trans (below_setRow _ _ _ _ hw8)
  generalize w13.setRow g8 ((xa).map V : List Value).toArray = w14b at bl m6 m8 m9 ⊢
  clear x47
  refine wl_store rfl (.tmp 9) (.tmp 48) rfl rfl (g9) (xb) (hz) x9 x48 m9 hz_len hxb ?_
  replace m6 : Ob (w14b.setRow g9 ((xb).map V : List Value).toArray) (g6) 33 ((old).map V) := Ob.setRow_other m6 _ nm6_9
  replace m8 : Ob (w14b.setRow g9 ((xb).map V : List Value).toArray) (g8) 33 ((xa).map V) := Ob.setRow_other m8 _ nm8_9
  replace m9 : Ob (w14b.setRow g9 ((xb).map V : List Value).toArray) (g9) 33 ((xb).map V) := Ob.setRow m9 ((xb).map V)
  replace bl : Below w.heap.size w (w14b.setRow g9 ((xb).map V : List Value).toArray) := bl.trans (below_setRow _ _ _ _ hw9)
  generalize w14b.setRow g9 ((xb).map V : List Value).toArray = w15b at bl m6 m8 m9 ⊢
  refine wpList_nil ?_
  clear x48
  clear m6
  show Code.wp _ _ _ _ _
  refine wp_seq ?_
  refine wp_region_held_drew (S := fun W => Ob (W) g8 33 ((xa).map V) ∧ Ob (W) g9 33 ((xb).map V)) Tryd.mixed ⟨m8, m9⟩ (fun hS0 => ?_)
  replace bl := bl.drew
  clear bl0 m8 m9
  generalize w15b.drew = w16 at hS0  bl ⊢
  refine wh_take 0 59 (v := .agg ((xa).map V).toArray) rfl rfl (by rw [sd.1]; decide) rfl (by kernel_rfl) (by kernel_rfl) (by kernel_rfl) (fun _ _ _ h => h) (run_ldh rfl hxa x8 (fun W hW => Ob.range hW.1 0 _ (fun j v hj => by simpa using hj))) hS0 ?_
  intro f17 df2 sz2 old2 new2
  replace x8 := tr old2 x8 rfl
  replace x9 := tr old2 x9 rfl
  have x59 := new2
  replace sd := sd2 sz2 df2 sd
  clear df2 sz2 old2 new2
  refine wh_take 1 60 (v := .agg ((xb).map V).toArray) rfl rfl (by rw [sd.1]; decide) rfl (by kernel_rfl) (by kernel_rfl) (by kernel_rfl) (fun _ _ _ h => h) (run_ldh rfl hxb x9 (fun W hW => Ob.range hW.2 0 _ (fun j v hj => by simpa using hj))) hS0 ?_
  intro f18 df2 sz2 old2 new2
  replace x8 := tr old2 x8 rfl
  replace x9 := tr old2 x9 rfl
  replace x59 := tr old2 x59 rfl
  have x60 := new2
  replace sd := sd2 sz2 df2 sd
  clear df2 sz2 old2 new2
  have hS1 : Ob (w16.setRow g8 ((xa).map V : List Value).toArray) g8 33 ((xa).map V) ∧ Ob (w16.setRow g8 ((xa).map V : List Value).toArray) g9 33 ((xb).map V) := ⟨Ob.setRow hS0.1 ((xa).map V), Ob.setRow_other hS0.2 _ nm8_9.symm⟩
  refine wh_store 2 rfl rfl rfl (by kernel_rfl) (.tmp 8) (.tmp 59) rfl g8 (xa) (xa) x8 x59 hS0.1 hxa hxa hS1 ?_
  replace bl : Below w.heap.size w (w16.setRow g8 ((xa).map V : List Value).toArray) := bl.trans (below_setRow _ _ _ _ hw8)
  replace hS0 := hS1
  clear hS1
  generalize w16.setRow g8 ((xa).map V : List Value).toArray = w19 at hS0  bl ⊢
  have hS1 : Ob (w19.setRow g9 ((xb).map V : List Value).toArray) g8 33 ((xa).map V) ∧ Ob (w19.setRow g9 ((xb).map V : List Value).toArray) g9 33 ((xb).map V) := ⟨Ob.setRow_other hS0.1 _ nm8_9, Ob.setRow hS0.2 ((xb).map V)⟩
  refine wh_store 3 rfl rfl rfl (by kernel_rfl) (.tmp 9) (.tmp 60) rfl g9 (xb) (xb) x9 x60 hS0.2 hxb hxb hS1 ?_
  replace bl : Below w.heap.size w (w19.setRow g9 ((xb).map V : List Value).toArray) := bl.trans (below_setRow _ _ _ _ hw9)
  replace hS0 := hS1
  clear hS1
  generalize w19.setRow g9 ((xb).map V : List Value).toArray = w20 at hS0  bl ⊢
  refine wh_assign 4 10 rfl rfl (by rw [sd.1]; decide) rfl (by kernel_rfl) (.const (.int .i64 0)) rfl hS0 ?_
  intro f21 df2 sz2 old2 new2
  replace x8 := tr old2 x8 rfl
  replace x9 := tr old2 x9 rfl
  replace x59 := tr old2 x59 rfl
  replace x60 := tr old2 x60 rfl
  have x10 : f21.eval (.tmp 10) = .int .i64 0 := new2
  replace sd := sd2 sz2 df2 sd
  clear df2 sz2 old2 new2
  refine wpAnyH_done (by kernel_rfl) ?_ _
  have m8 := hS0.1
  have m9 := hS0.2
  have bl0 := bl
  clear hS0
  clear x59
  clear x60
  show Code.wp _ _ _ _ _
  refine wp_ret ?_
  repeat (first | with_reducible refine then_ret ?_ | with_reducible refine block_ret ?_)
  exact bodyPost_ret (v := .tuple #[.agg ((xa).map V).toArray, .agg ((xb).map V).toArray, .int .i64 0]) (ret_hhi rfl f21 _ g8 g9 (xa) (xb) (.int .i64 0) hxa hxb x8 x9 m8 m9 x10) sd.2 ⟨_, rfl, rfl, bl⟩
theorem pboth_bad1 {old : List (BitVec 8)} (_hold : old.length = 32) {m n : Int} (h1 : 0 ≤ m) (h2 : m ≤ n) {L S : List Bool} {c : Bool} (ht : ∀ w : World, Calls Tryd.prog 53 #[.int .i64 m, .int .i64 n] w fun e w' => ∃ u, e = .returned u ∧ (Fk.ob w.heap.size L).f u w' ∧ Below w.heap.size w w') (hcc : (L.any fun y => false == y) = c) (hLS : L = S.map (!·)) (hS60 : S.length ≤ 60) (hc0 : c = true) {P : List (List (BitVec 8))} {v : Value} {w : World} (hv : (Fk.hc P).f v w) (_hP : P.length ≤ 100000) (_hK : Tab w) (hl : P.length ≠ S.length + 1) :
    Calls Tryd.prog 38 #[.int .i64 m, .int .i64 n, .agg ((old).map V).toArray, v] w fun e w' => ∃ u, e = .returned u ∧ (Fk.eq (.tuple #[.agg ((hz).map V).toArray, .agg ((hz).map V).toArray, .int .i64 22])).f u w' ∧ Below w.heap.size w w' := by
  have hvs := hc_hs hv
  have hLl : L.length = S.length := by rw [hLS, List.length_map]
  have hc : (L.any fun y => false == y) = true := by rw [hcc, hc0]
  go_enter Tryd.func38, Tryd.ntmps38
  refine code_both (fun f w1 => f.tmps.size = 61 ∧ f.defers = [] ∧ f.eval (.tmp 0) = .int .i64 (m) ∧ f.eval (.tmp 1) = .int .i64 (n) ∧ f.eval (.tmp 2) = .agg ((old).map V).toArray ∧ f.eval (.tmp 3) = v ∧ Below w.heap.size w (w1)) ⟨rfl, rfl, rfl, rfl, rfl, rfl, Below.refl _ _⟩ ?_
  rintro f0 w0 ⟨sz, df, x0, x1, x2, x3, bl⟩
  have sd := And.intro sz df
  clear sz df
  have bl0 := bl
  refine wp_seq ?_
  refine wr_s [] (by rw [sd.1]; kernel_rfl) trivial ?_
  intro f1 w1 A hb
  replace x0 := A.t x0 rfl
  replace x1 := A.t x1 rfl
  replace x2 := A.t x2 rfl
  replace x3 := A.t x3 rfl
  replace bl := bgo bl hb
  replace sd := A.sd sd
  clear A hb
  refine wl_one (.nw w1.heap.size 33 ((old).map V)) rfl 6 rfl (by rw [sd.1]; decide) (st_box 33 (.tmp 2) rfl _ _ (by rw [show _ = _ from x2]; kernel_rfl) (Nat.le_refl _)) ?_
  intro f2 w2 df2 sz2 old2 new2 hb
  replace bl0 := bl
  replace x0 := tr old2 x0 rfl
  replace x1 := tr old2 x1 rfl
  replace x2 := tr old2 x2 rfl
  replace x3 := tr old2 x3 rfl
  have x6 : Fk.f (.nw w1.heap.size 33 ((old).map V)) (f2.eval (.tmp 6)) w2 := new2
  replace bl := bgo bl hb
  replace sd := sd2 sz2 df2 sd
  clear df2 sz2 old2 new2 hb
  obtain ⟨g6, hg6, e6, m6⟩ := x6
  have x6 := e6
  clear e6
  have hw6 : w.heap.size ≤ g6 := Nat.le_trans bl0.size hg6
  clear x2
  refine wl_one (.nw w2.heap.size 33 ((hz).map V)) rfl 8 rfl (by rw [sd.1]; decide) (st_alloc33 rfl _ (Nat.le_refl _)) ?_
  intro f3 w3 df2 sz2 old2 new2 hb
  replace bl0 := bl
  replace x0 := tr old2 x0 rfl
  replace x1 := tr old2 x1 rfl
  replace x3 := tr old2 x3 rfl
  replace x6 := tr old2 x6 rfl
  have x8 : Fk.f (.nw w2.heap.size 33 ((hz).map V)) (f3.eval (.tmp 8)) w3 := new2
  have lt_m6 := Ob.lt m6
  replace m6 := Ob.below m6 hb
  replace bl := bgo bl hb
  replace sd := sd2 sz2 df2 sd
  clear df2 sz2 old2 new2 hb
  obtain ⟨g8, hg8, e8, m8⟩ := x8
  have x8 := e8
  clear e8
  have nm6_8 : g6 ≠ g8 := Nat.ne_of_lt (Nat.lt_of_lt_of_le lt_m6 hg8)
  have hw8 : w.heap.size ≤ g8 := Nat.le_trans bl0.size hg8
  refine wl_one (.nw w3.heap.size 33 ((hz).map V)) rfl 9 rfl (by rw [sd.1]; decide) (st_alloc33 rfl _ (Nat.le_refl _)) ?_
  intro f4 w4 df2 sz2 old2 new2 hb
  replace bl0 := bl
  replace x0 := tr old2 x0 rfl
  replace x1 := tr old2 x1 rfl
  replace x3 := tr old2 x3 rfl
  replace x6 := tr old2 x6 rfl
  replace x8 := tr old2 x8 rfl
  have x9 : Fk.f (.nw w3.heap.size 33 ((hz).map V)) (f4.eval (.tmp 9)) w4 := new2
  have lt_m6 := Ob.lt m6
  replace m6 := Ob.below m6 hb
  have lt_m8 := Ob.lt m8
  replace m8 := Ob.below m8 hb
  replace bl := bgo bl hb
  replace sd := sd2 sz2 df2 sd
  clear df2 sz2 old2 new2 hb
  obtain ⟨g9, hg9, e9, m9⟩ := x9
  have x9 := e9
  clear e9
  have nm6_9 : g6 ≠ g9 := Nat.ne_of_lt (Nat.lt_of_lt_of_le lt_m6 hg9)
  have nm8_9 : g8 ≠ g9 := Nat.ne_of_lt (Nat.lt_of_lt_of_le lt_m8 hg9)
  have hw9 : w.heap.size ≤ g9 := Nat.le_trans bl0.size hg9
  refine wl_one (.eq (.int .i64 0)) rfl 10 rfl (by rw [sd.1]; decide) (st_assign (.const (.int .i64 0)) rfl rfl) ?_
  intro f5 w5 df2 sz2 old2 new2 hb
  replace x0 := tr old2 x0 rfl
  replace x1 := tr old2 x1 rfl
  replace x3 := tr old2 x3 rfl
  replace x6 := tr old2 x6 rfl
  replace x8 := tr old2 x8 rfl
  replace x9 := tr old2 x9 rfl
  have x10 := Fk.e new2
  replace m6 := Ob.below m6 hb
  replace m8 := Ob.below m8 hb
  replace m9 := Ob.below m9 hb
  replace bl := bgo bl hb
  replace sd := sd2 sz2 df2 sd
  clear df2 sz2 old2 new2 hb
  refine wpList_nil ?_
  clear x10
  show Code.wp _ _ _ _ _
  refine wp_seq ?_
  refine wp_seq ?_
  refine wr_a [.eq (.int .i64 (m)), .eq (.bool false), .eq (.bool false), .eq (.int .i64 (m)), .eq (.int .i64 (n)), .eq (.bool false), .eq (.bool false)] (by rw [sd.1]; kernel_rfl) ⟨fun hw ac u K => ?_, fun hw ac u K => ?_, fun hw ac u K => ?_, fun hw ac u K => ?_, fun hw ac u K => ?_, fun hw ac u K => ?_, fun hw ac u K => ?_, trivial⟩ ?_
  · exact st_move (.tmp 0) rfl (K.t x0 rfl)
  · exact st_lss 3 (.tmp 14) (.const (.int .i64 0)) rfl .i64 ((m)) (0) (K.dep 0 14 rfl) rfl _ (by rw [eq_comm, decide_eq_false_iff_not]; omega)
  · exact st_move (.tmp 15) rfl (K.dep 1 15 rfl)
  · exact st_move (.tmp 0) rfl (K.t x0 rfl)
  · exact st_move (.tmp 1) rfl (K.t x1 rfl)
  · exact st_gtr 3 (.tmp 17) (.tmp 18) rfl .i64 ((m)) ((n)) (K.dep 3 17 rfl) (K.dep 4 18 rfl) _ (by rw [eq_comm, decide_eq_false_iff_not]; omega)
  · exact st_pick_f' (.tmp 16) (.const (.bool true)) (.tmp 19) rfl (K.dep 2 16 rfl) (K.dep 5 19 rfl)
  intro f6 w6 A hb
  replace x0 := A.t x0 rfl
  replace x1 := A.t x1 rfl
  replace x3 := A.t x3 rfl
  replace x6 := A.t x6 rfl
  replace x8 := A.t x8 rfl
  replace x9 := A.t x9 rfl
  have x20 := A.e 6 20 rfl rfl
  replace m6 := Ob.below m6 hb
  replace m8 := Ob.below m8 hb
  replace m9 := Ob.below m9 hb
  replace bl := bgo bl hb
  replace sd := A.sd sd
  clear A hb
  show Code.wp _ _ _ _ _
  refine wp_cond_false x20 ?_
  refine wp_skip ?_
  show Code.wp _ _ _ _ _
  refine wp_seq ?_
  refine wr_a [.eq (.int .i64 (m)), .eq (.int .i64 (n)), .ob w.heap.size (L), .ob w.heap.size (L)] (by rw [sd.1]; kernel_rfl) ⟨fun hw ac u K => ?_, fun hw ac u K => ?_, fun hw ac u K => ?_, fun hw ac u K => ?_, trivial⟩ ?_
  · exact st_move (.tmp 0) rfl (K.t x0 rfl)
  · exact st_move (.tmp 1) rfl (K.t x1 rfl)
  · exact st_call 53 (.func 53) _ _ _ rfl rfl (arg2 (K.dep 0 23 rfl) (K.dep 1 24 rfl)) Tryd.enter53 (fk_orw (bgo bl K.grow).size (ht _))
  · exact st_assign (.tmp 25) rfl (K.dep 2 25 rfl)
  intro f7 w7 A hb
  replace x0 := A.t x0 rfl
  replace x1 := A.t x1 rfl
  replace x3 := A.t x3 rfl
  replace x6 := A.t x6 rfl
  replace x8 := A.t x8 rfl
  replace x9 := A.t x9 rfl
  replace x20 := A.t x20 rfl
  have x11 : Fk.f (.ob w.heap.size (L)) (f7.eval (.tmp 11)) w7 := A.has 3 11 rfl
  replace m6 := Ob.below m6 hb
  replace m8 := Ob.below m8 hb
  replace m9 := Ob.below m9 hb
  replace bl := bgo bl hb
  replace sd := A.sd sd
  clear A hb
  clear x0
  clear x1
  clear x20
  obtain ⟨v11, e11⟩ : ∃ v, f7.eval (.tmp 11) = v := ⟨_, rfl⟩
  have h11 := ob_bs x11
  rw [e11] at h11
  replace x11 := e11
  clear e11
  show Code.wp _ _ _ _ _
  refine wp_seq ?_
  refine wr_a [.eq (v11), .eq (.bool true), .eq (.bool false), .eq (.bool false)] (by rw [sd.1]; kernel_rfl) ⟨fun hw ac u K => ?_, fun hw ac u K => ?_, fun hw ac u K => ?_, fun hw ac u K => ?_, trivial⟩ ?_
  · exact st_move (.tmp 11) rfl (K.t x11 rfl)
  · exact st_call 54 (.func 54) _ _ _ rfl rfl (arg2 (K.dep 0 26 rfl) rfl) Tryd.enter54 (fk_containsb false hc (Fk.mono _ _ _ _ h11 K.grow) (by omega))
  · exact st_not (.tmp 27) rfl true (K.dep 1 27 rfl)
  · exact st_assign (.tmp 28) rfl (K.dep 2 28 rfl)
  intro f8 w8 A hb
  replace x3 := A.t x3 rfl
  replace x6 := A.t x6 rfl
  replace x8 := A.t x8 rfl
  replace x9 := A.t x9 rfl
  replace x11 := A.t x11 rfl
  have x12 := A.e 3 12 rfl rfl
  replace m6 := Ob.below m6 hb
  replace m8 := Ob.below m8 hb
  replace m9 := Ob.below m9 hb
  replace h11 := Fk.mono _ _ _ _ h11 hb
  replace bl := bgo bl hb
  replace sd := A.sd sd
  clear A hb
  show Code.wp _ _ _ _ _
  refine wp_seq ?_
  refine wr_a [.eq (v11), .eq (.int .i64 (((L).length : Nat) : Int)), .eq (.int .i64 (((L).length : Nat) : Int))] (by rw [sd.1]; kernel_rfl) ⟨fun hw ac u K => ?_, fun hw ac u K => ?_, fun hw ac u K => ?_, trivial⟩ ?_
  · exact st_move (.tmp 11) rfl (K.t x11 rfl)
  · exact st_lenbs (.tmp 29) rfl (fk_val (K.dep 0 29 rfl) (Fk.mono _ _ _ _ h11 K.grow))
  · exact st_assign (.tmp 30) rfl (K.dep 1 30 rfl)
  intro f9 w9 A hb
  replace x3 := A.t x3 rfl
  replace x6 := A.t x6 rfl
  replace x8 := A.t x8 rfl
  replace x9 := A.t x9 rfl
  replace x11 := A.t x11 rfl
  replace x12 := A.t x12 rfl
  have x13 := A.e 2 13 rfl rfl
  replace m6 := Ob.below m6 hb
  replace m8 := Ob.below m8 hb
  replace m9 := Ob.below m9 hb
  replace h11 := Fk.mono _ _ _ _ h11 hb
  replace bl := bgo bl hb
  replace sd := A.sd sd
  clear A hb
  show Code.wp _ _ _ _ _
  refine wp_seq ?_
  refine wp_seq ?_
  refine wr_a [.eq (.bool false), .eq (.bool true)] (by rw [sd.1]; kernel_rfl) ⟨fun hw ac u K => ?_, fun hw ac u K => ?_, trivial⟩ ?_
  · exact st_move (.tmp 12) rfl (K.t x12 rfl)
  · exact st_not (.tmp 31) rfl false (K.dep 0 31 rfl)
  intro f10 w10 A hb
  replace x3 := A.t x3 rfl
  replace x6 := A.t x6 rfl
  replace x8 := A.t x8 rfl
  replace x9 := A.t x9 rfl
  replace x11 := A.t x11 rfl
  replace x12 := A.t x12 rfl
  replace x13 := A.t x13 rfl
  have x32 := A.e 1 32 rfl rfl
  replace m6 := Ob.below m6 hb
  replace m8 := Ob.below m8 hb
  replace m9 := Ob.below m9 hb
  replace h11 := Fk.mono _ _ _ _ h11 hb
  replace bl := bgo bl hb
  replace sd := A.sd sd
  clear A hb
  show Code.wp _ _ _ _ _
  refine wp_cond_true x32 ?_
  refine wr_s [.eq (.int .i64 (((L).length : Nat) : Int)), .eq (.int .i64 (((L).length + 1 : Nat) : Int))] (by rw [sd.1]; kernel_rfl) ⟨fun hw ac u K => ?_, fun hw ac u K => ?_, trivial⟩ ?_
  · exact st_move (.tmp 13) rfl (K.t x13 rfl)
  · exact st_addz (.tmp 33) (.const (.int .i64 1)) rfl _ 1 _ (K.dep 0 33 rfl) rfl (by omega) (by omega) (by omega)
  intro f11 w11 A hb
  replace x3 := A.t x3 rfl
  replace x6 := A.t x6 rfl
  replace x8 := A.t x8 rfl
  replace x9 := A.t x9 rfl
  replace x11 := A.t x11 rfl
  replace x12 := A.t x12 rfl
  replace x13 := A.t x13 rfl
  replace x32 := A.t x32 rfl
  have x34 := A.e 1 34 rfl rfl
  replace m6 := Ob.below m6 hb
  replace m8 := Ob.below m8 hb
  replace m9 := Ob.below m9 hb
  replace h11 := Fk.mono _ _ _ _ h11 hb
  replace bl := bgo bl hb
  replace sd := A.sd sd
  clear A hb
  clear x32
  refine wl_one (.eq (.int .i64 (((L).length + 1 : Nat) : Int))) rfl 13 rfl (by rw [sd.1]; decide) (st_assign (.tmp 34) rfl x34) ?_
  intro f12 w12 df2 sz2 old2 new2 hb
  replace x3 := tr old2 x3 rfl
  replace x6 := tr old2 x6 rfl
  replace x8 := tr old2 x8 rfl
  replace x9 := tr old2 x9 rfl
  replace x11 := tr old2 x11 rfl
  replace x12 := tr old2 x12 rfl
  clear x13
  replace x34 := tr old2 x34 rfl
  have x13 := Fk.e new2
  replace m6 := Ob.below m6 hb
  replace m8 := Ob.below m8 hb
  replace m9 := Ob.below m9 hb
  replace h11 := Fk.mono _ _ _ _ h11 hb
  replace bl := bgo bl hb
  replace sd := sd2 sz2 df2 sd
  clear df2 sz2 old2 new2 hb
  refine wpList_nil ?_
  clear x34
  show Code.wp _ _ _ _ _
  refine wp_seq ?_
  refine wp_seq ?_
  refine wr_a [.eq (v), .eq (.int .i64 (((P).length : Nat) : Int)), .eq (.int .i64 (((L).length + 1 : Nat) : Int)), .eq (.bool true)] (by rw [sd.1]; kernel_rfl) ⟨fun hw ac u K => ?_, fun hw ac u K => ?_, fun hw ac u K => ?_, fun hw ac u K => ?_, trivial⟩ ?_
  · exact st_move (.tmp 3) rfl (K.t x3 rfl)
  · exact st_lenc (.tmp 35) rfl ((P).length) rfl (fk_val (K.dep 0 35 rfl) (Fk.mono _ _ _ _ hv (bgo bl K.grow)))
  · exact st_move (.tmp 13) rfl (K.t x13 rfl)
  · exact st_neqi 3 (.tmp 36) (.tmp 37) rfl .i64 ((((P).length : Nat) : Int)) ((((L).length + 1 : Nat) : Int)) (K.dep 1 36 rfl) (K.dep 2 37 rfl) _ (by rw [eq_comm, decide_eq_true_iff]; omega)
  intro f13 w13 A hb
  replace x3 := A.t x3 rfl
  replace x6 := A.t x6 rfl
  replace x8 := A.t x8 rfl
  replace x9 := A.t x9 rfl
  replace x11 := A.t x11 rfl
  replace x12 := A.t x12 rfl
  replace x13 := A.t x13 rfl
  have x38 := A.e 3 38 rfl rfl
  replace m6 := Ob.below m6 hb
  replace m8 := Ob.below m8 hb
  replace m9 := Ob.below m9 hb
  replace h11 := Fk.mono _ _ _ _ h11 hb
  replace bl := bgo bl hb
  replace sd := A.sd sd
  clear A hb
  clear x13
  show Code.wp _ _ _ _ _
  refine wp_cond_true x38 ?_
  refine wp_seq ?_
  clear h11
  refine wr_s [.eq (.agg ((hz).map V).toArray), .eq (.agg ((hz).map V).toArray)] (by rw [sd.1]; kernel_rfl) ⟨fun hw ac u K => ?_, fun hw ac u K => ?_, trivial⟩ ?_
  · exact st_zero33 rfl
  · exact st_zero33 rfl
  intro f14 w14 A hb
  replace x3 := A.t x3 rfl
  replace x6 := A.t x6 rfl
  replace x8 := A.t x8 rfl
  replace x9 := A.t x9 rfl
  replace x11 := A.t x11 rfl
  replace x12 := A.t x12 rfl
  replace x38 := A.t x38 rfl
  have x39 := A.e 0 39 rfl rfl
  have x40 := A.e 1 40 rfl rfl
  replace m6 := Ob.below m6 hb
  replace m8 := Ob.below m8 hb
  replace m9 := Ob.below m9 hb
  replace bl := bgo bl hb
  replace sd := A.sd sd
  clear A hb
  clear x3
  clear x6
  clear x11
  clear x12
  clear x38
  refine wl_store rfl (.tmp 8) (.tmp 39) rfl rfl (g8) (hz) (hz) x8 x39 m8 hz_len hz_len ?_
  replace m6 : Ob (w14.setRow g8 ((hz).map V : List Value).toArray) (g6) 33 ((old).map V) := Ob.setRow_other m6 _ nm6_8
  replace m8 : Ob (w14.setRow g8 ((hz).map V : List Value).toArray) (g8) 33 ((hz).map V) := Ob.setRow m8 ((hz).map V)
  replace m9 : Ob (w14.setRow g8 ((hz).map V : List Value).toArray) (g9) 33 ((hz).map V) := Ob.setRow_other m9 _ nm8_9.symm
  replace bl : Below w.heap.size w (w14.setRow g8 ((hz).map V : List Value).toArray) := bl.trans (below_setRow _ _ _ _ hw8)
  generalize w14.setRow g8 ((hz).map V : List Value).toArray = w15b at bl m6 m8 m9 ⊢
  clear x39
  refine wl_store rfl (.tmp 9) (.tmp 40) rfl rfl (g9) (hz) (hz) x9 x40 m9 hz_len hz_len ?_
  replace m6 : Ob (w15b.setRow g9 ((hz).map V : List Value).toArray) (g6) 33 ((old).map V) := Ob.setRow_other m6 _ nm6_9
  replace m8 : Ob (w15b.setRow g9 ((hz).map V : List Value).toArray) (g8) 33 ((hz).map V) := Ob.setRow_other m8 _ nm8_9
  replace m9 : Ob (w15b.setRow g9 ((hz).map V : List Value).toArray) (g9) 33 ((hz).map V) := Ob.setRow m9 ((hz).map V)
  replace bl : Below w.heap.size w (w15b.setRow g9 ((hz).map V : List Value).toArray) := bl.trans (below_setRow _ _ _ _ hw9)
  generalize w15b.setRow g9 ((hz).map V : List Value).toArray = w16b at bl m6 m8 m9 ⊢
  clear x40
  refine wl_one (.eq (.int .i64 22)) rfl 10 rfl (by rw [sd.1]; decide) (st_assign (.const (.int .i64 22)) rfl rfl) ?_
  intro f17 w17 df2 sz2 old2 new2 hb
  replace x8 := tr old2 x8 rfl
  replace x9 := tr old2 x9 rfl
  have x10 := Fk.e new2
  replace m6 := Ob.below m6 hb
  replace m8 := Ob.below m8 hb
  replace m9 := Ob.below m9 hb
  replace bl := bgo bl hb
  replace sd := sd2 sz2 df2 sd
  clear df2 sz2 old2 new2 hb
  refine wpList_nil ?_
  clear m6
  show Code.wp _ _ _ _ _
  refine wp_ret ?_
  repeat (first | with_reducible refine then_ret ?_ | with_reducible refine block_ret ?_)
  exact bodyPost_ret (v := .tuple #[.agg ((hz).map V).toArray, .agg ((hz).map V).toArray, .int .i64 22]) (ret_hhi rfl f17 _ g8 g9 (hz) (hz) (.int .i64 22) hz_len hz_len x8 x9 m8 m9 x10) sd.2 ⟨_, rfl, rfl, bl⟩
set_option maxHeartbeats 1000000 in
theorem pboth_ok1 {old : List (BitVec 8)} (_hold : old.length = 32) {m n : Int} (h1 : 0 ≤ m) (h2 : m ≤ n) {L S : List Bool} {c : Bool} (ht : ∀ w : World, Calls Tryd.prog 53 #[.int .i64 m, .int .i64 n] w fun e w' => ∃ u, e = .returned u ∧ (Fk.ob w.heap.size L).f u w' ∧ Below w.heap.size w w') (hcc : (L.any fun y => false == y) = c) (hLS : L = S.map (!·)) (hS60 : S.length ≤ 60) (hc0 : c = true) {P : List (List (BitVec 8))} {v : Value} {w : World} (hv : (Fk.hc P).f v w) (_hP : P.length ≤ 100000) (hK : Tab w) (hl : P.length = S.length + 1) {xa xb : List (BitVec 8)} (hxy0 : bth (P.getD 0 []) (P.drop 1) S = (xa, xb)) :
    Calls Tryd.prog 38 #[.int .i64 m, .int .i64 n, .agg ((old).map V).toArray, v] w fun e w' => ∃ u, e = .returned u ∧ (Fk.eq (.tuple #[.agg ((xa).map V).toArray, .agg ((xb).map V).toArray, .int .i64 0])).f u w' ∧ Below w.heap.size w w' := by
  have hvs := hc_hs hv
  have hLl : L.length = S.length := by rw [hLS, List.length_map]
  have hc : (L.any fun y => false == y) = true := by rw [hcc, hc0]
  obtain ⟨p, hp0⟩ : ∃ p, P[0]? = some p := ⟨_, List.getElem?_eq_getElem (by omega)⟩
  have hp : p.length = 32 := hc_len hv p (List.mem_of_getElem? hp0)
  have hRl : (P.drop 1).length = S.length := by rw [List.length_drop]; omega
  have hxy : bth p (P.drop 1) S = (xa, xb) := by rw [← hxy0, List.getD_eq_getElem?_getD, hp0]; rfl
  have hxa : xa.length = 32 := by have := (bk_len hp (P.drop 1) S S.length).1; rw [bk_all p hRl, hxy] at this; exact this
  have hxb : xb.length = 32 := by have := (bk_len hp (P.drop 1) S S.length).2; rw [bk_all p hRl, hxy] at this; exact this
  go_enter Tryd.func38, Tryd.ntmps38
  refine code_both (fun f w1 => f.tmps.size = 61 ∧ f.defers = [] ∧ f.eval (.tmp 0) = .int .i64 (m) ∧ f.eval (.tmp 1) = .int .i64 (n) ∧ f.eval (.tmp 2) = .agg ((old).map V).toArray ∧ f.eval (.tmp 3) = v ∧ Below w.heap.size w (w1)) ⟨rfl, rfl, rfl, rfl, rfl, rfl, Below.refl _ _⟩ ?_
  rintro f0 w0 ⟨sz, df, x0, x1, x2, x3, bl⟩
  have sd := And.intro sz df
  clear sz df
  have bl0 := bl
  refine wp_seq ?_
  refine wr_s [] (by rw [sd.1]; kernel_rfl) trivial ?_
  intro f1 w1 A hb
  replace x0 := A.t x0 rfl
  replace x1 := A.t x1 rfl
  replace x2 := A.t x2 rfl
  replace x3 := A.t x3 rfl
  replace bl := bgo bl hb
  replace sd := A.sd sd
  clear A hb
  refine wl_one (.nw w1.heap.size 33 ((old).map V)) rfl 6 rfl (by rw [sd.1]; decide) (st_box 33 (.tmp 2) rfl _ _ (by rw [show _ = _ from x2]; kernel_rfl) (Nat.le_refl _)) ?_
  intro f2 w2 df2 sz2 old2 new2 hb
  replace bl0 := bl
  replace x0 := tr old2 x0 rfl
  replace x1 := tr old2 x1 rfl
  replace x2 := tr old2 x2 rfl
  replace x3 := tr old2 x3 rfl
  have x6 : Fk.f (.nw w1.heap.size 33 ((old).map V)) (f2.eval (.tmp 6)) w2 := new2
  replace bl := bgo bl hb
  replace sd := sd2 sz2 df2 sd
  clear df2 sz2 old2 new2 hb
  obtain ⟨g6, hg6, e6, m6⟩ := x6
  have x6 := e6
  clear e6
  have hw6 : w.heap.size ≤ g6 := Nat.le_trans bl0.size hg6
  clear x2
  refine wl_one (.nw w2.heap.size 33 ((hz).map V)) rfl 8 rfl (by rw [sd.1]; decide) (st_alloc33 rfl _ (Nat.le_refl _)) ?_
  intro f3 w3 df2 sz2 old2 new2 hb
  replace bl0 := bl
  replace x0 := tr old2 x0 rfl
  replace x1 := tr old2 x1 rfl
  replace x3 := tr old2 x3 rfl
  replace x6 := tr old2 x6 rfl
  have x8 : Fk.f (.nw w2.heap.size 33 ((hz).map V)) (f3.eval (.tmp 8)) w3 := new2
  have lt_m6 := Ob.lt m6
  replace m6 := Ob.below m6 hb
  replace bl := bgo bl hb
  replace sd := sd2 sz2 df2 sd
  clear df2 sz2 old2 new2 hb
  obtain ⟨g8, hg8, e8, m8⟩ := x8
  have x8 := e8
  clear e8
  have nm6_8 : g6 ≠ g8 := Nat.ne_of_lt (Nat.lt_of_lt_of_le lt_m6 hg8)
  have hw8 : w.heap.size ≤ g8 := Nat.le_trans bl0.size hg8
  refine wl_one (.nw w3.heap.size 33 ((hz).map V)) rfl 9 rfl (by rw [sd.1]; decide) (st_alloc33 rfl _ (Nat.le_refl _)) ?_
  intro f4 w4 df2 sz2 old2 new2 hb
  replace bl0 := bl
  replace x0 := tr old2 x0 rfl
  replace x1 := tr old2 x1 rfl
  replace x3 := tr old2 x3 rfl
  replace x6 := tr old2 x6 rfl
  replace x8 := tr old2 x8 rfl
  have x9 : Fk.f (.nw w3.heap.size 33 ((hz).map V)) (f4.eval (.tmp 9)) w4 := new2
  have lt_m6 := Ob.lt m6
  replace m6 := Ob.below m6 hb
  have lt_m8 := Ob.lt m8
  replace m8 := Ob.below m8 hb
  replace bl := bgo bl hb
  replace sd := sd2 sz2 df2 sd
  clear df2 sz2 old2 new2 hb
  obtain ⟨g9, hg9, e9, m9⟩ := x9
  have x9 := e9
  clear e9
  have nm6_9 : g6 ≠ g9 := Nat.ne_of_lt (Nat.lt_of_lt_of_le lt_m6 hg9)
  have nm8_9 : g8 ≠ g9 := Nat.ne_of_lt (Nat.lt_of_lt_of_le lt_m8 hg9)
  have hw9 : w.heap.size ≤ g9 := Nat.le_trans bl0.size hg9
  refine wl_one (.eq (.int .i64 0)) rfl 10 rfl (by rw [sd.1]; decide) (st_assign (.const (.int .i64 0)) rfl rfl) ?_
  intro f5 w5 df2 sz2 old2 new2 hb
  replace x0 := tr old2 x0 rfl
  replace x1 := tr old2 x1 rfl
  replace x3 := tr old2 x3 rfl
  replace x6 := tr old2 x6 rfl
  replace x8 := tr old2 x8 rfl
  replace x9 := tr old2 x9 rfl
  have x10 := Fk.e new2
  replace m6 := Ob.below m6 hb
  replace m8 := Ob.below m8 hb
  replace m9 := Ob.below m9 hb
  replace bl := bgo bl hb
  replace sd := sd2 sz2 df2 sd
  clear df2 sz2 old2 new2 hb
  refine wpList_nil ?_
  clear x10
  show Code.wp _ _ _ _ _
  refine wp_seq ?_
  refine wp_seq ?_
  refine wr_a [.eq (.int .i64 (m)), .eq (.bool false), .eq (.bool false), .eq (.int .i64 (m)), .eq (.int .i64 (n)), .eq (.bool false), .eq (.bool false)] (by rw [sd.1]; kernel_rfl) ⟨fun hw ac u K => ?_, fun hw ac u K => ?_, fun hw ac u K => ?_, fun hw ac u K => ?_, fun hw ac u K => ?_, fun hw ac u K => ?_, fun hw ac u K => ?_, trivial⟩ ?_
  · exact st_move (.tmp 0) rfl (K.t x0 rfl)
  · exact st_lss 3 (.tmp 14) (.const (.int .i64 0)) rfl .i64 ((m)) (0) (K.dep 0 14 rfl) rfl _ (by rw [eq_comm, decide_eq_false_iff_not]; omega)
  · exact st_move (.tmp 15) rfl (K.dep 1 15 rfl)
  · exact st_move (.tmp 0) rfl (K.t x0 rfl)
  · exact st_move (.tmp 1) rfl (K.t x1 rfl)
  · exact st_gtr 3 (.tmp 17) (.tmp 18) rfl .i64 ((m)) ((n)) (K.dep 3 17 rfl) (K.dep 4 18 rfl) _ (by rw [eq_comm, decide_eq_false_iff_not]; omega)
  · exact st_pick_f' (.tmp 16) (.const (.bool true)) (.tmp 19) rfl (K.dep 2 16 rfl) (K.dep 5 19 rfl)
  intro f6 w6 A hb
  replace x0 := A.t x0 rfl
  replace x1 := A.t x1 rfl
  replace x3 := A.t x3 rfl
  replace x6 := A.t x6 rfl
  replace x8 := A.t x8 rfl
  replace x9 := A.t x9 rfl
  have x20 := A.e 6 20 rfl rfl
  replace m6 := Ob.below m6 hb
  replace m8 := Ob.below m8 hb
  replace m9 := Ob.below m9 hb
  replace bl := bgo bl hb
  replace sd := A.sd sd
  clear A hb
  show Code.wp _ _ _ _ _
  refine wp_cond_false x20 ?_
  refine wp_skip ?_
  show Code.wp _ _ _ _ _
  refine wp_seq ?_
  refine wr_a [.eq (.int .i64 (m)), .eq (.int .i64 (n)), .ob w.heap.size (L), .ob w.heap.size (L)] (by rw [sd.1]; kernel_rfl) ⟨fun hw ac u K => ?_, fun hw ac u K => ?_, fun hw ac u K => ?_, fun hw ac u K => ?_, trivial⟩ ?_
  · exact st_move (.tmp 0) rfl (K.t x0 rfl)
  · exact st_move (.tmp 1) rfl (K.t x1 rfl)
  · exact st_call 53 (.func 53) _ _ _ rfl rfl (arg2 (K.dep 0 23 rfl) (K.dep 1 24 rfl)) Tryd.enter53 (fk_orw (bgo bl K.grow).size (ht _))
  · exact st_assign (.tmp 25) rfl (K.dep 2 25 rfl)
  intro f7 w7 A hb
  replace x0 := A.t x0 rfl
  replace x1 := A.t x1 rfl
  replace x3 := A.t x3 rfl
  replace x6 := A.t x6 rfl
  replace x8 := A.t x8 rfl
  replace x9 := A.t x9 rfl
  replace x20 := A.t x20 rfl
  have x11 : Fk.f (.ob w.heap.size (L)) (f7.eval (.tmp 11)) w7 := A.has 3 11 rfl
  replace m6 := Ob.below m6 hb
  replace m8 := Ob.below m8 hb
  replace m9 := Ob.below m9 hb
  replace bl := bgo bl hb
  replace sd := A.sd sd
  clear A hb
  clear x0
  clear x1
  clear x20
  obtain ⟨v11, e11⟩ : ∃ v, f7.eval (.tmp 11) = v := ⟨_, rfl⟩
  have h11 := ob_bs x11
  rw [e11] at h11
  replace x11 := e11
  clear e11
  show Code.wp _ _ _ _ _
  refine wp_seq ?_
  refine wr_a [.eq (v11), .eq (.bool true), .eq (.bool false), .eq (.bool false)] (by rw [sd.1]; kernel_rfl) ⟨fun hw ac u K => ?_, fun hw ac u K => ?_, fun hw ac u K => ?_, fun hw ac u K => ?_, trivial⟩ ?_
  · exact st_move (.tmp 11) rfl (K.t x11 rfl)
  · exact st_call 54 (.func 54) _ _ _ rfl rfl (arg2 (K.dep 0 26 rfl) rfl) Tryd.enter54 (fk_containsb false hc (Fk.mono _ _ _ _ h11 K.grow) (by omega))
  · exact st_not (.tmp 27) rfl true (K.dep 1 27 rfl)
  · exact st_assign (.tmp 28) rfl (K.dep 2 28 rfl)
  intro f8 w8 A hb
  replace x3 := A.t x3 rfl
  replace x6 := A.t x6 rfl
  replace x8 := A.t x8 rfl
  replace x9 := A.t x9 rfl
  replace x11 := A.t x11 rfl
  have x12 := A.e 3 12 rfl rfl
  replace m6 := Ob.below m6 hb
  replace m8 := Ob.below m8 hb
  replace m9 := Ob.below m9 hb
  replace h11 := Fk.mono _ _ _ _ h11 hb
  replace bl := bgo bl hb
  replace sd := A.sd sd
  clear A hb
  show Code.wp _ _ _ _ _
  refine wp_seq ?_
  refine wr_a [.eq (v11), .eq (.int .i64 (((L).length : Nat) : Int)), .eq (.int .i64 (((L).length : Nat) : Int))] (by rw [sd.1]; kernel_rfl) ⟨fun hw ac u K => ?_, fun hw ac u K => ?_, fun hw ac u K => ?_, trivial⟩ ?_
  · exact st_move (.tmp 11) rfl (K.t x11 rfl)
  · exact st_lenbs (.tmp 29) rfl (fk_val (K.dep 0 29 rfl) (Fk.mono _ _ _ _ h11 K.grow))
  · exact st_assign (.tmp 30) rfl (K.dep 1 30 rfl)
  intro f9 w9 A hb
  replace x3 := A.t x3 rfl
  replace x6 := A.t x6 rfl
  replace x8 := A.t x8 rfl
  replace x9 := A.t x9 rfl
  replace x11 := A.t x11 rfl
  replace x12 := A.t x12 rfl
  have x13 := A.e 2 13 rfl rfl
  replace m6 := Ob.below m6 hb
  replace m8 := Ob.below m8 hb
  replace m9 := Ob.below m9 hb
  replace h11 := Fk.mono _ _ _ _ h11 hb
  replace bl := bgo bl hb
  replace sd := A.sd sd
  clear A hb
  show Code.wp _ _ _ _ _
  refine wp_seq ?_
  refine wp_seq ?_
  refine wr_a [.eq (.bool false), .eq (.bool true)] (by rw [sd.1]; kernel_rfl) ⟨fun hw ac u K => ?_, fun hw ac u K => ?_, trivial⟩ ?_
  · exact st_move (.tmp 12) rfl (K.t x12 rfl)
  · exact st_not (.tmp 31) rfl false (K.dep 0 31 rfl)
  intro f10 w10 A hb
  replace x3 := A.t x3 rfl
  replace x6 := A.t x6 rfl
  replace x8 := A.t x8 rfl
  replace x9 := A.t x9 rfl
  replace x11 := A.t x11 rfl
  replace x12 := A.t x12 rfl
  replace x13 := A.t x13 rfl
  have x32 := A.e 1 32 rfl rfl
  replace m6 := Ob.below m6 hb
  replace m8 := Ob.below m8 hb
  replace m9 := Ob.below m9 hb
  replace h11 := Fk.mono _ _ _ _ h11 hb
  replace bl := bgo bl hb
  replace sd := A.sd sd
  clear A hb
  show Code.wp _ _ _ _ _
  refine wp_cond_true x32 ?_
  refine wr_s [.eq (.int .i64 (((L).length : Nat) : Int)), .eq (.int .i64 (((L).length + 1 : Nat) : Int))] (by rw [sd.1]; kernel_rfl) ⟨fun hw ac u K => ?_, fun hw ac u K => ?_, trivial⟩ ?_
  · exact st_move (.tmp 13) rfl (K.t x13 rfl)
  · exact st_addz (.tmp 33) (.const (.int .i64 1)) rfl _ 1 _ (K.dep 0 33 rfl) rfl (by omega) (by omega) (by omega)
  intro f11 w11 A hb
  replace x3 := A.t x3 rfl
  replace x6 := A.t x6 rfl
  replace x8 := A.t x8 rfl
  replace x9 := A.t x9 rfl
  replace x11 := A.t x11 rfl
  replace x12 := A.t x12 rfl
  replace x13 := A.t x13 rfl
  replace x32 := A.t x32 rfl
  have x34 := A.e 1 34 rfl rfl
  replace m6 := Ob.below m6 hb
  replace m8 := Ob.below m8 hb
  replace m9 := Ob.below m9 hb
  replace h11 := Fk.mono _ _ _ _ h11 hb
  replace bl := bgo bl hb
  replace sd := A.sd sd
  clear A hb
  clear x32
  refine wl_one (.eq (.int .i64 (((L).length + 1 : Nat) : Int))) rfl 13 rfl (by rw [sd.1]; decide) (st_assign (.tmp 34) rfl x34) ?_
  intro f12 w12 df2 sz2 old2 new2 hb
  replace x3 := tr old2 x3 rfl
  replace x6 := tr old2 x6 rfl
  replace x8 := tr old2 x8 rfl
  replace x9 := tr old2 x9 rfl
  replace x11 := tr old2 x11 rfl
  replace x12 := tr old2 x12 rfl
  clear x13
  replace x34 := tr old2 x34 rfl
  have x13 := Fk.e new2
  replace m6 := Ob.below m6 hb
  replace m8 := Ob.below m8 hb
  replace m9 := Ob.below m9 hb
  replace h11 := Fk.mono _ _ _ _ h11 hb
  replace bl := bgo bl hb
  replace sd := sd2 sz2 df2 sd
  clear df2 sz2 old2 new2 hb
  refine wpList_nil ?_
  clear x34
  show Code.wp _ _ _ _ _
  refine wp_seq ?_
  refine wp_seq ?_
  refine wr_a [.eq (v), .eq (.int .i64 (((P).length : Nat) : Int)), .eq (.int .i64 (((L).length + 1 : Nat) : Int)), .eq (.bool false)] (by rw [sd.1]; kernel_rfl) ⟨fun hw ac u K => ?_, fun hw ac u K => ?_, fun hw ac u K => ?_, fun hw ac u K => ?_, trivial⟩ ?_
  · exact st_move (.tmp 3) rfl (K.t x3 rfl)
  · exact st_lenc (.tmp 35) rfl ((P).length) rfl (fk_val (K.dep 0 35 rfl) (Fk.mono _ _ _ _ hv (bgo bl K.grow)))
  · exact st_move (.tmp 13) rfl (K.t x13 rfl)
  · exact st_neqi 3 (.tmp 36) (.tmp 37) rfl .i64 ((((P).length : Nat) : Int)) ((((L).length + 1 : Nat) : Int)) (K.dep 1 36 rfl) (K.dep 2 37 rfl) _ (by rw [eq_comm, decide_eq_false_iff_not]; omega)
  intro f13 w13 A hb
  replace x3 := A.t x3 rfl
  replace x6 := A.t x6 rfl
  replace x8 := A.t x8 rfl
  replace x9 := A.t x9 rfl
  replace x11 := A.t x11 rfl
  replace x12 := A.t x12 rfl
  replace x13 := A.t x13 rfl
  have x38 := A.e 3 38 rfl rfl
  replace m6 := Ob.below m6 hb
  replace m8 := Ob.below m8 hb
  replace m9 := Ob.below m9 hb
  replace h11 := Fk.mono _ _ _ _ h11 hb
  replace bl := bgo bl hb
  replace sd := A.sd sd
  clear A hb
  clear x13
  show Code.wp _ _ _ _ _
  refine wp_cond_false x38 ?_
  refine wp_skip ?_
  show Code.wp _ _ _ _ _
  refine wp_seq ?_
  refine wp_seq ?_
  refine wr_a [.eq (.bool false)] (by rw [sd.1]; kernel_rfl) ⟨fun hw ac u K => ?_, trivial⟩ ?_
  · exact st_move (.tmp 12) rfl (K.t x12 rfl)
  intro f14 w14 A hb
  replace x3 := A.t x3 rfl
  replace x6 := A.t x6 rfl
  replace x8 := A.t x8 rfl
  replace x9 := A.t x9 rfl
  replace x11 := A.t x11 rfl
  replace x12 := A.t x12 rfl
  replace x38 := A.t x38 rfl
  have x41 := A.e 0 41 rfl rfl
  replace m6 := Ob.below m6 hb
  replace m8 := Ob.below m8 hb
  replace m9 := Ob.below m9 hb
  replace h11 := Fk.mono _ _ _ _ h11 hb
  replace bl := bgo bl hb
  replace sd := A.sd sd
  clear A hb
  clear x12
  clear x38
  show Code.wp _ _ _ _ _
  refine wp_cond_false x41 ?_
  refine wp_region_late [.eq (v), .ph (p), .eq (.agg ((p).map V).toArray), .eq (v11), .eq (v), .hc ((P).drop 1), .eq (.tuple #[.agg ((xa).map V).toArray, .agg ((xb).map V).toArray]), .eq (.tuple #[.agg ((xa).map V).toArray, .agg ((xb).map V).toArray]), .eq (.agg ((xa).map V).toArray), .eq (.agg ((xb).map V).toArray)] 9 58 _ _ [11] Tryd.mixed (by kernel_rfl) (by kernel_rfl) (by kernel_rfl) (by kernel_rfl) (by kernel_rfl) rfl rfl (by kernel_rfl) rfl (by kernel_rfl) rfl (by rw [sd.1]; kernel_rfl) (by kernel_rfl) (fun ac u K => ⟨_, late_ext rfl (K.dep 7 49 rfl) rfl, rfl⟩) ⟨fun hw ac u K => ?_, fun hw ac u K => ?_, fun hw ac u K => ?_, fun hw ac u K => ?_, fun hw ac u K => ?_, fun hw ac u K => ?_, fun hw ac u K => ?_, fun hw ac u K => ?_, fun hw ac u K => ?_, fun hw ac u K => ?_, trivial⟩ ?_
  · exact st_move (.tmp 3) rfl (K.t x3 rfl)
  · exact st_idxh (.tmp 50) (.const (.int .i64 0)) rfl (fk_val (K.dep 0 50 rfl) (Fk.mono _ _ _ _ hvs (bgo bl K.grow))) (0) (p) rfl hp0
  · exact st_loadh (.tmp 51) rfl (K.dep 1 51 rfl)
  · exact st_move (.tmp 11) rfl (K.t x11 rfl)
  · exact st_move (.tmp 3) rfl (K.t x3 rfl)
  · exact st_restc (.tmp 54) (.const (.int .i64 1)) rfl (fk_val (K.dep 4 54 rfl) (Fk.mono _ _ _ _ hv (bgo bl K.grow))) (1) rfl (by omega)
  · exact st_call 55 (.func 55) _ _ _ rfl rfl (arg3 (K.dep 2 52 rfl) (K.dep 3 53 rfl) rfl) Tryd.enter55 (fk_of (leadboth_any hp (Fk.mono _ _ _ _ h11 K.grow) (K.dep 5 55 rfl) hLS hRl (by omega) (hK.below (bgo bl K.grow)) hxy))
  · exact st_move (.tmp 56) rfl (K.dep 6 56 rfl)
  · exact st_ext0 (.tmp 49) rfl (K.dep 7 49 rfl) rfl
  · exact st_ext1 (.tmp 49) rfl (K.dep 7 49 rfl) rfl
  intro f15 w15 A hb
  replace x3 := A.t x3 rfl
  replace x6 := A.t x6 rfl
  replace x8 := A.t x8 rfl
  replace x9 := A.t x9 rfl
  replace x11 := A.t x11 rfl
  replace x41 := A.t x41 rfl
  have x57 := A.e 8 57 rfl rfl
  have x58 := A.e 9 58 rfl rfl
  replace m6 := Ob.below m6 hb
  replace m8 := Ob.below m8 hb
  replace m9 := Ob.below m9 hb
  replace h11 := Fk.mono _ _ _ _ h11 hb
  replace bl := bgo bl hb
  replace sd := A.sd sd
  clear A hb
  clear x3
  clear x6
  clear x11
  clear x41
  clear h11
  refine ⟨_, run_store33 (.tmp 8) (.tmp 57) rfl (g8) (xa) (hz) x8 x57 m8 hz_len hxa, ?_⟩
  replace m6 : Ob (w15.setRow g8 ((xa).map V : List Value).toArray) (g6) 33 ((old).map V) := Ob.setRow_other m6 _ nm6_8
  replace m8 : Ob (w15.setRow g8 ((xa).map V : List Value).toArray) (g8) 33 ((xa).map V) := Ob.setRow m8 ((xa).map V)
  replace m9 : Ob (w15.setRow g8 ((xa).map V : List Value).toArray) (g9) 33 ((hz).map V) := Ob.setRow_other m9 _ nm8_9.symm
  replace bl : Below w.heap.size w (w15.setRow g8 ((xa).map V : List Value).toArray) := bl.trans (below_setRow _ _ _ _ hw8)
  generalize w15.setRow g8 ((xa).map V : List Value).toArray = w16b at bl m6 m8 m9 ⊢
  clear x57
  refine wl_store rfl (.tmp 9) (.tmp 58) rfl rfl (g9) (xb) (hz) x9 x58 m9 hz_len hxb ?_
  replace m6 : Ob (w16b.setRow g9 ((xb).map V : List Value).toArray) (g6) 33 ((old).map V) := Ob.setRow_other m6 _ nm6_9
  replace m8 : Ob (w16b.setRow g9 ((xb).map V : List Value).toArray) (g8) 33 ((xa).map V) := Ob.setRow_other m8 _ nm8_9
  replace m9 : Ob (w16b.setRow g9 ((xb).map V : List Value).toArray) (g9) 33 ((xb).map V) := Ob.setRow m9 ((xb).map V)
  replace bl : Below w.heap.size w (w16b.setRow g9 ((xb).map V : List Value).toArray) := bl.trans (below_setRow _ _ _ _ hw9)
  generalize w16b.setRow g9 ((xb).map V : List Value).toArray = w17b at bl m6 m8 m9 ⊢
  refine wpList_nil ?_
  clear x58
  clear m6
  show Code.wp _ _ _ _ _
  refine wp_seq ?_
  refine wp_region_held_drew (S := fun W => Ob (W) g8 33 ((xa).map V) ∧ Ob (W) g9 33 ((xb).map V)) Tryd.mixed ⟨m8, m9⟩ (fun hS0 => ?_)
  replace bl := bl.drew
  clear bl0 m8 m9
  generalize w17b.drew = w18 at hS0  bl ⊢
  refine wh_take 0 59 (v := .agg ((xa).map V).toArray) rfl rfl (by rw [sd.1]; decide) rfl (by kernel_rfl) (by kernel_rfl) (by kernel_rfl) (fun _ _ _ h => h) (run_ldh rfl hxa x8 (fun W hW => Ob.range hW.1 0 _ (fun j v hj => by simpa using hj))) hS0 ?_
  intro f19 df2 sz2 old2 new2
  replace x8 := tr old2 x8 rfl
  replace x9 := tr old2 x9 rfl
  have x59 := new2
  replace sd := sd2 sz2 df2 sd
  clear df2 sz2 old2 new2
  refine wh_take 1 60 (v := .agg ((xb).map V).toArray) rfl rfl (by rw [sd.1]; decide) rfl (by kernel_rfl) (by kernel_rfl) (by kernel_rfl) (fun _ _ _ h => h) (run_ldh rfl hxb x9 (fun W hW => Ob.range hW.2 0 _ (fun j v hj => by simpa using hj))) hS0 ?_
  intro f20 df2 sz2 old2 new2
  replace x8 := tr old2 x8 rfl
  replace x9 := tr old2 x9 rfl
  replace x59 := tr old2 x59 rfl
  have x60 := new2
  replace sd := sd2 sz2 df2 sd
  clear df2 sz2 old2 new2
  have hS1 : Ob (w18.setRow g8 ((xa).map V : List Value).toArray) g8 33 ((xa).map V) ∧ Ob (w18.setRow g8 ((xa).map V : List Value).toArray) g9 33 ((xb).map V) := ⟨Ob.setRow hS0.1 ((xa).map V), Ob.setRow_other hS0.2 _ nm8_9.symm⟩
  refine wh_store 2 rfl rfl rfl (by kernel_rfl) (.tmp 8) (.tmp 59) rfl g8 (xa) (xa) x8 x59 hS0.1 hxa hxa hS1 ?_
  replace bl : Below w.heap.size w (w18.setRow g8 ((xa).map V : List Value).toArray) := bl.trans (below_setRow _ _ _ _ hw8)
  replace hS0 := hS1
  clear hS1
  generalize w18.setRow g8 ((xa).map V : List Value).toArray = w21 at hS0  bl ⊢
  have hS1 : Ob (w21.setRow g9 ((xb).map V : List Value).toArray) g8 33 ((xa).map V) ∧ Ob (w21.setRow g9 ((xb).map V : List Value).toArray) g9 33 ((xb).map V) := ⟨Ob.setRow_other hS0.1 _ nm8_9, Ob.setRow hS0.2 ((xb).map V)⟩
  refine wh_store 3 rfl rfl rfl (by kernel_rfl) (.tmp 9) (.tmp 60) rfl g9 (xb) (xb) x9 x60 hS0.2 hxb hxb hS1 ?_
  replace bl : Below w.heap.size w (w21.setRow g9 ((xb).map V : List Value).toArray) := bl.trans (below_setRow _ _ _ _ hw9)
  replace hS0 := hS1
  clear hS1
  generalize w21.setRow g9 ((xb).map V : List Value).toArray = w22 at hS0  bl ⊢
  refine wh_assign 4 10 rfl rfl (by rw [sd.1]; decide) rfl (by kernel_rfl) (.const (.int .i64 0)) rfl hS0 ?_
  intro f23 df2 sz2 old2 new2
  replace x8 := tr old2 x8 rfl
  replace x9 := tr old2 x9 rfl
  replace x59 := tr old2 x59 rfl
  replace x60 := tr old2 x60 rfl
  have x10 : f23.eval (.tmp 10) = .int .i64 0 := new2
  replace sd := sd2 sz2 df2 sd
  clear df2 sz2 old2 new2
  refine wpAnyH_done (by kernel_rfl) ?_ _
  have m8 := hS0.1
  have m9 := hS0.2
  have bl0 := bl
  clear hS0
  clear x59
  clear x60
  show Code.wp _ _ _ _ _
  refine wp_ret ?_
  repeat (first | with_reducible refine then_ret ?_ | with_reducible refine block_ret ?_)
  exact bodyPost_ret (v := .tuple #[.agg ((xa).map V).toArray, .agg ((xb).map V).toArray, .int .i64 0]) (ret_hhi rfl f23 _ g8 g9 (xa) (xb) (.int .i64 0) hxa hxb x8 x9 m8 m9 x10) sd.2 ⟨_, rfl, rfl, bl⟩
end Go.Proofs.YtfmeeimhfdnjpaaDoor
