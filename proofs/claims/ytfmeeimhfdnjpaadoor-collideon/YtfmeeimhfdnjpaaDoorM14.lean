/- claimed. -/
import Derived.Test.YtfmeeimhfdnjpaaDoorM13
namespace Go.Proofs.YtfmeeimhfdnjpaaDoor
set_option maxRecDepth 100000
open Go.RowKit
theorem smallP_take {ps : List Pt} (h : smallP ps) (n : Nat) : smallP (ps.take n) := ⟨fun p hp => h.1 p (List.mem_of_mem_take hp), by rw [List.length_take]; have := h.2; omega⟩
theorem smallP_drop {ps : List Pt} (h : smallP ps) (n : Nat) : smallP (ps.drop n) := ⟨fun p hp => h.1 p (List.mem_of_mem_drop hp), by rw [List.length_drop]; have := h.2; omega⟩
theorem smallP_mx {ps : List Pt} (h : smallP ps) : ∀ p ∈ ps, p.bs.length ≤ 140737488351232 := fun p hp => Nat.le_trans (h.1 p hp) (by decide)
theorem lhs_drop (ps : List Pt) (n : Nat) : lhs (ps.drop n) = (lhs ps).drop n := List.map_drop ..
theorem bys_drop (ps : List Pt) (n : Nat) : bys (ps.drop n) = (bys ps).drop n := List.map_drop ..
/-- How long a slice is. -/
def slen : Value → Nat
  | .slice _ n _ => n
  | _ => 0
theorem slen_mc {ps : List Pt} {v : Value} {w : World} (h : (Fk.mc ps).f v w) : slen v = ps.length := by
  obtain ⟨A, C, e, _, _⟩ := mc_val h
  rw [e]
  rfl
theorem cldl {f : List (BitVec 8)} {j k : Nat} {qs : List Pt} {Q : List (List (BitVec 8))} (h2 : 2 ≤ qs.length) (hk : spl qs.length = k) (hj : j < k) (h : Lds f j (lhs qs) Q) :
    ∃ P0 z y, Q = P0 ++ [z] ∧ P0.length = (sds j k).length ∧ Box (ldt f P0 (sds j k) = y) ∧ nd (mroot (lhs (qs.take k))) (mroot (lhs (qs.drop k))) = nd y z ∧ (mroot (lhs (qs.take k)) = y → Lds f j (lhs (qs.take k)) P0) := by
  have hl := lhs_len qs
  have := lds_left (l := lhs qs) (by rw [hl]; exact h2) (by rw [hl, hk]; exact hj) h
  rw [hl, hk, ← lhs_take, ← lhs_drop] at this
  exact this
theorem cldr {f : List (BitVec 8)} {j k : Nat} {qs : List Pt} {Q : List (List (BitVec 8))} (h2 : 2 ≤ qs.length) (hk : spl qs.length = k) (hj : ¬ j < k) (h : Lds f j (lhs qs) Q) :
    ∃ P0 z y, Q = P0 ++ [z] ∧ P0.length = (sds (j - k) (qs.length - k)).length ∧ Box (ldt f P0 (sds (j - k) (qs.length - k)) = y) ∧ nd (mroot (lhs (qs.take k))) (mroot (lhs (qs.drop k))) = nd z y ∧ (mroot (lhs (qs.drop k)) = y → Lds f (j - k) (lhs (qs.drop k)) P0) := by
  have hl := lhs_len qs
  have := lds_right (l := lhs qs) (by rw [hl]; exact h2) (by rw [hl, hk]; exact hj) h
  rw [hl, hk, ← lhs_take, ← lhs_drop] at this
  exact this
set_option maxHeartbeats 1000000 in
theorem fk_claimed {ps : List Pt} (hs : smallP ps) {lb : List (BitVec 8)} (hlb : lb.length ≤ 300) {P : List (List (BitVec 8))} (_hP : P.length ≤ 50) {w : World} {va ul up : Value} (ha : (Fk.mc ps).f va w) (hl : (Fk.sl lb).f ul w) (hp : (Fk.hc P).f up w) (hK : Tab w) {i : Nat} {p : Pt} (hpk : ps[i]? = some p) (hne : lb ≠ p.bs) {lv : List (BitVec 8)} (elv : Box (lf lb = lv)) (hL : Lds lv i (lhs ps) P) :
    Calls Tryd.prog 32 #[va, .agg ([.int .i64 (i : Int), .int .i64 (ps.length : Int), ul, up] : List Value).toArray] w fun e w' => ∃ u, e = .returned u ∧ (Fk.cv true).f u w' ∧ Below w.heap.size w w' := by
  have hlv : lv.length = 32 := by rw [← elv.out]; exact lf_len _
  go_enter Tryd.func32, Tryd.ntmps32
  refine code_both (fun f w1 => f.tmps.size = 65 ∧ f.defers = [] ∧ f.eval (.tmp 0) = va ∧ f.eval (.tmp 1) = .agg ([.int .i64 (i : Int), .int .i64 (ps.length : Int), ul, up] : List Value).toArray ∧ Below w.heap.size w (w1)) ⟨rfl, rfl, rfl, rfl, Below.refl _ _⟩ ?_
  rintro f0 w0 ⟨sz, df, x0, x1, bl⟩
  have sd := And.intro sz df
  clear sz df
  have bl0 := bl
  refine wp_seq ?_
  refine wr_s [] (by rw [sd.1]; kernel_rfl) trivial ?_
  intro f1 w1 A hb
  replace x0 := A.t x0 rfl
  replace x1 := A.t x1 rfl
  replace bl := bgo bl hb
  replace sd := A.sd sd
  clear A hb
  refine wl_one (.nw w1.heap.size 39 ([.int .i64 (i : Int), .int .i64 (ps.length : Int), ul, up] : List Value)) rfl 3 rfl (by rw [sd.1]; decide) (st_box 39 (.tmp 1) rfl _ _ (by rw [show _ = _ from x1]; kernel_rfl) (Nat.le_refl _)) ?_
  intro f2 w2 df2 sz2 old2 new2 hb
  replace bl0 := bl
  replace x0 := tr old2 x0 rfl
  replace x1 := tr old2 x1 rfl
  have x3 : Fk.f (.nw w1.heap.size 39 ([.int .i64 (i : Int), .int .i64 (ps.length : Int), ul, up] : List Value)) (f2.eval (.tmp 3)) w2 := new2
  replace bl := bgo bl hb
  replace sd := sd2 sz2 df2 sd
  clear df2 sz2 old2 new2 hb
  obtain ⟨g3, hg3, e3, m3⟩ := x3
  have x3 := e3
  clear e3
  have hw3 : w.heap.size ≤ g3 := Nat.le_trans bl0.size hg3
  clear x1
  refine wl_one (.nw w2.heap.size 25 [.slice none 0 0, .slice none 0 0]) rfl 4 rfl (by rw [sd.1]; decide) (st_alloc 25 rfl _ _ (by kernel_rfl) (Nat.le_refl _)) ?_
  intro f3 w3 df2 sz2 old2 new2 hb
  replace bl0 := bl
  replace x0 := tr old2 x0 rfl
  replace x3 := tr old2 x3 rfl
  have x4 : Fk.f (.nw w2.heap.size 25 [.slice none 0 0, .slice none 0 0]) (f3.eval (.tmp 4)) w3 := new2
  have lt_m3 := Ob.lt m3
  replace m3 := Ob.below m3 hb
  replace bl := bgo bl hb
  replace sd := sd2 sz2 df2 sd
  clear df2 sz2 old2 new2 hb
  obtain ⟨g4, hg4, e4, m4⟩ := x4
  have x4 := e4
  clear e4
  have nm3_4 : g3 ≠ g4 := Nat.ne_of_lt (Nat.lt_of_lt_of_le lt_m3 hg4)
  have hw4 : w.heap.size ≤ g4 := Nat.le_trans bl0.size hg4
  refine wpList_nil ?_
  show Code.wp _ _ _ _ _
  refine wp_seq ?_
  refine wr_s [.eq (.pointer (some ⟨g3, 2, none⟩)), .eq (ul), .eq (.agg ((lv).map V).toArray), .nw w3.heap.size 33 ((hz).map V)] (by rw [sd.1]; kernel_rfl) ⟨fun hw ac u K => ?_, fun hw ac u K => ?_, fun hw ac u K => ?_, fun hw ac u K => ?_, trivial⟩ ?_
  · exact st_field 39 2 (.tmp 3) rfl (K.t x3 rfl) (by kernel_rfl)
  · exact st_loadc 22 (.tmp 11) rfl (by kernel_rfl) (K.dep 0 11 rfl) (Ob.cell (Ob.below m3 K.grow) 2 rfl)
  · exact st_call 18 (.func 18) _ _ _ rfl rfl (one_arg (K.dep 1 12 rfl)) Tryd.enter18 (fk_leaf (by omega) (hK.below (bgo bl K.grow)) (Fk.mono _ _ _ _ hl (bgo bl K.grow)) elv)
  · exact st_alloc33 rfl _ K.grow.size
  intro f4 w4 A hb
  replace bl0 := bl
  replace x0 := A.t x0 rfl
  replace x3 := A.t x3 rfl
  replace x4 := A.t x4 rfl
  have x5 : Fk.f (.nw w3.heap.size 33 ((hz).map V)) (f4.eval (.tmp 5)) w4 := A.has 3 5 rfl
  have x13 := A.e 2 13 rfl rfl
  have lt_m3 := Ob.lt m3
  replace m3 := Ob.below m3 hb
  have lt_m4 := Ob.lt m4
  replace m4 := Ob.below m4 hb
  replace bl := bgo bl hb
  replace sd := A.sd sd
  clear A hb
  obtain ⟨g5, hg5, e5, m5⟩ := x5
  have x5 := e5
  clear e5
  have nm3_5 : g3 ≠ g5 := Nat.ne_of_lt (Nat.lt_of_lt_of_le lt_m3 hg5)
  have nm4_5 : g4 ≠ g5 := Nat.ne_of_lt (Nat.lt_of_lt_of_le lt_m4 hg5)
  have hw5 : w.heap.size ≤ g5 := Nat.le_trans bl0.size hg5
  refine wl_store rfl (.tmp 5) (.tmp 13) rfl rfl (g5) (lv) (hz) x5 x13 m5 hz_len hlv ?_
  replace m3 : Ob (w4.setRow g5 ((lv).map V : List Value).toArray) (g3) 39 ([.int .i64 (i : Int), .int .i64 (ps.length : Int), ul, up]) := Ob.setRow_other m3 _ nm3_5
  replace m4 : Ob (w4.setRow g5 ((lv).map V : List Value).toArray) (g4) 25 ([.slice none 0 0, .slice none 0 0]) := Ob.setRow_other m4 _ nm4_5
  replace m5 : Ob (w4.setRow g5 ((lv).map V : List Value).toArray) (g5) 33 ((lv).map V) := Ob.setRow m5 ((lv).map V)
  replace bl : Below w.heap.size w (w4.setRow g5 ((lv).map V : List Value).toArray) := bl.trans (below_setRow _ _ _ _ hw5)
  generalize w4.setRow g5 ((lv).map V : List Value).toArray = w5b at bl m3 m4 m5 ⊢
  refine wpList_nil ?_
  clear x13
  show Code.wp _ _ _ _ _
  refine wp_seq ?_
  refine wp_region_held_drew (S := fun W => W = w5b.drew) Tryd.mixed rfl (fun hS => ?_)
  have hb : Below w5b.heap.size w5b w5b.drew := (Below.refl _ _).drew
  replace bl0 := bl
  have lt_m3 := Ob.lt m3
  replace m3 := Ob.below m3 hb
  have lt_m4 := Ob.lt m4
  replace m4 := Ob.below m4 hb
  have lt_m5 := Ob.lt m5
  replace m5 := Ob.below m5 hb
  replace bl := bgo bl hb
  clear hb hS
  generalize w5b.drew = w6 at m3 m4 m5 bl ⊢
  have hS : w6 = w6 := rfl
  refine wh_take 0 14 (v := .pointer (some ⟨g3, 0, none⟩)) rfl rfl (by rw [sd.1]; decide) rfl (by kernel_rfl) (by kernel_rfl) (by kernel_rfl) (fun _ _ _ h => h) (run_field rfl x3 (fun w => by kernel_rfl)) hS ?_
  intro f7 df2 sz2 old2 new2
  replace x0 := tr old2 x0 rfl
  replace x3 := tr old2 x3 rfl
  replace x4 := tr old2 x4 rfl
  replace x5 := tr old2 x5 rfl
  have x14 := new2
  replace sd := sd2 sz2 df2 sd
  clear df2 sz2 old2 new2
  refine wh_take 1 15 (v := .int .i64 (i : Int)) rfl rfl (by rw [sd.1]; decide) rfl (by kernel_rfl) (by kernel_rfl) (by kernel_rfl) (fun _ _ _ h => h) (run_loadc rfl (fun w => by kernel_rfl) x14 (fun W hW => by rw [hW]; exact Ob.cell m3 0 rfl)) hS ?_
  intro f8 df2 sz2 old2 new2
  replace x0 := tr old2 x0 rfl
  replace x3 := tr old2 x3 rfl
  replace x4 := tr old2 x4 rfl
  replace x5 := tr old2 x5 rfl
  replace x14 := tr old2 x14 rfl
  have x15 := new2
  replace sd := sd2 sz2 df2 sd
  clear df2 sz2 old2 new2
  refine wh_take 2 16 (v := .pointer (some ⟨g3, 3, none⟩)) rfl rfl (by rw [sd.1]; decide) rfl (by kernel_rfl) (by kernel_rfl) (by kernel_rfl) (fun _ _ _ h => h) (run_field rfl x3 (fun w => by kernel_rfl)) hS ?_
  intro f9 df2 sz2 old2 new2
  replace x0 := tr old2 x0 rfl
  replace x3 := tr old2 x3 rfl
  replace x4 := tr old2 x4 rfl
  replace x5 := tr old2 x5 rfl
  replace x14 := tr old2 x14 rfl
  replace x15 := tr old2 x15 rfl
  have x16 := new2
  replace sd := sd2 sz2 df2 sd
  clear df2 sz2 old2 new2
  refine wh_take 3 17 (v := up) rfl rfl (by rw [sd.1]; decide) rfl (by kernel_rfl) (by kernel_rfl) (by kernel_rfl) (fun _ _ _ h => h) (run_loadc rfl (fun w => by kernel_rfl) x16 (fun W hW => by rw [hW]; exact Ob.cell m3 3 rfl)) hS ?_
  intro f10 df2 sz2 old2 new2
  replace x0 := tr old2 x0 rfl
  replace x3 := tr old2 x3 rfl
  replace x4 := tr old2 x4 rfl
  replace x5 := tr old2 x5 rfl
  replace x14 := tr old2 x14 rfl
  replace x15 := tr old2 x15 rfl
  replace x16 := tr old2 x16 rfl
  have x17 := new2
  replace sd := sd2 sz2 df2 sd
  clear df2 sz2 old2 new2
  refine wh_assign 4 6 rfl rfl (by rw [sd.1]; decide) rfl (by kernel_rfl) (.tmp 15) rfl hS ?_
  intro f11 df2 sz2 old2 new2
  have x6 : f11.eval (.tmp 6) = .int .i64 (i : Int) := new2.trans x15
  replace x0 := tr old2 x0 rfl
  replace x3 := tr old2 x3 rfl
  replace x4 := tr old2 x4 rfl
  replace x5 := tr old2 x5 rfl
  replace x14 := tr old2 x14 rfl
  replace x15 := tr old2 x15 rfl
  replace x16 := tr old2 x16 rfl
  replace x17 := tr old2 x17 rfl
  replace sd := sd2 sz2 df2 sd
  clear df2 sz2 old2 new2
  refine wh_assign 5 7 rfl rfl (by rw [sd.1]; decide) rfl (by kernel_rfl) (.tmp 17) rfl hS ?_
  intro f12 df2 sz2 old2 new2
  have x7 : f12.eval (.tmp 7) = up := new2.trans x17
  replace x0 := tr old2 x0 rfl
  replace x3 := tr old2 x3 rfl
  replace x4 := tr old2 x4 rfl
  replace x5 := tr old2 x5 rfl
  replace x14 := tr old2 x14 rfl
  replace x15 := tr old2 x15 rfl
  replace x16 := tr old2 x16 rfl
  replace x17 := tr old2 x17 rfl
  replace x6 := tr old2 x6 rfl
  replace sd := sd2 sz2 df2 sd
  clear df2 sz2 old2 new2
  refine wpAnyH_done (by kernel_rfl) ?_ _
  clear hS
  clear x14
  clear x15
  clear x16
  clear x17
  show Code.wp _ _ _ _ _
  refine wp_seq ?_
  refine wp_block ?_
  refine wp_loop (fun f v1 => ∃ (qs : List Pt) (j : Nat) (Q : List (List (BitVec 8))), smallP qs ∧ (∃ p, qs[j]? = some p ∧ lb ≠ p.bs) ∧ Lds lv j (lhs qs) Q ∧ f.tmps.size = 65 ∧ f.defers = [] ∧ f.eval (.tmp 3) = .pointer (some ⟨g3, 0, none⟩) ∧ f.eval (.tmp 4) = .pointer (some ⟨g4, 0, none⟩) ∧ f.eval (.tmp 5) = .pointer (some ⟨g5, 0, none⟩) ∧ Fk.f (.mc (qs)) (f.eval (.tmp 0)) v1 ∧ f.eval (.tmp 6) = .int .i64 (j : Int) ∧ Fk.f (.hc (Q)) (f.eval (.tmp 7)) v1 ∧ Ob v1 (g3) 39 ([.int .i64 (i : Int), .int .i64 (ps.length : Int), ul, up]) ∧ Ob v1 (g4) 25 ([.slice none 0 0, .slice none 0 0]) ∧ Ob v1 (g5) 33 ((lv).map V) ∧ Below w.heap.size w (v1)) (fun f _ => slen (f.eval (.tmp 0))) ⟨ps, i, P, hs, ⟨p, hpk, hne⟩, hL, sd.1, sd.2, x3, x4, x5, (by rw [x0]; exact Fk.mono _ _ _ _ ha bl), x6, (by rw [x7]; exact Fk.mono _ _ _ _ hp bl), m3, m4, m5, bl⟩ ?_
  intro f13 w13 hI
  clear sd bl bl0 x0 x3 x4 x5 x6 x7 m3 m4 m5
  obtain ⟨qs, j, Q, hs, hj, hL, sz, df, x3, x4, x5, x0, x6, x7, m3, m4, m5, bl⟩ := hI
  have sd := And.intro sz df
  clear sz df
  have bl0 := bl
  have hcnt : slen (f13.eval (.tmp 0)) = qs.length := slen_mc x0
  obtain ⟨q, hqj, hlq⟩ := hj
  refine wp_seq ?_
  refine wp_seq ?_
  have hjl : j < qs.length := (List.getElem?_eq_some_iff.1 hqj).1
  have h40 := hs.2
  by_cases h2 : 2 ≤ qs.length
  rotate_left
  · skip
    have hq1 : qs.length = 1 := by omega
    obtain rfl : j = 0 := by omega
    have hqs : qs = [q] := by
      match qs, hq1, hqj with
      | [a], _, h => exact congrArg (· :: []) (Option.some.inj h)
    have hlf : lv = lf q.bs := by rw [hqs] at hL; exact lds_one hL
    have hql : q.bs.length ≤ 200 := pt_small hs hqj
    refine wr_a [.mc (qs), .eq (.int .i64 (((qs).length : Nat) : Int)), .eq (.bool false)] (by rw [sd.1]; kernel_rfl) ⟨fun hw ac u K => ?_, fun hw ac u K => ?_, fun hw ac u K => ?_, trivial⟩ ?_
    · exact st_move (.tmp 0) rfl (f_at (K.old 0 rfl) (Fk.mono _ _ _ _ x0 K.grow))
    · exact st_lenm (.tmp 18) rfl (mc_mg (K.dep 0 18 rfl))
    · exact st_gtr 3 (.tmp 19) (.const (.int .i64 1)) rfl .i64 ((((qs).length : Nat) : Int)) (1) (K.dep 1 19 rfl) rfl _ (by symm; rw [decide_eq_false_iff_not]; exact (by omega))
    intro f14 w14 A hb
    replace x0 := f_at (A.old 0 rfl) (Fk.mono _ _ _ _ x0 hb)
    replace x3 := A.t x3 rfl
    replace x4 := A.t x4 rfl
    replace x5 := A.t x5 rfl
    replace x6 := A.t x6 rfl
    replace x7 := f_at (A.old 7 rfl) (Fk.mono _ _ _ _ x7 hb)
    have x20 := A.e 2 20 rfl rfl
    replace m3 := Ob.below m3 hb
    replace m4 := Ob.below m4 hb
    replace m5 := Ob.below m5 hb
    replace bl := bgo bl hb
    replace sd := A.sd sd
    clear A hb
    show Code.wp _ _ _ _ _
    refine wp_cond_false x20 ?_
    refine wp_exit ?_
    show Code.wp _ _ _ _ _
    refine wp_seq ?_
    have hslq : (Fk.sl q.bs).f (.slice q.sp q.m q.c) w14 := ⟨_, _, _, _, _, rfl, mg_ok (mc_mg x0) hqj⟩
    refine wr_t [.mc (qs), .pv (.slice q.sp q.m q.c), .eq (.slice q.sp q.m q.c), .ls 1 (q.bs), .sl (kb 0 :: q.bs), .eq (.pointer (some ⟨g3, 2, none⟩)), .eq (ul), .ls 1 (lb), .sl (kb 0 :: lb)] [9, 10] Tryd.mixed (by rw [sd.1]; kernel_rfl) ⟨fun hw ac u K => ?_, fun hw ac u K => ?_, fun hw ac u K => ?_, fun hw ac u K => ?_, fun hw ac u K => ?_, fun hw ac u K => ?_, fun hw ac u K => ?_, fun hw ac u K => ?_, fun hw ac u K => ?_, trivial⟩ ?_
    · exact st_move (.tmp 0) rfl (f_at (K.old 0 rfl) (Fk.mono _ _ _ _ x0 K.grow))
    · exact st_idxm (.tmp 55) (.const (.int .i64 0)) rfl (mc_mg (K.dep 0 55 rfl)) 0 q rfl hqj
    · exact st_loadsl (.tmp 56) rfl (K.dep 1 56 rfl)
    · exact st_build1 (.tmp 57) rfl (fk_val (K.dep 2 57 rfl) (Fk.mono _ _ _ _ hslq K.grow))
    · exact st_call 48 (.func 48) _ _ _ rfl rfl (arg2 rfl rfl) Tryd.enter48 (fk_input 0 (by omega) (by decide) (K.dep 3 58 rfl))
    · exact st_field 39 2 (.tmp 3) rfl (K.t x3 rfl) (by kernel_rfl)
    · exact st_loadc 22 (.tmp 60) rfl (by kernel_rfl) (K.dep 5 60 rfl) (Ob.cell (Ob.below m3 K.grow) 2 rfl)
    · exact st_build1 (.tmp 61) rfl (fk_val (K.dep 6 61 rfl) (Fk.mono _ _ _ _ hl (bgo bl K.grow)))
    · exact st_call 48 (.func 48) _ _ _ rfl rfl (arg2 rfl rfl) Tryd.enter48 (fk_input 0 (by omega) (by decide) (K.dep 7 62 rfl))
    intro f15 w15 A hb
    have S_hslq := hslq
    have S_x0 : Fk.f (.mc (qs)) (f15.eval (.tmp 0)) w14 := f_at (A.old 0 rfl) x0
    have S_x7 : Fk.f (.hc (Q)) (f15.eval (.tmp 7)) w14 := f_at (A.old 7 rfl) x7
    have hbS0 := Below.refl w14.heap.size w14
    have hbS := hb
    replace x0 := f_at (A.old 0 rfl) (Fk.mono _ _ _ _ x0 hb)
    replace x3 := A.t x3 rfl
    replace x4 := A.t x4 rfl
    replace x5 := A.t x5 rfl
    replace x6 := A.t x6 rfl
    replace x7 := f_at (A.old 7 rfl) (Fk.mono _ _ _ _ x7 hb)
    replace x20 := A.t x20 rfl
    have x59 : Fk.f (.sl (kb 0 :: q.bs)) (f15.eval (.tmp 59)) w15 := A.has 4 59 rfl
    have x63 : Fk.f (.sl (kb 0 :: lb)) (f15.eval (.tmp 63)) w15 := A.has 8 63 rfl
    replace m3 := Ob.below m3 hb
    replace m4 := Ob.below m4 hb
    replace m5 := Ob.below m5 hb
    replace hslq := Fk.mono _ _ _ _ hslq hb
    replace bl := bgo bl hb
    replace sd := A.sd sd
    clear A hb
    clear x20
    have h6 := x59
    obtain ⟨sp59, sm59, sc59, _, _, e59, _⟩ := id x59
    rw [e59] at h6
    replace x59 := e59
    clear e59
    have h8 := x63
    obtain ⟨sp63, sm63, sc63, _, _, e63, _⟩ := id x63
    rw [e63] at h8
    replace x63 := e63
    clear e63
    clear hslq
    clear x0
    clear x7
    clear hbS hbS0 S_hslq S_x0 S_x7
    refine wl_one (.eq (.agg ([.slice sp59 sm59 sc59, .slice sp63 sm63 sc63] : List Value).toArray)) rfl 64 rfl (by rw [sd.1]; decide) (st_build 25 _ rfl (by simp only [List.map_toArray, List.map_cons, List.map_nil, show f15.eval (.tmp 59) = _ from x59, show f15.eval (.tmp 63) = _ from x63]; kernel_rfl)) ?_
    intro f16 w16 df2 sz2 old2 new2 hb
    replace x3 := tr old2 x3 rfl
    replace x4 := tr old2 x4 rfl
    replace x5 := tr old2 x5 rfl
    replace x6 := tr old2 x6 rfl
    replace x59 := tr old2 x59 rfl
    replace x63 := tr old2 x63 rfl
    have x64 := Fk.e new2
    replace m3 := Ob.below m3 hb
    replace m4 := Ob.below m4 hb
    replace m5 := Ob.below m5 hb
    replace h6 := Fk.mono _ _ _ _ h6 hb
    replace h8 := Fk.mono _ _ _ _ h8 hb
    replace bl := bgo bl hb
    replace sd := sd2 sz2 df2 sd
    clear df2 sz2 old2 new2 hb
    clear x59
    clear x63
    refine wl_str rfl 25 (.tmp 4) (.tmp 64) rfl rfl (g4) ([.slice sp59 sm59 sc59, .slice sp63 sm63 sc63] : List Value).toArray x4 x64 25 _ m4 (by kernel_rfl) (by kernel_rfl) (by kernel_rfl) ?_
    replace h6 := sl_setRow (ds := ([.slice sp59 sm59 sc59, .slice sp63 sm63 sc63] : List Value).toArray) h6 m4
    replace h8 := sl_setRow (ds := ([.slice sp59 sm59 sc59, .slice sp63 sm63 sc63] : List Value).toArray) h8 m4
    replace m3 : Ob (w16.setRow g4 ([.slice sp59 sm59 sc59, .slice sp63 sm63 sc63] : List Value).toArray) (g3) 39 ([.int .i64 (i : Int), .int .i64 (ps.length : Int), ul, up]) := Ob.setRow_other m3 _ nm3_4
    replace m4 : Ob (w16.setRow g4 ([.slice sp59 sm59 sc59, .slice sp63 sm63 sc63] : List Value).toArray) (g4) 25 ([.slice sp59 sm59 sc59, .slice sp63 sm63 sc63]) := Ob.setRow m4 ([.slice sp59 sm59 sc59, .slice sp63 sm63 sc63])
    replace m5 : Ob (w16.setRow g4 ([.slice sp59 sm59 sc59, .slice sp63 sm63 sc63] : List Value).toArray) (g5) 33 ((lv).map V) := Ob.setRow_other m5 _ nm4_5.symm
    replace bl : Below w.heap.size w (w16.setRow g4 ([.slice sp59 sm59 sc59, .slice sp63 sm63 sc63] : List Value).toArray) := bl.trans (below_setRow _ _ _ _ hw4)
    generalize w16.setRow g4 ([.slice sp59 sm59 sc59, .slice sp63 sm63 sc63] : List Value).toArray = w17b at bl m3 m4 m5 h6 h8 ⊢
    refine wpList_nil ?_
    clear x64
    show Code.wp _ _ _ _ _
    refine wp_ret ?_
    repeat (first | with_reducible refine then_ret ?_ | with_reducible refine block_ret ?_)
    exact bodyPost_ret (v := .agg ([.slice sp59 sm59 sc59, .slice sp63 sm63 sc63] : List Value).toArray) (ret_c1 rfl f16 _ g4 _ _ x4 m4) sd.2 ⟨_, rfl, ⟨_, _, _, _, rfl, h6, h8, by rw [List.length_cons]; omega, by rw [List.length_cons]; omega, fun _ => rcol_leaf (by rw [← hlf, elv.out]) (fun e => hlq e.symm)⟩, bl⟩
  obtain ⟨k, hk⟩ : ∃ k, spl qs.length = k := ⟨_, rfl⟩
  have hk1 : k < qs.length := by rw [← hk]; exact spl_lt h2
  have hk2 : 1 ≤ k := by rw [← hk]; exact spl_pos _
  obtain ⟨xa, exa⟩ : ∃ x, Box (mroot (lhs (qs.take k)) = x) := ⟨_, ⟨rfl⟩⟩
  obtain ⟨ya, eya⟩ : ∃ x, Box (mroot (lhs (qs.drop k)) = x) := ⟨_, ⟨rfl⟩⟩
  have hxa : xa.length = 32 := by rw [← exa.out]; exact mroot_len (lhs_32 _)
  have hya : ya.length = 32 := by rw [← eya.out]; exact mroot_len (lhs_32 _)
  have hQl : Q.length ≤ 60 := by rw [hL.1, lhs_len]; exact Nat.le_trans (sds_log _ _ 60 (Nat.le_trans h40 (by decide))) (Nat.le_refl _)
  by_cases hjk : j < k
  rotate_left
  · skip
    obtain ⟨P0, z, y0, rfl, hl0, ey0, hnd, hnx⟩ := cldr h2 hk hjk hL
    have hz0 : z.length = 32 := hc_len x7 z (by simp)
    have hy0 : y0.length = 32 := by rw [← ey0.out]; exact ldt_len hlv _ _
    rw [exa.out, eya.out] at hnd
    rw [eya.out] at hnx
    have hP0 : P0.length ≤ 60 := by rw [List.length_append] at hQl; omega
    refine wr_a [.mc (qs), .eq (.int .i64 (((qs).length : Nat) : Int)), .eq (.bool true)] (by rw [sd.1]; kernel_rfl) ⟨fun hw ac u K => ?_, fun hw ac u K => ?_, fun hw ac u K => ?_, trivial⟩ ?_
    · exact st_move (.tmp 0) rfl (f_at (K.old 0 rfl) (Fk.mono _ _ _ _ x0 K.grow))
    · exact st_lenm (.tmp 18) rfl (mc_mg (K.dep 0 18 rfl))
    · exact st_gtr 3 (.tmp 19) (.const (.int .i64 1)) rfl .i64 ((((qs).length : Nat) : Int)) (1) (K.dep 1 19 rfl) rfl _ (by symm; rw [decide_eq_true_iff]; exact (by omega))
    intro f14 w14 A hb
    replace x0 := f_at (A.old 0 rfl) (Fk.mono _ _ _ _ x0 hb)
    replace x3 := A.t x3 rfl
    replace x4 := A.t x4 rfl
    replace x5 := A.t x5 rfl
    replace x6 := A.t x6 rfl
    replace x7 := f_at (A.old 7 rfl) (Fk.mono _ _ _ _ x7 hb)
    have x20 := A.e 2 20 rfl rfl
    replace m3 := Ob.below m3 hb
    replace m4 := Ob.below m4 hb
    replace m5 := Ob.below m5 hb
    replace bl := bgo bl hb
    replace sd := A.sd sd
    clear A hb
    show Code.wp _ _ _ _ _
    refine wp_cond_true x20 ?_
    refine wp_skip ?_
    show Code.wp _ _ _ _ _
    refine wp_block ?_
    refine wp_seq ?_
    refine wp_seq ?_
    by_cases hsm : xa = z ∧ ya = y0
    rotate_left
    · skip
      refine wp_region_late [.mc (qs), .eq (.agg ((xa ++ ya).map V).toArray), .eq (.agg ((lv).map V).toArray), .eq (.int .i64 (j : Int)), .mc (qs), .eq (.int .i64 (((qs).length : Nat) : Int)), .hc (P0 ++ [z]), .eq (.agg ((z ++ y0).map V).toArray), .c2 true, .c2 true, .cv true, .eq (.bool true), .nw w14.heap.size 25 [.slice none 0 0, .slice none 0 0]] 11 32 _ _ [14] Tryd.mixed (by kernel_rfl) (by kernel_rfl) (by kernel_rfl) (by kernel_rfl) (by kernel_rfl) rfl rfl (by kernel_rfl) rfl (by kernel_rfl) rfl (by rw [sd.1]; kernel_rfl) (by kernel_rfl) (fun ac u K => ⟨_, late_c2 rfl (K.dep 9 21 rfl), rfl⟩) ⟨fun hw ac u K => ?_, fun hw ac u K => ?_, fun hw ac u K => ?_, fun hw ac u K => ?_, fun hw ac u K => ?_, fun hw ac u K => ?_, fun hw ac u K => ?_, fun hw ac u K => ?_, fun hw ac u K => ?_, fun hw ac u K => ?_, fun hw ac u K => ?_, fun hw ac u K => ?_, fun hw ac u K => ?_, trivial⟩ ?_
      · exact st_move (.tmp 0) rfl (f_at (K.old 0 rfl) (Fk.mono _ _ _ _ x0 K.grow))
      · exact st_call 45 (.func 45) _ _ _ rfl rfl (one_arg rfl) Tryd.enter45 (fk_halves (by omega) (smallP_mx hs) h2 (K.dep 0 22 rfl) (hK.below (bgo bl K.grow)) hk exa eya)
      · exact st_load33 (.tmp 5) rfl (g5) (lv) (K.t x5 rfl) hlv (Ob.below m5 K.grow)
      · exact st_move (.tmp 6) rfl (K.t x6 rfl)
      · exact st_move (.tmp 0) rfl (f_at (K.old 0 rfl) (Fk.mono _ _ _ _ x0 K.grow))
      · exact st_lenm (.tmp 26) rfl (mc_mg (K.dep 4 26 rfl))
      · exact st_move (.tmp 7) rfl (f_at (K.old 7 rfl) (Fk.mono _ _ _ _ x7 K.grow))
      · exact st_call 47 (.func 47) _ _ _ rfl rfl (arg4 (K.dep 2 24 rfl) (K.dep 3 25 rfl) (K.dep 5 27 rfl) rfl) Tryd.enter47 (fk_said_r hlv h2 (by omega) hjl hk hjk hl0 ey0 (by omega) (K.dep 6 28 rfl) (hK.below (bgo bl K.grow)))
      · exact st_call 46 (.func 46) _ _ _ rfl rfl (arg2 (K.dep 1 23 rfl) (K.dep 7 29 rfl)) Tryd.enter46 (fk_against hxa hya hz0 hy0 hnd (by simp [hsm]) _)
      · exact st_move (.tmp 30) rfl (K.dep 8 30 rfl)
      · exact st_c2a (.tmp 21) rfl (K.dep 9 21 rfl)
      · exact st_c2b (.tmp 21) rfl (K.dep 9 21 rfl)
      · exact st_alloc 25 rfl _ _ (by kernel_rfl) K.grow.size
      intro f15 w15 A hb
      have S_x0 : Fk.f (.mc (qs)) (f15.eval (.tmp 0)) w14 := f_at (A.old 0 rfl) x0
      have S_x7 : Fk.f (.hc (P0 ++ [z])) (f15.eval (.tmp 7)) w14 := f_at (A.old 7 rfl) x7
      have hbS0 := Below.refl w14.heap.size w14
      have hbS := hb
      replace bl0 := bl
      replace x0 := f_at (A.old 0 rfl) (Fk.mono _ _ _ _ x0 hb)
      replace x3 := A.t x3 rfl
      replace x4 := A.t x4 rfl
      replace x5 := A.t x5 rfl
      replace x6 := A.t x6 rfl
      replace x7 := f_at (A.old 7 rfl) (Fk.mono _ _ _ _ x7 hb)
      replace x20 := A.t x20 rfl
      have x8 : Fk.f (.nw w14.heap.size 25 [.slice none 0 0, .slice none 0 0]) (f15.eval (.tmp 8)) w15 := A.has 12 8 rfl
      have x31 : Fk.f (.cv true) (f15.eval (.tmp 31)) w15 := A.has 10 31 rfl
      have x32 := A.e 11 32 rfl rfl
      have lt_m3 := Ob.lt m3
      replace m3 := Ob.below m3 hb
      have lt_m4 := Ob.lt m4
      replace m4 := Ob.below m4 hb
      have lt_m5 := Ob.lt m5
      replace m5 := Ob.below m5 hb
      replace bl := bgo bl hb
      replace sd := A.sd sd
      clear A hb
      clear x20
      obtain ⟨g8, hg8, e8, m8⟩ := x8
      have x8 := e8
      clear e8
      have nm3_8 : g3 ≠ g8 := Nat.ne_of_lt (Nat.lt_of_lt_of_le lt_m3 hg8)
      have nm4_8 : g4 ≠ g8 := Nat.ne_of_lt (Nat.lt_of_lt_of_le lt_m4 hg8)
      have nm5_8 : g5 ≠ g8 := Nat.ne_of_lt (Nat.lt_of_lt_of_le lt_m5 hg8)
      have hw8 : w.heap.size ≤ g8 := Nat.le_trans bl0.size hg8
      have hs8 := Nat.le_trans hbS0.size hg8
      obtain ⟨Az, Bz, uz, vz, ez, hAz, hBz, lAz, lBz, hrz⟩ := x31
      obtain ⟨pAz, mAz, cAz, _, _, rfl, _⟩ := id hAz
      obtain ⟨pBz, mBz, cBz, _, _, rfl, _⟩ := id hBz
      have x31 := ez
      clear ez
      refine ⟨_, run_str 25 (.tmp 8) (.tmp 31) rfl (g8) ([.slice pAz mAz cAz, .slice pBz mBz cBz] : List Value).toArray x8 x31 25 _ m8 (by kernel_rfl) (by kernel_rfl) (by kernel_rfl), ?_⟩
      replace hAz := sl_setRow (ds := ([.slice pAz mAz cAz, .slice pBz mBz cBz] : List Value).toArray) hAz m8
      replace hBz := sl_setRow (ds := ([.slice pAz mAz cAz, .slice pBz mBz cBz] : List Value).toArray) hBz m8
      replace m3 : Ob (w15.setRow g8 ([.slice pAz mAz cAz, .slice pBz mBz cBz] : List Value).toArray) (g3) 39 ([.int .i64 (i : Int), .int .i64 (ps.length : Int), ul, up]) := Ob.setRow_other m3 _ nm3_8
      replace m4 : Ob (w15.setRow g8 ([.slice pAz mAz cAz, .slice pBz mBz cBz] : List Value).toArray) (g4) 25 ([.slice none 0 0, .slice none 0 0]) := Ob.setRow_other m4 _ nm4_8
      replace m5 : Ob (w15.setRow g8 ([.slice pAz mAz cAz, .slice pBz mBz cBz] : List Value).toArray) (g5) 33 ((lv).map V) := Ob.setRow_other m5 _ nm5_8
      replace m8 : Ob (w15.setRow g8 ([.slice pAz mAz cAz, .slice pBz mBz cBz] : List Value).toArray) (g8) 25 ([.slice pAz mAz cAz, .slice pBz mBz cBz]) := Ob.setRow m8 ([.slice pAz mAz cAz, .slice pBz mBz cBz])
      replace hbS : Below _ _ (w15.setRow g8 ([.slice pAz mAz cAz, .slice pBz mBz cBz] : List Value).toArray) := hbS.trans (below_setRow _ _ _ _ hs8)
      replace bl : Below w.heap.size w (w15.setRow g8 ([.slice pAz mAz cAz, .slice pBz mBz cBz] : List Value).toArray) := bl.trans (below_setRow _ _ _ _ hw8)
      generalize w15.setRow g8 ([.slice pAz mAz cAz, .slice pBz mBz cBz] : List Value).toArray = w16b at bl m3 m4 m5 m8 hAz hBz hbS ⊢
      replace x0 : Fk.f (.mc (qs)) (f15.eval (.tmp 0)) w16b := Fk.mono _ _ _ _ S_x0 hbS
      replace x7 : Fk.f (.hc (P0 ++ [z])) (f15.eval (.tmp 7)) w16b := Fk.mono _ _ _ _ S_x7 hbS
      clear x31
      refine wl_one (.eq (.bool true)) rfl 9 rfl (by rw [sd.1]; decide) (st_assign (.tmp 32) rfl x32) ?_
      intro f17 w17 df2 sz2 old2 new2 hb
      replace hbS0 := hbS
      replace hbS := hbS.trans (Below.mono hb hbS.size)
      replace S_x0 := f_at (old2 0 rfl) S_x0
      replace S_x7 := f_at (old2 7 rfl) S_x7
      replace x0 := f_at (old2 0 rfl) (Fk.mono _ _ _ _ x0 hb)
      replace x3 := tr old2 x3 rfl
      replace x4 := tr old2 x4 rfl
      replace x5 := tr old2 x5 rfl
      replace x6 := tr old2 x6 rfl
      replace x7 := f_at (old2 7 rfl) (Fk.mono _ _ _ _ x7 hb)
      replace x8 := tr old2 x8 rfl
      replace x32 := tr old2 x32 rfl
      have x9 := Fk.e new2
      replace m3 := Ob.below m3 hb
      replace m4 := Ob.below m4 hb
      replace m5 := Ob.below m5 hb
      replace m8 := Ob.below m8 hb
      replace hAz := Fk.mono _ _ _ _ hAz hb
      replace hBz := Fk.mono _ _ _ _ hBz hb
      replace bl := bgo bl hb
      replace sd := sd2 sz2 df2 sd
      clear df2 sz2 old2 new2 hb
      refine wpList_nil ?_
      clear hbS hbS0 S_x0 S_x7
      clear x32
      show Code.wp _ _ _ _ _
      refine wp_seq ?_
      refine wr_a [.eq (.bool true)] (by rw [sd.1]; kernel_rfl) ⟨fun hw ac u K => ?_, trivial⟩ ?_
      · exact st_move (.tmp 9) rfl (K.t x9 rfl)
      intro f18 w18 A hb
      replace x0 := f_at (A.old 0 rfl) (Fk.mono _ _ _ _ x0 hb)
      replace x3 := A.t x3 rfl
      replace x4 := A.t x4 rfl
      replace x5 := A.t x5 rfl
      replace x6 := A.t x6 rfl
      replace x7 := f_at (A.old 7 rfl) (Fk.mono _ _ _ _ x7 hb)
      replace x8 := A.t x8 rfl
      replace x9 := A.t x9 rfl
      have x33 := A.e 0 33 rfl rfl
      replace m3 := Ob.below m3 hb
      replace m4 := Ob.below m4 hb
      replace m5 := Ob.below m5 hb
      replace m8 := Ob.below m8 hb
      replace hAz := Fk.mono _ _ _ _ hAz hb
      replace hBz := Fk.mono _ _ _ _ hBz hb
      replace bl := bgo bl hb
      replace sd := A.sd sd
      clear A hb
      clear x9
      show Code.wp _ _ _ _ _
      refine wp_cond_true x33 ?_
      refine wp_seq ?_
      clear x0
      clear x7
      refine wr_s [.eq (.agg ([.slice pAz mAz cAz, .slice pBz mBz cBz] : List Value).toArray)] (by rw [sd.1]; kernel_rfl) ⟨fun hw ac u K => ?_, trivial⟩ ?_
      · exact st_loadz 25 (.tmp 8) rfl (g8) 0 [.slice pAz mAz cAz, .slice pBz mBz cBz] (by kernel_rfl) (by kernel_rfl) (K.t x8 rfl) (Ob.range (Ob.below m8 K.grow) 0 _ (fun j v hj => by simpa using hj))
      intro f19 w19 A hb
      replace x3 := A.t x3 rfl
      replace x4 := A.t x4 rfl
      replace x5 := A.t x5 rfl
      replace x6 := A.t x6 rfl
      replace x8 := A.t x8 rfl
      replace x33 := A.t x33 rfl
      have x34 := A.e 0 34 rfl rfl
      replace m3 := Ob.below m3 hb
      replace m4 := Ob.below m4 hb
      replace m5 := Ob.below m5 hb
      replace m8 := Ob.below m8 hb
      replace hAz := Fk.mono _ _ _ _ hAz hb
      replace hBz := Fk.mono _ _ _ _ hBz hb
      replace bl := bgo bl hb
      replace sd := A.sd sd
      clear A hb
      clear x8
      clear x33
      refine wl_str rfl 25 (.tmp 4) (.tmp 34) rfl rfl (g4) ([.slice pAz mAz cAz, .slice pBz mBz cBz] : List Value).toArray x4 x34 25 _ m4 (by kernel_rfl) (by kernel_rfl) (by kernel_rfl) ?_
      replace hAz := sl_setRow (ds := ([.slice pAz mAz cAz, .slice pBz mBz cBz] : List Value).toArray) hAz m4
      replace hBz := sl_setRow (ds := ([.slice pAz mAz cAz, .slice pBz mBz cBz] : List Value).toArray) hBz m4
      replace m3 : Ob (w19.setRow g4 ([.slice pAz mAz cAz, .slice pBz mBz cBz] : List Value).toArray) (g3) 39 ([.int .i64 (i : Int), .int .i64 (ps.length : Int), ul, up]) := Ob.setRow_other m3 _ nm3_4
      replace m4 : Ob (w19.setRow g4 ([.slice pAz mAz cAz, .slice pBz mBz cBz] : List Value).toArray) (g4) 25 ([.slice pAz mAz cAz, .slice pBz mBz cBz]) := Ob.setRow m4 ([.slice pAz mAz cAz, .slice pBz mBz cBz])
      replace m5 : Ob (w19.setRow g4 ([.slice pAz mAz cAz, .slice pBz mBz cBz] : List Value).toArray) (g5) 33 ((lv).map V) := Ob.setRow_other m5 _ nm4_5.symm
      replace m8 : Ob (w19.setRow g4 ([.slice pAz mAz cAz, .slice pBz mBz cBz] : List Value).toArray) (g8) 25 ([.slice pAz mAz cAz, .slice pBz mBz cBz]) := Ob.setRow_other m8 _ nm4_8.symm
      replace bl : Below w.heap.size w (w19.setRow g4 ([.slice pAz mAz cAz, .slice pBz mBz cBz] : List Value).toArray) := bl.trans (below_setRow _ _ _ _ hw4)
      generalize w19.setRow g4 ([.slice pAz mAz cAz, .slice pBz mBz cBz] : List Value).toArray = w20b at bl m3 m4 m5 m8 hAz hBz ⊢
      refine wpList_nil ?_
      clear x34
      clear m8
      show Code.wp _ _ _ _ _
      refine wp_ret ?_
      repeat (first | with_reducible refine then_ret ?_ | with_reducible refine block_ret ?_)
      exact bodyPost_ret (v := .agg ([.slice pAz mAz cAz, .slice pBz mBz cBz] : List Value).toArray) (ret_c1 rfl f19 _ g4 _ _ x4 m4) sd.2 ⟨_, rfl, ⟨Az, Bz, _, _, rfl, hAz, hBz, lAz, lBz, hrz⟩, bl⟩
    refine wp_region_late [.mc (qs), .eq (.agg ((xa ++ ya).map V).toArray), .eq (.agg ((lv).map V).toArray), .eq (.int .i64 (j : Int)), .mc (qs), .eq (.int .i64 (((qs).length : Nat) : Int)), .hc (P0 ++ [z]), .eq (.agg ((z ++ y0).map V).toArray), .c2 false, .c2 false, .cv false, .eq (.bool false), .nw w14.heap.size 25 [.slice none 0 0, .slice none 0 0]] 11 32 _ _ [14] Tryd.mixed (by kernel_rfl) (by kernel_rfl) (by kernel_rfl) (by kernel_rfl) (by kernel_rfl) rfl rfl (by kernel_rfl) rfl (by kernel_rfl) rfl (by rw [sd.1]; kernel_rfl) (by kernel_rfl) (fun ac u K => ⟨_, late_c2 rfl (K.dep 9 21 rfl), rfl⟩) ⟨fun hw ac u K => ?_, fun hw ac u K => ?_, fun hw ac u K => ?_, fun hw ac u K => ?_, fun hw ac u K => ?_, fun hw ac u K => ?_, fun hw ac u K => ?_, fun hw ac u K => ?_, fun hw ac u K => ?_, fun hw ac u K => ?_, fun hw ac u K => ?_, fun hw ac u K => ?_, fun hw ac u K => ?_, trivial⟩ ?_
    · exact st_move (.tmp 0) rfl (f_at (K.old 0 rfl) (Fk.mono _ _ _ _ x0 K.grow))
    · exact st_call 45 (.func 45) _ _ _ rfl rfl (one_arg rfl) Tryd.enter45 (fk_halves (by omega) (smallP_mx hs) h2 (K.dep 0 22 rfl) (hK.below (bgo bl K.grow)) hk exa eya)
    · exact st_load33 (.tmp 5) rfl (g5) (lv) (K.t x5 rfl) hlv (Ob.below m5 K.grow)
    · exact st_move (.tmp 6) rfl (K.t x6 rfl)
    · exact st_move (.tmp 0) rfl (f_at (K.old 0 rfl) (Fk.mono _ _ _ _ x0 K.grow))
    · exact st_lenm (.tmp 26) rfl (mc_mg (K.dep 4 26 rfl))
    · exact st_move (.tmp 7) rfl (f_at (K.old 7 rfl) (Fk.mono _ _ _ _ x7 K.grow))
    · exact st_call 47 (.func 47) _ _ _ rfl rfl (arg4 (K.dep 2 24 rfl) (K.dep 3 25 rfl) (K.dep 5 27 rfl) rfl) Tryd.enter47 (fk_said_r hlv h2 (by omega) hjl hk hjk hl0 ey0 (by omega) (K.dep 6 28 rfl) (hK.below (bgo bl K.grow)))
    · exact st_call 46 (.func 46) _ _ _ rfl rfl (arg2 (K.dep 1 23 rfl) (K.dep 7 29 rfl)) Tryd.enter46 (fk_against hxa hya hz0 hy0 hnd (by simp only [hsm]; simp) _)
    · exact st_move (.tmp 30) rfl (K.dep 8 30 rfl)
    · exact st_c2a (.tmp 21) rfl (K.dep 9 21 rfl)
    · exact st_c2b (.tmp 21) rfl (K.dep 9 21 rfl)
    · exact st_alloc 25 rfl _ _ (by kernel_rfl) K.grow.size
    intro f15 w15 A hb
    have S_x0 : Fk.f (.mc (qs)) (f15.eval (.tmp 0)) w14 := f_at (A.old 0 rfl) x0
    have S_x7 : Fk.f (.hc (P0 ++ [z])) (f15.eval (.tmp 7)) w14 := f_at (A.old 7 rfl) x7
    have hbS0 := Below.refl w14.heap.size w14
    have hbS := hb
    replace bl0 := bl
    replace x0 := f_at (A.old 0 rfl) (Fk.mono _ _ _ _ x0 hb)
    replace x3 := A.t x3 rfl
    replace x4 := A.t x4 rfl
    replace x5 := A.t x5 rfl
    replace x6 := A.t x6 rfl
    replace x7 := f_at (A.old 7 rfl) (Fk.mono _ _ _ _ x7 hb)
    replace x20 := A.t x20 rfl
    have x8 : Fk.f (.nw w14.heap.size 25 [.slice none 0 0, .slice none 0 0]) (f15.eval (.tmp 8)) w15 := A.has 12 8 rfl
    have x31 : Fk.f (.cv false) (f15.eval (.tmp 31)) w15 := A.has 10 31 rfl
    have x32 := A.e 11 32 rfl rfl
    have lt_m3 := Ob.lt m3
    replace m3 := Ob.below m3 hb
    have lt_m4 := Ob.lt m4
    replace m4 := Ob.below m4 hb
    have lt_m5 := Ob.lt m5
    replace m5 := Ob.below m5 hb
    replace bl := bgo bl hb
    replace sd := A.sd sd
    clear A hb
    clear x20
    obtain ⟨g8, hg8, e8, m8⟩ := x8
    have x8 := e8
    clear e8
    have nm3_8 : g3 ≠ g8 := Nat.ne_of_lt (Nat.lt_of_lt_of_le lt_m3 hg8)
    have nm4_8 : g4 ≠ g8 := Nat.ne_of_lt (Nat.lt_of_lt_of_le lt_m4 hg8)
    have nm5_8 : g5 ≠ g8 := Nat.ne_of_lt (Nat.lt_of_lt_of_le lt_m5 hg8)
    have hw8 : w.heap.size ≤ g8 := Nat.le_trans bl0.size hg8
    have hs8 := Nat.le_trans hbS0.size hg8
    obtain ⟨Az, Bz, uz, vz, ez, hAz, hBz, lAz, lBz, hrz⟩ := x31
    obtain ⟨pAz, mAz, cAz, _, _, rfl, _⟩ := id hAz
    obtain ⟨pBz, mBz, cBz, _, _, rfl, _⟩ := id hBz
    have x31 := ez
    clear ez
    refine ⟨_, run_str 25 (.tmp 8) (.tmp 31) rfl (g8) ([.slice pAz mAz cAz, .slice pBz mBz cBz] : List Value).toArray x8 x31 25 _ m8 (by kernel_rfl) (by kernel_rfl) (by kernel_rfl), ?_⟩
    replace hAz := sl_setRow (ds := ([.slice pAz mAz cAz, .slice pBz mBz cBz] : List Value).toArray) hAz m8
    replace hBz := sl_setRow (ds := ([.slice pAz mAz cAz, .slice pBz mBz cBz] : List Value).toArray) hBz m8
    replace m3 : Ob (w15.setRow g8 ([.slice pAz mAz cAz, .slice pBz mBz cBz] : List Value).toArray) (g3) 39 ([.int .i64 (i : Int), .int .i64 (ps.length : Int), ul, up]) := Ob.setRow_other m3 _ nm3_8
    replace m4 : Ob (w15.setRow g8 ([.slice pAz mAz cAz, .slice pBz mBz cBz] : List Value).toArray) (g4) 25 ([.slice none 0 0, .slice none 0 0]) := Ob.setRow_other m4 _ nm4_8
    replace m5 : Ob (w15.setRow g8 ([.slice pAz mAz cAz, .slice pBz mBz cBz] : List Value).toArray) (g5) 33 ((lv).map V) := Ob.setRow_other m5 _ nm5_8
    replace m8 : Ob (w15.setRow g8 ([.slice pAz mAz cAz, .slice pBz mBz cBz] : List Value).toArray) (g8) 25 ([.slice pAz mAz cAz, .slice pBz mBz cBz]) := Ob.setRow m8 ([.slice pAz mAz cAz, .slice pBz mBz cBz])
    replace hbS : Below _ _ (w15.setRow g8 ([.slice pAz mAz cAz, .slice pBz mBz cBz] : List Value).toArray) := hbS.trans (below_setRow _ _ _ _ hs8)
    replace bl : Below w.heap.size w (w15.setRow g8 ([.slice pAz mAz cAz, .slice pBz mBz cBz] : List Value).toArray) := bl.trans (below_setRow _ _ _ _ hw8)
    generalize w15.setRow g8 ([.slice pAz mAz cAz, .slice pBz mBz cBz] : List Value).toArray = w16b at bl m3 m4 m5 m8 hAz hBz hbS ⊢
    replace x0 : Fk.f (.mc (qs)) (f15.eval (.tmp 0)) w16b := Fk.mono _ _ _ _ S_x0 hbS
    replace x7 : Fk.f (.hc (P0 ++ [z])) (f15.eval (.tmp 7)) w16b := Fk.mono _ _ _ _ S_x7 hbS
    clear x31
    refine wl_one (.eq (.bool false)) rfl 9 rfl (by rw [sd.1]; decide) (st_assign (.tmp 32) rfl x32) ?_
    intro f17 w17 df2 sz2 old2 new2 hb
    replace hbS0 := hbS
    replace hbS := hbS.trans (Below.mono hb hbS.size)
    replace S_x0 := f_at (old2 0 rfl) S_x0
    replace S_x7 := f_at (old2 7 rfl) S_x7
    replace x0 := f_at (old2 0 rfl) (Fk.mono _ _ _ _ x0 hb)
    replace x3 := tr old2 x3 rfl
    replace x4 := tr old2 x4 rfl
    replace x5 := tr old2 x5 rfl
    replace x6 := tr old2 x6 rfl
    replace x7 := f_at (old2 7 rfl) (Fk.mono _ _ _ _ x7 hb)
    replace x8 := tr old2 x8 rfl
    replace x32 := tr old2 x32 rfl
    have x9 := Fk.e new2
    replace m3 := Ob.below m3 hb
    replace m4 := Ob.below m4 hb
    replace m5 := Ob.below m5 hb
    replace m8 := Ob.below m8 hb
    replace hAz := Fk.mono _ _ _ _ hAz hb
    replace hBz := Fk.mono _ _ _ _ hBz hb
    replace bl := bgo bl hb
    replace sd := sd2 sz2 df2 sd
    clear df2 sz2 old2 new2 hb
    refine wpList_nil ?_
    clear hbS hbS0 S_x0 S_x7
    clear x32
    show Code.wp _ _ _ _ _
    refine wp_seq ?_
    refine wr_a [.eq (.bool false)] (by rw [sd.1]; kernel_rfl) ⟨fun hw ac u K => ?_, trivial⟩ ?_
    · exact st_move (.tmp 9) rfl (K.t x9 rfl)
    intro f18 w18 A hb
    replace x0 := f_at (A.old 0 rfl) (Fk.mono _ _ _ _ x0 hb)
    replace x3 := A.t x3 rfl
    replace x4 := A.t x4 rfl
    replace x5 := A.t x5 rfl
    replace x6 := A.t x6 rfl
    replace x7 := f_at (A.old 7 rfl) (Fk.mono _ _ _ _ x7 hb)
    replace x8 := A.t x8 rfl
    replace x9 := A.t x9 rfl
    have x33 := A.e 0 33 rfl rfl
    replace m3 := Ob.below m3 hb
    replace m4 := Ob.below m4 hb
    replace m5 := Ob.below m5 hb
    replace m8 := Ob.below m8 hb
    replace hAz := Fk.mono _ _ _ _ hAz hb
    replace hBz := Fk.mono _ _ _ _ hBz hb
    replace bl := bgo bl hb
    replace sd := A.sd sd
    clear A hb
    clear x9
    show Code.wp _ _ _ _ _
    refine wp_cond_false x33 ?_
    refine wp_skip ?_
    show Code.wp _ _ _ _ _
    refine wp_seq ?_
    refine wp_seq ?_
    refine wr_a [.mc (qs), .eq (.int .i64 (((qs).length : Nat) : Int)), .eq (.int .i64 (k : Int)), .eq (.int .i64 (k : Int))] (by rw [sd.1]; kernel_rfl) ⟨fun hw ac u K => ?_, fun hw ac u K => ?_, fun hw ac u K => ?_, fun hw ac u K => ?_, trivial⟩ ?_
    · exact st_move (.tmp 0) rfl (f_at (K.old 0 rfl) (Fk.mono _ _ _ _ x0 K.grow))
    · exact st_lenm (.tmp 35) rfl (mc_mg (K.dep 0 35 rfl))
    · exact st_call 35 (.func 35) _ _ _ rfl rfl (one_arg (K.dep 1 36 rfl)) Tryd.enter35 (by rw [← hk]; exact fk_of (split_hi qs.length h2 (by omega) _))
    · exact st_assign (.tmp 37) rfl (K.dep 2 37 rfl)
    intro f19 w19 A hb
    replace x0 := f_at (A.old 0 rfl) (Fk.mono _ _ _ _ x0 hb)
    replace x3 := A.t x3 rfl
    replace x4 := A.t x4 rfl
    replace x5 := A.t x5 rfl
    replace x6 := A.t x6 rfl
    replace x7 := f_at (A.old 7 rfl) (Fk.mono _ _ _ _ x7 hb)
    replace x8 := A.t x8 rfl
    replace x33 := A.t x33 rfl
    have x10 := A.e 3 10 rfl rfl
    replace m3 := Ob.below m3 hb
    replace m4 := Ob.below m4 hb
    replace m5 := Ob.below m5 hb
    replace m8 := Ob.below m8 hb
    replace hAz := Fk.mono _ _ _ _ hAz hb
    replace hBz := Fk.mono _ _ _ _ hBz hb
    replace bl := bgo bl hb
    replace sd := A.sd sd
    clear A hb
    clear x8
    clear x33
    clear m8
    show Code.wp _ _ _ _ _
    refine wp_seq ?_
    refine wr_a [.eq (.int .i64 (j : Int)), .eq (.int .i64 (k : Int)), .eq (.bool false)] (by rw [sd.1]; kernel_rfl) ⟨fun hw ac u K => ?_, fun hw ac u K => ?_, fun hw ac u K => ?_, trivial⟩ ?_
    · exact st_move (.tmp 6) rfl (K.t x6 rfl)
    · exact st_move (.tmp 10) rfl (K.t x10 rfl)
    · exact st_lss 3 (.tmp 38) (.tmp 39) rfl .i64 ((j : Int)) ((k : Int)) (K.dep 0 38 rfl) (K.dep 1 39 rfl) _ (by first | (simp; done) | (simp; omega))
    intro f20 w20 A hb
    replace x0 := f_at (A.old 0 rfl) (Fk.mono _ _ _ _ x0 hb)
    replace x3 := A.t x3 rfl
    replace x4 := A.t x4 rfl
    replace x5 := A.t x5 rfl
    replace x6 := A.t x6 rfl
    replace x7 := f_at (A.old 7 rfl) (Fk.mono _ _ _ _ x7 hb)
    replace x10 := A.t x10 rfl
    have x40 := A.e 2 40 rfl rfl
    replace m3 := Ob.below m3 hb
    replace m4 := Ob.below m4 hb
    replace m5 := Ob.below m5 hb
    replace hAz := Fk.mono _ _ _ _ hAz hb
    replace hBz := Fk.mono _ _ _ _ hBz hb
    replace bl := bgo bl hb
    replace sd := A.sd sd
    clear A hb
    show Code.wp _ _ _ _ _
    refine wp_cond_false x40 ?_
    refine wr_s [.mc (qs), .eq (.int .i64 (k : Int)), .mc (qs.drop k), .eq (.int .i64 (j : Int)), .eq (.int .i64 (k : Int)), .eq (.int .i64 ((j - k : Nat) : Int))] (by rw [sd.1]; kernel_rfl) ⟨fun hw ac u K => ?_, fun hw ac u K => ?_, fun hw ac u K => ?_, fun hw ac u K => ?_, fun hw ac u K => ?_, fun hw ac u K => ?_, trivial⟩ ?_
    · exact st_move (.tmp 0) rfl (f_at (K.old 0 rfl) (Fk.mono _ _ _ _ x0 K.grow))
    · exact st_move (.tmp 10) rfl (K.t x10 rfl)
    · exact st_restmc (.tmp 44) (.tmp 45) rfl (K.dep 0 44 rfl) k (K.dep 1 45 rfl) (by omega)
    · exact st_move (.tmp 6) rfl (K.t x6 rfl)
    · exact st_move (.tmp 10) rfl (K.t x10 rfl)
    · exact st_subz (.tmp 47) (.tmp 48) rfl _ _ _ (K.dep 3 47 rfl) (K.dep 4 48 rfl) (by omega) (by omega) (by omega)
    intro f21 w21 A hb
    replace x0 := f_at (A.old 0 rfl) (Fk.mono _ _ _ _ x0 hb)
    replace x3 := A.t x3 rfl
    replace x4 := A.t x4 rfl
    replace x5 := A.t x5 rfl
    replace x6 := A.t x6 rfl
    replace x7 := f_at (A.old 7 rfl) (Fk.mono _ _ _ _ x7 hb)
    replace x10 := A.t x10 rfl
    replace x40 := A.t x40 rfl
    have x46 : Fk.f (.mc (qs.drop k)) (f21.eval (.tmp 46)) w21 := A.has 2 46 rfl
    have x49 := A.e 5 49 rfl rfl
    replace m3 := Ob.below m3 hb
    replace m4 := Ob.below m4 hb
    replace m5 := Ob.below m5 hb
    replace hAz := Fk.mono _ _ _ _ hAz hb
    replace hBz := Fk.mono _ _ _ _ hBz hb
    replace bl := bgo bl hb
    replace sd := A.sd sd
    clear A hb
    clear x10
    clear x40
    refine wl_one (.mc (qs.drop k)) rfl 0 rfl (by rw [sd.1]; decide) (st_assign (.tmp 46) rfl x46) ?_
    intro f22 w22 df2 sz2 old2 new2 hb
    clear x0
    replace x3 := tr old2 x3 rfl
    replace x4 := tr old2 x4 rfl
    replace x5 := tr old2 x5 rfl
    replace x6 := tr old2 x6 rfl
    replace x7 := f_at (old2 7 rfl) (Fk.mono _ _ _ _ x7 hb)
    replace x46 := f_at (old2 46 rfl) (Fk.mono _ _ _ _ x46 hb)
    replace x49 := tr old2 x49 rfl
    have x0 : Fk.f (.mc (qs.drop k)) (f22.eval (.tmp 0)) w22 := new2
    replace m3 := Ob.below m3 hb
    replace m4 := Ob.below m4 hb
    replace m5 := Ob.below m5 hb
    replace hAz := Fk.mono _ _ _ _ hAz hb
    replace hBz := Fk.mono _ _ _ _ hBz hb
    replace bl := bgo bl hb
    replace sd := sd2 sz2 df2 sd
    clear df2 sz2 old2 new2 hb
    clear x46
    refine wl_one (.eq (.int .i64 ((j - k : Nat) : Int))) rfl 6 rfl (by rw [sd.1]; decide) (st_assign (.tmp 49) rfl x49) ?_
    intro f23 w23 df2 sz2 old2 new2 hb
    replace x3 := tr old2 x3 rfl
    replace x4 := tr old2 x4 rfl
    replace x5 := tr old2 x5 rfl
    clear x6
    replace x7 := f_at (old2 7 rfl) (Fk.mono _ _ _ _ x7 hb)
    replace x49 := tr old2 x49 rfl
    replace x0 := f_at (old2 0 rfl) (Fk.mono _ _ _ _ x0 hb)
    have x6 := Fk.e new2
    replace m3 := Ob.below m3 hb
    replace m4 := Ob.below m4 hb
    replace m5 := Ob.below m5 hb
    replace hAz := Fk.mono _ _ _ _ hAz hb
    replace hBz := Fk.mono _ _ _ _ hBz hb
    replace bl := bgo bl hb
    replace sd := sd2 sz2 df2 sd
    clear df2 sz2 old2 new2 hb
    refine wpList_nil ?_
    clear x49
    show Code.wp _ _ _ _ _
    refine wr_s [.hc (P0 ++ [z]), .hc (P0 ++ [z]), .eq (.int .i64 ((P0.length + 1 : Nat) : Int)), .eq (.int .i64 (P0.length : Int)), .hc (P0)] (by rw [sd.1]; kernel_rfl) ⟨fun hw ac u K => ?_, fun hw ac u K => ?_, fun hw ac u K => ?_, fun hw ac u K => ?_, fun hw ac u K => ?_, trivial⟩ ?_
    · exact st_move (.tmp 7) rfl (f_at (K.old 7 rfl) (Fk.mono _ _ _ _ x7 K.grow))
    · exact st_move (.tmp 7) rfl (f_at (K.old 7 rfl) (Fk.mono _ _ _ _ x7 K.grow))
    · exact st_lenc (.tmp 51) rfl (P0.length + 1) (by simp) (K.dep 1 51 rfl)
    · exact st_subz (.tmp 52) (.const (.int .i64 1)) rfl _ 1 _ (K.dep 2 52 rfl) rfl (by omega) (by omega) (by omega)
    · exact st_cutl (.tmp 50) (.tmp 53) rfl (K.dep 0 50 rfl) (K.dep 3 53 rfl)
    intro f24 w24 A hb
    replace x3 := A.t x3 rfl
    replace x4 := A.t x4 rfl
    replace x5 := A.t x5 rfl
    replace x7 := f_at (A.old 7 rfl) (Fk.mono _ _ _ _ x7 hb)
    replace x0 := f_at (A.old 0 rfl) (Fk.mono _ _ _ _ x0 hb)
    replace x6 := A.t x6 rfl
    have x54 : Fk.f (.hc (P0)) (f24.eval (.tmp 54)) w24 := A.has 4 54 rfl
    replace m3 := Ob.below m3 hb
    replace m4 := Ob.below m4 hb
    replace m5 := Ob.below m5 hb
    replace hAz := Fk.mono _ _ _ _ hAz hb
    replace hBz := Fk.mono _ _ _ _ hBz hb
    replace bl := bgo bl hb
    replace sd := A.sd sd
    clear A hb
    refine wl_one (.hc (P0)) rfl 7 rfl (by rw [sd.1]; decide) (st_assign (.tmp 54) rfl x54) ?_
    intro f25 w25 df2 sz2 old2 new2 hb
    replace x3 := tr old2 x3 rfl
    replace x4 := tr old2 x4 rfl
    replace x5 := tr old2 x5 rfl
    clear x7
    replace x0 := f_at (old2 0 rfl) (Fk.mono _ _ _ _ x0 hb)
    replace x6 := tr old2 x6 rfl
    replace x54 := f_at (old2 54 rfl) (Fk.mono _ _ _ _ x54 hb)
    have x7 : Fk.f (.hc (P0)) (f25.eval (.tmp 7)) w25 := new2
    replace m3 := Ob.below m3 hb
    replace m4 := Ob.below m4 hb
    replace m5 := Ob.below m5 hb
    replace hAz := Fk.mono _ _ _ _ hAz hb
    replace hBz := Fk.mono _ _ _ _ hBz hb
    replace bl := bgo bl hb
    replace sd := sd2 sz2 df2 sd
    clear df2 sz2 old2 new2 hb
    refine wpList_nil ?_
    clear x54
    show (∃ _, _) ∧ _
    refine ⟨⟨qs.drop k, j - k, P0, smallP_drop hs k, ⟨q, by rw [List.getElem?_drop, show k + (j - k) = j by omega]; exact hqj, hlq⟩, hnx hsm.2, sd.1, sd.2, x3, x4, x5, x0, x6, x7, m3, m4, m5, bl⟩, ?_⟩
    rw [slen_mc x0, hcnt, List.length_drop]
    omega
  obtain ⟨P0, z, y0, rfl, hl0, ey0, hnd, hnx⟩ := cldl h2 hk hjk hL
  have hz0 : z.length = 32 := hc_len x7 z (by simp)
  have hy0 : y0.length = 32 := by rw [← ey0.out]; exact ldt_len hlv _ _
  rw [exa.out, eya.out] at hnd
  rw [exa.out] at hnx
  have hP0 : P0.length ≤ 60 := by rw [List.length_append] at hQl; omega
  refine wr_a [.mc (qs), .eq (.int .i64 (((qs).length : Nat) : Int)), .eq (.bool true)] (by rw [sd.1]; kernel_rfl) ⟨fun hw ac u K => ?_, fun hw ac u K => ?_, fun hw ac u K => ?_, trivial⟩ ?_
  · exact st_move (.tmp 0) rfl (f_at (K.old 0 rfl) (Fk.mono _ _ _ _ x0 K.grow))
  · exact st_lenm (.tmp 18) rfl (mc_mg (K.dep 0 18 rfl))
  · exact st_gtr 3 (.tmp 19) (.const (.int .i64 1)) rfl .i64 ((((qs).length : Nat) : Int)) (1) (K.dep 1 19 rfl) rfl _ (by symm; rw [decide_eq_true_iff]; exact (by omega))
  intro f14 w14 A hb
  replace x0 := f_at (A.old 0 rfl) (Fk.mono _ _ _ _ x0 hb)
  replace x3 := A.t x3 rfl
  replace x4 := A.t x4 rfl
  replace x5 := A.t x5 rfl
  replace x6 := A.t x6 rfl
  replace x7 := f_at (A.old 7 rfl) (Fk.mono _ _ _ _ x7 hb)
  have x20 := A.e 2 20 rfl rfl
  replace m3 := Ob.below m3 hb
  replace m4 := Ob.below m4 hb
  replace m5 := Ob.below m5 hb
  replace bl := bgo bl hb
  replace sd := A.sd sd
  clear A hb
  show Code.wp _ _ _ _ _
  refine wp_cond_true x20 ?_
  refine wp_skip ?_
  show Code.wp _ _ _ _ _
  refine wp_block ?_
  refine wp_seq ?_
  refine wp_seq ?_
  by_cases hsm : xa = y0 ∧ ya = z
  rotate_left
  · skip
    refine wp_region_late [.mc (qs), .eq (.agg ((xa ++ ya).map V).toArray), .eq (.agg ((lv).map V).toArray), .eq (.int .i64 (j : Int)), .mc (qs), .eq (.int .i64 (((qs).length : Nat) : Int)), .hc (P0 ++ [z]), .eq (.agg ((y0 ++ z).map V).toArray), .c2 true, .c2 true, .cv true, .eq (.bool true), .nw w14.heap.size 25 [.slice none 0 0, .slice none 0 0]] 11 32 _ _ [14] Tryd.mixed (by kernel_rfl) (by kernel_rfl) (by kernel_rfl) (by kernel_rfl) (by kernel_rfl) rfl rfl (by kernel_rfl) rfl (by kernel_rfl) rfl (by rw [sd.1]; kernel_rfl) (by kernel_rfl) (fun ac u K => ⟨_, late_c2 rfl (K.dep 9 21 rfl), rfl⟩) ⟨fun hw ac u K => ?_, fun hw ac u K => ?_, fun hw ac u K => ?_, fun hw ac u K => ?_, fun hw ac u K => ?_, fun hw ac u K => ?_, fun hw ac u K => ?_, fun hw ac u K => ?_, fun hw ac u K => ?_, fun hw ac u K => ?_, fun hw ac u K => ?_, fun hw ac u K => ?_, fun hw ac u K => ?_, trivial⟩ ?_
    · exact st_move (.tmp 0) rfl (f_at (K.old 0 rfl) (Fk.mono _ _ _ _ x0 K.grow))
    · exact st_call 45 (.func 45) _ _ _ rfl rfl (one_arg rfl) Tryd.enter45 (fk_halves (by omega) (smallP_mx hs) h2 (K.dep 0 22 rfl) (hK.below (bgo bl K.grow)) hk exa eya)
    · exact st_load33 (.tmp 5) rfl (g5) (lv) (K.t x5 rfl) hlv (Ob.below m5 K.grow)
    · exact st_move (.tmp 6) rfl (K.t x6 rfl)
    · exact st_move (.tmp 0) rfl (f_at (K.old 0 rfl) (Fk.mono _ _ _ _ x0 K.grow))
    · exact st_lenm (.tmp 26) rfl (mc_mg (K.dep 4 26 rfl))
    · exact st_move (.tmp 7) rfl (f_at (K.old 7 rfl) (Fk.mono _ _ _ _ x7 K.grow))
    · exact st_call 47 (.func 47) _ _ _ rfl rfl (arg4 (K.dep 2 24 rfl) (K.dep 3 25 rfl) (K.dep 5 27 rfl) rfl) Tryd.enter47 (fk_said_l hlv h2 (by omega) hk hjk hl0 ey0 (by omega) (K.dep 6 28 rfl) (hK.below (bgo bl K.grow)))
    · exact st_call 46 (.func 46) _ _ _ rfl rfl (arg2 (K.dep 1 23 rfl) (K.dep 7 29 rfl)) Tryd.enter46 (fk_against hxa hya hy0 hz0 hnd (by simp [hsm]) _)
    · exact st_move (.tmp 30) rfl (K.dep 8 30 rfl)
    · exact st_c2a (.tmp 21) rfl (K.dep 9 21 rfl)
    · exact st_c2b (.tmp 21) rfl (K.dep 9 21 rfl)
    · exact st_alloc 25 rfl _ _ (by kernel_rfl) K.grow.size
    intro f15 w15 A hb
    have S_x0 : Fk.f (.mc (qs)) (f15.eval (.tmp 0)) w14 := f_at (A.old 0 rfl) x0
    have S_x7 : Fk.f (.hc (P0 ++ [z])) (f15.eval (.tmp 7)) w14 := f_at (A.old 7 rfl) x7
    have hbS0 := Below.refl w14.heap.size w14
    have hbS := hb
    replace bl0 := bl
    replace x0 := f_at (A.old 0 rfl) (Fk.mono _ _ _ _ x0 hb)
    replace x3 := A.t x3 rfl
    replace x4 := A.t x4 rfl
    replace x5 := A.t x5 rfl
    replace x6 := A.t x6 rfl
    replace x7 := f_at (A.old 7 rfl) (Fk.mono _ _ _ _ x7 hb)
    replace x20 := A.t x20 rfl
    have x8 : Fk.f (.nw w14.heap.size 25 [.slice none 0 0, .slice none 0 0]) (f15.eval (.tmp 8)) w15 := A.has 12 8 rfl
    have x31 : Fk.f (.cv true) (f15.eval (.tmp 31)) w15 := A.has 10 31 rfl
    have x32 := A.e 11 32 rfl rfl
    have lt_m3 := Ob.lt m3
    replace m3 := Ob.below m3 hb
    have lt_m4 := Ob.lt m4
    replace m4 := Ob.below m4 hb
    have lt_m5 := Ob.lt m5
    replace m5 := Ob.below m5 hb
    replace bl := bgo bl hb
    replace sd := A.sd sd
    clear A hb
    clear x20
    obtain ⟨g8, hg8, e8, m8⟩ := x8
    have x8 := e8
    clear e8
    have nm3_8 : g3 ≠ g8 := Nat.ne_of_lt (Nat.lt_of_lt_of_le lt_m3 hg8)
    have nm4_8 : g4 ≠ g8 := Nat.ne_of_lt (Nat.lt_of_lt_of_le lt_m4 hg8)
    have nm5_8 : g5 ≠ g8 := Nat.ne_of_lt (Nat.lt_of_lt_of_le lt_m5 hg8)
    have hw8 : w.heap.size ≤ g8 := Nat.le_trans bl0.size hg8
    have hs8 := Nat.le_trans hbS0.size hg8
    obtain ⟨Az, Bz, uz, vz, ez, hAz, hBz, lAz, lBz, hrz⟩ := x31
    obtain ⟨pAz, mAz, cAz, _, _, rfl, _⟩ := id hAz
    obtain ⟨pBz, mBz, cBz, _, _, rfl, _⟩ := id hBz
    have x31 := ez
    clear ez
    refine ⟨_, run_str 25 (.tmp 8) (.tmp 31) rfl (g8) ([.slice pAz mAz cAz, .slice pBz mBz cBz] : List Value).toArray x8 x31 25 _ m8 (by kernel_rfl) (by kernel_rfl) (by kernel_rfl), ?_⟩
    replace hAz := sl_setRow (ds := ([.slice pAz mAz cAz, .slice pBz mBz cBz] : List Value).toArray) hAz m8
    replace hBz := sl_setRow (ds := ([.slice pAz mAz cAz, .slice pBz mBz cBz] : List Value).toArray) hBz m8
    replace m3 : Ob (w15.setRow g8 ([.slice pAz mAz cAz, .slice pBz mBz cBz] : List Value).toArray) (g3) 39 ([.int .i64 (i : Int), .int .i64 (ps.length : Int), ul, up]) := Ob.setRow_other m3 _ nm3_8
    replace m4 : Ob (w15.setRow g8 ([.slice pAz mAz cAz, .slice pBz mBz cBz] : List Value).toArray) (g4) 25 ([.slice none 0 0, .slice none 0 0]) := Ob.setRow_other m4 _ nm4_8
    replace m5 : Ob (w15.setRow g8 ([.slice pAz mAz cAz, .slice pBz mBz cBz] : List Value).toArray) (g5) 33 ((lv).map V) := Ob.setRow_other m5 _ nm5_8
    replace m8 : Ob (w15.setRow g8 ([.slice pAz mAz cAz, .slice pBz mBz cBz] : List Value).toArray) (g8) 25 ([.slice pAz mAz cAz, .slice pBz mBz cBz]) := Ob.setRow m8 ([.slice pAz mAz cAz, .slice pBz mBz cBz])
    replace hbS : Below _ _ (w15.setRow g8 ([.slice pAz mAz cAz, .slice pBz mBz cBz] : List Value).toArray) := hbS.trans (below_setRow _ _ _ _ hs8)
    replace bl : Below w.heap.size w (w15.setRow g8 ([.slice pAz mAz cAz, .slice pBz mBz cBz] : List Value).toArray) := bl.trans (below_setRow _ _ _ _ hw8)
    generalize w15.setRow g8 ([.slice pAz mAz cAz, .slice pBz mBz cBz] : List Value).toArray = w16b at bl m3 m4 m5 m8 hAz hBz hbS ⊢
    replace x0 : Fk.f (.mc (qs)) (f15.eval (.tmp 0)) w16b := Fk.mono _ _ _ _ S_x0 hbS
    replace x7 : Fk.f (.hc (P0 ++ [z])) (f15.eval (.tmp 7)) w16b := Fk.mono _ _ _ _ S_x7 hbS
    clear x31
    refine wl_one (.eq (.bool true)) rfl 9 rfl (by rw [sd.1]; decide) (st_assign (.tmp 32) rfl x32) ?_
    intro f17 w17 df2 sz2 old2 new2 hb
    replace hbS0 := hbS
    replace hbS := hbS.trans (Below.mono hb hbS.size)
    replace S_x0 := f_at (old2 0 rfl) S_x0
    replace S_x7 := f_at (old2 7 rfl) S_x7
    replace x0 := f_at (old2 0 rfl) (Fk.mono _ _ _ _ x0 hb)
    replace x3 := tr old2 x3 rfl
    replace x4 := tr old2 x4 rfl
    replace x5 := tr old2 x5 rfl
    replace x6 := tr old2 x6 rfl
    replace x7 := f_at (old2 7 rfl) (Fk.mono _ _ _ _ x7 hb)
    replace x8 := tr old2 x8 rfl
    replace x32 := tr old2 x32 rfl
    have x9 := Fk.e new2
    replace m3 := Ob.below m3 hb
    replace m4 := Ob.below m4 hb
    replace m5 := Ob.below m5 hb
    replace m8 := Ob.below m8 hb
    replace hAz := Fk.mono _ _ _ _ hAz hb
    replace hBz := Fk.mono _ _ _ _ hBz hb
    replace bl := bgo bl hb
    replace sd := sd2 sz2 df2 sd
    clear df2 sz2 old2 new2 hb
    refine wpList_nil ?_
    clear hbS hbS0 S_x0 S_x7
    clear x32
    show Code.wp _ _ _ _ _
    refine wp_seq ?_
    refine wr_a [.eq (.bool true)] (by rw [sd.1]; kernel_rfl) ⟨fun hw ac u K => ?_, trivial⟩ ?_
    · exact st_move (.tmp 9) rfl (K.t x9 rfl)
    intro f18 w18 A hb
    replace x0 := f_at (A.old 0 rfl) (Fk.mono _ _ _ _ x0 hb)
    replace x3 := A.t x3 rfl
    replace x4 := A.t x4 rfl
    replace x5 := A.t x5 rfl
    replace x6 := A.t x6 rfl
    replace x7 := f_at (A.old 7 rfl) (Fk.mono _ _ _ _ x7 hb)
    replace x8 := A.t x8 rfl
    replace x9 := A.t x9 rfl
    have x33 := A.e 0 33 rfl rfl
    replace m3 := Ob.below m3 hb
    replace m4 := Ob.below m4 hb
    replace m5 := Ob.below m5 hb
    replace m8 := Ob.below m8 hb
    replace hAz := Fk.mono _ _ _ _ hAz hb
    replace hBz := Fk.mono _ _ _ _ hBz hb
    replace bl := bgo bl hb
    replace sd := A.sd sd
    clear A hb
    clear x9
    show Code.wp _ _ _ _ _
    refine wp_cond_true x33 ?_
    refine wp_seq ?_
    clear x0
    clear x7
    refine wr_s [.eq (.agg ([.slice pAz mAz cAz, .slice pBz mBz cBz] : List Value).toArray)] (by rw [sd.1]; kernel_rfl) ⟨fun hw ac u K => ?_, trivial⟩ ?_
    · exact st_loadz 25 (.tmp 8) rfl (g8) 0 [.slice pAz mAz cAz, .slice pBz mBz cBz] (by kernel_rfl) (by kernel_rfl) (K.t x8 rfl) (Ob.range (Ob.below m8 K.grow) 0 _ (fun j v hj => by simpa using hj))
    intro f19 w19 A hb
    replace x3 := A.t x3 rfl
    replace x4 := A.t x4 rfl
    replace x5 := A.t x5 rfl
    replace x6 := A.t x6 rfl
    replace x8 := A.t x8 rfl
    replace x33 := A.t x33 rfl
    have x34 := A.e 0 34 rfl rfl
    replace m3 := Ob.below m3 hb
    replace m4 := Ob.below m4 hb
    replace m5 := Ob.below m5 hb
    replace m8 := Ob.below m8 hb
    replace hAz := Fk.mono _ _ _ _ hAz hb
    replace hBz := Fk.mono _ _ _ _ hBz hb
    replace bl := bgo bl hb
    replace sd := A.sd sd
    clear A hb
    clear x8
    clear x33
    refine wl_str rfl 25 (.tmp 4) (.tmp 34) rfl rfl (g4) ([.slice pAz mAz cAz, .slice pBz mBz cBz] : List Value).toArray x4 x34 25 _ m4 (by kernel_rfl) (by kernel_rfl) (by kernel_rfl) ?_
    replace hAz := sl_setRow (ds := ([.slice pAz mAz cAz, .slice pBz mBz cBz] : List Value).toArray) hAz m4
    replace hBz := sl_setRow (ds := ([.slice pAz mAz cAz, .slice pBz mBz cBz] : List Value).toArray) hBz m4
    replace m3 : Ob (w19.setRow g4 ([.slice pAz mAz cAz, .slice pBz mBz cBz] : List Value).toArray) (g3) 39 ([.int .i64 (i : Int), .int .i64 (ps.length : Int), ul, up]) := Ob.setRow_other m3 _ nm3_4
    replace m4 : Ob (w19.setRow g4 ([.slice pAz mAz cAz, .slice pBz mBz cBz] : List Value).toArray) (g4) 25 ([.slice pAz mAz cAz, .slice pBz mBz cBz]) := Ob.setRow m4 ([.slice pAz mAz cAz, .slice pBz mBz cBz])
    replace m5 : Ob (w19.setRow g4 ([.slice pAz mAz cAz, .slice pBz mBz cBz] : List Value).toArray) (g5) 33 ((lv).map V) := Ob.setRow_other m5 _ nm4_5.symm
    replace m8 : Ob (w19.setRow g4 ([.slice pAz mAz cAz, .slice pBz mBz cBz] : List Value).toArray) (g8) 25 ([.slice pAz mAz cAz, .slice pBz mBz cBz]) := Ob.setRow_other m8 _ nm4_8.symm
    replace bl : Below w.heap.size w (w19.setRow g4 ([.slice pAz mAz cAz, .slice pBz mBz cBz] : List Value).toArray) := bl.trans (below_setRow _ _ _ _ hw4)
    generalize w19.setRow g4 ([.slice pAz mAz cAz, .slice pBz mBz cBz] : List Value).toArray = w20b at bl m3 m4 m5 m8 hAz hBz ⊢
    refine wpList_nil ?_
    clear x34
    clear m8
    show Code.wp _ _ _ _ _
    refine wp_ret ?_
    repeat (first | with_reducible refine then_ret ?_ | with_reducible refine block_ret ?_)
    exact bodyPost_ret (v := .agg ([.slice pAz mAz cAz, .slice pBz mBz cBz] : List Value).toArray) (ret_c1 rfl f19 _ g4 _ _ x4 m4) sd.2 ⟨_, rfl, ⟨Az, Bz, _, _, rfl, hAz, hBz, lAz, lBz, hrz⟩, bl⟩
  refine wp_region_late [.mc (qs), .eq (.agg ((xa ++ ya).map V).toArray), .eq (.agg ((lv).map V).toArray), .eq (.int .i64 (j : Int)), .mc (qs), .eq (.int .i64 (((qs).length : Nat) : Int)), .hc (P0 ++ [z]), .eq (.agg ((y0 ++ z).map V).toArray), .c2 false, .c2 false, .cv false, .eq (.bool false), .nw w14.heap.size 25 [.slice none 0 0, .slice none 0 0]] 11 32 _ _ [14] Tryd.mixed (by kernel_rfl) (by kernel_rfl) (by kernel_rfl) (by kernel_rfl) (by kernel_rfl) rfl rfl (by kernel_rfl) rfl (by kernel_rfl) rfl (by rw [sd.1]; kernel_rfl) (by kernel_rfl) (fun ac u K => ⟨_, late_c2 rfl (K.dep 9 21 rfl), rfl⟩) ⟨fun hw ac u K => ?_, fun hw ac u K => ?_, fun hw ac u K => ?_, fun hw ac u K => ?_, fun hw ac u K => ?_, fun hw ac u K => ?_, fun hw ac u K => ?_, fun hw ac u K => ?_, fun hw ac u K => ?_, fun hw ac u K => ?_, fun hw ac u K => ?_, fun hw ac u K => ?_, fun hw ac u K => ?_, trivial⟩ ?_
  · exact st_move (.tmp 0) rfl (f_at (K.old 0 rfl) (Fk.mono _ _ _ _ x0 K.grow))
  · exact st_call 45 (.func 45) _ _ _ rfl rfl (one_arg rfl) Tryd.enter45 (fk_halves (by omega) (smallP_mx hs) h2 (K.dep 0 22 rfl) (hK.below (bgo bl K.grow)) hk exa eya)
  · exact st_load33 (.tmp 5) rfl (g5) (lv) (K.t x5 rfl) hlv (Ob.below m5 K.grow)
  · exact st_move (.tmp 6) rfl (K.t x6 rfl)
  · exact st_move (.tmp 0) rfl (f_at (K.old 0 rfl) (Fk.mono _ _ _ _ x0 K.grow))
  · exact st_lenm (.tmp 26) rfl (mc_mg (K.dep 4 26 rfl))
  · exact st_move (.tmp 7) rfl (f_at (K.old 7 rfl) (Fk.mono _ _ _ _ x7 K.grow))
  · exact st_call 47 (.func 47) _ _ _ rfl rfl (arg4 (K.dep 2 24 rfl) (K.dep 3 25 rfl) (K.dep 5 27 rfl) rfl) Tryd.enter47 (fk_said_l hlv h2 (by omega) hk hjk hl0 ey0 (by omega) (K.dep 6 28 rfl) (hK.below (bgo bl K.grow)))
  · exact st_call 46 (.func 46) _ _ _ rfl rfl (arg2 (K.dep 1 23 rfl) (K.dep 7 29 rfl)) Tryd.enter46 (fk_against hxa hya hy0 hz0 hnd (by simp only [hsm]; simp) _)
  · exact st_move (.tmp 30) rfl (K.dep 8 30 rfl)
  · exact st_c2a (.tmp 21) rfl (K.dep 9 21 rfl)
  · exact st_c2b (.tmp 21) rfl (K.dep 9 21 rfl)
  · exact st_alloc 25 rfl _ _ (by kernel_rfl) K.grow.size
  intro f15 w15 A hb
  have S_x0 : Fk.f (.mc (qs)) (f15.eval (.tmp 0)) w14 := f_at (A.old 0 rfl) x0
  have S_x7 : Fk.f (.hc (P0 ++ [z])) (f15.eval (.tmp 7)) w14 := f_at (A.old 7 rfl) x7
  have hbS0 := Below.refl w14.heap.size w14
  have hbS := hb
  replace bl0 := bl
  replace x0 := f_at (A.old 0 rfl) (Fk.mono _ _ _ _ x0 hb)
  replace x3 := A.t x3 rfl
  replace x4 := A.t x4 rfl
  replace x5 := A.t x5 rfl
  replace x6 := A.t x6 rfl
  replace x7 := f_at (A.old 7 rfl) (Fk.mono _ _ _ _ x7 hb)
  replace x20 := A.t x20 rfl
  have x8 : Fk.f (.nw w14.heap.size 25 [.slice none 0 0, .slice none 0 0]) (f15.eval (.tmp 8)) w15 := A.has 12 8 rfl
  have x31 : Fk.f (.cv false) (f15.eval (.tmp 31)) w15 := A.has 10 31 rfl
  have x32 := A.e 11 32 rfl rfl
  have lt_m3 := Ob.lt m3
  replace m3 := Ob.below m3 hb
  have lt_m4 := Ob.lt m4
  replace m4 := Ob.below m4 hb
  have lt_m5 := Ob.lt m5
  replace m5 := Ob.below m5 hb
  replace bl := bgo bl hb
  replace sd := A.sd sd
  clear A hb
  clear x20
  obtain ⟨g8, hg8, e8, m8⟩ := x8
  have x8 := e8
  clear e8
  have nm3_8 : g3 ≠ g8 := Nat.ne_of_lt (Nat.lt_of_lt_of_le lt_m3 hg8)
  have nm4_8 : g4 ≠ g8 := Nat.ne_of_lt (Nat.lt_of_lt_of_le lt_m4 hg8)
  have nm5_8 : g5 ≠ g8 := Nat.ne_of_lt (Nat.lt_of_lt_of_le lt_m5 hg8)
  have hw8 : w.heap.size ≤ g8 := Nat.le_trans bl0.size hg8
  have hs8 := Nat.le_trans hbS0.size hg8
  obtain ⟨Az, Bz, uz, vz, ez, hAz, hBz, lAz, lBz, hrz⟩ := x31
  obtain ⟨pAz, mAz, cAz, _, _, rfl, _⟩ := id hAz
  obtain ⟨pBz, mBz, cBz, _, _, rfl, _⟩ := id hBz
  have x31 := ez
  clear ez
  refine ⟨_, run_str 25 (.tmp 8) (.tmp 31) rfl (g8) ([.slice pAz mAz cAz, .slice pBz mBz cBz] : List Value).toArray x8 x31 25 _ m8 (by kernel_rfl) (by kernel_rfl) (by kernel_rfl), ?_⟩
  replace hAz := sl_setRow (ds := ([.slice pAz mAz cAz, .slice pBz mBz cBz] : List Value).toArray) hAz m8
  replace hBz := sl_setRow (ds := ([.slice pAz mAz cAz, .slice pBz mBz cBz] : List Value).toArray) hBz m8
  replace m3 : Ob (w15.setRow g8 ([.slice pAz mAz cAz, .slice pBz mBz cBz] : List Value).toArray) (g3) 39 ([.int .i64 (i : Int), .int .i64 (ps.length : Int), ul, up]) := Ob.setRow_other m3 _ nm3_8
  replace m4 : Ob (w15.setRow g8 ([.slice pAz mAz cAz, .slice pBz mBz cBz] : List Value).toArray) (g4) 25 ([.slice none 0 0, .slice none 0 0]) := Ob.setRow_other m4 _ nm4_8
  replace m5 : Ob (w15.setRow g8 ([.slice pAz mAz cAz, .slice pBz mBz cBz] : List Value).toArray) (g5) 33 ((lv).map V) := Ob.setRow_other m5 _ nm5_8
  replace m8 : Ob (w15.setRow g8 ([.slice pAz mAz cAz, .slice pBz mBz cBz] : List Value).toArray) (g8) 25 ([.slice pAz mAz cAz, .slice pBz mBz cBz]) := Ob.setRow m8 ([.slice pAz mAz cAz, .slice pBz mBz cBz])
  replace hbS : Below _ _ (w15.setRow g8 ([.slice pAz mAz cAz, .slice pBz mBz cBz] : List Value).toArray) := hbS.trans (below_setRow _ _ _ _ hs8)
  replace bl : Below w.heap.size w (w15.setRow g8 ([.slice pAz mAz cAz, .slice pBz mBz cBz] : List Value).toArray) := bl.trans (below_setRow _ _ _ _ hw8)
  generalize w15.setRow g8 ([.slice pAz mAz cAz, .slice pBz mBz cBz] : List Value).toArray = w16b at bl m3 m4 m5 m8 hAz hBz hbS ⊢
  replace x0 : Fk.f (.mc (qs)) (f15.eval (.tmp 0)) w16b := Fk.mono _ _ _ _ S_x0 hbS
  replace x7 : Fk.f (.hc (P0 ++ [z])) (f15.eval (.tmp 7)) w16b := Fk.mono _ _ _ _ S_x7 hbS
  clear x31
  refine wl_one (.eq (.bool false)) rfl 9 rfl (by rw [sd.1]; decide) (st_assign (.tmp 32) rfl x32) ?_
  intro f17 w17 df2 sz2 old2 new2 hb
  replace hbS0 := hbS
  replace hbS := hbS.trans (Below.mono hb hbS.size)
  replace S_x0 := f_at (old2 0 rfl) S_x0
  replace S_x7 := f_at (old2 7 rfl) S_x7
  replace x0 := f_at (old2 0 rfl) (Fk.mono _ _ _ _ x0 hb)
  replace x3 := tr old2 x3 rfl
  replace x4 := tr old2 x4 rfl
  replace x5 := tr old2 x5 rfl
  replace x6 := tr old2 x6 rfl
  replace x7 := f_at (old2 7 rfl) (Fk.mono _ _ _ _ x7 hb)
  replace x8 := tr old2 x8 rfl
  replace x32 := tr old2 x32 rfl
  have x9 := Fk.e new2
  replace m3 := Ob.below m3 hb
  replace m4 := Ob.below m4 hb
  replace m5 := Ob.below m5 hb
  replace m8 := Ob.below m8 hb
  replace hAz := Fk.mono _ _ _ _ hAz hb
  replace hBz := Fk.mono _ _ _ _ hBz hb
  replace bl := bgo bl hb
  replace sd := sd2 sz2 df2 sd
  clear df2 sz2 old2 new2 hb
  refine wpList_nil ?_
  clear hbS hbS0 S_x0 S_x7
  clear x32
  show Code.wp _ _ _ _ _
  refine wp_seq ?_
  refine wr_a [.eq (.bool false)] (by rw [sd.1]; kernel_rfl) ⟨fun hw ac u K => ?_, trivial⟩ ?_
  · exact st_move (.tmp 9) rfl (K.t x9 rfl)
  intro f18 w18 A hb
  replace x0 := f_at (A.old 0 rfl) (Fk.mono _ _ _ _ x0 hb)
  replace x3 := A.t x3 rfl
  replace x4 := A.t x4 rfl
  replace x5 := A.t x5 rfl
  replace x6 := A.t x6 rfl
  replace x7 := f_at (A.old 7 rfl) (Fk.mono _ _ _ _ x7 hb)
  replace x8 := A.t x8 rfl
  replace x9 := A.t x9 rfl
  have x33 := A.e 0 33 rfl rfl
  replace m3 := Ob.below m3 hb
  replace m4 := Ob.below m4 hb
  replace m5 := Ob.below m5 hb
  replace m8 := Ob.below m8 hb
  replace hAz := Fk.mono _ _ _ _ hAz hb
  replace hBz := Fk.mono _ _ _ _ hBz hb
  replace bl := bgo bl hb
  replace sd := A.sd sd
  clear A hb
  clear x9
  show Code.wp _ _ _ _ _
  refine wp_cond_false x33 ?_
  refine wp_skip ?_
  show Code.wp _ _ _ _ _
  refine wp_seq ?_
  refine wp_seq ?_
  refine wr_a [.mc (qs), .eq (.int .i64 (((qs).length : Nat) : Int)), .eq (.int .i64 (k : Int)), .eq (.int .i64 (k : Int))] (by rw [sd.1]; kernel_rfl) ⟨fun hw ac u K => ?_, fun hw ac u K => ?_, fun hw ac u K => ?_, fun hw ac u K => ?_, trivial⟩ ?_
  · exact st_move (.tmp 0) rfl (f_at (K.old 0 rfl) (Fk.mono _ _ _ _ x0 K.grow))
  · exact st_lenm (.tmp 35) rfl (mc_mg (K.dep 0 35 rfl))
  · exact st_call 35 (.func 35) _ _ _ rfl rfl (one_arg (K.dep 1 36 rfl)) Tryd.enter35 (by rw [← hk]; exact fk_of (split_hi qs.length h2 (by omega) _))
  · exact st_assign (.tmp 37) rfl (K.dep 2 37 rfl)
  intro f19 w19 A hb
  replace x0 := f_at (A.old 0 rfl) (Fk.mono _ _ _ _ x0 hb)
  replace x3 := A.t x3 rfl
  replace x4 := A.t x4 rfl
  replace x5 := A.t x5 rfl
  replace x6 := A.t x6 rfl
  replace x7 := f_at (A.old 7 rfl) (Fk.mono _ _ _ _ x7 hb)
  replace x8 := A.t x8 rfl
  replace x33 := A.t x33 rfl
  have x10 := A.e 3 10 rfl rfl
  replace m3 := Ob.below m3 hb
  replace m4 := Ob.below m4 hb
  replace m5 := Ob.below m5 hb
  replace m8 := Ob.below m8 hb
  replace hAz := Fk.mono _ _ _ _ hAz hb
  replace hBz := Fk.mono _ _ _ _ hBz hb
  replace bl := bgo bl hb
  replace sd := A.sd sd
  clear A hb
  clear x8
  clear x33
  clear m8
  show Code.wp _ _ _ _ _
  refine wp_seq ?_
  refine wr_a [.eq (.int .i64 (j : Int)), .eq (.int .i64 (k : Int)), .eq (.bool true)] (by rw [sd.1]; kernel_rfl) ⟨fun hw ac u K => ?_, fun hw ac u K => ?_, fun hw ac u K => ?_, trivial⟩ ?_
  · exact st_move (.tmp 6) rfl (K.t x6 rfl)
  · exact st_move (.tmp 10) rfl (K.t x10 rfl)
  · exact st_lss 3 (.tmp 38) (.tmp 39) rfl .i64 ((j : Int)) ((k : Int)) (K.dep 0 38 rfl) (K.dep 1 39 rfl) _ (by first | (simp; done) | (simp; omega))
  intro f20 w20 A hb
  replace x0 := f_at (A.old 0 rfl) (Fk.mono _ _ _ _ x0 hb)
  replace x3 := A.t x3 rfl
  replace x4 := A.t x4 rfl
  replace x5 := A.t x5 rfl
  replace x6 := A.t x6 rfl
  replace x7 := f_at (A.old 7 rfl) (Fk.mono _ _ _ _ x7 hb)
  replace x10 := A.t x10 rfl
  have x40 := A.e 2 40 rfl rfl
  replace m3 := Ob.below m3 hb
  replace m4 := Ob.below m4 hb
  replace m5 := Ob.below m5 hb
  replace hAz := Fk.mono _ _ _ _ hAz hb
  replace hBz := Fk.mono _ _ _ _ hBz hb
  replace bl := bgo bl hb
  replace sd := A.sd sd
  clear A hb
  show Code.wp _ _ _ _ _
  refine wp_cond_true x40 ?_
  refine wr_s [.mc (qs), .eq (.int .i64 (k : Int)), .mc (qs.take k)] (by rw [sd.1]; kernel_rfl) ⟨fun hw ac u K => ?_, fun hw ac u K => ?_, fun hw ac u K => ?_, trivial⟩ ?_
  · exact st_move (.tmp 0) rfl (f_at (K.old 0 rfl) (Fk.mono _ _ _ _ x0 K.grow))
  · exact st_move (.tmp 10) rfl (K.t x10 rfl)
  · exact st_cutmc (.tmp 41) (.tmp 42) rfl (K.dep 0 41 rfl) k (K.dep 1 42 rfl) (by omega)
  intro f21 w21 A hb
  replace x0 := f_at (A.old 0 rfl) (Fk.mono _ _ _ _ x0 hb)
  replace x3 := A.t x3 rfl
  replace x4 := A.t x4 rfl
  replace x5 := A.t x5 rfl
  replace x6 := A.t x6 rfl
  replace x7 := f_at (A.old 7 rfl) (Fk.mono _ _ _ _ x7 hb)
  replace x10 := A.t x10 rfl
  replace x40 := A.t x40 rfl
  have x43 : Fk.f (.mc (qs.take k)) (f21.eval (.tmp 43)) w21 := A.has 2 43 rfl
  replace m3 := Ob.below m3 hb
  replace m4 := Ob.below m4 hb
  replace m5 := Ob.below m5 hb
  replace hAz := Fk.mono _ _ _ _ hAz hb
  replace hBz := Fk.mono _ _ _ _ hBz hb
  replace bl := bgo bl hb
  replace sd := A.sd sd
  clear A hb
  clear x10
  clear x40
  refine wl_one (.mc (qs.take k)) rfl 0 rfl (by rw [sd.1]; decide) (st_assign (.tmp 43) rfl x43) ?_
  intro f22 w22 df2 sz2 old2 new2 hb
  clear x0
  replace x3 := tr old2 x3 rfl
  replace x4 := tr old2 x4 rfl
  replace x5 := tr old2 x5 rfl
  replace x6 := tr old2 x6 rfl
  replace x7 := f_at (old2 7 rfl) (Fk.mono _ _ _ _ x7 hb)
  replace x43 := f_at (old2 43 rfl) (Fk.mono _ _ _ _ x43 hb)
  have x0 : Fk.f (.mc (qs.take k)) (f22.eval (.tmp 0)) w22 := new2
  replace m3 := Ob.below m3 hb
  replace m4 := Ob.below m4 hb
  replace m5 := Ob.below m5 hb
  replace hAz := Fk.mono _ _ _ _ hAz hb
  replace hBz := Fk.mono _ _ _ _ hBz hb
  replace bl := bgo bl hb
  replace sd := sd2 sz2 df2 sd
  clear df2 sz2 old2 new2 hb
  refine wpList_nil ?_
  clear x43
  show Code.wp _ _ _ _ _
  refine wr_s [.hc (P0 ++ [z]), .hc (P0 ++ [z]), .eq (.int .i64 ((P0.length + 1 : Nat) : Int)), .eq (.int .i64 (P0.length : Int)), .hc (P0)] (by rw [sd.1]; kernel_rfl) ⟨fun hw ac u K => ?_, fun hw ac u K => ?_, fun hw ac u K => ?_, fun hw ac u K => ?_, fun hw ac u K => ?_, trivial⟩ ?_
  · exact st_move (.tmp 7) rfl (f_at (K.old 7 rfl) (Fk.mono _ _ _ _ x7 K.grow))
  · exact st_move (.tmp 7) rfl (f_at (K.old 7 rfl) (Fk.mono _ _ _ _ x7 K.grow))
  · exact st_lenc (.tmp 51) rfl (P0.length + 1) (by simp) (K.dep 1 51 rfl)
  · exact st_subz (.tmp 52) (.const (.int .i64 1)) rfl _ 1 _ (K.dep 2 52 rfl) rfl (by omega) (by omega) (by omega)
  · exact st_cutl (.tmp 50) (.tmp 53) rfl (K.dep 0 50 rfl) (K.dep 3 53 rfl)
  intro f23 w23 A hb
  replace x3 := A.t x3 rfl
  replace x4 := A.t x4 rfl
  replace x5 := A.t x5 rfl
  replace x6 := A.t x6 rfl
  replace x7 := f_at (A.old 7 rfl) (Fk.mono _ _ _ _ x7 hb)
  replace x0 := f_at (A.old 0 rfl) (Fk.mono _ _ _ _ x0 hb)
  have x54 : Fk.f (.hc (P0)) (f23.eval (.tmp 54)) w23 := A.has 4 54 rfl
  replace m3 := Ob.below m3 hb
  replace m4 := Ob.below m4 hb
  replace m5 := Ob.below m5 hb
  replace hAz := Fk.mono _ _ _ _ hAz hb
  replace hBz := Fk.mono _ _ _ _ hBz hb
  replace bl := bgo bl hb
  replace sd := A.sd sd
  clear A hb
  refine wl_one (.hc (P0)) rfl 7 rfl (by rw [sd.1]; decide) (st_assign (.tmp 54) rfl x54) ?_
  intro f24 w24 df2 sz2 old2 new2 hb
  replace x3 := tr old2 x3 rfl
  replace x4 := tr old2 x4 rfl
  replace x5 := tr old2 x5 rfl
  replace x6 := tr old2 x6 rfl
  clear x7
  replace x0 := f_at (old2 0 rfl) (Fk.mono _ _ _ _ x0 hb)
  replace x54 := f_at (old2 54 rfl) (Fk.mono _ _ _ _ x54 hb)
  have x7 : Fk.f (.hc (P0)) (f24.eval (.tmp 7)) w24 := new2
  replace m3 := Ob.below m3 hb
  replace m4 := Ob.below m4 hb
  replace m5 := Ob.below m5 hb
  replace hAz := Fk.mono _ _ _ _ hAz hb
  replace hBz := Fk.mono _ _ _ _ hBz hb
  replace bl := bgo bl hb
  replace sd := sd2 sz2 df2 sd
  clear df2 sz2 old2 new2 hb
  refine wpList_nil ?_
  clear x54
  show (∃ _, _) ∧ _
  refine ⟨⟨qs.take k, j, P0, smallP_take hs k, ⟨q, by rw [List.getElem?_take, if_pos hjk]; exact hqj, hlq⟩, hnx hsm.1, sd.1, sd.2, x3, x4, x5, x0, x6, x7, m3, m4, m5, bl⟩, ?_⟩
  rw [slen_mc x0, hcnt, List.length_take]
  omega
end Go.Proofs.YtfmeeimhfdnjpaaDoor
