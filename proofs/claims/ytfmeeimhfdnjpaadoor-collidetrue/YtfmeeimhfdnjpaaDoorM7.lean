/- Lead, In, Length. -/
import Derived.Test.YtfmeeimhfdnjpaaDoorM6
import Derived.Test.YtfmeeimhfdnjpaaDoorM5
namespace Go.Proofs.YtfmeeimhfdnjpaaDoor
set_option maxRecDepth 100000
open Go.RowKit
/-- Where a path has led behind k steps. -/
def lek (a : List (BitVec 8)) (P : List (List (BitVec 8))) (S : List Bool) (k : Nat) : List (BitVec 8) := ((P.zip S).take k).foldl jon a
theorem lek_zero (a : List (BitVec 8)) (P : List (List (BitVec 8))) (S : List Bool) : lek a P S 0 = a := rfl
theorem lek_succ (a : List (BitVec 8)) {P : List (List (BitVec 8))} {S : List Bool} {k : Nat} {p : List (BitVec 8)} {b : Bool} (hp : P[k]? = some p) (hb : S[k]? = some b) : lek a P S (k + 1) = jon (lek a P S k) (p, b) := by
  unfold lek
  have : (P.zip S)[k]? = some (p, b) := by rw [List.getElem?_zip_eq_some]; exact ⟨hp, hb⟩
  rw [List.take_add_one, this, List.foldl_append]
  rfl
theorem lek_all (a : List (BitVec 8)) {P : List (List (BitVec 8))} {S : List Bool} (h : P.length = S.length) : lek a P S S.length = ldt a P S := by
  unfold lek ldt
  rw [List.take_of_length_le (by rw [List.length_zip]; omega)]
theorem lek_len {a : List (BitVec 8)} (ha : a.length = 32) {P : List (List (BitVec 8))} {S : List Bool} (h : P.length = S.length) (k : Nat) (hk : k ≤ S.length) : (lek a P S k).length = 32 := by
  cases k with
  | zero => exact ha
  | succ k =>
    rw [lek_succ a (List.getElem?_eq_getElem (by omega)) (List.getElem?_eq_getElem (by omega))]
    exact jon_len _ _
theorem ret_hh {fn : Func} {p q : Tmp} (h : fn.results = #[.cell p 33, .cell q 33]) (a : Act) (w : World) (g k : Nat) (xs ys : List (BitVec 8)) (hx : xs.length = 32) (hy : ys.length = 32) (hp : a.eval (.tmp p) = .pointer (some ⟨g, 0, none⟩)) (hq : a.eval (.tmp q) = .pointer (some ⟨k, 0, none⟩)) (m : Ob w g 33 (xs.map V)) (m2 : Ob w k 33 (ys.map V)) : (results fn a.tmps).run Tryd.prog w = .ok (.tuple #[.agg (xs.map V).toArray, .agg (ys.map V).toArray]) w := by
  have h1 : a.tmps.getD p undef = .pointer (some ⟨g, 0, none⟩) := hp
  have h2 : a.tmps.getD q undef = .pointer (some ⟨k, 0, none⟩) := hq
  have l1 := run_loadVar_mid (P := Tryd.prog) w g 0 33 (xs.map V) _ (Ob.range m 0 _ (fun j v hj => by simpa using hj)) Tryd.under33 rfl (by rw [List.length_map, hx]; exact Tryd.size33)
  have l2 := run_loadVar_mid (P := Tryd.prog) w k 0 33 (ys.map V) _ (Ob.range m2 0 _ (fun j v hj => by simpa using hj)) Tryd.under33 rfl (by rw [List.length_map, hy]; exact Tryd.size33)
  rw [Array.getD_eq_getD_getElem?] at h1 h2
  simp [results, h, h1, h2, asAddr, l1, l2]
theorem ret_hhi {fn : Func} {p q u : Tmp} (h : fn.results = #[.cell p 33, .cell q 33, .tmp u]) (a : Act) (w : World) (g k : Nat) (xs ys : List (BitVec 8)) (z : Value) (hx : xs.length = 32) (hy : ys.length = 32) (hp : a.eval (.tmp p) = .pointer (some ⟨g, 0, none⟩)) (hq : a.eval (.tmp q) = .pointer (some ⟨k, 0, none⟩)) (m : Ob w g 33 (xs.map V)) (m2 : Ob w k 33 (ys.map V)) (hu : a.eval (.tmp u) = z) : (results fn a.tmps).run Tryd.prog w = .ok (.tuple #[.agg (xs.map V).toArray, .agg (ys.map V).toArray, z]) w := by
  have h1 : a.tmps.getD p undef = .pointer (some ⟨g, 0, none⟩) := hp
  have h2 : a.tmps.getD q undef = .pointer (some ⟨k, 0, none⟩) := hq
  have h3 : a.tmps.getD u undef = z := hu
  have l1 := run_loadVar_mid (P := Tryd.prog) w g 0 33 (xs.map V) _ (Ob.range m 0 _ (fun j v hj => by simpa using hj)) Tryd.under33 rfl (by rw [List.length_map, hx]; exact Tryd.size33)
  have l2 := run_loadVar_mid (P := Tryd.prog) w k 0 33 (ys.map V) _ (Ob.range m2 0 _ (fun j v hj => by simpa using hj)) Tryd.under33 rfl (by rw [List.length_map, hy]; exact Tryd.size33)
  rw [Array.getD_eq_getD_getElem?] at h1 h2 h3
  simp [results, h, h1, h2, h3, asAddr, l1, l2]
theorem neg_at {S : List Bool} {k : Nat} {b : Bool} (h : S[k]? = some b) : (S.map (!·))[k]? = some (!b) := by rw [List.getElem?_map, h]; rfl
/-- Contains over bools that may be read. -/
theorem fk_contains {S : List Bool} {v : Value} {w : World} (x : Bool) (hv : (Fk.bs S).f v w) (hl : S.length ≤ 1000000) :
    Calls Tryd.prog 54 #[v, .bool x] w fun e w' => ∃ u, e = .returned u ∧ (Fk.eq (.bool (S.any fun y => x == y))).f u w' ∧ Below w.heap.size w w' := by
  obtain ⟨A, C, lb, lo, rfl, hp, hn, hr⟩ := hv
  cases S with
  | nil =>
    refine (Tryd.slices_Contains_empty (α := Bool) A C (.bool x) w).mono ?_
    rintro e w' ⟨rfl, rfl⟩
    exact ⟨_, rfl, rfl, Below.refl _ _⟩
  | cons s T =>
    have hp := hp (by simp)
    subst hp
    have h := Tryd.slices_Contains Value.bool (fun x y => x == y) (EqlAt.bool 4 (by kernel_rfl)) lb lo (s :: T).length C (s :: T) x w (Nat.le_refl _) (by omega) (fun j hj => hr j _ (by unfold bvs; rw [List.getElem?_map, List.getElem?_eq_getElem hj, getElem!_pos (s :: T) j hj]; rfl))
    rw [List.take_of_length_le (Nat.le_refl _)] at h
    refine h.mono ?_
    rintro e w' ⟨rfl, rfl⟩
    exact ⟨_, rfl, rfl, Below.refl _ _⟩
theorem fk_containsb {S : List Bool} {v : Value} {w : World} (x : Bool) {b : Bool} (hb : (S.any fun y => x == y) = b) (hv : (Fk.bs S).f v w) (hl : S.length ≤ 1000000) :
    Calls Tryd.prog 54 #[v, .bool x] w fun e w' => ∃ u, e = .returned u ∧ (Fk.eq (.bool b)).f u w' ∧ Below w.heap.size w w' := by
  subst hb
  exact fk_contains x hv hl
theorem lead_bad {leaf : List (BitVec 8)} (_hlf : leaf.length = 32) {i n : Nat} (hi : i < n) (hn : n ≤ 1152921504606846976) {P : List (List (BitVec 8))} {v : Value} {w : World} (hv : (Fk.hc P).f v w) (_hP : P.length ≤ 100000) (hK : Tab w) (hl : P.length ≠ (sds i n).length) :
    Calls Tryd.prog 33 #[.agg ((leaf).map V).toArray, .int .i64 (i : Int), .int .i64 (n : Int), v] w fun e w' => ∃ u, e = .returned u ∧ (Fk.eq (.tuple #[.agg ((hz).map V).toArray, .int .i64 22])).f u w' ∧ Below w.heap.size w w' := by
  have hvs := hc_hs hv
  obtain ⟨S, hSd⟩ : ∃ S, sds i n = S := ⟨_, rfl⟩
  obtain ⟨L, hLr⟩ : ∃ L, (tdn i n).reverse = L := ⟨_, rfl⟩
  have hLS : L = S.map (!·) := by rw [← hLr, ← hSd]; exact tdn_sds n i
  have hLl : L.length = S.length := by rw [hLS, List.length_map]
  have hSl : S.length ≤ 60 := by rw [← hSd]; exact sds_log n i 60 (by omega)
  rw [hSd] at hl
  go_enter Tryd.func33, Tryd.ntmps33
  refine code_both (fun f w1 => f.tmps.size = 51 ∧ f.defers = [] ∧ f.eval (.tmp 0) = .agg ((leaf).map V).toArray ∧ f.eval (.tmp 1) = .int .i64 (i : Int) ∧ f.eval (.tmp 2) = .int .i64 (n : Int) ∧ f.eval (.tmp 3) = v ∧ Below w.heap.size w (w1)) ⟨rfl, rfl, rfl, rfl, rfl, rfl, Below.refl _ _⟩ ?_
  rintro f0 w0 ⟨sz, df, x0, x1, x2, x3, bl⟩
  have sd := And.intro sz df
  clear sz df
  have bl0 := bl
  refine wp_seq ?_
  refine wr_s [] (by rw [sd.1]; kernel_rfl) trivial ?_
  intro f1 w1 A hb
  replace x0 := A.t x0 rfl
  replace x1 := A.t x1 rfl
  replace x2 := A.t x2 rfl
  replace x3 := A.t x3 rfl
  replace bl := bgo bl hb
  replace sd := A.sd sd
  clear A hb
  refine wl_one (.nw w1.heap.size 33 ((leaf).map V)) rfl 4 rfl (by rw [sd.1]; decide) (st_box 33 (.tmp 0) rfl _ _ (by rw [show _ = _ from x0]; kernel_rfl) (Nat.le_refl _)) ?_
  intro f2 w2 df2 sz2 old2 new2 hb
  replace bl0 := bl
  replace x0 := tr old2 x0 rfl
  replace x1 := tr old2 x1 rfl
  replace x2 := tr old2 x2 rfl
  replace x3 := tr old2 x3 rfl
  have x4 : Fk.f (.nw w1.heap.size 33 ((leaf).map V)) (f2.eval (.tmp 4)) w2 := new2
  replace bl := bgo bl hb
  replace sd := sd2 sz2 df2 sd
  clear df2 sz2 old2 new2 hb
  obtain ⟨g4, hg4, e4, m4⟩ := x4
  have x4 := e4
  clear e4
  have hw4 : w.heap.size ≤ g4 := Nat.le_trans bl0.size hg4
  clear x0
  refine wl_one (.nw w2.heap.size 33 ((hz).map V)) rfl 8 rfl (by rw [sd.1]; decide) (st_alloc33 rfl _ (Nat.le_refl _)) ?_
  intro f3 w3 df2 sz2 old2 new2 hb
  replace bl0 := bl
  replace x1 := tr old2 x1 rfl
  replace x2 := tr old2 x2 rfl
  replace x3 := tr old2 x3 rfl
  replace x4 := tr old2 x4 rfl
  have x8 : Fk.f (.nw w2.heap.size 33 ((hz).map V)) (f3.eval (.tmp 8)) w3 := new2
  have lt_m4 := Ob.lt m4
  replace m4 := Ob.below m4 hb
  replace bl := bgo bl hb
  replace sd := sd2 sz2 df2 sd
  clear df2 sz2 old2 new2 hb
  obtain ⟨g8, hg8, e8, m8⟩ := x8
  have x8 := e8
  clear e8
  have nm4_8 : g4 ≠ g8 := Nat.ne_of_lt (Nat.lt_of_lt_of_le lt_m4 hg8)
  have hw8 : w.heap.size ≤ g8 := Nat.le_trans bl0.size hg8
  refine wl_one (.eq (.int .i64 0)) rfl 9 rfl (by rw [sd.1]; decide) (st_assign (.const (.int .i64 0)) rfl rfl) ?_
  intro f4 w4 df2 sz2 old2 new2 hb
  replace x1 := tr old2 x1 rfl
  replace x2 := tr old2 x2 rfl
  replace x3 := tr old2 x3 rfl
  replace x4 := tr old2 x4 rfl
  replace x8 := tr old2 x8 rfl
  have x9 := Fk.e new2
  replace m4 := Ob.below m4 hb
  replace m8 := Ob.below m8 hb
  replace bl := bgo bl hb
  replace sd := sd2 sz2 df2 sd
  clear df2 sz2 old2 new2 hb
  refine wpList_nil ?_
  clear x9
  show Code.wp _ _ _ _ _
  refine wp_seq ?_
  refine wp_seq ?_
  refine wr_a [.eq (.int .i64 (i : Int)), .eq (.bool false), .eq (.bool false), .eq (.int .i64 (i : Int)), .eq (.int .i64 (n : Int)), .eq (.bool false), .eq (.bool false)] (by rw [sd.1]; kernel_rfl) ⟨fun hw ac u K => ?_, fun hw ac u K => ?_, fun hw ac u K => ?_, fun hw ac u K => ?_, fun hw ac u K => ?_, fun hw ac u K => ?_, fun hw ac u K => ?_, trivial⟩ ?_
  · exact st_move (.tmp 1) rfl (K.t x1 rfl)
  · exact st_lss 3 (.tmp 14) (.const (.int .i64 0)) rfl .i64 ((i : Int)) (0) (K.dep 0 14 rfl) rfl _ (by rw [eq_comm, decide_eq_false_iff_not]; omega)
  · exact st_move (.tmp 15) rfl (K.dep 1 15 rfl)
  · exact st_move (.tmp 1) rfl (K.t x1 rfl)
  · exact st_move (.tmp 2) rfl (K.t x2 rfl)
  · exact st_geq 3 (.tmp 17) (.tmp 18) rfl .i64 ((i : Int)) ((n : Int)) (K.dep 3 17 rfl) (K.dep 4 18 rfl) _ (by rw [eq_comm, decide_eq_false_iff_not]; omega)
  · exact st_pick_f' (.tmp 16) (.const (.bool true)) (.tmp 19) rfl (K.dep 2 16 rfl) (K.dep 5 19 rfl)
  intro f5 w5 A hb
  replace x1 := A.t x1 rfl
  replace x2 := A.t x2 rfl
  replace x3 := A.t x3 rfl
  replace x4 := A.t x4 rfl
  replace x8 := A.t x8 rfl
  have x20 := A.e 6 20 rfl rfl
  replace m4 := Ob.below m4 hb
  replace m8 := Ob.below m8 hb
  replace bl := bgo bl hb
  replace sd := A.sd sd
  clear A hb
  show Code.wp _ _ _ _ _
  refine wp_cond_false x20 ?_
  refine wp_skip ?_
  show Code.wp _ _ _ _ _
  refine wp_seq ?_
  refine wr_a [.eq (.int .i64 (i : Int)), .eq (.int .i64 (n : Int)), .ob w.heap.size ((tdn i n).reverse), .ob w.heap.size ((tdn i n).reverse)] (by rw [sd.1]; kernel_rfl) ⟨fun hw ac u K => ?_, fun hw ac u K => ?_, fun hw ac u K => ?_, fun hw ac u K => ?_, trivial⟩ ?_
  · exact st_move (.tmp 1) rfl (K.t x1 rfl)
  · exact st_move (.tmp 2) rfl (K.t x2 rfl)
  · exact st_call 49 (.func 49) _ _ _ rfl rfl (arg2 (K.dep 0 22 rfl) (K.dep 1 23 rfl)) Tryd.enter49 (fk_orw (bgo bl K.grow).size (pturns_any hi hn _))
  · exact st_assign (.tmp 24) rfl (K.dep 2 24 rfl)
  intro f6 w6 A hb
  replace x1 := A.t x1 rfl
  replace x2 := A.t x2 rfl
  replace x3 := A.t x3 rfl
  replace x4 := A.t x4 rfl
  replace x8 := A.t x8 rfl
  replace x20 := A.t x20 rfl
  have x10 : Fk.f (.ob w.heap.size ((tdn i n).reverse)) (f6.eval (.tmp 10)) w6 := A.has 3 10 rfl
  replace m4 := Ob.below m4 hb
  replace m8 := Ob.below m8 hb
  replace bl := bgo bl hb
  replace sd := A.sd sd
  clear A hb
  clear x1
  clear x2
  clear x20
  obtain ⟨v10, e10⟩ : ∃ v, f6.eval (.tmp 10) = v := ⟨_, rfl⟩
  have h10 := ob_bs x10
  rw [e10, hLr] at h10
  replace x10 := e10
  clear e10
  have blw := bl
  replace hv := Fk.mono _ _ _ _ hv bl
  replace hvs := Fk.mono _ _ _ _ hvs bl
  replace hK := hK.below bl
  replace bl := Below.refl w6.heap.size w6
  replace bl0 := bl
  show Code.wp _ _ _ _ _
  refine wp_seq ?_
  refine wp_seq ?_
  refine wr_a [.eq (v), .eq (.int .i64 (((P).length : Nat) : Int)), .eq (v10), .eq (.int .i64 (((L).length : Nat) : Int)), .eq (.bool true)] (by rw [sd.1]; kernel_rfl) ⟨fun hw ac u K => ?_, fun hw ac u K => ?_, fun hw ac u K => ?_, fun hw ac u K => ?_, fun hw ac u K => ?_, trivial⟩ ?_
  · exact st_move (.tmp 3) rfl (K.t x3 rfl)
  · exact st_lenc (.tmp 25) rfl ((P).length) rfl (fk_val (K.dep 0 25 rfl) (Fk.mono _ _ _ _ hv (bgo bl K.grow)))
  · exact st_move (.tmp 10) rfl (K.t x10 rfl)
  · exact st_lenbs (.tmp 27) rfl (fk_val (K.dep 2 27 rfl) (Fk.mono _ _ _ _ h10 (bgo bl K.grow)))
  · exact st_neqi 3 (.tmp 26) (.tmp 28) rfl .i64 ((((P).length : Nat) : Int)) ((((L).length : Nat) : Int)) (K.dep 1 26 rfl) (K.dep 3 28 rfl) _ (by rw [eq_comm, decide_eq_true_iff]; omega)
  intro f7 w7 A hb
  replace x3 := A.t x3 rfl
  replace x4 := A.t x4 rfl
  replace x8 := A.t x8 rfl
  replace x10 := A.t x10 rfl
  have x29 := A.e 4 29 rfl rfl
  replace bl := bgo bl hb
  replace sd := A.sd sd
  clear A hb
  show Code.wp _ _ _ _ _
  refine wp_cond_true x29 ?_
  refine wp_seq ?_
  replace m4 := Ob.below m4 bl
  replace m8 := Ob.below m8 bl
  replace bl := blw.trans (Below.mono bl blw.size)
  replace bl0 := bl
  refine wr_s [.eq (.agg ((hz).map V).toArray)] (by rw [sd.1]; kernel_rfl) ⟨fun hw ac u K => ?_, trivial⟩ ?_
  · exact st_zero33 rfl
  intro f8 w8 A hb
  replace x3 := A.t x3 rfl
  replace x4 := A.t x4 rfl
  replace x8 := A.t x8 rfl
  replace x10 := A.t x10 rfl
  replace x29 := A.t x29 rfl
  have x30 := A.e 0 30 rfl rfl
  replace m4 := Ob.below m4 hb
  replace m8 := Ob.below m8 hb
  replace bl := bgo bl hb
  replace sd := A.sd sd
  clear A hb
  clear x3
  clear x4
  clear x10
  clear x29
  refine wl_store rfl (.tmp 8) (.tmp 30) rfl rfl (g8) (hz) (hz) x8 x30 m8 hz_len hz_len ?_
  replace m4 : Ob (w8.setRow g8 ((hz).map V : List Value).toArray) (g4) 33 ((leaf).map V) := Ob.setRow_other m4 _ nm4_8
  replace m8 : Ob (w8.setRow g8 ((hz).map V : List Value).toArray) (g8) 33 ((hz).map V) := Ob.setRow m8 ((hz).map V)
  replace bl : Below w.heap.size w (w8.setRow g8 ((hz).map V : List Value).toArray) := bl.trans (below_setRow _ _ _ _ hw8)
  generalize w8.setRow g8 ((hz).map V : List Value).toArray = w9b at bl m4 m8 ⊢
  clear x30
  refine wl_one (.eq (.int .i64 22)) rfl 9 rfl (by rw [sd.1]; decide) (st_assign (.const (.int .i64 22)) rfl rfl) ?_
  intro f10 w10 df2 sz2 old2 new2 hb
  replace x8 := tr old2 x8 rfl
  have x9 := Fk.e new2
  replace m4 := Ob.below m4 hb
  replace m8 := Ob.below m8 hb
  replace bl := bgo bl hb
  replace sd := sd2 sz2 df2 sd
  clear df2 sz2 old2 new2 hb
  refine wpList_nil ?_
  clear m4
  show Code.wp _ _ _ _ _
  refine wp_ret ?_
  repeat (first | with_reducible refine then_ret ?_ | with_reducible refine block_ret ?_)
  exact bodyPost_ret (v := .tuple #[.agg ((hz).map V).toArray, .int .i64 22]) (ret_hash2 rfl f10 _ g8 (hz) (.int .i64 22) hz_len x8 m8 x9) sd.2 ⟨_, rfl, rfl, bl⟩
set_option maxHeartbeats 1000000 in
theorem lead_ok {leaf : List (BitVec 8)} (hlf : leaf.length = 32) {i n : Nat} (hi : i < n) (hn : n ≤ 1152921504606846976) {P : List (List (BitVec 8))} {v : Value} {w : World} (hv : (Fk.hc P).f v w) (_hP : P.length ≤ 100000) (hK : Tab w) (hPS : P.length = (sds i n).length) {y : List (BitVec 8)} (ey : Box (ldt leaf P (sds i n) = y)) :
    Calls Tryd.prog 33 #[.agg ((leaf).map V).toArray, .int .i64 (i : Int), .int .i64 (n : Int), v] w fun e w' => ∃ u, e = .returned u ∧ (Fk.eq (.tuple #[.agg ((y).map V).toArray, .int .i64 0])).f u w' ∧ Below w.heap.size w w' := by
  have hvs := hc_hs hv
  obtain ⟨S, hSd⟩ : ∃ S, sds i n = S := ⟨_, rfl⟩
  obtain ⟨L, hLr⟩ : ∃ L, (tdn i n).reverse = L := ⟨_, rfl⟩
  have hLS : L = S.map (!·) := by rw [← hLr, ← hSd]; exact tdn_sds n i
  have hLl : L.length = S.length := by rw [hLS, List.length_map]
  have hSl : S.length ≤ 60 := by rw [← hSd]; exact sds_log n i 60 (by omega)
  rw [hSd] at hPS ey
  have hy : y.length = 32 := by rw [← ey.out, ← lek_all leaf hPS]; exact lek_len hlf hPS _ (Nat.le_refl _)
  go_enter Tryd.func33, Tryd.ntmps33
  refine code_both (fun f w1 => f.tmps.size = 51 ∧ f.defers = [] ∧ f.eval (.tmp 0) = .agg ((leaf).map V).toArray ∧ f.eval (.tmp 1) = .int .i64 (i : Int) ∧ f.eval (.tmp 2) = .int .i64 (n : Int) ∧ f.eval (.tmp 3) = v ∧ Below w.heap.size w (w1)) ⟨rfl, rfl, rfl, rfl, rfl, rfl, Below.refl _ _⟩ ?_
  rintro f0 w0 ⟨sz, df, x0, x1, x2, x3, bl⟩
  have sd := And.intro sz df
  clear sz df
  have bl0 := bl
  refine wp_seq ?_
  refine wr_s [] (by rw [sd.1]; kernel_rfl) trivial ?_
  intro f1 w1 A hb
  replace x0 := A.t x0 rfl
  replace x1 := A.t x1 rfl
  replace x2 := A.t x2 rfl
  replace x3 := A.t x3 rfl
  replace bl := bgo bl hb
  replace sd := A.sd sd
  clear A hb
  refine wl_one (.nw w1.heap.size 33 ((leaf).map V)) rfl 4 rfl (by rw [sd.1]; decide) (st_box 33 (.tmp 0) rfl _ _ (by rw [show _ = _ from x0]; kernel_rfl) (Nat.le_refl _)) ?_
  intro f2 w2 df2 sz2 old2 new2 hb
  replace bl0 := bl
  replace x0 := tr old2 x0 rfl
  replace x1 := tr old2 x1 rfl
  replace x2 := tr old2 x2 rfl
  replace x3 := tr old2 x3 rfl
  have x4 : Fk.f (.nw w1.heap.size 33 ((leaf).map V)) (f2.eval (.tmp 4)) w2 := new2
  replace bl := bgo bl hb
  replace sd := sd2 sz2 df2 sd
  clear df2 sz2 old2 new2 hb
  obtain ⟨g4, hg4, e4, m4⟩ := x4
  have x4 := e4
  clear e4
  have hw4 : w.heap.size ≤ g4 := Nat.le_trans bl0.size hg4
  clear x0
  refine wl_one (.nw w2.heap.size 33 ((hz).map V)) rfl 8 rfl (by rw [sd.1]; decide) (st_alloc33 rfl _ (Nat.le_refl _)) ?_
  intro f3 w3 df2 sz2 old2 new2 hb
  replace bl0 := bl
  replace x1 := tr old2 x1 rfl
  replace x2 := tr old2 x2 rfl
  replace x3 := tr old2 x3 rfl
  replace x4 := tr old2 x4 rfl
  have x8 : Fk.f (.nw w2.heap.size 33 ((hz).map V)) (f3.eval (.tmp 8)) w3 := new2
  have lt_m4 := Ob.lt m4
  replace m4 := Ob.below m4 hb
  replace bl := bgo bl hb
  replace sd := sd2 sz2 df2 sd
  clear df2 sz2 old2 new2 hb
  obtain ⟨g8, hg8, e8, m8⟩ := x8
  have x8 := e8
  clear e8
  have nm4_8 : g4 ≠ g8 := Nat.ne_of_lt (Nat.lt_of_lt_of_le lt_m4 hg8)
  have hw8 : w.heap.size ≤ g8 := Nat.le_trans bl0.size hg8
  refine wl_one (.eq (.int .i64 0)) rfl 9 rfl (by rw [sd.1]; decide) (st_assign (.const (.int .i64 0)) rfl rfl) ?_
  intro f4 w4 df2 sz2 old2 new2 hb
  replace x1 := tr old2 x1 rfl
  replace x2 := tr old2 x2 rfl
  replace x3 := tr old2 x3 rfl
  replace x4 := tr old2 x4 rfl
  replace x8 := tr old2 x8 rfl
  have x9 := Fk.e new2
  replace m4 := Ob.below m4 hb
  replace m8 := Ob.below m8 hb
  replace bl := bgo bl hb
  replace sd := sd2 sz2 df2 sd
  clear df2 sz2 old2 new2 hb
  refine wpList_nil ?_
  clear x9
  show Code.wp _ _ _ _ _
  refine wp_seq ?_
  refine wp_seq ?_
  refine wr_a [.eq (.int .i64 (i : Int)), .eq (.bool false), .eq (.bool false), .eq (.int .i64 (i : Int)), .eq (.int .i64 (n : Int)), .eq (.bool false), .eq (.bool false)] (by rw [sd.1]; kernel_rfl) ⟨fun hw ac u K => ?_, fun hw ac u K => ?_, fun hw ac u K => ?_, fun hw ac u K => ?_, fun hw ac u K => ?_, fun hw ac u K => ?_, fun hw ac u K => ?_, trivial⟩ ?_
  · exact st_move (.tmp 1) rfl (K.t x1 rfl)
  · exact st_lss 3 (.tmp 14) (.const (.int .i64 0)) rfl .i64 ((i : Int)) (0) (K.dep 0 14 rfl) rfl _ (by rw [eq_comm, decide_eq_false_iff_not]; omega)
  · exact st_move (.tmp 15) rfl (K.dep 1 15 rfl)
  · exact st_move (.tmp 1) rfl (K.t x1 rfl)
  · exact st_move (.tmp 2) rfl (K.t x2 rfl)
  · exact st_geq 3 (.tmp 17) (.tmp 18) rfl .i64 ((i : Int)) ((n : Int)) (K.dep 3 17 rfl) (K.dep 4 18 rfl) _ (by rw [eq_comm, decide_eq_false_iff_not]; omega)
  · exact st_pick_f' (.tmp 16) (.const (.bool true)) (.tmp 19) rfl (K.dep 2 16 rfl) (K.dep 5 19 rfl)
  intro f5 w5 A hb
  replace x1 := A.t x1 rfl
  replace x2 := A.t x2 rfl
  replace x3 := A.t x3 rfl
  replace x4 := A.t x4 rfl
  replace x8 := A.t x8 rfl
  have x20 := A.e 6 20 rfl rfl
  replace m4 := Ob.below m4 hb
  replace m8 := Ob.below m8 hb
  replace bl := bgo bl hb
  replace sd := A.sd sd
  clear A hb
  show Code.wp _ _ _ _ _
  refine wp_cond_false x20 ?_
  refine wp_skip ?_
  show Code.wp _ _ _ _ _
  refine wp_seq ?_
  refine wr_a [.eq (.int .i64 (i : Int)), .eq (.int .i64 (n : Int)), .ob w.heap.size ((tdn i n).reverse), .ob w.heap.size ((tdn i n).reverse)] (by rw [sd.1]; kernel_rfl) ⟨fun hw ac u K => ?_, fun hw ac u K => ?_, fun hw ac u K => ?_, fun hw ac u K => ?_, trivial⟩ ?_
  · exact st_move (.tmp 1) rfl (K.t x1 rfl)
  · exact st_move (.tmp 2) rfl (K.t x2 rfl)
  · exact st_call 49 (.func 49) _ _ _ rfl rfl (arg2 (K.dep 0 22 rfl) (K.dep 1 23 rfl)) Tryd.enter49 (fk_orw (bgo bl K.grow).size (pturns_any hi hn _))
  · exact st_assign (.tmp 24) rfl (K.dep 2 24 rfl)
  intro f6 w6 A hb
  replace x1 := A.t x1 rfl
  replace x2 := A.t x2 rfl
  replace x3 := A.t x3 rfl
  replace x4 := A.t x4 rfl
  replace x8 := A.t x8 rfl
  replace x20 := A.t x20 rfl
  have x10 : Fk.f (.ob w.heap.size ((tdn i n).reverse)) (f6.eval (.tmp 10)) w6 := A.has 3 10 rfl
  replace m4 := Ob.below m4 hb
  replace m8 := Ob.below m8 hb
  replace bl := bgo bl hb
  replace sd := A.sd sd
  clear A hb
  clear x1
  clear x2
  clear x20
  obtain ⟨v10, e10⟩ : ∃ v, f6.eval (.tmp 10) = v := ⟨_, rfl⟩
  have h10 := ob_bs x10
  rw [e10, hLr] at h10
  replace x10 := e10
  clear e10
  have blw := bl
  replace hv := Fk.mono _ _ _ _ hv bl
  replace hvs := Fk.mono _ _ _ _ hvs bl
  replace hK := hK.below bl
  replace bl := Below.refl w6.heap.size w6
  replace bl0 := bl
  show Code.wp _ _ _ _ _
  refine wp_seq ?_
  refine wp_seq ?_
  refine wr_a [.eq (v), .eq (.int .i64 (((P).length : Nat) : Int)), .eq (v10), .eq (.int .i64 (((L).length : Nat) : Int)), .eq (.bool false)] (by rw [sd.1]; kernel_rfl) ⟨fun hw ac u K => ?_, fun hw ac u K => ?_, fun hw ac u K => ?_, fun hw ac u K => ?_, fun hw ac u K => ?_, trivial⟩ ?_
  · exact st_move (.tmp 3) rfl (K.t x3 rfl)
  · exact st_lenc (.tmp 25) rfl ((P).length) rfl (fk_val (K.dep 0 25 rfl) (Fk.mono _ _ _ _ hv (bgo bl K.grow)))
  · exact st_move (.tmp 10) rfl (K.t x10 rfl)
  · exact st_lenbs (.tmp 27) rfl (fk_val (K.dep 2 27 rfl) (Fk.mono _ _ _ _ h10 (bgo bl K.grow)))
  · exact st_neqi 3 (.tmp 26) (.tmp 28) rfl .i64 ((((P).length : Nat) : Int)) ((((L).length : Nat) : Int)) (K.dep 1 26 rfl) (K.dep 3 28 rfl) _ (by rw [eq_comm, decide_eq_false_iff_not]; omega)
  intro f7 w7 A hb
  replace x3 := A.t x3 rfl
  replace x4 := A.t x4 rfl
  replace x8 := A.t x8 rfl
  replace x10 := A.t x10 rfl
  have x29 := A.e 4 29 rfl rfl
  replace bl := bgo bl hb
  replace sd := A.sd sd
  clear A hb
  show Code.wp _ _ _ _ _
  refine wp_cond_false x29 ?_
  refine wp_skip ?_
  show Code.wp _ _ _ _ _
  refine wp_seq ?_
  refine wr_s [.eq (.agg ((leaf).map V).toArray), .nw w7.heap.size 33 ((hz).map V)] (by rw [sd.1]; kernel_rfl) ⟨fun hw ac u K => ?_, fun hw ac u K => ?_, trivial⟩ ?_
  · exact st_load33 (.tmp 4) rfl (g4) (leaf) (K.t x4 rfl) hlf (Ob.below m4 (bgo bl K.grow))
  · exact st_alloc33 rfl _ K.grow.size
  intro f8 w8 A hb
  replace bl0 := bl
  replace x3 := A.t x3 rfl
  replace x4 := A.t x4 rfl
  replace x8 := A.t x8 rfl
  replace x10 := A.t x10 rfl
  replace x29 := A.t x29 rfl
  have x11 : Fk.f (.nw w7.heap.size 33 ((hz).map V)) (f8.eval (.tmp 11)) w8 := A.has 1 11 rfl
  have x31 := A.e 0 31 rfl rfl
  replace bl := bgo bl hb
  replace sd := A.sd sd
  clear A hb
  clear x4
  clear x29
  obtain ⟨g11, hg11, e11, m11⟩ := x11
  have x11 := e11
  clear e11
  have nm4_11 : g4 ≠ g11 := Nat.ne_of_lt (Nat.lt_of_lt_of_le (Ob.lt m4) (Nat.le_trans bl0.size hg11))
  have nm8_11 : g8 ≠ g11 := Nat.ne_of_lt (Nat.lt_of_lt_of_le (Ob.lt m8) (Nat.le_trans bl0.size hg11))
  have hw11 : w6.heap.size ≤ g11 := Nat.le_trans bl0.size hg11
  refine wl_store rfl (.tmp 11) (.tmp 31) rfl rfl (g11) (leaf) (hz) x11 x31 m11 hz_len hlf ?_
  replace m11 : Ob (w8.setRow g11 ((leaf).map V : List Value).toArray) (g11) 33 ((leaf).map V) := Ob.setRow m11 ((leaf).map V)
  replace bl : Below w6.heap.size w6 (w8.setRow g11 ((leaf).map V : List Value).toArray) := bl.trans (below_setRow _ _ _ _ hw11)
  generalize w8.setRow g11 ((leaf).map V : List Value).toArray = w9b at bl m11 ⊢
  refine wpList_nil ?_
  clear x31
  show Code.wp _ _ _ _ _
  refine wp_seq ?_
  refine wp_seq ?_
  refine wr_a [.eq (v), .eq (.int .i64 (((P).length : Nat) : Int)), .eq (.int .i64 0)] (by rw [sd.1]; kernel_rfl) ⟨fun hw ac u K => ?_, fun hw ac u K => ?_, fun hw ac u K => ?_, trivial⟩ ?_
  · exact st_move (.tmp 3) rfl (K.t x3 rfl)
  · exact st_lenc (.tmp 32) rfl ((P).length) rfl (fk_val (K.dep 0 32 rfl) (Fk.mono _ _ _ _ hv (bgo bl K.grow)))
  · exact st_move (.const (.int .i64 0)) rfl rfl
  intro f10 w10 A hb
  replace x3 := A.t x3 rfl
  replace x8 := A.t x8 rfl
  replace x10 := A.t x10 rfl
  replace x11 := A.t x11 rfl
  have x32 := A.e 0 32 rfl rfl
  have x33 := A.e 1 33 rfl rfl
  have x34 := A.e 2 34 rfl rfl
  replace m11 := Ob.below m11 hb
  replace bl := bgo bl hb
  replace sd := A.sd sd
  clear A hb
  clear x3
  show Code.wp _ _ _ _ _
  refine wp_block ?_
  refine wp_loop (fun f v1 => ∃ k : Nat, k ≤ (P).length ∧ f.tmps.size = 51 ∧ f.defers = [] ∧ f.eval (.tmp 8) = .pointer (some ⟨g8, 0, none⟩) ∧ f.eval (.tmp 10) = v10 ∧ f.eval (.tmp 11) = .pointer (some ⟨g11, 0, none⟩) ∧ f.eval (.tmp 32) = v ∧ f.eval (.tmp 33) = .int .i64 (((P).length : Nat) : Int) ∧ f.eval (.tmp 34) = .int .i64 (k : Int) ∧ Ob v1 (g11) 33 ((lek leaf P S k).map V) ∧ Below w6.heap.size w6 (v1)) (fun f _ => (P).length - (intOf (f.eval (.tmp 34))).toNat) ⟨0, Nat.zero_le _, sd.1, sd.2, x8, x10, x11, x32, x33, x34, (by rw [lek_zero]; exact m11), bl⟩ ?_
  intro f11 w11 hI
  clear sd bl bl0 x8 x10 x11 x32 x33 x34 m11
  obtain ⟨k, hk, sz, df, x8, x10, x11, x32, x33, x34, m11, bl⟩ := hI
  have sd := And.intro sz df
  clear sz df
  have bl0 := bl
  have hcnt := x34
  refine wp_seq ?_
  by_cases hlt : k < (P).length
  rotate_left
  · skip
    refine wr_a [.eq (.bool false)] (by rw [sd.1]; kernel_rfl) ⟨fun hw ac u K => ?_, trivial⟩ ?_
    · exact st_lss 3 (.tmp 34) (.tmp 33) rfl .i64 ((k : Int)) ((((P).length : Nat) : Int)) (K.t x34 rfl) (K.t x33 rfl) _ (by rw [eq_comm, decide_eq_false_iff_not]; exact fun h => hlt (Int.ofNat_lt.1 h))
    intro f12 w12 A hb
    replace x8 := A.t x8 rfl
    replace x10 := A.t x10 rfl
    replace x11 := A.t x11 rfl
    replace x32 := A.t x32 rfl
    replace x33 := A.t x33 rfl
    replace x34 := A.t x34 rfl
    have x35 := A.e 0 35 rfl rfl
    replace m11 := Ob.below m11 hb
    replace bl := bgo bl hb
    replace sd := A.sd sd
    clear A hb
    show Code.wp _ _ _ _ _
    refine wp_seq ?_
    refine wp_cond_false x35 ?_
    refine wp_exit ?_
    show Code.wp _ _ _ _ _
    refine wp_seq ?_
    obtain rfl : k = (S).length := by omega
    rw [lek_all leaf hPS, ey.out] at m11
    replace m4 := Ob.below m4 bl
    replace m8 := Ob.below m8 bl
    replace bl := blw.trans (Below.mono bl blw.size)
    replace bl0 := bl
    refine wr_s [.eq (.agg ((y).map V).toArray)] (by rw [sd.1]; kernel_rfl) ⟨fun hw ac u K => ?_, trivial⟩ ?_
    · exact st_load33 (.tmp 11) rfl (g11) (y) (K.t x11 rfl) hy (Ob.below m11 K.grow)
    intro f13 w13 A hb
    replace x8 := A.t x8 rfl
    replace x10 := A.t x10 rfl
    replace x11 := A.t x11 rfl
    replace x32 := A.t x32 rfl
    replace x33 := A.t x33 rfl
    replace x34 := A.t x34 rfl
    replace x35 := A.t x35 rfl
    have x50 := A.e 0 50 rfl rfl
    replace m4 := Ob.below m4 hb
    replace m8 := Ob.below m8 hb
    replace m11 := Ob.below m11 hb
    replace bl := bgo bl hb
    replace sd := A.sd sd
    clear A hb
    clear x35
    refine wl_store rfl (.tmp 8) (.tmp 50) rfl rfl (g8) (y) (hz) x8 x50 m8 hz_len hy ?_
    replace m4 : Ob (w13.setRow g8 ((y).map V : List Value).toArray) (g4) 33 ((leaf).map V) := Ob.setRow_other m4 _ nm4_8
    replace m8 : Ob (w13.setRow g8 ((y).map V : List Value).toArray) (g8) 33 ((y).map V) := Ob.setRow m8 ((y).map V)
    replace m11 : Ob (w13.setRow g8 ((y).map V : List Value).toArray) (g11) 33 ((y).map V) := Ob.setRow_other m11 _ nm8_11.symm
    replace bl : Below w.heap.size w (w13.setRow g8 ((y).map V : List Value).toArray) := bl.trans (below_setRow _ _ _ _ hw8)
    generalize w13.setRow g8 ((y).map V : List Value).toArray = w14b at bl m4 m8 m11 ⊢
    clear x50
    refine wl_one (.eq (.int .i64 0)) rfl 9 rfl (by rw [sd.1]; decide) (st_assign (.const (.int .i64 0)) rfl rfl) ?_
    intro f15 w15 df2 sz2 old2 new2 hb
    replace x8 := tr old2 x8 rfl
    replace x10 := tr old2 x10 rfl
    replace x11 := tr old2 x11 rfl
    replace x32 := tr old2 x32 rfl
    replace x33 := tr old2 x33 rfl
    replace x34 := tr old2 x34 rfl
    have x9 := Fk.e new2
    replace m4 := Ob.below m4 hb
    replace m8 := Ob.below m8 hb
    replace m11 := Ob.below m11 hb
    replace bl := bgo bl hb
    replace sd := sd2 sz2 df2 sd
    clear df2 sz2 old2 new2 hb
    refine wpList_nil ?_
    clear m4
    show Code.wp _ _ _ _ _
    refine wp_ret ?_
    repeat (first | with_reducible refine then_ret ?_ | with_reducible refine block_ret ?_)
    exact bodyPost_ret (v := .tuple #[.agg ((y).map V).toArray, .int .i64 0]) (ret_hash2 rfl f15 _ g8 (y) (.int .i64 0) hy x8 m8 x9) sd.2 ⟨_, rfl, rfl, bl⟩
  obtain ⟨bb, hSk⟩ : ∃ b, S[k]? = some b := ⟨_, List.getElem?_eq_getElem (by omega)⟩
  obtain ⟨p, hPk⟩ : ∃ p, P[k]? = some p := ⟨_, List.getElem?_eq_getElem hlt⟩
  have hp : p.length = 32 := hc_len hv p (List.mem_of_getElem? hPk)
  have hLk : L[k]? = some (!bb) := by rw [hLS]; exact neg_at hSk
  have hls := lek_succ leaf hPk hSk
  refine wr_a [.eq (.bool true)] (by rw [sd.1]; kernel_rfl) ⟨fun hw ac u K => ?_, trivial⟩ ?_
  · exact st_lss 3 (.tmp 34) (.tmp 33) rfl .i64 ((k : Int)) ((((P).length : Nat) : Int)) (K.t x34 rfl) (K.t x33 rfl) _ (by rw [eq_comm, decide_eq_true_iff]; exact Int.ofNat_lt.2 hlt)
  intro f12 w12 A hb
  replace x8 := A.t x8 rfl
  replace x10 := A.t x10 rfl
  replace x11 := A.t x11 rfl
  replace x32 := A.t x32 rfl
  replace x33 := A.t x33 rfl
  replace x34 := A.t x34 rfl
  have x35 := A.e 0 35 rfl rfl
  replace m11 := Ob.below m11 hb
  replace bl := bgo bl hb
  replace sd := A.sd sd
  clear A hb
  show Code.wp _ _ _ _ _
  refine wp_seq ?_
  refine wp_cond_true x35 ?_
  refine wp_skip ?_
  show Code.wp _ _ _ _ _
  refine wp_seq ?_
  refine wp_block ?_
  refine wp_seq ?_
  refine wr_s [.eq (.int .i64 (k : Int)), .ph (p), .eq (.agg ((p).map V).toArray), .nw w12.heap.size 33 ((hz).map V), .eq (.int .i64 (k : Int))] (by rw [sd.1]; kernel_rfl) ⟨fun hw ac u K => ?_, fun hw ac u K => ?_, fun hw ac u K => ?_, fun hw ac u K => ?_, fun hw ac u K => ?_, trivial⟩ ?_
  · exact st_move (.tmp 34) rfl (K.t x34 rfl)
  · exact st_idxh (.tmp 32) (.tmp 34) rfl (fk_val (K.t x32 rfl) (Fk.mono _ _ _ _ hvs (bgo bl K.grow))) (k) (p) (K.t x34 rfl) hPk
  · exact st_loadh (.tmp 37) rfl (K.dep 1 37 rfl)
  · exact st_alloc33 rfl _ K.grow.size
  · exact st_assign (.tmp 36) rfl (K.dep 0 36 rfl)
  intro f13 w13 A hb
  replace bl0 := bl
  replace x8 := A.t x8 rfl
  replace x10 := A.t x10 rfl
  replace x11 := A.t x11 rfl
  replace x32 := A.t x32 rfl
  replace x33 := A.t x33 rfl
  replace x34 := A.t x34 rfl
  replace x35 := A.t x35 rfl
  have x12 := A.e 4 12 rfl rfl
  have x13 : Fk.f (.nw w12.heap.size 33 ((hz).map V)) (f13.eval (.tmp 13)) w13 := A.has 3 13 rfl
  have x38 := A.e 2 38 rfl rfl
  have lt_m11 := Ob.lt m11
  replace m11 := Ob.below m11 hb
  replace bl := bgo bl hb
  replace sd := A.sd sd
  clear A hb
  clear x35
  obtain ⟨g13, hg13, e13, m13⟩ := x13
  have x13 := e13
  clear e13
  have nm4_13 : g4 ≠ g13 := Nat.ne_of_lt (Nat.lt_of_lt_of_le (Ob.lt m4) (Nat.le_trans bl0.size hg13))
  have nm8_13 : g8 ≠ g13 := Nat.ne_of_lt (Nat.lt_of_lt_of_le (Ob.lt m8) (Nat.le_trans bl0.size hg13))
  have nm11_13 : g11 ≠ g13 := Nat.ne_of_lt (Nat.lt_of_lt_of_le lt_m11 hg13)
  have hw13 : w6.heap.size ≤ g13 := Nat.le_trans bl0.size hg13
  refine wl_store rfl (.tmp 13) (.tmp 38) rfl rfl (g13) (p) (hz) x13 x38 m13 hz_len hp ?_
  replace m11 : Ob (w13.setRow g13 ((p).map V : List Value).toArray) (g11) 33 ((lek leaf P S k).map V) := Ob.setRow_other m11 _ nm11_13
  replace m13 : Ob (w13.setRow g13 ((p).map V : List Value).toArray) (g13) 33 ((p).map V) := Ob.setRow m13 ((p).map V)
  replace bl : Below w6.heap.size w6 (w13.setRow g13 ((p).map V : List Value).toArray) := bl.trans (below_setRow _ _ _ _ hw13)
  generalize w13.setRow g13 ((p).map V : List Value).toArray = w14b at bl m11 m13 ⊢
  refine wpList_nil ?_
  clear x38
  show Code.wp _ _ _ _ _
  refine wp_seq ?_
  cases bb
  rotate_left
  · skip
    rw [show (!true) = false from rfl] at hLk
    obtain ⟨yy, ey⟩ : ∃ y, Box (nd p (lek leaf P S k) = y) := ⟨_, ⟨rfl⟩⟩
    have hyy : yy.length = 32 := by rw [← ey.out]; exact nd_len _ _
    have hlk : lek leaf P S (k + 1) = yy := by rw [hls]; exact ey.out
    refine wr_a [.eq (v10), .eq (.int .i64 (k : Int)), .prg [.bool false], .eq (.bool false)] (by rw [sd.1]; kernel_rfl) ⟨fun hw ac u K => ?_, fun hw ac u K => ?_, fun hw ac u K => ?_, fun hw ac u K => ?_, trivial⟩ ?_
    · exact st_move (.tmp 10) rfl (K.t x10 rfl)
    · exact st_move (.tmp 12) rfl (K.t x12 rfl)
    · exact st_idxbs (.tmp 39) (.tmp 40) rfl (fk_val (K.dep 0 39 rfl) (Fk.mono _ _ _ _ h10 (bgo bl K.grow))) k (K.dep 1 40 rfl) false hLk
    · exact st_loadr1 4 (.tmp 41) rfl (by kernel_rfl) (K.dep 2 41 rfl)
    intro f15 w15 A hb
    replace x8 := A.t x8 rfl
    replace x10 := A.t x10 rfl
    replace x11 := A.t x11 rfl
    replace x32 := A.t x32 rfl
    replace x33 := A.t x33 rfl
    replace x34 := A.t x34 rfl
    replace x12 := A.t x12 rfl
    replace x13 := A.t x13 rfl
    have x42 := A.e 3 42 rfl rfl
    replace m11 := Ob.below m11 hb
    replace m13 := Ob.below m13 hb
    replace bl := bgo bl hb
    replace sd := A.sd sd
    clear A hb
    clear x12
    show Code.wp _ _ _ _ _
    refine wp_cond_false x42 ?_
    refine wr_s [.eq (.agg ((p).map V).toArray), .eq (.agg ((lek leaf P S k).map V).toArray), .eq (.agg ((yy).map V).toArray)] (by rw [sd.1]; kernel_rfl) ⟨fun hw ac u K => ?_, fun hw ac u K => ?_, fun hw ac u K => ?_, trivial⟩ ?_
    · exact st_load33 (.tmp 13) rfl (g13) (p) (K.t x13 rfl) hp (Ob.below m13 K.grow)
    · exact st_load33 (.tmp 11) rfl (g11) (lek leaf P S k) (K.t x11 rfl) (lek_len hlf hPS k (by omega)) (Ob.below m11 K.grow)
    · exact st_call 30 (.func 30) _ _ _ rfl rfl (arg2 (K.dep 0 46 rfl) (K.dep 1 47 rfl)) Tryd.enter30 (fk_node hp (lek_len hlf hPS k (by omega)) (hK.below (bgo bl K.grow)) ey)
    intro f16 w16 A hb
    replace x8 := A.t x8 rfl
    replace x10 := A.t x10 rfl
    replace x11 := A.t x11 rfl
    replace x32 := A.t x32 rfl
    replace x33 := A.t x33 rfl
    replace x34 := A.t x34 rfl
    replace x13 := A.t x13 rfl
    replace x42 := A.t x42 rfl
    have x48 := A.e 2 48 rfl rfl
    replace m11 := Ob.below m11 hb
    replace m13 := Ob.below m13 hb
    replace bl := bgo bl hb
    replace sd := A.sd sd
    clear A hb
    clear x13
    clear x42
    refine wl_store rfl (.tmp 11) (.tmp 48) rfl rfl (g11) (yy) (lek leaf P S k) x11 x48 m11 (lek_len hlf hPS k (by omega)) hyy ?_
    replace m11 : Ob (w16.setRow g11 ((yy).map V : List Value).toArray) (g11) 33 ((yy).map V) := Ob.setRow m11 ((yy).map V)
    replace m13 : Ob (w16.setRow g11 ((yy).map V : List Value).toArray) (g13) 33 ((p).map V) := Ob.setRow_other m13 _ nm11_13.symm
    replace bl : Below w6.heap.size w6 (w16.setRow g11 ((yy).map V : List Value).toArray) := bl.trans (below_setRow _ _ _ _ hw11)
    generalize w16.setRow g11 ((yy).map V : List Value).toArray = w17b at bl m11 m13 ⊢
    refine wpList_nil ?_
    clear x48
    clear m13
    show Code.wp _ _ _ _ _
    refine wr_s [.eq (.int .i64 ((k + 1 : Nat) : Int))] (by rw [sd.1]; kernel_rfl) ⟨fun hw ac u K => ?_, trivial⟩ ?_
    · exact st_add (.tmp 34) (.const (.int .i64 1)) rfl (k) (1) (k + 1) (K.t x34 rfl) rfl (by omega) (by omega)
    intro f18 w18 A hb
    replace x8 := A.t x8 rfl
    replace x10 := A.t x10 rfl
    replace x11 := A.t x11 rfl
    replace x32 := A.t x32 rfl
    replace x33 := A.t x33 rfl
    replace x34 := A.t x34 rfl
    have x49 := A.e 0 49 rfl rfl
    replace m11 := Ob.below m11 hb
    replace bl := bgo bl hb
    replace sd := A.sd sd
    clear A hb
    refine wl_one (.eq (.int .i64 ((k + 1 : Nat) : Int))) rfl 34 rfl (by rw [sd.1]; decide) (st_move (.tmp 49) rfl x49) ?_
    intro f19 w19 df2 sz2 old2 new2 hb
    replace x8 := tr old2 x8 rfl
    replace x10 := tr old2 x10 rfl
    replace x11 := tr old2 x11 rfl
    replace x32 := tr old2 x32 rfl
    replace x33 := tr old2 x33 rfl
    clear x34
    replace x49 := tr old2 x49 rfl
    have x34 := Fk.e new2
    replace m11 := Ob.below m11 hb
    replace bl := bgo bl hb
    replace sd := sd2 sz2 df2 sd
    clear df2 sz2 old2 new2 hb
    refine wpList_nil ?_
    clear x49
    show (∃ _, _) ∧ _
    refine ⟨⟨k + 1, by omega, sd.1, sd.2, x8, x10, x11, x32, x33, x34, (by rw [hlk]; exact m11), bl⟩, ?_⟩
    rw [show f19.eval (.tmp 34) = _ from x34, show _ = _ from hcnt]
    first | (simp [intOf]; done) | (simp [intOf]; omega)
  rw [show (!false) = true from rfl] at hLk
  obtain ⟨yy, ey⟩ : ∃ y, Box (nd (lek leaf P S k) p = y) := ⟨_, ⟨rfl⟩⟩
  have hyy : yy.length = 32 := by rw [← ey.out]; exact nd_len _ _
  have hlk : lek leaf P S (k + 1) = yy := by rw [hls]; exact ey.out
  refine wr_a [.eq (v10), .eq (.int .i64 (k : Int)), .prg [.bool true], .eq (.bool true)] (by rw [sd.1]; kernel_rfl) ⟨fun hw ac u K => ?_, fun hw ac u K => ?_, fun hw ac u K => ?_, fun hw ac u K => ?_, trivial⟩ ?_
  · exact st_move (.tmp 10) rfl (K.t x10 rfl)
  · exact st_move (.tmp 12) rfl (K.t x12 rfl)
  · exact st_idxbs (.tmp 39) (.tmp 40) rfl (fk_val (K.dep 0 39 rfl) (Fk.mono _ _ _ _ h10 (bgo bl K.grow))) k (K.dep 1 40 rfl) true hLk
  · exact st_loadr1 4 (.tmp 41) rfl (by kernel_rfl) (K.dep 2 41 rfl)
  intro f15 w15 A hb
  replace x8 := A.t x8 rfl
  replace x10 := A.t x10 rfl
  replace x11 := A.t x11 rfl
  replace x32 := A.t x32 rfl
  replace x33 := A.t x33 rfl
  replace x34 := A.t x34 rfl
  replace x12 := A.t x12 rfl
  replace x13 := A.t x13 rfl
  have x42 := A.e 3 42 rfl rfl
  replace m11 := Ob.below m11 hb
  replace m13 := Ob.below m13 hb
  replace bl := bgo bl hb
  replace sd := A.sd sd
  clear A hb
  clear x12
  show Code.wp _ _ _ _ _
  refine wp_cond_true x42 ?_
  refine wr_s [.eq (.agg ((lek leaf P S k).map V).toArray), .eq (.agg ((p).map V).toArray), .eq (.agg ((yy).map V).toArray)] (by rw [sd.1]; kernel_rfl) ⟨fun hw ac u K => ?_, fun hw ac u K => ?_, fun hw ac u K => ?_, trivial⟩ ?_
  · exact st_load33 (.tmp 11) rfl (g11) (lek leaf P S k) (K.t x11 rfl) (lek_len hlf hPS k (by omega)) (Ob.below m11 K.grow)
  · exact st_load33 (.tmp 13) rfl (g13) (p) (K.t x13 rfl) hp (Ob.below m13 K.grow)
  · exact st_call 30 (.func 30) _ _ _ rfl rfl (arg2 (K.dep 0 43 rfl) (K.dep 1 44 rfl)) Tryd.enter30 (fk_node (lek_len hlf hPS k (by omega)) hp (hK.below (bgo bl K.grow)) ey)
  intro f16 w16 A hb
  replace x8 := A.t x8 rfl
  replace x10 := A.t x10 rfl
  replace x11 := A.t x11 rfl
  replace x32 := A.t x32 rfl
  replace x33 := A.t x33 rfl
  replace x34 := A.t x34 rfl
  replace x13 := A.t x13 rfl
  replace x42 := A.t x42 rfl
  have x45 := A.e 2 45 rfl rfl
  replace m11 := Ob.below m11 hb
  replace m13 := Ob.below m13 hb
  replace bl := bgo bl hb
  replace sd := A.sd sd
  clear A hb
  clear x13
  clear x42
  refine wl_store rfl (.tmp 11) (.tmp 45) rfl rfl (g11) (yy) (lek leaf P S k) x11 x45 m11 (lek_len hlf hPS k (by omega)) hyy ?_
  replace m11 : Ob (w16.setRow g11 ((yy).map V : List Value).toArray) (g11) 33 ((yy).map V) := Ob.setRow m11 ((yy).map V)
  replace m13 : Ob (w16.setRow g11 ((yy).map V : List Value).toArray) (g13) 33 ((p).map V) := Ob.setRow_other m13 _ nm11_13.symm
  replace bl : Below w6.heap.size w6 (w16.setRow g11 ((yy).map V : List Value).toArray) := bl.trans (below_setRow _ _ _ _ hw11)
  generalize w16.setRow g11 ((yy).map V : List Value).toArray = w17b at bl m11 m13 ⊢
  refine wpList_nil ?_
  clear x45
  clear m13
  show Code.wp _ _ _ _ _
  refine wr_s [.eq (.int .i64 ((k + 1 : Nat) : Int))] (by rw [sd.1]; kernel_rfl) ⟨fun hw ac u K => ?_, trivial⟩ ?_
  · exact st_add (.tmp 34) (.const (.int .i64 1)) rfl (k) (1) (k + 1) (K.t x34 rfl) rfl (by omega) (by omega)
  intro f18 w18 A hb
  replace x8 := A.t x8 rfl
  replace x10 := A.t x10 rfl
  replace x11 := A.t x11 rfl
  replace x32 := A.t x32 rfl
  replace x33 := A.t x33 rfl
  replace x34 := A.t x34 rfl
  have x49 := A.e 0 49 rfl rfl
  replace m11 := Ob.below m11 hb
  replace bl := bgo bl hb
  replace sd := A.sd sd
  clear A hb
  refine wl_one (.eq (.int .i64 ((k + 1 : Nat) : Int))) rfl 34 rfl (by rw [sd.1]; decide) (st_move (.tmp 49) rfl x49) ?_
  intro f19 w19 df2 sz2 old2 new2 hb
  replace x8 := tr old2 x8 rfl
  replace x10 := tr old2 x10 rfl
  replace x11 := tr old2 x11 rfl
  replace x32 := tr old2 x32 rfl
  replace x33 := tr old2 x33 rfl
  clear x34
  replace x49 := tr old2 x49 rfl
  have x34 := Fk.e new2
  replace m11 := Ob.below m11 hb
  replace bl := bgo bl hb
  replace sd := sd2 sz2 df2 sd
  clear df2 sz2 old2 new2 hb
  refine wpList_nil ?_
  clear x49
  show (∃ _, _) ∧ _
  refine ⟨⟨k + 1, by omega, sd.1, sd.2, x8, x10, x11, x32, x33, x34, (by rw [hlk]; exact m11), bl⟩, ?_⟩
  rw [show f19.eval (.tmp 34) = _ from x34, show _ = _ from hcnt]
  first | (simp [intOf]; done) | (simp [intOf]; omega)
theorem in_bad {leaf : List (BitVec 8)} (hlf : leaf.length = 32) {rt : List (BitVec 8)} (_hrt : rt.length = 32) {i n : Nat} (hi : i < n) (hn : n ≤ 1152921504606846976) {P : List (List (BitVec 8))} {v : Value} {w : World} (hv : (Fk.hc P).f v w) (hP : P.length ≤ 100000) (hK : Tab w) (hl : P.length ≠ (sds i n).length) :
    Calls Tryd.prog 17 #[.agg ((leaf).map V).toArray, .int .i64 (i : Int), .int .i64 (n : Int), v, .agg ((rt).map V).toArray] w fun e w' => ∃ u, e = .returned u ∧ (Fk.eq (.int .i64 22)).f u w' ∧ Below w.heap.size w w' := by
  have hvs := hc_hs hv
  go_enter Tryd.func17, Tryd.ntmps17
  refine code_both (fun f w1 => f.tmps.size = 27 ∧ f.defers = [] ∧ f.eval (.tmp 0) = .agg ((leaf).map V).toArray ∧ f.eval (.tmp 1) = .int .i64 (i : Int) ∧ f.eval (.tmp 2) = .int .i64 (n : Int) ∧ f.eval (.tmp 3) = v ∧ f.eval (.tmp 4) = .agg ((rt).map V).toArray ∧ Below w.heap.size w (w1)) ⟨rfl, rfl, rfl, rfl, rfl, rfl, rfl, Below.refl _ _⟩ ?_
  rintro f0 w0 ⟨sz, df, x0, x1, x2, x3, x4, bl⟩
  have sd := And.intro sz df
  clear sz df
  have bl0 := bl
  refine wp_seq ?_
  refine wr_s [] (by rw [sd.1]; kernel_rfl) trivial ?_
  intro f1 w1 A hb
  replace x0 := A.t x0 rfl
  replace x1 := A.t x1 rfl
  replace x2 := A.t x2 rfl
  replace x3 := A.t x3 rfl
  replace x4 := A.t x4 rfl
  replace bl := bgo bl hb
  replace sd := A.sd sd
  clear A hb
  refine wl_one (.nw w1.heap.size 33 ((leaf).map V)) rfl 5 rfl (by rw [sd.1]; decide) (st_box 33 (.tmp 0) rfl _ _ (by rw [show _ = _ from x0]; kernel_rfl) (Nat.le_refl _)) ?_
  intro f2 w2 df2 sz2 old2 new2 hb
  replace bl0 := bl
  replace x0 := tr old2 x0 rfl
  replace x1 := tr old2 x1 rfl
  replace x2 := tr old2 x2 rfl
  replace x3 := tr old2 x3 rfl
  replace x4 := tr old2 x4 rfl
  have x5 : Fk.f (.nw w1.heap.size 33 ((leaf).map V)) (f2.eval (.tmp 5)) w2 := new2
  replace bl := bgo bl hb
  replace sd := sd2 sz2 df2 sd
  clear df2 sz2 old2 new2 hb
  obtain ⟨g5, hg5, e5, m5⟩ := x5
  have x5 := e5
  clear e5
  have hw5 : w.heap.size ≤ g5 := Nat.le_trans bl0.size hg5
  clear x0
  refine wl_one (.nw w2.heap.size 33 ((rt).map V)) rfl 9 rfl (by rw [sd.1]; decide) (st_box 33 (.tmp 4) rfl _ _ (by rw [show _ = _ from x4]; kernel_rfl) (Nat.le_refl _)) ?_
  intro f3 w3 df2 sz2 old2 new2 hb
  replace bl0 := bl
  replace x1 := tr old2 x1 rfl
  replace x2 := tr old2 x2 rfl
  replace x3 := tr old2 x3 rfl
  replace x4 := tr old2 x4 rfl
  replace x5 := tr old2 x5 rfl
  have x9 : Fk.f (.nw w2.heap.size 33 ((rt).map V)) (f3.eval (.tmp 9)) w3 := new2
  have lt_m5 := Ob.lt m5
  replace m5 := Ob.below m5 hb
  replace bl := bgo bl hb
  replace sd := sd2 sz2 df2 sd
  clear df2 sz2 old2 new2 hb
  obtain ⟨g9, hg9, e9, m9⟩ := x9
  have x9 := e9
  clear e9
  have nm5_9 : g5 ≠ g9 := Nat.ne_of_lt (Nat.lt_of_lt_of_le lt_m5 hg9)
  have hw9 : w.heap.size ≤ g9 := Nat.le_trans bl0.size hg9
  clear x4
  refine wl_one (.eq (.int .i64 0)) rfl 10 rfl (by rw [sd.1]; decide) (st_assign (.const (.int .i64 0)) rfl rfl) ?_
  intro f4 w4 df2 sz2 old2 new2 hb
  replace x1 := tr old2 x1 rfl
  replace x2 := tr old2 x2 rfl
  replace x3 := tr old2 x3 rfl
  replace x5 := tr old2 x5 rfl
  replace x9 := tr old2 x9 rfl
  have x10 := Fk.e new2
  replace m5 := Ob.below m5 hb
  replace m9 := Ob.below m9 hb
  replace bl := bgo bl hb
  replace sd := sd2 sz2 df2 sd
  clear df2 sz2 old2 new2 hb
  refine wpList_nil ?_
  clear x10
  show Code.wp _ _ _ _ _
  refine wp_seq ?_
  refine wr_s [.eq (.agg ((leaf).map V).toArray), .eq (.int .i64 (i : Int)), .eq (.int .i64 (n : Int)), .eq (v), .eq (.tuple #[.agg ((hz).map V).toArray, .int .i64 22]), .eq (.tuple #[.agg ((hz).map V).toArray, .int .i64 22]), .eq (.agg ((hz).map V).toArray), .eq (.int .i64 22), .nw w4.heap.size 33 ((hz).map V)] (by rw [sd.1]; kernel_rfl) ⟨fun hw ac u K => ?_, fun hw ac u K => ?_, fun hw ac u K => ?_, fun hw ac u K => ?_, fun hw ac u K => ?_, fun hw ac u K => ?_, fun hw ac u K => ?_, fun hw ac u K => ?_, fun hw ac u K => ?_, trivial⟩ ?_
  · exact st_load33 (.tmp 5) rfl (g5) (leaf) (K.t x5 rfl) hlf (Ob.below m5 K.grow)
  · exact st_move (.tmp 1) rfl (K.t x1 rfl)
  · exact st_move (.tmp 2) rfl (K.t x2 rfl)
  · exact st_move (.tmp 3) rfl (K.t x3 rfl)
  · exact st_call 33 (.func 33) _ _ _ rfl rfl (arg4 (K.dep 0 14 rfl) (K.dep 1 15 rfl) (K.dep 2 16 rfl) (K.dep 3 17 rfl)) Tryd.enter33 (lead_bad hlf hi hn (Fk.mono _ _ _ _ hv (bgo bl K.grow)) hP (hK.below (bgo bl K.grow)) hl)
  · exact st_move (.tmp 18) rfl (K.dep 4 18 rfl)
  · exact st_ext0 (.tmp 13) rfl (K.dep 5 13 rfl) rfl
  · exact st_ext1 (.tmp 13) rfl (K.dep 5 13 rfl) rfl
  · exact st_alloc33 rfl _ K.grow.size
  intro f5 w5 A hb
  replace bl0 := bl
  replace x1 := A.t x1 rfl
  replace x2 := A.t x2 rfl
  replace x3 := A.t x3 rfl
  replace x5 := A.t x5 rfl
  replace x9 := A.t x9 rfl
  have x11 : Fk.f (.nw w4.heap.size 33 ((hz).map V)) (f5.eval (.tmp 11)) w5 := A.has 8 11 rfl
  have x19 := A.e 6 19 rfl rfl
  have x20 := A.e 7 20 rfl rfl
  have lt_m5 := Ob.lt m5
  replace m5 := Ob.below m5 hb
  have lt_m9 := Ob.lt m9
  replace m9 := Ob.below m9 hb
  replace bl := bgo bl hb
  replace sd := A.sd sd
  clear A hb
  clear x1
  clear x2
  clear x3
  clear x5
  obtain ⟨g11, hg11, e11, m11⟩ := x11
  have x11 := e11
  clear e11
  have nm5_11 : g5 ≠ g11 := Nat.ne_of_lt (Nat.lt_of_lt_of_le lt_m5 hg11)
  have nm9_11 : g9 ≠ g11 := Nat.ne_of_lt (Nat.lt_of_lt_of_le lt_m9 hg11)
  have hw11 : w.heap.size ≤ g11 := Nat.le_trans bl0.size hg11
  refine wl_store rfl (.tmp 11) (.tmp 19) rfl rfl (g11) (hz) (hz) x11 x19 m11 hz_len hz_len ?_
  replace m5 : Ob (w5.setRow g11 ((hz).map V : List Value).toArray) (g5) 33 ((leaf).map V) := Ob.setRow_other m5 _ nm5_11
  replace m9 : Ob (w5.setRow g11 ((hz).map V : List Value).toArray) (g9) 33 ((rt).map V) := Ob.setRow_other m9 _ nm9_11
  replace m11 : Ob (w5.setRow g11 ((hz).map V : List Value).toArray) (g11) 33 ((hz).map V) := Ob.setRow m11 ((hz).map V)
  replace bl : Below w.heap.size w (w5.setRow g11 ((hz).map V : List Value).toArray) := bl.trans (below_setRow _ _ _ _ hw11)
  generalize w5.setRow g11 ((hz).map V : List Value).toArray = w6b at bl m5 m9 m11 ⊢
  clear x19
  refine wl_one (.eq (.int .i64 22)) rfl 12 rfl (by rw [sd.1]; decide) (st_assign (.tmp 20) rfl x20) ?_
  intro f7 w7 df2 sz2 old2 new2 hb
  replace x9 := tr old2 x9 rfl
  replace x11 := tr old2 x11 rfl
  replace x20 := tr old2 x20 rfl
  have x12 := Fk.e new2
  replace m5 := Ob.below m5 hb
  replace m9 := Ob.below m9 hb
  replace m11 := Ob.below m11 hb
  replace bl := bgo bl hb
  replace sd := sd2 sz2 df2 sd
  clear df2 sz2 old2 new2 hb
  refine wpList_nil ?_
  clear x20
  clear m5
  show Code.wp _ _ _ _ _
  refine wp_seq ?_
  refine wp_seq ?_
  refine wr_a [.eq (.int .i64 22), .eq (.bool true)] (by rw [sd.1]; kernel_rfl) ⟨fun hw ac u K => ?_, fun hw ac u K => ?_, trivial⟩ ?_
  · exact st_move (.tmp 12) rfl (K.t x12 rfl)
  · exact st_neqi 40 (.tmp 21) (.const (.int .i64 0)) rfl .i64 (22) (0) (K.dep 0 21 rfl) rfl _ (by rfl)
  intro f8 w8 A hb
  replace x9 := A.t x9 rfl
  replace x11 := A.t x11 rfl
  replace x12 := A.t x12 rfl
  have x22 := A.e 1 22 rfl rfl
  replace m9 := Ob.below m9 hb
  replace m11 := Ob.below m11 hb
  replace bl := bgo bl hb
  replace sd := A.sd sd
  clear A hb
  show Code.wp _ _ _ _ _
  refine wp_cond_true x22 ?_
  refine wp_seq ?_
  refine wr_a [.eq (.int .i64 22), .eq (.int .i64 22)] (by rw [sd.1]; kernel_rfl) ⟨fun hw ac u K => ?_, fun hw ac u K => ?_, trivial⟩ ?_
  · exact st_move (.tmp 12) rfl (K.t x12 rfl)
  · exact st_assign (.tmp 23) rfl (K.dep 0 23 rfl)
  intro f9 w9 A hb
  replace x9 := A.t x9 rfl
  replace x11 := A.t x11 rfl
  replace x12 := A.t x12 rfl
  replace x22 := A.t x22 rfl
  have x10 := A.e 1 10 rfl rfl
  replace m9 := Ob.below m9 hb
  replace m11 := Ob.below m11 hb
  replace bl := bgo bl hb
  replace sd := A.sd sd
  clear A hb
  clear x9
  clear x11
  clear x12
  clear x22
  clear m9 m11
  show Code.wp _ _ _ _ _
  refine wp_ret ?_
  repeat (first | with_reducible refine then_ret ?_ | with_reducible refine block_ret ?_)
  exact bodyPost_ret (v := .int .i64 22) (ret_slot rfl f9 _ x10 _ _) sd.2 ⟨_, rfl, rfl, bl⟩
theorem in_other {leaf : List (BitVec 8)} (hlf : leaf.length = 32) {rt : List (BitVec 8)} (hrt : rt.length = 32) {i n : Nat} (hi : i < n) (hn : n ≤ 1152921504606846976) {P : List (List (BitVec 8))} {v : Value} {w : World} (hv : (Fk.hc P).f v w) (hP : P.length ≤ 100000) (hK : Tab w) (hPS : P.length = (sds i n).length) {y : List (BitVec 8)} (ey : Box (ldt leaf P (sds i n) = y)) (hyr : ¬ y = rt) :
    Calls Tryd.prog 17 #[.agg ((leaf).map V).toArray, .int .i64 (i : Int), .int .i64 (n : Int), v, .agg ((rt).map V).toArray] w fun e w' => ∃ u, e = .returned u ∧ (Fk.eq (.int .i64 22)).f u w' ∧ Below w.heap.size w w' := by
  have hvs := hc_hs hv
  have hy : y.length = 32 := by rw [← ey.out, ← lek_all leaf hPS]; exact lek_len hlf hPS _ (Nat.le_refl _)
  go_enter Tryd.func17, Tryd.ntmps17
  refine code_both (fun f w1 => f.tmps.size = 27 ∧ f.defers = [] ∧ f.eval (.tmp 0) = .agg ((leaf).map V).toArray ∧ f.eval (.tmp 1) = .int .i64 (i : Int) ∧ f.eval (.tmp 2) = .int .i64 (n : Int) ∧ f.eval (.tmp 3) = v ∧ f.eval (.tmp 4) = .agg ((rt).map V).toArray ∧ Below w.heap.size w (w1)) ⟨rfl, rfl, rfl, rfl, rfl, rfl, rfl, Below.refl _ _⟩ ?_
  rintro f0 w0 ⟨sz, df, x0, x1, x2, x3, x4, bl⟩
  have sd := And.intro sz df
  clear sz df
  have bl0 := bl
  refine wp_seq ?_
  refine wr_s [] (by rw [sd.1]; kernel_rfl) trivial ?_
  intro f1 w1 A hb
  replace x0 := A.t x0 rfl
  replace x1 := A.t x1 rfl
  replace x2 := A.t x2 rfl
  replace x3 := A.t x3 rfl
  replace x4 := A.t x4 rfl
  replace bl := bgo bl hb
  replace sd := A.sd sd
  clear A hb
  refine wl_one (.nw w1.heap.size 33 ((leaf).map V)) rfl 5 rfl (by rw [sd.1]; decide) (st_box 33 (.tmp 0) rfl _ _ (by rw [show _ = _ from x0]; kernel_rfl) (Nat.le_refl _)) ?_
  intro f2 w2 df2 sz2 old2 new2 hb
  replace bl0 := bl
  replace x0 := tr old2 x0 rfl
  replace x1 := tr old2 x1 rfl
  replace x2 := tr old2 x2 rfl
  replace x3 := tr old2 x3 rfl
  replace x4 := tr old2 x4 rfl
  have x5 : Fk.f (.nw w1.heap.size 33 ((leaf).map V)) (f2.eval (.tmp 5)) w2 := new2
  replace bl := bgo bl hb
  replace sd := sd2 sz2 df2 sd
  clear df2 sz2 old2 new2 hb
  obtain ⟨g5, hg5, e5, m5⟩ := x5
  have x5 := e5
  clear e5
  have hw5 : w.heap.size ≤ g5 := Nat.le_trans bl0.size hg5
  clear x0
  refine wl_one (.nw w2.heap.size 33 ((rt).map V)) rfl 9 rfl (by rw [sd.1]; decide) (st_box 33 (.tmp 4) rfl _ _ (by rw [show _ = _ from x4]; kernel_rfl) (Nat.le_refl _)) ?_
  intro f3 w3 df2 sz2 old2 new2 hb
  replace bl0 := bl
  replace x1 := tr old2 x1 rfl
  replace x2 := tr old2 x2 rfl
  replace x3 := tr old2 x3 rfl
  replace x4 := tr old2 x4 rfl
  replace x5 := tr old2 x5 rfl
  have x9 : Fk.f (.nw w2.heap.size 33 ((rt).map V)) (f3.eval (.tmp 9)) w3 := new2
  have lt_m5 := Ob.lt m5
  replace m5 := Ob.below m5 hb
  replace bl := bgo bl hb
  replace sd := sd2 sz2 df2 sd
  clear df2 sz2 old2 new2 hb
  obtain ⟨g9, hg9, e9, m9⟩ := x9
  have x9 := e9
  clear e9
  have nm5_9 : g5 ≠ g9 := Nat.ne_of_lt (Nat.lt_of_lt_of_le lt_m5 hg9)
  have hw9 : w.heap.size ≤ g9 := Nat.le_trans bl0.size hg9
  clear x4
  refine wl_one (.eq (.int .i64 0)) rfl 10 rfl (by rw [sd.1]; decide) (st_assign (.const (.int .i64 0)) rfl rfl) ?_
  intro f4 w4 df2 sz2 old2 new2 hb
  replace x1 := tr old2 x1 rfl
  replace x2 := tr old2 x2 rfl
  replace x3 := tr old2 x3 rfl
  replace x5 := tr old2 x5 rfl
  replace x9 := tr old2 x9 rfl
  have x10 := Fk.e new2
  replace m5 := Ob.below m5 hb
  replace m9 := Ob.below m9 hb
  replace bl := bgo bl hb
  replace sd := sd2 sz2 df2 sd
  clear df2 sz2 old2 new2 hb
  refine wpList_nil ?_
  clear x10
  show Code.wp _ _ _ _ _
  refine wp_seq ?_
  refine wr_s [.eq (.agg ((leaf).map V).toArray), .eq (.int .i64 (i : Int)), .eq (.int .i64 (n : Int)), .eq (v), .eq (.tuple #[.agg ((y).map V).toArray, .int .i64 0]), .eq (.tuple #[.agg ((y).map V).toArray, .int .i64 0]), .eq (.agg ((y).map V).toArray), .eq (.int .i64 0), .nw w4.heap.size 33 ((hz).map V)] (by rw [sd.1]; kernel_rfl) ⟨fun hw ac u K => ?_, fun hw ac u K => ?_, fun hw ac u K => ?_, fun hw ac u K => ?_, fun hw ac u K => ?_, fun hw ac u K => ?_, fun hw ac u K => ?_, fun hw ac u K => ?_, fun hw ac u K => ?_, trivial⟩ ?_
  · exact st_load33 (.tmp 5) rfl (g5) (leaf) (K.t x5 rfl) hlf (Ob.below m5 K.grow)
  · exact st_move (.tmp 1) rfl (K.t x1 rfl)
  · exact st_move (.tmp 2) rfl (K.t x2 rfl)
  · exact st_move (.tmp 3) rfl (K.t x3 rfl)
  · exact st_call 33 (.func 33) _ _ _ rfl rfl (arg4 (K.dep 0 14 rfl) (K.dep 1 15 rfl) (K.dep 2 16 rfl) (K.dep 3 17 rfl)) Tryd.enter33 (lead_ok hlf hi hn (Fk.mono _ _ _ _ hv (bgo bl K.grow)) hP (hK.below (bgo bl K.grow)) hPS ey)
  · exact st_move (.tmp 18) rfl (K.dep 4 18 rfl)
  · exact st_ext0 (.tmp 13) rfl (K.dep 5 13 rfl) rfl
  · exact st_ext1 (.tmp 13) rfl (K.dep 5 13 rfl) rfl
  · exact st_alloc33 rfl _ K.grow.size
  intro f5 w5 A hb
  replace bl0 := bl
  replace x1 := A.t x1 rfl
  replace x2 := A.t x2 rfl
  replace x3 := A.t x3 rfl
  replace x5 := A.t x5 rfl
  replace x9 := A.t x9 rfl
  have x11 : Fk.f (.nw w4.heap.size 33 ((hz).map V)) (f5.eval (.tmp 11)) w5 := A.has 8 11 rfl
  have x19 := A.e 6 19 rfl rfl
  have x20 := A.e 7 20 rfl rfl
  have lt_m5 := Ob.lt m5
  replace m5 := Ob.below m5 hb
  have lt_m9 := Ob.lt m9
  replace m9 := Ob.below m9 hb
  replace bl := bgo bl hb
  replace sd := A.sd sd
  clear A hb
  clear x1
  clear x2
  clear x3
  clear x5
  obtain ⟨g11, hg11, e11, m11⟩ := x11
  have x11 := e11
  clear e11
  have nm5_11 : g5 ≠ g11 := Nat.ne_of_lt (Nat.lt_of_lt_of_le lt_m5 hg11)
  have nm9_11 : g9 ≠ g11 := Nat.ne_of_lt (Nat.lt_of_lt_of_le lt_m9 hg11)
  have hw11 : w.heap.size ≤ g11 := Nat.le_trans bl0.size hg11
  refine wl_store rfl (.tmp 11) (.tmp 19) rfl rfl (g11) (y) (hz) x11 x19 m11 hz_len hy ?_
  replace m5 : Ob (w5.setRow g11 ((y).map V : List Value).toArray) (g5) 33 ((leaf).map V) := Ob.setRow_other m5 _ nm5_11
  replace m9 : Ob (w5.setRow g11 ((y).map V : List Value).toArray) (g9) 33 ((rt).map V) := Ob.setRow_other m9 _ nm9_11
  replace m11 : Ob (w5.setRow g11 ((y).map V : List Value).toArray) (g11) 33 ((y).map V) := Ob.setRow m11 ((y).map V)
  replace bl : Below w.heap.size w (w5.setRow g11 ((y).map V : List Value).toArray) := bl.trans (below_setRow _ _ _ _ hw11)
  generalize w5.setRow g11 ((y).map V : List Value).toArray = w6b at bl m5 m9 m11 ⊢
  clear x19
  refine wl_one (.eq (.int .i64 0)) rfl 12 rfl (by rw [sd.1]; decide) (st_assign (.tmp 20) rfl x20) ?_
  intro f7 w7 df2 sz2 old2 new2 hb
  replace x9 := tr old2 x9 rfl
  replace x11 := tr old2 x11 rfl
  replace x20 := tr old2 x20 rfl
  have x12 := Fk.e new2
  replace m5 := Ob.below m5 hb
  replace m9 := Ob.below m9 hb
  replace m11 := Ob.below m11 hb
  replace bl := bgo bl hb
  replace sd := sd2 sz2 df2 sd
  clear df2 sz2 old2 new2 hb
  refine wpList_nil ?_
  clear x20
  clear m5
  show Code.wp _ _ _ _ _
  refine wp_seq ?_
  refine wp_seq ?_
  refine wr_a [.eq (.int .i64 0), .eq (.bool false)] (by rw [sd.1]; kernel_rfl) ⟨fun hw ac u K => ?_, fun hw ac u K => ?_, trivial⟩ ?_
  · exact st_move (.tmp 12) rfl (K.t x12 rfl)
  · exact st_neqi 40 (.tmp 21) (.const (.int .i64 0)) rfl .i64 (0) (0) (K.dep 0 21 rfl) rfl _ (by rfl)
  intro f8 w8 A hb
  replace x9 := A.t x9 rfl
  replace x11 := A.t x11 rfl
  replace x12 := A.t x12 rfl
  have x22 := A.e 1 22 rfl rfl
  replace m9 := Ob.below m9 hb
  replace m11 := Ob.below m11 hb
  replace bl := bgo bl hb
  replace sd := A.sd sd
  clear A hb
  show Code.wp _ _ _ _ _
  refine wp_cond_false x22 ?_
  refine wp_skip ?_
  show Code.wp _ _ _ _ _
  refine wp_seq ?_
  refine wp_seq ?_
  refine wr_a [.eq (.agg ((y).map V).toArray), .eq (.agg ((rt).map V).toArray), .eq (.bool true)] (by rw [sd.1]; kernel_rfl) ⟨fun hw ac u K => ?_, fun hw ac u K => ?_, fun hw ac u K => ?_, trivial⟩ ?_
  · exact st_load33 (.tmp 11) rfl (g11) (y) (K.t x11 rfl) hy (Ob.below m11 K.grow)
  · exact st_load33 (.tmp 9) rfl (g9) (rt) (K.t x9 rfl) hrt (Ob.below m9 K.grow)
  · exact st_neqh (.tmp 24) (.tmp 25) rfl (y) (rt) hy hrt (K.dep 0 24 rfl) (K.dep 1 25 rfl) _ (by simp [hyr])
  intro f9 w9 A hb
  replace x9 := A.t x9 rfl
  replace x11 := A.t x11 rfl
  replace x12 := A.t x12 rfl
  replace x22 := A.t x22 rfl
  have x26 := A.e 2 26 rfl rfl
  replace m9 := Ob.below m9 hb
  replace m11 := Ob.below m11 hb
  replace bl := bgo bl hb
  replace sd := A.sd sd
  clear A hb
  clear x9
  clear x11
  clear x12
  clear x22
  clear m9 m11
  show Code.wp _ _ _ _ _
  refine wp_cond_true x26 ?_
  refine wp_seq ?_
  refine wr_a [.eq (.int .i64 22)] (by rw [sd.1]; kernel_rfl) ⟨fun hw ac u K => ?_, trivial⟩ ?_
  · exact st_assign (.const (.int .i64 22)) rfl rfl
  intro f10 w10 A hb
  replace x26 := A.t x26 rfl
  have x10 := A.e 0 10 rfl rfl
  replace bl := bgo bl hb
  replace sd := A.sd sd
  clear A hb
  clear x26
  show Code.wp _ _ _ _ _
  refine wp_ret ?_
  repeat (first | with_reducible refine then_ret ?_ | with_reducible refine block_ret ?_)
  exact bodyPost_ret (v := .int .i64 22) (ret_slot rfl f10 _ x10 _ _) sd.2 ⟨_, rfl, rfl, bl⟩
theorem in_ok {leaf : List (BitVec 8)} (hlf : leaf.length = 32) {rt : List (BitVec 8)} (hrt : rt.length = 32) {i n : Nat} (hi : i < n) (hn : n ≤ 1152921504606846976) {P : List (List (BitVec 8))} {v : Value} {w : World} (hv : (Fk.hc P).f v w) (hP : P.length ≤ 100000) (hK : Tab w) (hPS : P.length = (sds i n).length) {y : List (BitVec 8)} (ey : Box (ldt leaf P (sds i n) = y)) (hyr : y = rt) :
    Calls Tryd.prog 17 #[.agg ((leaf).map V).toArray, .int .i64 (i : Int), .int .i64 (n : Int), v, .agg ((rt).map V).toArray] w fun e w' => ∃ u, e = .returned u ∧ (Fk.eq (.int .i64 0)).f u w' ∧ Below w.heap.size w w' := by
  have hvs := hc_hs hv
  have hy : y.length = 32 := by rw [← ey.out, ← lek_all leaf hPS]; exact lek_len hlf hPS _ (Nat.le_refl _)
  go_enter Tryd.func17, Tryd.ntmps17
  refine code_both (fun f w1 => f.tmps.size = 27 ∧ f.defers = [] ∧ f.eval (.tmp 0) = .agg ((leaf).map V).toArray ∧ f.eval (.tmp 1) = .int .i64 (i : Int) ∧ f.eval (.tmp 2) = .int .i64 (n : Int) ∧ f.eval (.tmp 3) = v ∧ f.eval (.tmp 4) = .agg ((rt).map V).toArray ∧ Below w.heap.size w (w1)) ⟨rfl, rfl, rfl, rfl, rfl, rfl, rfl, Below.refl _ _⟩ ?_
  rintro f0 w0 ⟨sz, df, x0, x1, x2, x3, x4, bl⟩
  have sd := And.intro sz df
  clear sz df
  have bl0 := bl
  refine wp_seq ?_
  refine wr_s [] (by rw [sd.1]; kernel_rfl) trivial ?_
  intro f1 w1 A hb
  replace x0 := A.t x0 rfl
  replace x1 := A.t x1 rfl
  replace x2 := A.t x2 rfl
  replace x3 := A.t x3 rfl
  replace x4 := A.t x4 rfl
  replace bl := bgo bl hb
  replace sd := A.sd sd
  clear A hb
  refine wl_one (.nw w1.heap.size 33 ((leaf).map V)) rfl 5 rfl (by rw [sd.1]; decide) (st_box 33 (.tmp 0) rfl _ _ (by rw [show _ = _ from x0]; kernel_rfl) (Nat.le_refl _)) ?_
  intro f2 w2 df2 sz2 old2 new2 hb
  replace bl0 := bl
  replace x0 := tr old2 x0 rfl
  replace x1 := tr old2 x1 rfl
  replace x2 := tr old2 x2 rfl
  replace x3 := tr old2 x3 rfl
  replace x4 := tr old2 x4 rfl
  have x5 : Fk.f (.nw w1.heap.size 33 ((leaf).map V)) (f2.eval (.tmp 5)) w2 := new2
  replace bl := bgo bl hb
  replace sd := sd2 sz2 df2 sd
  clear df2 sz2 old2 new2 hb
  obtain ⟨g5, hg5, e5, m5⟩ := x5
  have x5 := e5
  clear e5
  have hw5 : w.heap.size ≤ g5 := Nat.le_trans bl0.size hg5
  clear x0
  refine wl_one (.nw w2.heap.size 33 ((rt).map V)) rfl 9 rfl (by rw [sd.1]; decide) (st_box 33 (.tmp 4) rfl _ _ (by rw [show _ = _ from x4]; kernel_rfl) (Nat.le_refl _)) ?_
  intro f3 w3 df2 sz2 old2 new2 hb
  replace bl0 := bl
  replace x1 := tr old2 x1 rfl
  replace x2 := tr old2 x2 rfl
  replace x3 := tr old2 x3 rfl
  replace x4 := tr old2 x4 rfl
  replace x5 := tr old2 x5 rfl
  have x9 : Fk.f (.nw w2.heap.size 33 ((rt).map V)) (f3.eval (.tmp 9)) w3 := new2
  have lt_m5 := Ob.lt m5
  replace m5 := Ob.below m5 hb
  replace bl := bgo bl hb
  replace sd := sd2 sz2 df2 sd
  clear df2 sz2 old2 new2 hb
  obtain ⟨g9, hg9, e9, m9⟩ := x9
  have x9 := e9
  clear e9
  have nm5_9 : g5 ≠ g9 := Nat.ne_of_lt (Nat.lt_of_lt_of_le lt_m5 hg9)
  have hw9 : w.heap.size ≤ g9 := Nat.le_trans bl0.size hg9
  clear x4
  refine wl_one (.eq (.int .i64 0)) rfl 10 rfl (by rw [sd.1]; decide) (st_assign (.const (.int .i64 0)) rfl rfl) ?_
  intro f4 w4 df2 sz2 old2 new2 hb
  replace x1 := tr old2 x1 rfl
  replace x2 := tr old2 x2 rfl
  replace x3 := tr old2 x3 rfl
  replace x5 := tr old2 x5 rfl
  replace x9 := tr old2 x9 rfl
  have x10 := Fk.e new2
  replace m5 := Ob.below m5 hb
  replace m9 := Ob.below m9 hb
  replace bl := bgo bl hb
  replace sd := sd2 sz2 df2 sd
  clear df2 sz2 old2 new2 hb
  refine wpList_nil ?_
  clear x10
  show Code.wp _ _ _ _ _
  refine wp_seq ?_
  refine wr_s [.eq (.agg ((leaf).map V).toArray), .eq (.int .i64 (i : Int)), .eq (.int .i64 (n : Int)), .eq (v), .eq (.tuple #[.agg ((y).map V).toArray, .int .i64 0]), .eq (.tuple #[.agg ((y).map V).toArray, .int .i64 0]), .eq (.agg ((y).map V).toArray), .eq (.int .i64 0), .nw w4.heap.size 33 ((hz).map V)] (by rw [sd.1]; kernel_rfl) ⟨fun hw ac u K => ?_, fun hw ac u K => ?_, fun hw ac u K => ?_, fun hw ac u K => ?_, fun hw ac u K => ?_, fun hw ac u K => ?_, fun hw ac u K => ?_, fun hw ac u K => ?_, fun hw ac u K => ?_, trivial⟩ ?_
  · exact st_load33 (.tmp 5) rfl (g5) (leaf) (K.t x5 rfl) hlf (Ob.below m5 K.grow)
  · exact st_move (.tmp 1) rfl (K.t x1 rfl)
  · exact st_move (.tmp 2) rfl (K.t x2 rfl)
  · exact st_move (.tmp 3) rfl (K.t x3 rfl)
  · exact st_call 33 (.func 33) _ _ _ rfl rfl (arg4 (K.dep 0 14 rfl) (K.dep 1 15 rfl) (K.dep 2 16 rfl) (K.dep 3 17 rfl)) Tryd.enter33 (lead_ok hlf hi hn (Fk.mono _ _ _ _ hv (bgo bl K.grow)) hP (hK.below (bgo bl K.grow)) hPS ey)
  · exact st_move (.tmp 18) rfl (K.dep 4 18 rfl)
  · exact st_ext0 (.tmp 13) rfl (K.dep 5 13 rfl) rfl
  · exact st_ext1 (.tmp 13) rfl (K.dep 5 13 rfl) rfl
  · exact st_alloc33 rfl _ K.grow.size
  intro f5 w5 A hb
  replace bl0 := bl
  replace x1 := A.t x1 rfl
  replace x2 := A.t x2 rfl
  replace x3 := A.t x3 rfl
  replace x5 := A.t x5 rfl
  replace x9 := A.t x9 rfl
  have x11 : Fk.f (.nw w4.heap.size 33 ((hz).map V)) (f5.eval (.tmp 11)) w5 := A.has 8 11 rfl
  have x19 := A.e 6 19 rfl rfl
  have x20 := A.e 7 20 rfl rfl
  have lt_m5 := Ob.lt m5
  replace m5 := Ob.below m5 hb
  have lt_m9 := Ob.lt m9
  replace m9 := Ob.below m9 hb
  replace bl := bgo bl hb
  replace sd := A.sd sd
  clear A hb
  clear x1
  clear x2
  clear x3
  clear x5
  obtain ⟨g11, hg11, e11, m11⟩ := x11
  have x11 := e11
  clear e11
  have nm5_11 : g5 ≠ g11 := Nat.ne_of_lt (Nat.lt_of_lt_of_le lt_m5 hg11)
  have nm9_11 : g9 ≠ g11 := Nat.ne_of_lt (Nat.lt_of_lt_of_le lt_m9 hg11)
  have hw11 : w.heap.size ≤ g11 := Nat.le_trans bl0.size hg11
  refine wl_store rfl (.tmp 11) (.tmp 19) rfl rfl (g11) (y) (hz) x11 x19 m11 hz_len hy ?_
  replace m5 : Ob (w5.setRow g11 ((y).map V : List Value).toArray) (g5) 33 ((leaf).map V) := Ob.setRow_other m5 _ nm5_11
  replace m9 : Ob (w5.setRow g11 ((y).map V : List Value).toArray) (g9) 33 ((rt).map V) := Ob.setRow_other m9 _ nm9_11
  replace m11 : Ob (w5.setRow g11 ((y).map V : List Value).toArray) (g11) 33 ((y).map V) := Ob.setRow m11 ((y).map V)
  replace bl : Below w.heap.size w (w5.setRow g11 ((y).map V : List Value).toArray) := bl.trans (below_setRow _ _ _ _ hw11)
  generalize w5.setRow g11 ((y).map V : List Value).toArray = w6b at bl m5 m9 m11 ⊢
  clear x19
  refine wl_one (.eq (.int .i64 0)) rfl 12 rfl (by rw [sd.1]; decide) (st_assign (.tmp 20) rfl x20) ?_
  intro f7 w7 df2 sz2 old2 new2 hb
  replace x9 := tr old2 x9 rfl
  replace x11 := tr old2 x11 rfl
  replace x20 := tr old2 x20 rfl
  have x12 := Fk.e new2
  replace m5 := Ob.below m5 hb
  replace m9 := Ob.below m9 hb
  replace m11 := Ob.below m11 hb
  replace bl := bgo bl hb
  replace sd := sd2 sz2 df2 sd
  clear df2 sz2 old2 new2 hb
  refine wpList_nil ?_
  clear x20
  clear m5
  show Code.wp _ _ _ _ _
  refine wp_seq ?_
  refine wp_seq ?_
  refine wr_a [.eq (.int .i64 0), .eq (.bool false)] (by rw [sd.1]; kernel_rfl) ⟨fun hw ac u K => ?_, fun hw ac u K => ?_, trivial⟩ ?_
  · exact st_move (.tmp 12) rfl (K.t x12 rfl)
  · exact st_neqi 40 (.tmp 21) (.const (.int .i64 0)) rfl .i64 (0) (0) (K.dep 0 21 rfl) rfl _ (by rfl)
  intro f8 w8 A hb
  replace x9 := A.t x9 rfl
  replace x11 := A.t x11 rfl
  replace x12 := A.t x12 rfl
  have x22 := A.e 1 22 rfl rfl
  replace m9 := Ob.below m9 hb
  replace m11 := Ob.below m11 hb
  replace bl := bgo bl hb
  replace sd := A.sd sd
  clear A hb
  show Code.wp _ _ _ _ _
  refine wp_cond_false x22 ?_
  refine wp_skip ?_
  show Code.wp _ _ _ _ _
  refine wp_seq ?_
  refine wp_seq ?_
  refine wr_a [.eq (.agg ((y).map V).toArray), .eq (.agg ((rt).map V).toArray), .eq (.bool false)] (by rw [sd.1]; kernel_rfl) ⟨fun hw ac u K => ?_, fun hw ac u K => ?_, fun hw ac u K => ?_, trivial⟩ ?_
  · exact st_load33 (.tmp 11) rfl (g11) (y) (K.t x11 rfl) hy (Ob.below m11 K.grow)
  · exact st_load33 (.tmp 9) rfl (g9) (rt) (K.t x9 rfl) hrt (Ob.below m9 K.grow)
  · exact st_neqh (.tmp 24) (.tmp 25) rfl (y) (rt) hy hrt (K.dep 0 24 rfl) (K.dep 1 25 rfl) _ (by simp [hyr])
  intro f9 w9 A hb
  replace x9 := A.t x9 rfl
  replace x11 := A.t x11 rfl
  replace x12 := A.t x12 rfl
  replace x22 := A.t x22 rfl
  have x26 := A.e 2 26 rfl rfl
  replace m9 := Ob.below m9 hb
  replace m11 := Ob.below m11 hb
  replace bl := bgo bl hb
  replace sd := A.sd sd
  clear A hb
  clear x9
  clear x11
  clear x12
  clear x22
  clear m9 m11
  show Code.wp _ _ _ _ _
  refine wp_cond_false x26 ?_
  refine wp_skip ?_
  show Code.wp _ _ _ _ _
  refine wp_seq ?_
  refine wr_a [.eq (.int .i64 0)] (by rw [sd.1]; kernel_rfl) ⟨fun hw ac u K => ?_, trivial⟩ ?_
  · exact st_assign (.const (.int .i64 0)) rfl rfl
  intro f10 w10 A hb
  replace x26 := A.t x26 rfl
  have x10 := A.e 0 10 rfl rfl
  replace bl := bgo bl hb
  replace sd := A.sd sd
  clear A hb
  clear x26
  show Code.wp _ _ _ _ _
  refine wp_ret ?_
  repeat (first | with_reducible refine then_ret ?_ | with_reducible refine block_ret ?_)
  exact bodyPost_ret (v := .int .i64 0) (ret_slot rfl f10 _ x10 _ _) sd.2 ⟨_, rfl, rfl, bl⟩
end Go.Proofs.YtfmeeimhfdnjpaaDoor
