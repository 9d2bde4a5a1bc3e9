/- root and path of the law. leaves of the law. Plain: a drawn region whose last store may come ahead of one operation that only takes a value out: both orders come to one end. -/
import Derived.Test.YtnanipeapjpkfaaDoorM10
import Derived.Test.YtnanipeapjpkfaaDoorM6
namespace Go.Proofs.YtnanipeapjpkfaaDoor
set_option maxRecDepth 100000
open Go.RowKit
theorem lroot_any {kind : Nat} {seed : List (BitVec 8)} : ∀ (h a : Nat) (w : World) (v : Value), h ≤ 3 → (Fk.hc (seg (lv seed kind) a h)).f v w → Tab w → ∀ {y : List (BitVec 8)}, Box (rt (lv seed kind) a h = y) →
    Calls Tryd.prog 12 #[v] w fun e w' => e = .returned (.agg ((y).map V).toArray) ∧ Below w.heap.size w w' := by
  intro h
  induction h with
  | zero =>
    intro a w v h3 hv hK y ey
    have hy : y.length = 32 := by rw [← ey.out]; exact rt_len _ _ _ _
    have h0 : (seg (lv seed kind) a 0)[0]? = some y := by rw [seg_at _ _ _ (by decide), ← ey.out]; rfl
    have hvs := hc_hs hv
    go_enter Tryd.func12, Tryd.ntmps12
    refine code_both (fun f w1 => f.tmps.size = 22 ∧ f.defers = [] ∧ f.eval (.tmp 0) = v ∧ Below w.heap.size w (w1)) ⟨rfl, rfl, rfl, Below.refl _ _⟩ ?_
    rintro f0 w0 ⟨sz, df, x0, bl⟩
    have bl0 := bl
    refine wp_seq ?_
    -- R0
    refine wp_all_seq [.nw w0.heap.size 23 ((hz).map V)] (by kernel_rfl) (by kernel_rfl) (by rw [sz]; kernel_rfl) (by kernel_rfl) ⟨fun hw ac u K => ?_, trivial⟩ ?_
    · exact st_alloc23 rfl _ K.grow.size
    intro f1 w1 A hb
    replace bl0 := bl
    replace x0 := (A.old 0 rfl).trans x0
    have x2 : Fk.f (.nw w0.heap.size 23 ((hz).map V)) (f1.eval (.tmp 2)) w1 := A.has 0 2 rfl
    replace bl := (bl.trans (Below.mono hb bl.size))
    replace sz := A.size.trans sz
    replace df := A.defs.trans df
    clear A hb
    obtain ⟨g2, hg2, e2, m2⟩ := x2
    have x2 := e2
    clear e2
    have hw2 : w.heap.size ≤ g2 := Nat.le_trans bl0.size hg2
    show Code.wp _ _ _ _ _
    refine wp_seq ?_
    refine wp_seq ?_
    -- R1
    refine wp_all_seq [.eq (v), .eq (.int .i64 ((1 : Nat) : Int)), .eq (.bool true)] (by kernel_rfl) (by kernel_rfl) (by rw [sz]; kernel_rfl) (by kernel_rfl) ⟨fun hw ac u K => ?_, fun hw ac u K => ?_, fun hw ac u K => ?_, trivial⟩ ?_
    · exact st_move (.tmp 0) rfl ((K.old 0 rfl).trans x0)
    · exact st_lenc (.tmp 3) rfl (1) (by rw [seg_len]) (fk_val (K.dep 0 3 rfl) (Fk.mono _ _ _ _ hv (bl.trans (Below.mono K.grow bl.size))))
    · exact st_eqi 3 (.tmp 4) (.const (.int .i64 1)) rfl .i64 (((1 : Nat) : Int)) (1) (K.dep 1 4 rfl) rfl _ (by simp)
    intro f2 w2 A hb
    replace bl0 := bl
    replace x0 := (A.old 0 rfl).trans x0
    replace x2 := (A.old 2 rfl).trans x2
    have x5 : f2.eval (.tmp 5) = .bool true := A.has 2 5 rfl
    have lt_m2 := Ob.lt m2
    replace m2 := Ob.below m2 hb
    replace bl := (bl.trans (Below.mono hb bl.size))
    replace sz := A.size.trans sz
    replace df := A.defs.trans df
    clear A hb
    show Code.wp _ _ _ _ _
    refine wp_cond_true x5 ?_
    refine wp_seq ?_
    -- R2
    refine wp_region_seq [.eq (v), .ph (y), .eq (.agg ((y).map V).toArray)] (by kernel_rfl) (by kernel_rfl) (by rw [sz]; kernel_rfl) (by kernel_rfl) ⟨fun hw ac u K => ?_, fun hw ac u K => ?_, fun hw ac u K => ?_, trivial⟩ ?_
    · exact st_move (.tmp 0) rfl ((K.old 0 rfl).trans x0)
    · exact st_idxh (.tmp 6) (.const (.int .i64 0)) rfl (fk_val (K.dep 0 6 rfl) (Fk.mono _ _ _ _ hvs (bl.trans (Below.mono K.grow bl.size)))) (0) (y) rfl h0
    · exact st_loadh (.tmp 7) rfl (K.dep 1 7 rfl)
    intro f3 w3 A hb
    replace bl0 := bl
    replace x0 := (A.old 0 rfl).trans x0
    replace x2 := (A.old 2 rfl).trans x2
    replace x5 := (A.old 5 rfl).trans x5
    have x8 : f3.eval (.tmp 8) = .agg ((y).map V).toArray := A.has 2 8 rfl
    have lt_m2 := Ob.lt m2
    replace m2 := Ob.below m2 hb
    replace bl := (bl.trans (Below.mono hb bl.size))
    replace sz := A.size.trans sz
    replace df := A.defs.trans df
    clear A hb
    refine wl_store rfl (.tmp 2) (.tmp 8) rfl rfl (g2) (y) (hz) x2 x8 m2 hz_len hy ?_
    replace m2 : Ob (w3.setRow g2 ((y).map V : List Value).toArray) (g2) 23 ((y).map V) := Ob.setRow m2 ((y).map V)
    replace bl : Below w.heap.size w (w3.setRow g2 ((y).map V : List Value).toArray) := bl.trans (below_setRow _ _ _ _ hw2)
    generalize w3.setRow g2 ((y).map V : List Value).toArray = w4b at bl m2 ⊢
    refine wpList_nil ?_
    clear x8
    show Code.wp _ _ _ _ _
    refine wp_ret ?_
    repeat (first | with_reducible refine then_ret ?_ | with_reducible refine block_ret ?_)
    exact bodyPost_ret (v := .agg ((y).map V).toArray) (ret_hash rfl f3 _ g2 (y) hy x2 m2) df ⟨rfl, bl⟩
  | succ h ih =>
    intro a w v h3 hv hK y ey
    have hy : y.length = 32 := by rw [← ey.out]; exact rt_len _ _ _ _
    obtain ⟨y1, ey1⟩ : ∃ p, Box (rt (lv seed kind) a h = p) := ⟨_, ⟨rfl⟩⟩
    obtain ⟨y2, ey2⟩ : ∃ p, Box (rt (lv seed kind) (a + 2 ^ h) h = p) := ⟨_, ⟨rfl⟩⟩
    have hy1 : y1.length = 32 := by rw [← ey1.out]; exact rt_len _ _ _ _
    have hy2 : y2.length = 32 := by rw [← ey2.out]; exact rt_len _ _ _ _
    have eyn : Box (nd y1 y2 = y) := ⟨by rw [← ey1.out, ← ey2.out]; exact ey.out⟩
    obtain ⟨m, hm⟩ : ∃ m, 2 ^ h = m := ⟨_, rfl⟩
    have hm1 : 1 ≤ m := by rw [← hm]; exact Nat.one_le_two_pow
    have hm8 : m ≤ 8 := by rw [← hm]; exact pow3 (by omega)
    have hvs := hc_hs hv
    go_enter Tryd.func12, Tryd.ntmps12
    refine code_both (fun f w1 => f.tmps.size = 22 ∧ f.defers = [] ∧ f.eval (.tmp 0) = v ∧ Below w.heap.size w (w1)) ⟨rfl, rfl, rfl, Below.refl _ _⟩ ?_
    rintro f0 w0 ⟨sz, df, x0, bl⟩
    have bl0 := bl
    refine wp_seq ?_
    -- R0
    refine wp_all_seq [.nw w0.heap.size 23 ((hz).map V)] (by kernel_rfl) (by kernel_rfl) (by rw [sz]; kernel_rfl) (by kernel_rfl) ⟨fun hw ac u K => ?_, trivial⟩ ?_
    · exact st_alloc23 rfl _ K.grow.size
    intro f1 w1 A hb
    replace bl0 := bl
    replace x0 := (A.old 0 rfl).trans x0
    have x2 : Fk.f (.nw w0.heap.size 23 ((hz).map V)) (f1.eval (.tmp 2)) w1 := A.has 0 2 rfl
    replace bl := (bl.trans (Below.mono hb bl.size))
    replace sz := A.size.trans sz
    replace df := A.defs.trans df
    clear A hb
    obtain ⟨g2, hg2, e2, m2⟩ := x2
    have x2 := e2
    clear e2
    have hw2 : w.heap.size ≤ g2 := Nat.le_trans bl0.size hg2
    show Code.wp _ _ _ _ _
    refine wp_seq ?_
    refine wp_seq ?_
    -- R1
    refine wp_all_seq [.eq (v), .eq (.int .i64 ((m + m : Nat) : Int)), .eq (.bool false)] (by kernel_rfl) (by kernel_rfl) (by rw [sz]; kernel_rfl) (by kernel_rfl) ⟨fun hw ac u K => ?_, fun hw ac u K => ?_, fun hw ac u K => ?_, trivial⟩ ?_
    · exact st_move (.tmp 0) rfl ((K.old 0 rfl).trans x0)
    · exact st_lenc (.tmp 3) rfl (m + m) (by rw [seg_len, Nat.pow_succ]; omega) (fk_val (K.dep 0 3 rfl) (Fk.mono _ _ _ _ hv (bl.trans (Below.mono K.grow bl.size))))
    · exact st_eqi 3 (.tmp 4) (.const (.int .i64 1)) rfl .i64 (((m + m : Nat) : Int)) (1) (K.dep 1 4 rfl) rfl _ (by rw [eq_comm, decide_eq_false_iff_not]; omega)
    intro f2 w2 A hb
    replace bl0 := bl
    replace x0 := (A.old 0 rfl).trans x0
    replace x2 := (A.old 2 rfl).trans x2
    have x5 : f2.eval (.tmp 5) = .bool false := A.has 2 5 rfl
    have lt_m2 := Ob.lt m2
    replace m2 := Ob.below m2 hb
    replace bl := (bl.trans (Below.mono hb bl.size))
    replace sz := A.size.trans sz
    replace df := A.defs.trans df
    clear A hb
    show Code.wp _ _ _ _ _
    refine wp_cond_false x5 ?_
    refine wp_skip ?_
    show Code.wp _ _ _ _ _
    refine wp_seq ?_
    -- R3
    refine wp_region_tail [.eq (v), .eq (v), .eq (.int .i64 ((m + m : Nat) : Int)), .eq (.int .i64 ((m : Nat) : Int)), .hc (seg (lv seed kind) a h), .eq (.agg ((y1).map V).toArray), .eq (v), .eq (v), .eq (.int .i64 ((m + m : Nat) : Int)), .eq (.int .i64 ((m : Nat) : Int)), .hc (seg (lv seed kind) (a + 2 ^ h) h), .eq (.agg ((y2).map V).toArray), .eq (.agg ((y).map V).toArray)] [13] Tryd.mixed (by kernel_rfl) (by kernel_rfl) (by kernel_rfl) (by kernel_rfl) (by rw [sz]; kernel_rfl) (by kernel_rfl) ⟨fun hw ac u K => ?_, fun hw ac u K => ?_, fun hw ac u K => ?_, fun hw ac u K => ?_, fun hw ac u K => ?_, fun hw ac u K => ?_, fun hw ac u K => ?_, fun hw ac u K => ?_, fun hw ac u K => ?_, fun hw ac u K => ?_, fun hw ac u K => ?_, fun hw ac u K => ?_, fun hw ac u K => ?_, trivial⟩ ?_
    · exact st_move (.tmp 0) rfl ((K.old 0 rfl).trans x0)
    · exact st_move (.tmp 0) rfl ((K.old 0 rfl).trans x0)
    · exact st_lenc (.tmp 10) rfl (m + m) (by rw [seg_len, Nat.pow_succ]; omega) (fk_val (K.dep 1 10 rfl) (Fk.mono _ _ _ _ hv (bl.trans (Below.mono K.grow bl.size))))
    · exact st_half (.tmp 11) (.const (.int .i64 2)) rfl (m + m) m (by omega) (by omega) (K.dep 2 11 rfl) rfl
    · exact st_cutl (.tmp 9) (.tmp 12) rfl (fk_val (K.dep 0 9 rfl) (Fk.mono _ _ _ _ hv (bl.trans (Below.mono K.grow bl.size)))) m hm (K.dep 3 12 rfl)
    · exact st_call 12 (.func 12) _ _ #[ac.eval (.tmp 13)] rfl rfl (one_arg rfl) Tryd.enter12 (fk_of (ih a _ _ (by omega) (K.dep 4 13 rfl) (hK.below (bl.trans (Below.mono K.grow bl.size))) ey1))
    · exact st_move (.tmp 0) rfl ((K.old 0 rfl).trans x0)
    · exact st_move (.tmp 0) rfl ((K.old 0 rfl).trans x0)
    · exact st_lenc (.tmp 16) rfl (m + m) (by rw [seg_len, Nat.pow_succ]; omega) (fk_val (K.dep 7 16 rfl) (Fk.mono _ _ _ _ hv (bl.trans (Below.mono K.grow bl.size))))
    · exact st_half (.tmp 17) (.const (.int .i64 2)) rfl (m + m) m (by omega) (by omega) (K.dep 8 17 rfl) rfl
    · exact st_cutr (.tmp 15) (.tmp 18) rfl (fk_val (K.dep 6 15 rfl) (Fk.mono _ _ _ _ hv (bl.trans (Below.mono K.grow bl.size)))) m hm (K.dep 9 18 rfl)
    · exact st_call 12 (.func 12) _ _ #[ac.eval (.tmp 19)] rfl rfl (one_arg rfl) Tryd.enter12 (fk_of (ih (a + 2 ^ h) _ _ (by omega) (K.dep 10 19 rfl) (hK.below (bl.trans (Below.mono K.grow bl.size))) ey2))
    · exact st_call 26 (.func 26) _ _ #[.agg ((y1).map V).toArray, .agg ((y2).map V).toArray] rfl rfl (arg2 (K.dep 5 14 rfl) (K.dep 11 20 rfl)) Tryd.enter26 (fk_node hy1 hy2 (hK.below (bl.trans (Below.mono K.grow bl.size))) eyn)
    intro f3 w3 A hb
    replace bl0 := bl
    replace x0 := (A.old 0 rfl).trans x0
    replace x2 := (A.old 2 rfl).trans x2
    replace x5 := (A.old 5 rfl).trans x5
    have x21 : f3.eval (.tmp 21) = .agg ((y).map V).toArray := A.has 12 21 rfl
    have lt_m2 := Ob.lt m2
    replace m2 := Ob.below m2 hb
    replace bl := (bl.trans (Below.mono hb bl.size))
    replace sz := A.size.trans sz
    replace df := A.defs.trans df
    clear A hb
    refine wl_store rfl (.tmp 2) (.tmp 21) rfl rfl (g2) (y) (hz) x2 x21 m2 hz_len hy ?_
    replace m2 : Ob (w3.setRow g2 ((y).map V : List Value).toArray) (g2) 23 ((y).map V) := Ob.setRow m2 ((y).map V)
    replace bl : Below w.heap.size w (w3.setRow g2 ((y).map V : List Value).toArray) := bl.trans (below_setRow _ _ _ _ hw2)
    generalize w3.setRow g2 ((y).map V : List Value).toArray = w4b at bl m2 ⊢
    refine wpList_nil ?_
    clear x21
    show Code.wp _ _ _ _ _
    refine wp_ret ?_
    repeat (first | with_reducible refine then_ret ?_ | with_reducible refine block_ret ?_)
    exact bodyPost_ret (v := .agg ((y).map V).toArray) (ret_hash rfl f3 _ g2 (y) hy x2 m2) df ⟨rfl, bl⟩
theorem lpath_any {kind : Nat} {seed : List (BitVec 8)} : ∀ (h a i : Nat) (w : World) (v : Value), h ≤ 3 → i < 2 ^ h → (Fk.hc (seg (lv seed kind) a h)).f v w → Tab w →
    Calls Tryd.prog 20 #[v, .int .i64 ((i : Nat) : Int)] w fun e w' => ∃ u, e = .returned u ∧ (Fk.ow w.heap.size (pz (lv seed kind) a i h)).f u w' ∧ Below w.heap.size w w' := by
  intro h
  induction h with
  | zero =>
    intro a i w v h3 h4 hv hK
    have hvs := hc_hs hv
    go_enter Tryd.func20, Tryd.ntmps20
    refine code_both (fun f w1 => f.tmps.size = 39 ∧ f.defers = [] ∧ f.eval (.tmp 0) = v ∧ f.eval (.tmp 1) = .int .i64 ((i : Nat) : Int) ∧ Below w.heap.size w (w1)) ⟨rfl, rfl, rfl, rfl, Below.refl _ _⟩ ?_
    rintro f0 w0 ⟨sz, df, x0, x1, bl⟩
    have bl0 := bl
    refine wp_seq ?_
    -- R0
    refine wp_all_seq [.eq (.slice none 0 0)] (by kernel_rfl) (by kernel_rfl) (by rw [sz]; kernel_rfl) (by kernel_rfl) ⟨fun hw ac u K => ?_, trivial⟩ ?_
    · exact st_assign (.const (.slice none 0 0)) rfl rfl
    intro f1 w1 A hb
    replace bl0 := bl
    replace x0 := (A.old 0 rfl).trans x0
    replace x1 := (A.old 1 rfl).trans x1
    have x4 : f1.eval (.tmp 4) = .slice none 0 0 := A.has 0 4 rfl
    replace bl := (bl.trans (Below.mono hb bl.size))
    replace sz := A.size.trans sz
    replace df := A.defs.trans df
    clear A hb
    show Code.wp _ _ _ _ _
    refine wp_seq ?_
    refine wp_seq ?_
    -- R1
    refine wp_all_seq [.eq (v), .eq (.int .i64 ((1 : Nat) : Int)), .eq (.bool true)] (by kernel_rfl) (by kernel_rfl) (by rw [sz]; kernel_rfl) (by kernel_rfl) ⟨fun hw ac u K => ?_, fun hw ac u K => ?_, fun hw ac u K => ?_, trivial⟩ ?_
    · exact st_move (.tmp 0) rfl ((K.old 0 rfl).trans x0)
    · exact st_lenc (.tmp 6) rfl (1) (by rw [seg_len]) (fk_val (K.dep 0 6 rfl) (Fk.mono _ _ _ _ hv (bl.trans (Below.mono K.grow bl.size))))
    · exact st_eqi 3 (.tmp 7) (.const (.int .i64 1)) rfl .i64 (((1 : Nat) : Int)) (1) (K.dep 1 7 rfl) rfl _ (by simp)
    intro f2 w2 A hb
    replace bl0 := bl
    replace x0 := (A.old 0 rfl).trans x0
    replace x1 := (A.old 1 rfl).trans x1
    replace x4 := (A.old 4 rfl).trans x4
    have x8 : f2.eval (.tmp 8) = .bool true := A.has 2 8 rfl
    replace bl := (bl.trans (Below.mono hb bl.size))
    replace sz := A.size.trans sz
    replace df := A.defs.trans df
    clear A hb
    show Code.wp _ _ _ _ _
    refine wp_cond_true x8 ?_
    refine wp_seq ?_
    -- R2
    refine wp_all_seq [.eq (.slice none 0 0)] (by kernel_rfl) (by kernel_rfl) (by rw [sz]; kernel_rfl) (by kernel_rfl) ⟨fun hw ac u K => ?_, trivial⟩ ?_
    · exact st_assign (.const (.slice none 0 0)) rfl rfl
    intro f3 w3 A hb
    replace bl0 := bl
    replace x0 := (A.old 0 rfl).trans x0
    replace x1 := (A.old 1 rfl).trans x1
    clear x4
    replace x8 := (A.old 8 rfl).trans x8
    have x4 : f3.eval (.tmp 4) = .slice none 0 0 := A.has 0 4 rfl
    replace bl := (bl.trans (Below.mono hb bl.size))
    replace sz := A.size.trans sz
    replace df := A.defs.trans df
    clear A hb
    show Code.wp _ _ _ _ _
    refine wp_ret ?_
    repeat (first | with_reducible refine then_ret ?_ | with_reducible refine block_ret ?_)
    exact bodyPost_ret (v := .slice none 0 0) (ret_slot rfl f3 _ x4 _ _) df ⟨_, rfl, ow_nil _ _, bl⟩
  | succ h ih =>
    intro a i w v h3 h4 hv hK
    obtain ⟨y1, ey1⟩ : ∃ p, Box (rt (lv seed kind) a h = p) := ⟨_, ⟨rfl⟩⟩
    obtain ⟨y2, ey2⟩ : ∃ p, Box (rt (lv seed kind) (a + 2 ^ h) h = p) := ⟨_, ⟨rfl⟩⟩
    have hy1 : y1.length = 32 := by rw [← ey1.out]; exact rt_len _ _ _ _
    have hy2 : y2.length = 32 := by rw [← ey2.out]; exact rt_len _ _ _ _
    obtain ⟨m, hm⟩ : ∃ m, 2 ^ h = m := ⟨_, rfl⟩
    have hm1 : 1 ≤ m := by rw [← hm]; exact Nat.one_le_two_pow
    have hm8 : m ≤ 8 := by rw [← hm]; exact pow3 (by omega)
    have hvs := hc_hs hv
    rw [Nat.pow_succ] at h4
    go_enter Tryd.func20, Tryd.ntmps20
    refine code_both (fun f w1 => f.tmps.size = 39 ∧ f.defers = [] ∧ f.eval (.tmp 0) = v ∧ f.eval (.tmp 1) = .int .i64 ((i : Nat) : Int) ∧ Below w.heap.size w (w1)) ⟨rfl, rfl, rfl, rfl, Below.refl _ _⟩ ?_
    rintro f0 w0 ⟨sz, df, x0, x1, bl⟩
    have bl0 := bl
    refine wp_seq ?_
    -- R0
    refine wp_all_seq [.eq (.slice none 0 0)] (by kernel_rfl) (by kernel_rfl) (by rw [sz]; kernel_rfl) (by kernel_rfl) ⟨fun hw ac u K => ?_, trivial⟩ ?_
    · exact st_assign (.const (.slice none 0 0)) rfl rfl
    intro f1 w1 A hb
    replace bl0 := bl
    replace x0 := (A.old 0 rfl).trans x0
    replace x1 := (A.old 1 rfl).trans x1
    have x4 : f1.eval (.tmp 4) = .slice none 0 0 := A.has 0 4 rfl
    replace bl := (bl.trans (Below.mono hb bl.size))
    replace sz := A.size.trans sz
    replace df := A.defs.trans df
    clear A hb
    show Code.wp _ _ _ _ _
    refine wp_seq ?_
    refine wp_seq ?_
    -- R1
    refine wp_all_seq [.eq (v), .eq (.int .i64 ((m + m : Nat) : Int)), .eq (.bool false)] (by kernel_rfl) (by kernel_rfl) (by rw [sz]; kernel_rfl) (by kernel_rfl) ⟨fun hw ac u K => ?_, fun hw ac u K => ?_, fun hw ac u K => ?_, trivial⟩ ?_
    · exact st_move (.tmp 0) rfl ((K.old 0 rfl).trans x0)
    · exact st_lenc (.tmp 6) rfl (m + m) (by rw [seg_len, Nat.pow_succ]; omega) (fk_val (K.dep 0 6 rfl) (Fk.mono _ _ _ _ hv (bl.trans (Below.mono K.grow bl.size))))
    · exact st_eqi 3 (.tmp 7) (.const (.int .i64 1)) rfl .i64 (((m + m : Nat) : Int)) (1) (K.dep 1 7 rfl) rfl _ (by rw [eq_comm, decide_eq_false_iff_not]; omega)
    intro f2 w2 A hb
    replace bl0 := bl
    replace x0 := (A.old 0 rfl).trans x0
    replace x1 := (A.old 1 rfl).trans x1
    replace x4 := (A.old 4 rfl).trans x4
    have x8 : f2.eval (.tmp 8) = .bool false := A.has 2 8 rfl
    replace bl := (bl.trans (Below.mono hb bl.size))
    replace sz := A.size.trans sz
    replace df := A.defs.trans df
    clear A hb
    show Code.wp _ _ _ _ _
    refine wp_cond_false x8 ?_
    refine wp_skip ?_
    show Code.wp _ _ _ _ _
    refine wp_seq ?_
    -- R3
    refine wp_all_seq [.eq (v), .eq (.int .i64 ((m + m : Nat) : Int)), .eq (.int .i64 ((m : Nat) : Int)), .eq (.int .i64 ((m : Nat) : Int))] (by kernel_rfl) (by kernel_rfl) (by rw [sz]; kernel_rfl) (by kernel_rfl) ⟨fun hw ac u K => ?_, fun hw ac u K => ?_, fun hw ac u K => ?_, fun hw ac u K => ?_, trivial⟩ ?_
    · exact st_move (.tmp 0) rfl ((K.old 0 rfl).trans x0)
    · exact st_lenc (.tmp 9) rfl (m + m) (by rw [seg_len, Nat.pow_succ]; omega) (fk_val (K.dep 0 9 rfl) (Fk.mono _ _ _ _ hv (bl.trans (Below.mono K.grow bl.size))))
    · exact st_half (.tmp 10) (.const (.int .i64 2)) rfl (m + m) m (by omega) (by omega) (K.dep 1 10 rfl) rfl
    · exact st_assign (.tmp 11) rfl (K.dep 2 11 rfl)
    intro f3 w3 A hb
    replace bl0 := bl
    replace x0 := (A.old 0 rfl).trans x0
    replace x1 := (A.old 1 rfl).trans x1
    replace x4 := (A.old 4 rfl).trans x4
    replace x8 := (A.old 8 rfl).trans x8
    have x5 : f3.eval (.tmp 5) = .int .i64 ((m : Nat) : Int) := A.has 3 5 rfl
    replace bl := (bl.trans (Below.mono hb bl.size))
    replace sz := A.size.trans sz
    replace df := A.defs.trans df
    clear A hb
    show Code.wp _ _ _ _ _
    refine wp_seq ?_
    refine wp_seq ?_
    by_cases hi : i < m
    rotate_left
    · skip
      -- R4
      refine wp_all_seq [.eq (.int .i64 ((i : Nat) : Int)), .eq (.int .i64 ((m : Nat) : Int)), .eq (.bool false)] (by kernel_rfl) (by kernel_rfl) (by rw [sz]; kernel_rfl) (by kernel_rfl) ⟨fun hw ac u K => ?_, fun hw ac u K => ?_, fun hw ac u K => ?_, trivial⟩ ?_
      · exact st_move (.tmp 1) rfl ((K.old 1 rfl).trans x1)
      · exact st_move (.tmp 5) rfl ((K.old 5 rfl).trans x5)
      · exact st_lss 3 (.tmp 12) (.tmp 13) rfl .i64 (((i : Nat) : Int)) (((m : Nat) : Int)) (K.dep 0 12 rfl) (K.dep 1 13 rfl) _ (by first | (simp; done) | (simp; omega))
      intro f4 w4 A hb
      replace bl0 := bl
      replace x0 := (A.old 0 rfl).trans x0
      replace x1 := (A.old 1 rfl).trans x1
      replace x4 := (A.old 4 rfl).trans x4
      replace x8 := (A.old 8 rfl).trans x8
      replace x5 := (A.old 5 rfl).trans x5
      have x14 : f4.eval (.tmp 14) = .bool false := A.has 2 14 rfl
      replace bl := (bl.trans (Below.mono hb bl.size))
      replace sz := A.size.trans sz
      replace df := A.defs.trans df
      clear A hb
      show Code.wp _ _ _ _ _
      refine wp_cond_false x14 ?_
      refine wp_skip ?_
      show Code.wp _ _ _ _ _
      refine wp_seq ?_
      -- R6
      refine wp_region_tail [.eq (v), .eq (.int .i64 ((m : Nat) : Int)), .hc (seg (lv seed kind) (a + 2 ^ h) h), .eq (.int .i64 ((i : Nat) : Int)), .eq (.int .i64 ((m : Nat) : Int)), .eq (.int .i64 ((i - m : Nat) : Int)), .ow w.heap.size (pz (lv seed kind) (a + 2 ^ h) (i - m) h), .eq (v), .eq (.int .i64 ((m : Nat) : Int)), .hc (seg (lv seed kind) a h), .eq (.agg ((y1).map V).toArray), .hs ([y1])] [12, 13] Tryd.mixed (by kernel_rfl) (by kernel_rfl) (by kernel_rfl) (by kernel_rfl) (by rw [sz]; kernel_rfl) (by kernel_rfl) ⟨fun hw ac u K => ?_, fun hw ac u K => ?_, fun hw ac u K => ?_, fun hw ac u K => ?_, fun hw ac u K => ?_, fun hw ac u K => ?_, fun hw ac u K => ?_, fun hw ac u K => ?_, fun hw ac u K => ?_, fun hw ac u K => ?_, fun hw ac u K => ?_, fun hw ac u K => ?_, trivial⟩ ?_
      · exact st_move (.tmp 0) rfl ((K.old 0 rfl).trans x0)
      · exact st_move (.tmp 5) rfl ((K.old 5 rfl).trans x5)
      · exact st_cutr (.tmp 26) (.tmp 27) rfl (fk_val (K.dep 0 26 rfl) (Fk.mono _ _ _ _ hv (bl.trans (Below.mono K.grow bl.size)))) m hm (K.dep 1 27 rfl)
      · exact st_move (.tmp 1) rfl ((K.old 1 rfl).trans x1)
      · exact st_move (.tmp 5) rfl ((K.old 5 rfl).trans x5)
      · exact st_sub (.tmp 29) (.tmp 30) rfl (i) (m) (i - m) (K.dep 3 29 rfl) (K.dep 4 30 rfl) (by omega) (by omega)
      · exact st_call 20 (.func 20) _ _ #[ac.eval (.tmp 28), .int .i64 ((i - m : Nat) : Int)] rfl rfl (arg2 rfl (K.dep 5 31 rfl)) Tryd.enter20 (fk_ow (bl.trans (Below.mono K.grow bl.size)).size (ih (a + 2 ^ h) (i - m) _ _ (by omega) (by omega) (K.dep 2 28 rfl) (hK.below (bl.trans (Below.mono K.grow bl.size)))))
      · exact st_move (.tmp 0) rfl ((K.old 0 rfl).trans x0)
      · exact st_move (.tmp 5) rfl ((K.old 5 rfl).trans x5)
      · exact st_cutl (.tmp 33) (.tmp 34) rfl (fk_val (K.dep 7 33 rfl) (Fk.mono _ _ _ _ hv (bl.trans (Below.mono K.grow bl.size)))) m hm (K.dep 8 34 rfl)
      · exact st_call 12 (.func 12) _ _ #[ac.eval (.tmp 35)] rfl rfl (one_arg rfl) Tryd.enter12 (fk_of (lroot_any h a _ _ (by omega) (K.dep 9 35 rfl) (hK.below (bl.trans (Below.mono K.grow bl.size))) ey1))
      · exact st_bh1 (.tmp 36) rfl hy1 (K.dep 10 36 rfl)
      intro f5 w5 A hb
      replace bl0 := bl
      replace x0 := (A.old 0 rfl).trans x0
      replace x1 := (A.old 1 rfl).trans x1
      replace x4 := (A.old 4 rfl).trans x4
      replace x8 := (A.old 8 rfl).trans x8
      replace x5 := (A.old 5 rfl).trans x5
      replace x14 := (A.old 14 rfl).trans x14
      have x32 : Fk.f (.ow w.heap.size (pz (lv seed kind) (a + 2 ^ h) (i - m) h)) (f5.eval (.tmp 32)) w5 := A.has 6 32 rfl
      have x37 : Fk.f (.hs ([y1])) (f5.eval (.tmp 37)) w5 := A.has 11 37 rfl
      replace bl := (bl.trans (Below.mono hb bl.size))
      replace sz := A.size.trans sz
      replace df := A.defs.trans df
      clear A hb
      refine wl_append rfl (.tmp 32) (.tmp 37) rfl 38 rfl (by rw [sz]; decide) x32 x37 bl (by rw [pz_len]; omega) ?_
      intro f6 w6 df2 sz2 old2 new2 bl2
      clear x32
      clear x37
      replace x0 := (old2 0 rfl).trans x0
      replace x1 := (old2 1 rfl).trans x1
      replace x4 := (old2 4 rfl).trans x4
      replace x8 := (old2 8 rfl).trans x8
      replace x5 := (old2 5 rfl).trans x5
      replace x14 := (old2 14 rfl).trans x14
      have x38 : Fk.f (.ow w.heap.size (pz (lv seed kind) (a + 2 ^ h) (i - m) h ++ [y1])) (f6.eval (.tmp 38)) w6 := new2
      replace bl := bl2
      replace bl0 := bl
      replace sz := sz2.trans sz
      replace df := df2.trans df
      clear df2 sz2 old2 new2 bl2
      refine wl_one (.ow w.heap.size (pz (lv seed kind) (a + 2 ^ h) (i - m) h ++ [y1])) rfl 4 rfl (by rw [sz]; decide) (st_assign (.tmp 38) rfl x38) ?_
      intro f7 w7 df2 sz2 old2 new2 hb
      replace bl0 := bl
      replace x0 := (old2 0 rfl).trans x0
      replace x1 := (old2 1 rfl).trans x1
      clear x4
      replace x8 := (old2 8 rfl).trans x8
      replace x5 := (old2 5 rfl).trans x5
      replace x14 := (old2 14 rfl).trans x14
      replace x38 := f_at (old2 38 rfl) (Fk.mono _ _ _ _ x38 hb)
      have x4 : Fk.f (.ow w.heap.size (pz (lv seed kind) (a + 2 ^ h) (i - m) h ++ [y1])) (f7.eval (.tmp 4)) w7 := new2
      replace bl := (bl.trans (Below.mono hb bl.size))
      replace sz := sz2.trans sz
      replace df := df2.trans df
      clear df2 sz2 old2 new2 hb
      refine wpList_nil ?_
      clear x38
      show Code.wp _ _ _ _ _
      refine wp_ret ?_
      repeat (first | with_reducible refine then_ret ?_ | with_reducible refine block_ret ?_)
      rw [← ey1.out, ← hm, ← pz_right _ (by omega)] at x4
      exact bodyPost_ret (v := f7.eval (.tmp 4)) (ret_slot rfl f7 _ rfl _ _) df ⟨_, rfl, x4, bl⟩
    -- R4
    refine wp_all_seq [.eq (.int .i64 ((i : Nat) : Int)), .eq (.int .i64 ((m : Nat) : Int)), .eq (.bool true)] (by kernel_rfl) (by kernel_rfl) (by rw [sz]; kernel_rfl) (by kernel_rfl) ⟨fun hw ac u K => ?_, fun hw ac u K => ?_, fun hw ac u K => ?_, trivial⟩ ?_
    · exact st_move (.tmp 1) rfl ((K.old 1 rfl).trans x1)
    · exact st_move (.tmp 5) rfl ((K.old 5 rfl).trans x5)
    · exact st_lss 3 (.tmp 12) (.tmp 13) rfl .i64 (((i : Nat) : Int)) (((m : Nat) : Int)) (K.dep 0 12 rfl) (K.dep 1 13 rfl) _ (by first | (simp; done) | (simp; omega))
    intro f4 w4 A hb
    replace bl0 := bl
    replace x0 := (A.old 0 rfl).trans x0
    replace x1 := (A.old 1 rfl).trans x1
    replace x4 := (A.old 4 rfl).trans x4
    replace x8 := (A.old 8 rfl).trans x8
    replace x5 := (A.old 5 rfl).trans x5
    have x14 : f4.eval (.tmp 14) = .bool true := A.has 2 14 rfl
    replace bl := (bl.trans (Below.mono hb bl.size))
    replace sz := A.size.trans sz
    replace df := A.defs.trans df
    clear A hb
    show Code.wp _ _ _ _ _
    refine wp_cond_true x14 ?_
    refine wp_seq ?_
    -- R5
    refine wp_region_tail [.eq (v), .eq (.int .i64 ((m : Nat) : Int)), .hc (seg (lv seed kind) a h), .eq (.int .i64 ((i : Nat) : Int)), .ow w.heap.size (pz (lv seed kind) a i h), .eq (v), .eq (.int .i64 ((m : Nat) : Int)), .hc (seg (lv seed kind) (a + 2 ^ h) h), .eq (.agg ((y2).map V).toArray), .hs ([y2])] [10, 11] Tryd.mixed (by kernel_rfl) (by kernel_rfl) (by kernel_rfl) (by kernel_rfl) (by rw [sz]; kernel_rfl) (by kernel_rfl) ⟨fun hw ac u K => ?_, fun hw ac u K => ?_, fun hw ac u K => ?_, fun hw ac u K => ?_, fun hw ac u K => ?_, fun hw ac u K => ?_, fun hw ac u K => ?_, fun hw ac u K => ?_, fun hw ac u K => ?_, fun hw ac u K => ?_, trivial⟩ ?_
    · exact st_move (.tmp 0) rfl ((K.old 0 rfl).trans x0)
    · exact st_move (.tmp 5) rfl ((K.old 5 rfl).trans x5)
    · exact st_cutl (.tmp 15) (.tmp 16) rfl (fk_val (K.dep 0 15 rfl) (Fk.mono _ _ _ _ hv (bl.trans (Below.mono K.grow bl.size)))) m hm (K.dep 1 16 rfl)
    · exact st_move (.tmp 1) rfl ((K.old 1 rfl).trans x1)
    · exact st_call 20 (.func 20) _ _ #[ac.eval (.tmp 17), .int .i64 ((i : Nat) : Int)] rfl rfl (arg2 rfl (K.dep 3 18 rfl)) Tryd.enter20 (fk_ow (bl.trans (Below.mono K.grow bl.size)).size (ih a i _ _ (by omega) (by omega) (K.dep 2 17 rfl) (hK.below (bl.trans (Below.mono K.grow bl.size)))))
    · exact st_move (.tmp 0) rfl ((K.old 0 rfl).trans x0)
    · exact st_move (.tmp 5) rfl ((K.old 5 rfl).trans x5)
    · exact st_cutr (.tmp 20) (.tmp 21) rfl (fk_val (K.dep 5 20 rfl) (Fk.mono _ _ _ _ hv (bl.trans (Below.mono K.grow bl.size)))) m hm (K.dep 6 21 rfl)
    · exact st_call 12 (.func 12) _ _ #[ac.eval (.tmp 22)] rfl rfl (one_arg rfl) Tryd.enter12 (fk_of (lroot_any h (a + 2 ^ h) _ _ (by omega) (K.dep 7 22 rfl) (hK.below (bl.trans (Below.mono K.grow bl.size))) ey2))
    · exact st_bh1 (.tmp 23) rfl hy2 (K.dep 8 23 rfl)
    intro f5 w5 A hb
    replace bl0 := bl
    replace x0 := (A.old 0 rfl).trans x0
    replace x1 := (A.old 1 rfl).trans x1
    replace x4 := (A.old 4 rfl).trans x4
    replace x8 := (A.old 8 rfl).trans x8
    replace x5 := (A.old 5 rfl).trans x5
    replace x14 := (A.old 14 rfl).trans x14
    have x19 : Fk.f (.ow w.heap.size (pz (lv seed kind) a i h)) (f5.eval (.tmp 19)) w5 := A.has 4 19 rfl
    have x24 : Fk.f (.hs ([y2])) (f5.eval (.tmp 24)) w5 := A.has 9 24 rfl
    replace bl := (bl.trans (Below.mono hb bl.size))
    replace sz := A.size.trans sz
    replace df := A.defs.trans df
    clear A hb
    refine wl_append rfl (.tmp 19) (.tmp 24) rfl 25 rfl (by rw [sz]; decide) x19 x24 bl (by rw [pz_len]; omega) ?_
    intro f6 w6 df2 sz2 old2 new2 bl2
    clear x19
    clear x24
    replace x0 := (old2 0 rfl).trans x0
    replace x1 := (old2 1 rfl).trans x1
    replace x4 := (old2 4 rfl).trans x4
    replace x8 := (old2 8 rfl).trans x8
    replace x5 := (old2 5 rfl).trans x5
    replace x14 := (old2 14 rfl).trans x14
    have x25 : Fk.f (.ow w.heap.size (pz (lv seed kind) a i h ++ [y2])) (f6.eval (.tmp 25)) w6 := new2
    replace bl := bl2
    replace bl0 := bl
    replace sz := sz2.trans sz
    replace df := df2.trans df
    clear df2 sz2 old2 new2 bl2
    refine wl_one (.ow w.heap.size (pz (lv seed kind) a i h ++ [y2])) rfl 4 rfl (by rw [sz]; decide) (st_assign (.tmp 25) rfl x25) ?_
    intro f7 w7 df2 sz2 old2 new2 hb
    replace bl0 := bl
    replace x0 := (old2 0 rfl).trans x0
    replace x1 := (old2 1 rfl).trans x1
    clear x4
    replace x8 := (old2 8 rfl).trans x8
    replace x5 := (old2 5 rfl).trans x5
    replace x14 := (old2 14 rfl).trans x14
    replace x25 := f_at (old2 25 rfl) (Fk.mono _ _ _ _ x25 hb)
    have x4 : Fk.f (.ow w.heap.size (pz (lv seed kind) a i h ++ [y2])) (f7.eval (.tmp 4)) w7 := new2
    replace bl := (bl.trans (Below.mono hb bl.size))
    replace sz := sz2.trans sz
    replace df := df2.trans df
    clear df2 sz2 old2 new2 hb
    refine wpList_nil ?_
    clear x25
    show Code.wp _ _ _ _ _
    refine wp_ret ?_
    repeat (first | with_reducible refine then_ret ?_ | with_reducible refine block_ret ?_)
    rw [← ey2.out, ← pz_left _ (by omega)] at x4
    exact bodyPost_ret (v := f7.eval (.tmp 4)) (ret_slot rfl f7 _ rfl _ _) df ⟨_, rfl, x4, bl⟩
end Go.Proofs.YtnanipeapjpkfaaDoor
namespace Go.Proofs.YtnanipeapjpkfaaDoor
set_option maxRecDepth 100000
open Go.RowKit
theorem leaves_any {seed : List (BitVec 8)} (hx : seed.length = 32) {kind height : Nat} (h1 : 1 ≤ kind) (h2 : kind ≤ 2) (h3 : height ≤ 3) (w : World) (hK : Tab w) :
    Calls Tryd.prog 10 #[.agg ((seed).map V).toArray, .int .i64 ((kind : Nat) : Int), .int .i64 ((height : Nat) : Int)] w fun e w' => ∃ u, e = .returned u ∧ (Fk.ow w.heap.size (seg (lv seed kind) 0 height)).f u w' ∧ Below w.heap.size w w' := by
  have hp8 := pow3 h3
  go_enter Tryd.func10, Tryd.ntmps10
  refine code_both (fun f w1 => f.tmps.size = 37 ∧ f.defers = [] ∧ f.eval (.tmp 0) = .agg ((seed).map V).toArray ∧ f.eval (.tmp 1) = .int .i64 ((kind : Nat) : Int) ∧ f.eval (.tmp 2) = .int .i64 ((height : Nat) : Int) ∧ Below w.heap.size w (w1)) ⟨rfl, rfl, rfl, rfl, rfl, Below.refl _ _⟩ ?_
  rintro f0 w0 ⟨sz, df, x0, x1, x2, bl⟩
  have bl0 := bl
  refine wp_seq ?_
  -- R0
  refine wp_all_seq [.nw w0.heap.size 23 ((seed).map V), .eq (.slice none 0 0)] (by kernel_rfl) (by kernel_rfl) (by rw [sz]; kernel_rfl) (by kernel_rfl) ⟨fun hw ac u K => ?_, fun hw ac u K => ?_, trivial⟩ ?_
  · exact st_box 23 (.tmp 0) rfl _ _ (by rw [show _ = _ from ((K.old 0 rfl).trans x0)]; kernel_rfl) K.grow.size
  · exact st_assign (.const (.slice none 0 0)) rfl rfl
  intro f1 w1 A hb
  replace bl0 := bl
  replace x0 := (A.old 0 rfl).trans x0
  replace x1 := (A.old 1 rfl).trans x1
  replace x2 := (A.old 2 rfl).trans x2
  have x3 : Fk.f (.nw w0.heap.size 23 ((seed).map V)) (f1.eval (.tmp 3)) w1 := A.has 0 3 rfl
  have x6 : f1.eval (.tmp 6) = .slice none 0 0 := A.has 1 6 rfl
  replace bl := (bl.trans (Below.mono hb bl.size))
  replace sz := A.size.trans sz
  replace df := A.defs.trans df
  clear A hb
  clear x0
  obtain ⟨g3, hg3, e3, m3⟩ := x3
  have x3 := e3
  clear e3
  have hw3 : w.heap.size ≤ g3 := Nat.le_trans bl0.size hg3
  show Code.wp _ _ _ _ _
  refine wp_seq ?_
  have blw := bl
  replace hK := hK.below bl
  replace bl := Below.refl w1.heap.size w1
  replace bl0 := bl
  have blw0 := blw
  clear blw
  -- R1
  refine wp_all_seq [.ow w1.heap.size ([])] (by kernel_rfl) (by kernel_rfl) (by rw [sz]; kernel_rfl) (by kernel_rfl) ⟨fun hw ac u K => ?_, trivial⟩ ?_
  · exact st_assign (.const (.slice none 0 0)) rfl (ow_nil _ _)
  intro f2 w2 A hb
  replace bl0 := bl
  replace x1 := (A.old 1 rfl).trans x1
  replace x2 := (A.old 2 rfl).trans x2
  replace x3 := (A.old 3 rfl).trans x3
  replace x6 := (A.old 6 rfl).trans x6
  have x7 : Fk.f (.ow w1.heap.size ([])) (f2.eval (.tmp 7)) w2 := A.has 0 7 rfl
  replace bl := (bl.trans (Below.mono hb bl.size))
  replace sz := A.size.trans sz
  replace df := A.defs.trans df
  clear A hb
  show Code.wp _ _ _ _ _
  refine wp_seq ?_
  refine wp_seq ?_
  -- R2
  refine wp_all_seq [.eq (.int .i64 ((height : Nat) : Int)), .eq (.int .i64 ((2 ^ height : Nat) : Int)), .eq (.int .i64 0)] (by kernel_rfl) (by kernel_rfl) (by rw [sz]; kernel_rfl) (by kernel_rfl) ⟨fun hw ac u K => ?_, fun hw ac u K => ?_, fun hw ac u K => ?_, trivial⟩ ?_
  · exact st_move (.tmp 2) rfl ((K.old 2 rfl).trans x2)
  · exact st_shl 3 3 (.const (.int .i64 1)) (.tmp 11) rfl (1) (height) rfl (K.dep 0 11 rfl) (2 ^ height) (by simp) (pow_le (by omega)) (by omega)
  · exact st_move (.const (.int .i64 0)) rfl rfl
  intro f3 w3 A hb
  replace bl0 := bl
  replace x1 := (A.old 1 rfl).trans x1
  replace x2 := (A.old 2 rfl).trans x2
  replace x3 := (A.old 3 rfl).trans x3
  replace x6 := (A.old 6 rfl).trans x6
  replace x7 := f_at (A.old 7 rfl) (Fk.mono _ _ _ _ x7 hb)
  have x12 : f3.eval (.tmp 12) = .int .i64 ((2 ^ height : Nat) : Int) := A.has 1 12 rfl
  have x13 : f3.eval (.tmp 13) = .int .i64 0 := A.has 2 13 rfl
  replace bl := (bl.trans (Below.mono hb bl.size))
  replace sz := A.size.trans sz
  replace df := A.defs.trans df
  clear A hb
  clear x2
  show Code.wp _ _ _ _ _
  refine wp_block ?_
  refine wp_loop (fun f v1 => ∃ k : Nat, k ≤ 2 ^ height ∧ f.tmps.size = 37 ∧ f.defers = [] ∧ f.eval (.tmp 1) = .int .i64 ((kind : Nat) : Int) ∧ f.eval (.tmp 3) = .pointer (some ⟨g3, 0, none⟩) ∧ f.eval (.tmp 6) = .slice none 0 0 ∧ f.eval (.tmp 12) = .int .i64 ((2 ^ height : Nat) : Int) ∧ f.eval (.tmp 13) = .int .i64 ((k : Nat) : Int) ∧ Fk.f (.ow w1.heap.size (firsts (lv seed kind) k)) (f.eval (.tmp 7)) v1 ∧ Below w1.heap.size w1 (v1)) (fun f _ => 2 ^ height - (intOf (f.eval (.tmp 13))).toNat) ⟨0, Nat.zero_le _, sz, df, x1, x3, x6, x12, x13, x7, bl⟩ ?_
  intro f4 w4 hI
  clear sz df bl bl0 x1 x3 x6 x7 x12 x13
  obtain ⟨k, hk, sz, df, x1, x3, x6, x12, x13, x7, bl⟩ := hI
  have bl0 := bl
  have hcnt := x13
  refine wp_seq ?_
  by_cases hlt : k < 2 ^ height
  rotate_left
  · skip
    -- R3
    refine wp_all_seq [.eq (.bool false)] (by kernel_rfl) (by kernel_rfl) (by rw [sz]; kernel_rfl) (by kernel_rfl) ⟨fun hw ac u K => ?_, trivial⟩ ?_
    · exact st_lss 3 (.tmp 13) (.tmp 12) rfl .i64 (((k : Nat) : Int)) (((2 ^ height : Nat) : Int)) ((K.old 13 rfl).trans x13) ((K.old 12 rfl).trans x12) _ (by rw [eq_comm, decide_eq_false_iff_not]; exact fun h => hlt (Int.ofNat_lt.1 h))
    intro f5 w5 A hb
    replace bl0 := bl
    replace x1 := (A.old 1 rfl).trans x1
    replace x3 := (A.old 3 rfl).trans x3
    replace x6 := (A.old 6 rfl).trans x6
    replace x7 := f_at (A.old 7 rfl) (Fk.mono _ _ _ _ x7 hb)
    replace x12 := (A.old 12 rfl).trans x12
    replace x13 := (A.old 13 rfl).trans x13
    have x14 : f5.eval (.tmp 14) = .bool false := A.has 0 14 rfl
    replace bl := (bl.trans (Below.mono hb bl.size))
    replace sz := A.size.trans sz
    replace df := A.defs.trans df
    clear A hb
    show Code.wp _ _ _ _ _
    refine wp_seq ?_
    refine wp_cond_false x14 ?_
    refine wp_exit ?_
    show Code.wp _ _ _ _ _
    refine wp_seq ?_
    -- R10
    refine wp_all_seq [.ow w1.heap.size (firsts (lv seed kind) k), .ow w1.heap.size (firsts (lv seed kind) k)] (by kernel_rfl) (by kernel_rfl) (by rw [sz]; kernel_rfl) (by kernel_rfl) ⟨fun hw ac u K => ?_, fun hw ac u K => ?_, trivial⟩ ?_
    · exact st_move (.tmp 7) rfl (f_at (K.old 7 rfl) (Fk.mono _ _ _ _ x7 K.grow))
    · exact st_assign (.tmp 36) rfl (K.dep 0 36 rfl)
    intro f6 w6 A hb
    replace bl0 := bl
    replace x1 := (A.old 1 rfl).trans x1
    replace x3 := (A.old 3 rfl).trans x3
    clear x6
    replace x7 := f_at (A.old 7 rfl) (Fk.mono _ _ _ _ x7 hb)
    replace x12 := (A.old 12 rfl).trans x12
    replace x13 := (A.old 13 rfl).trans x13
    replace x14 := (A.old 14 rfl).trans x14
    have x6 : Fk.f (.ow w1.heap.size (firsts (lv seed kind) k)) (f6.eval (.tmp 6)) w6 := A.has 1 6 rfl
    replace bl := (bl.trans (Below.mono hb bl.size))
    replace sz := A.size.trans sz
    replace df := A.defs.trans df
    clear A hb
    show Code.wp _ _ _ _ _
    refine wp_ret ?_
    repeat (first | with_reducible refine then_ret ?_ | with_reducible refine block_ret ?_)
    obtain rfl : k = 2 ^ height := by omega
    rw [seg_firsts] at x6
    exact bodyPost_ret (v := f6.eval (.tmp 6)) (ret_slot rfl f6 _ rfl _ _) df ⟨_, rfl, ow_le blw0.size x6, blw0.trans (Below.mono bl blw0.size)⟩
  -- R3
  refine wp_all_seq [.eq (.bool true)] (by kernel_rfl) (by kernel_rfl) (by rw [sz]; kernel_rfl) (by kernel_rfl) ⟨fun hw ac u K => ?_, trivial⟩ ?_
  · exact st_lss 3 (.tmp 13) (.tmp 12) rfl .i64 (((k : Nat) : Int)) (((2 ^ height : Nat) : Int)) ((K.old 13 rfl).trans x13) ((K.old 12 rfl).trans x12) _ (by rw [eq_comm, decide_eq_true_iff]; exact Int.ofNat_lt.2 hlt)
  intro f5 w5 A hb
  replace bl0 := bl
  replace x1 := (A.old 1 rfl).trans x1
  replace x3 := (A.old 3 rfl).trans x3
  replace x6 := (A.old 6 rfl).trans x6
  replace x7 := f_at (A.old 7 rfl) (Fk.mono _ _ _ _ x7 hb)
  replace x12 := (A.old 12 rfl).trans x12
  replace x13 := (A.old 13 rfl).trans x13
  have x14 : f5.eval (.tmp 14) = .bool true := A.has 0 14 rfl
  replace bl := (bl.trans (Below.mono hb bl.size))
  replace sz := A.size.trans sz
  replace df := A.defs.trans df
  clear A hb
  show Code.wp _ _ _ _ _
  refine wp_seq ?_
  refine wp_cond_true x14 ?_
  refine wp_skip ?_
  show Code.wp _ _ _ _ _
  refine wp_seq ?_
  refine wp_block ?_
  refine wp_seq ?_
  obtain ⟨v7, e7⟩ : ∃ v, f5.eval (.tmp 7) = v := ⟨_, rfl⟩
  have o7 := x7
  rw [e7] at o7
  replace x7 := e7
  clear e7
  have m3b := m3
  have hKb := hK
  have bl7 := bl
  have blw := bl
  replace m3 := Ob.below m3 bl
  replace hK := hK.below bl
  replace bl := Below.refl w5.heap.size w5
  replace bl0 := bl
  clear blw
  obtain ⟨p, ep⟩ : ∃ p, Box (pk seed kind k = p) := ⟨_, ⟨rfl⟩⟩
  have hp : p.length = 32 := by rw [← ep.out]; exact pk_len _ _ _
  obtain ⟨p0, ep0⟩ : ∃ p, Box (pk seed 1 k = p) := ⟨_, ⟨rfl⟩⟩
  have hp0 : p0.length = 32 := by rw [← ep0.out]; exact pk_len _ _ _
  replace ep0 := pk_one rfl ep0
  obtain ⟨y, ey0⟩ : ∃ p, Box (lv seed kind k = p) := ⟨_, ⟨rfl⟩⟩
  have hy : y.length = 32 := by rw [← ey0.out]; exact lv_len _ _ _
  have ey : Box (lf p = y) := ⟨by rw [← ep.out]; exact ey0.out⟩
  have hi : k ≤ 2147483647 := by have := pow3 h3; omega
  rcases (show kind = 1 ∨ kind = 2 by omega) with hkd | hkd
  rotate_left
  · skip
    have ep1 := pk_two hkd ep
    -- R4
    refine wp_all_seq [.eq (.int .i64 ((k : Nat) : Int)), .eq (.int .i64 ((k : Nat) : Int))] (by kernel_rfl) (by kernel_rfl) (by rw [sz]; kernel_rfl) (by kernel_rfl) ⟨fun hw ac u K => ?_, fun hw ac u K => ?_, trivial⟩ ?_
    · exact st_move (.tmp 13) rfl ((K.old 13 rfl).trans x13)
    · exact st_assign (.tmp 15) rfl (K.dep 0 15 rfl)
    intro f6 w6 A hb
    replace bl0 := bl
    replace x1 := (A.old 1 rfl).trans x1
    replace x3 := (A.old 3 rfl).trans x3
    replace x6 := (A.old 6 rfl).trans x6
    replace x7 := (A.old 7 rfl).trans x7
    replace x12 := (A.old 12 rfl).trans x12
    replace x13 := (A.old 13 rfl).trans x13
    replace x14 := (A.old 14 rfl).trans x14
    have x8 : f6.eval (.tmp 8) = .int .i64 ((k : Nat) : Int) := A.has 1 8 rfl
    replace bl := (bl.trans (Below.mono hb bl.size))
    replace sz := A.size.trans sz
    replace df := A.defs.trans df
    clear A hb
    show Code.wp _ _ _ _ _
    refine wp_seq ?_
    -- R5
    refine wp_region_seq [.eq (.agg ((seed).map V).toArray), .eq (.int .i64 ((k : Nat) : Int)), .eq (.tuple #[.agg ((p0).map V).toArray, .int .i64 0]), .eq (.tuple #[.agg ((p0).map V).toArray, .int .i64 0]), .eq (.agg ((p0).map V).toArray), .eq (.int .i64 0), .nw w6.heap.size 23 ((hz).map V)] (by kernel_rfl) (by kernel_rfl) (by rw [sz]; kernel_rfl) (by kernel_rfl) ⟨fun hw ac u K => ?_, fun hw ac u K => ?_, fun hw ac u K => ?_, fun hw ac u K => ?_, fun hw ac u K => ?_, fun hw ac u K => ?_, fun hw ac u K => ?_, trivial⟩ ?_
    · exact st_load23 (.tmp 3) rfl (g3) (seed) ((K.old 3 rfl).trans x3) hx (Ob.below m3 (bl.trans (Below.mono K.grow bl.size)))
    · exact st_move (.tmp 8) rfl ((K.old 8 rfl).trans x8)
    · exact st_call 36 (.func 36) _ _ #[.agg ((seed).map V).toArray, .int .i64 ((k : Nat) : Int)] rfl rfl (arg2 (K.dep 0 17 rfl) (K.dep 1 18 rfl)) Tryd.enter36 (fk_public_ok hx hi (hK.below (bl.trans (Below.mono K.grow bl.size))) ep0)
    · exact st_move (.tmp 19) rfl (K.dep 2 19 rfl)
    · exact st_ext0 (.tmp 16) rfl (K.dep 3 16 rfl) rfl
    · exact st_ext1 (.tmp 16) rfl (K.dep 3 16 rfl) rfl
    · exact st_alloc23 rfl _ K.grow.size
    intro f7 w7 A hb
    replace bl0 := bl
    replace x1 := (A.old 1 rfl).trans x1
    replace x3 := (A.old 3 rfl).trans x3
    replace x6 := (A.old 6 rfl).trans x6
    replace x7 := (A.old 7 rfl).trans x7
    replace x12 := (A.old 12 rfl).trans x12
    replace x13 := (A.old 13 rfl).trans x13
    replace x14 := (A.old 14 rfl).trans x14
    replace x8 := (A.old 8 rfl).trans x8
    have x9 : Fk.f (.nw w6.heap.size 23 ((hz).map V)) (f7.eval (.tmp 9)) w7 := A.has 6 9 rfl
    have x20 : f7.eval (.tmp 20) = .agg ((p0).map V).toArray := A.has 4 20 rfl
    have x21 : f7.eval (.tmp 21) = .int .i64 0 := A.has 5 21 rfl
    replace bl := (bl.trans (Below.mono hb bl.size))
    replace sz := A.size.trans sz
    replace df := A.defs.trans df
    clear A hb
    obtain ⟨g9, hg9, e9, m9⟩ := x9
    have x9 := e9
    clear e9
    have nm3_9 : g3 ≠ g9 := Nat.ne_of_lt (Nat.lt_of_lt_of_le (Ob.lt m3) (Nat.le_trans bl0.size hg9))
    have hw9 : w5.heap.size ≤ g9 := Nat.le_trans bl0.size hg9
    refine wl_store rfl (.tmp 9) (.tmp 20) rfl rfl (g9) (p0) (hz) x9 x20 m9 hz_len hp0 ?_
    replace m9 : Ob (w7.setRow g9 ((p0).map V : List Value).toArray) (g9) 23 ((p0).map V) := Ob.setRow m9 ((p0).map V)
    replace bl : Below w5.heap.size w5 (w7.setRow g9 ((p0).map V : List Value).toArray) := bl.trans (below_setRow _ _ _ _ hw9)
    generalize w7.setRow g9 ((p0).map V : List Value).toArray = w8b at bl m9 ⊢
    clear x20
    refine wl_one (.eq (.int .i64 0)) rfl 10 rfl (by rw [sz]; decide) (st_assign (.tmp 21) rfl x21) ?_
    intro f9 w9 df2 sz2 old2 new2 hb
    replace bl0 := bl
    replace x1 := (old2 1 rfl).trans x1
    replace x3 := (old2 3 rfl).trans x3
    replace x6 := (old2 6 rfl).trans x6
    replace x7 := (old2 7 rfl).trans x7
    replace x12 := (old2 12 rfl).trans x12
    replace x13 := (old2 13 rfl).trans x13
    replace x14 := (old2 14 rfl).trans x14
    replace x8 := (old2 8 rfl).trans x8
    replace x9 := (old2 9 rfl).trans x9
    replace x21 := (old2 21 rfl).trans x21
    have x10 : f9.eval (.tmp 10) = .int .i64 0 := new2
    have lt_m9 := Ob.lt m9
    replace m9 := Ob.below m9 hb
    replace bl := (bl.trans (Below.mono hb bl.size))
    replace sz := sz2.trans sz
    replace df := df2.trans df
    clear df2 sz2 old2 new2 hb
    refine wpList_nil ?_
    clear x21
    clear x10
    show Code.wp _ _ _ _ _
    refine wp_seq ?_
    refine wp_seq ?_
    -- R6
    refine wp_all_seq [.eq (.int .i64 ((kind : Nat) : Int)), .eq (.bool true)] (by kernel_rfl) (by kernel_rfl) (by rw [sz]; kernel_rfl) (by kernel_rfl) ⟨fun hw ac u K => ?_, fun hw ac u K => ?_, trivial⟩ ?_
    · exact st_move (.tmp 1) rfl ((K.old 1 rfl).trans x1)
    · exact st_eqi 3 (.tmp 22) (.const (.int .i64 2)) rfl .i64 (((kind : Nat) : Int)) (2) (K.dep 0 22 rfl) rfl _ (by simp [hkd])
    intro f10 w10 A hb
    replace bl0 := bl
    replace x1 := (A.old 1 rfl).trans x1
    replace x3 := (A.old 3 rfl).trans x3
    replace x6 := (A.old 6 rfl).trans x6
    replace x7 := (A.old 7 rfl).trans x7
    replace x12 := (A.old 12 rfl).trans x12
    replace x13 := (A.old 13 rfl).trans x13
    replace x14 := (A.old 14 rfl).trans x14
    replace x8 := (A.old 8 rfl).trans x8
    replace x9 := (A.old 9 rfl).trans x9
    have x23 : f10.eval (.tmp 23) = .bool true := A.has 1 23 rfl
    have lt_m9 := Ob.lt m9
    replace m9 := Ob.below m9 hb
    replace bl := (bl.trans (Below.mono hb bl.size))
    replace sz := A.size.trans sz
    replace df := A.defs.trans df
    clear A hb
    show Code.wp _ _ _ _ _
    refine wp_cond_true x23 ?_
    -- R7
    refine wp_region_seq [.eq (.agg ((seed).map V).toArray), .eq (.int .i64 ((k : Nat) : Int)), .eq (.tuple #[.agg ((p).map V).toArray, .int .i64 0]), .eq (.tuple #[.agg ((p).map V).toArray, .int .i64 0]), .eq (.agg ((p).map V).toArray), .eq (.int .i64 0)] (by kernel_rfl) (by kernel_rfl) (by rw [sz]; kernel_rfl) (by kernel_rfl) ⟨fun hw ac u K => ?_, fun hw ac u K => ?_, fun hw ac u K => ?_, fun hw ac u K => ?_, fun hw ac u K => ?_, fun hw ac u K => ?_, trivial⟩ ?_
    · exact st_load23 (.tmp 3) rfl (g3) (seed) ((K.old 3 rfl).trans x3) hx (Ob.below m3 (bl.trans (Below.mono K.grow bl.size)))
    · exact st_move (.tmp 8) rfl ((K.old 8 rfl).trans x8)
    · exact st_call 37 (.func 37) _ _ #[.agg ((seed).map V).toArray, .int .i64 ((k : Nat) : Int)] rfl rfl (arg2 (K.dep 0 25 rfl) (K.dep 1 26 rfl)) Tryd.enter37 (fk_public_okL hx hi (hK.below (bl.trans (Below.mono K.grow bl.size))) ep1)
    · exact st_move (.tmp 27) rfl (K.dep 2 27 rfl)
    · exact st_ext0 (.tmp 24) rfl (K.dep 3 24 rfl) rfl
    · exact st_ext1 (.tmp 24) rfl (K.dep 3 24 rfl) rfl
    intro f11 w11 A hb
    replace bl0 := bl
    replace x1 := (A.old 1 rfl).trans x1
    replace x3 := (A.old 3 rfl).trans x3
    replace x6 := (A.old 6 rfl).trans x6
    replace x7 := (A.old 7 rfl).trans x7
    replace x12 := (A.old 12 rfl).trans x12
    replace x13 := (A.old 13 rfl).trans x13
    replace x14 := (A.old 14 rfl).trans x14
    replace x8 := (A.old 8 rfl).trans x8
    replace x9 := (A.old 9 rfl).trans x9
    replace x23 := (A.old 23 rfl).trans x23
    have x28 : f11.eval (.tmp 28) = .agg ((p).map V).toArray := A.has 4 28 rfl
    have lt_m9 := Ob.lt m9
    replace m9 := Ob.below m9 hb
    replace bl := (bl.trans (Below.mono hb bl.size))
    replace sz := A.size.trans sz
    replace df := A.defs.trans df
    clear A hb
    refine wl_store rfl (.tmp 9) (.tmp 28) rfl rfl (g9) (p) (p0) x9 x28 m9 hp0 hp ?_
    replace m9 : Ob (w11.setRow g9 ((p).map V : List Value).toArray) (g9) 23 ((p).map V) := Ob.setRow m9 ((p).map V)
    replace bl : Below w5.heap.size w5 (w11.setRow g9 ((p).map V : List Value).toArray) := bl.trans (below_setRow _ _ _ _ hw9)
    generalize w11.setRow g9 ((p).map V : List Value).toArray = w12b at bl m9 ⊢
    refine wpList_nil ?_
    clear x28
    show Code.wp _ _ _ _ _
    -- R8
    refine wp_region_seq [.eq (v7), .sl (p), .eq (.agg ((y).map V).toArray), .hs ([y])] (by kernel_rfl) (by kernel_rfl) (by rw [sz]; kernel_rfl) (by kernel_rfl) ⟨fun hw ac u K => ?_, fun hw ac u K => ?_, fun hw ac u K => ?_, fun hw ac u K => ?_, trivial⟩ ?_
    · exact st_move (.tmp 7) rfl ((K.old 7 rfl).trans x7)
    · exact st_slice23 (.tmp 9) rfl (g9) 0 (p) ((K.old 9 rfl).trans x9) hp (Ob.lt (Ob.below m9 K.grow)) (HasV.bytes (Ob.below m9 K.grow))
    · exact st_call 24 (.func 24) _ _ #[ac.eval (.tmp 31)] rfl rfl (one_arg rfl) Tryd.enter24 (fk_leaf (by rw [hp]; omega) (hK.below (bl.trans (Below.mono K.grow bl.size))) (K.dep 1 31 rfl) ey)
    · exact st_bh1 (.tmp 32) rfl hy (K.dep 2 32 rfl)
    intro f13 w13 A hb
    replace bl0 := bl
    replace x1 := (A.old 1 rfl).trans x1
    replace x3 := (A.old 3 rfl).trans x3
    replace x6 := (A.old 6 rfl).trans x6
    replace x7 := (A.old 7 rfl).trans x7
    replace x12 := (A.old 12 rfl).trans x12
    replace x13 := (A.old 13 rfl).trans x13
    replace x14 := (A.old 14 rfl).trans x14
    replace x8 := (A.old 8 rfl).trans x8
    replace x9 := (A.old 9 rfl).trans x9
    replace x23 := (A.old 23 rfl).trans x23
    have x30 : f13.eval (.tmp 30) = v7 := A.has 0 30 rfl
    have x33 : Fk.f (.hs ([y])) (f13.eval (.tmp 33)) w13 := A.has 3 33 rfl
    have lt_m9 := Ob.lt m9
    replace m9 := Ob.below m9 hb
    replace bl := (bl.trans (Below.mono hb bl.size))
    replace sz := A.size.trans sz
    replace df := A.defs.trans df
    clear A hb
    replace o7 := fk_val x30 (Fk.mono _ _ _ _ o7 bl)
    replace bl := bl7.trans (Below.mono bl bl7.size)
    refine wl_append rfl (.tmp 30) (.tmp 33) rfl 34 rfl (by rw [sz]; decide) o7 x33 bl (by rw [firsts_len]; omega) ?_
    intro f14 w14 df2 sz2 old2 new2 bl2
    clear x33
    replace x1 := (old2 1 rfl).trans x1
    replace x3 := (old2 3 rfl).trans x3
    replace x6 := (old2 6 rfl).trans x6
    replace x7 := (old2 7 rfl).trans x7
    replace x12 := (old2 12 rfl).trans x12
    replace x13 := (old2 13 rfl).trans x13
    replace x14 := (old2 14 rfl).trans x14
    replace x8 := (old2 8 rfl).trans x8
    replace x9 := (old2 9 rfl).trans x9
    replace x23 := (old2 23 rfl).trans x23
    replace x30 := (old2 30 rfl).trans x30
    clear m9
    have x34 : Fk.f (.ow w1.heap.size (firsts (lv seed kind) k ++ [y])) (f14.eval (.tmp 34)) w14 := new2
    replace bl := bl2
    replace bl0 := bl
    replace sz := sz2.trans sz
    replace df := df2.trans df
    replace m3 := m3b
    replace hK := hKb
    clear df2 sz2 old2 new2 bl2 m3b hKb bl7 o7
    clear x30
    refine wl_one (.ow w1.heap.size (firsts (lv seed kind) k ++ [y])) rfl 7 rfl (by rw [sz]; decide) (st_assign (.tmp 34) rfl x34) ?_
    intro f15 w15 df2 sz2 old2 new2 hb
    replace bl0 := bl
    replace x1 := (old2 1 rfl).trans x1
    replace x3 := (old2 3 rfl).trans x3
    replace x6 := (old2 6 rfl).trans x6
    clear x7
    replace x12 := (old2 12 rfl).trans x12
    replace x13 := (old2 13 rfl).trans x13
    replace x14 := (old2 14 rfl).trans x14
    replace x8 := (old2 8 rfl).trans x8
    replace x9 := (old2 9 rfl).trans x9
    replace x23 := (old2 23 rfl).trans x23
    replace x34 := f_at (old2 34 rfl) (Fk.mono _ _ _ _ x34 hb)
    have x7 : Fk.f (.ow w1.heap.size (firsts (lv seed kind) k ++ [y])) (f15.eval (.tmp 7)) w15 := new2
    replace bl := (bl.trans (Below.mono hb bl.size))
    replace sz := sz2.trans sz
    replace df := df2.trans df
    clear df2 sz2 old2 new2 hb
    refine wpList_nil ?_
    clear x34
    show Code.wp _ _ _ _ _
    -- R9
    refine wp_region_seq [.eq (.int .i64 ((k + 1 : Nat) : Int))] (by kernel_rfl) (by kernel_rfl) (by rw [sz]; kernel_rfl) (by kernel_rfl) ⟨fun hw ac u K => ?_, trivial⟩ ?_
    · exact st_add (.tmp 13) (.const (.int .i64 1)) rfl (k) (1) (k + 1) ((K.old 13 rfl).trans x13) rfl (by omega) (by omega)
    intro f16 w16 A hb
    replace bl0 := bl
    replace x1 := (A.old 1 rfl).trans x1
    replace x3 := (A.old 3 rfl).trans x3
    replace x6 := (A.old 6 rfl).trans x6
    replace x12 := (A.old 12 rfl).trans x12
    replace x13 := (A.old 13 rfl).trans x13
    replace x14 := (A.old 14 rfl).trans x14
    replace x8 := (A.old 8 rfl).trans x8
    replace x9 := (A.old 9 rfl).trans x9
    replace x23 := (A.old 23 rfl).trans x23
    replace x7 := f_at (A.old 7 rfl) (Fk.mono _ _ _ _ x7 hb)
    have x35 : f16.eval (.tmp 35) = .int .i64 ((k + 1 : Nat) : Int) := A.has 0 35 rfl
    replace bl := (bl.trans (Below.mono hb bl.size))
    replace sz := A.size.trans sz
    replace df := A.defs.trans df
    clear A hb
    refine wl_one (.eq (.int .i64 ((k + 1 : Nat) : Int))) rfl 13 rfl (by rw [sz]; decide) (st_move (.tmp 35) rfl x35) ?_
    intro f17 w17 df2 sz2 old2 new2 hb
    replace bl0 := bl
    replace x1 := (old2 1 rfl).trans x1
    replace x3 := (old2 3 rfl).trans x3
    replace x6 := (old2 6 rfl).trans x6
    replace x12 := (old2 12 rfl).trans x12
    clear x13
    replace x14 := (old2 14 rfl).trans x14
    replace x8 := (old2 8 rfl).trans x8
    replace x9 := (old2 9 rfl).trans x9
    replace x23 := (old2 23 rfl).trans x23
    replace x7 := f_at (old2 7 rfl) (Fk.mono _ _ _ _ x7 hb)
    replace x35 := (old2 35 rfl).trans x35
    have x13 : f17.eval (.tmp 13) = .int .i64 ((k + 1 : Nat) : Int) := new2
    replace bl := (bl.trans (Below.mono hb bl.size))
    replace sz := sz2.trans sz
    replace df := df2.trans df
    clear df2 sz2 old2 new2 hb
    refine wpList_nil ?_
    clear x35
    show (∃ _, _) ∧ _
    replace x7 : Fk.f (.ow w1.heap.size (firsts (lv seed kind) (k + 1))) (f17.eval (.tmp 7)) w17 := (by rw [firsts_succ, show lv seed kind k = y from ey0.out]; exact x7)
    refine ⟨⟨k + 1, by omega, sz, df, x1, x3, x6, x12, x13, x7, bl⟩, ?_⟩
    rw [show f17.eval (.tmp 13) = _ from x13, show _ = _ from hcnt]
    simp [intOf]
    omega
  have ep1 := pk_one hkd ep
  -- R4
  refine wp_all_seq [.eq (.int .i64 ((k : Nat) : Int)), .eq (.int .i64 ((k : Nat) : Int))] (by kernel_rfl) (by kernel_rfl) (by rw [sz]; kernel_rfl) (by kernel_rfl) ⟨fun hw ac u K => ?_, fun hw ac u K => ?_, trivial⟩ ?_
  · exact st_move (.tmp 13) rfl ((K.old 13 rfl).trans x13)
  · exact st_assign (.tmp 15) rfl (K.dep 0 15 rfl)
  intro f6 w6 A hb
  replace bl0 := bl
  replace x1 := (A.old 1 rfl).trans x1
  replace x3 := (A.old 3 rfl).trans x3
  replace x6 := (A.old 6 rfl).trans x6
  replace x7 := (A.old 7 rfl).trans x7
  replace x12 := (A.old 12 rfl).trans x12
  replace x13 := (A.old 13 rfl).trans x13
  replace x14 := (A.old 14 rfl).trans x14
  have x8 : f6.eval (.tmp 8) = .int .i64 ((k : Nat) : Int) := A.has 1 8 rfl
  replace bl := (bl.trans (Below.mono hb bl.size))
  replace sz := A.size.trans sz
  replace df := A.defs.trans df
  clear A hb
  show Code.wp _ _ _ _ _
  refine wp_seq ?_
  -- R5
  refine wp_region_seq [.eq (.agg ((seed).map V).toArray), .eq (.int .i64 ((k : Nat) : Int)), .eq (.tuple #[.agg ((p).map V).toArray, .int .i64 0]), .eq (.tuple #[.agg ((p).map V).toArray, .int .i64 0]), .eq (.agg ((p).map V).toArray), .eq (.int .i64 0), .nw w6.heap.size 23 ((hz).map V)] (by kernel_rfl) (by kernel_rfl) (by rw [sz]; kernel_rfl) (by kernel_rfl) ⟨fun hw ac u K => ?_, fun hw ac u K => ?_, fun hw ac u K => ?_, fun hw ac u K => ?_, fun hw ac u K => ?_, fun hw ac u K => ?_, fun hw ac u K => ?_, trivial⟩ ?_
  · exact st_load23 (.tmp 3) rfl (g3) (seed) ((K.old 3 rfl).trans x3) hx (Ob.below m3 (bl.trans (Below.mono K.grow bl.size)))
  · exact st_move (.tmp 8) rfl ((K.old 8 rfl).trans x8)
  · exact st_call 36 (.func 36) _ _ #[.agg ((seed).map V).toArray, .int .i64 ((k : Nat) : Int)] rfl rfl (arg2 (K.dep 0 17 rfl) (K.dep 1 18 rfl)) Tryd.enter36 (fk_public_ok hx hi (hK.below (bl.trans (Below.mono K.grow bl.size))) ep1)
  · exact st_move (.tmp 19) rfl (K.dep 2 19 rfl)
  · exact st_ext0 (.tmp 16) rfl (K.dep 3 16 rfl) rfl
  · exact st_ext1 (.tmp 16) rfl (K.dep 3 16 rfl) rfl
  · exact st_alloc23 rfl _ K.grow.size
  intro f7 w7 A hb
  replace bl0 := bl
  replace x1 := (A.old 1 rfl).trans x1
  replace x3 := (A.old 3 rfl).trans x3
  replace x6 := (A.old 6 rfl).trans x6
  replace x7 := (A.old 7 rfl).trans x7
  replace x12 := (A.old 12 rfl).trans x12
  replace x13 := (A.old 13 rfl).trans x13
  replace x14 := (A.old 14 rfl).trans x14
  replace x8 := (A.old 8 rfl).trans x8
  have x9 : Fk.f (.nw w6.heap.size 23 ((hz).map V)) (f7.eval (.tmp 9)) w7 := A.has 6 9 rfl
  have x20 : f7.eval (.tmp 20) = .agg ((p).map V).toArray := A.has 4 20 rfl
  have x21 : f7.eval (.tmp 21) = .int .i64 0 := A.has 5 21 rfl
  replace bl := (bl.trans (Below.mono hb bl.size))
  replace sz := A.size.trans sz
  replace df := A.defs.trans df
  clear A hb
  obtain ⟨g9, hg9, e9, m9⟩ := x9
  have x9 := e9
  clear e9
  have nm3_9 : g3 ≠ g9 := Nat.ne_of_lt (Nat.lt_of_lt_of_le (Ob.lt m3) (Nat.le_trans bl0.size hg9))
  have hw9 : w5.heap.size ≤ g9 := Nat.le_trans bl0.size hg9
  refine wl_store rfl (.tmp 9) (.tmp 20) rfl rfl (g9) (p) (hz) x9 x20 m9 hz_len hp ?_
  replace m9 : Ob (w7.setRow g9 ((p).map V : List Value).toArray) (g9) 23 ((p).map V) := Ob.setRow m9 ((p).map V)
  replace bl : Below w5.heap.size w5 (w7.setRow g9 ((p).map V : List Value).toArray) := bl.trans (below_setRow _ _ _ _ hw9)
  generalize w7.setRow g9 ((p).map V : List Value).toArray = w8b at bl m9 ⊢
  clear x20
  refine wl_one (.eq (.int .i64 0)) rfl 10 rfl (by rw [sz]; decide) (st_assign (.tmp 21) rfl x21) ?_
  intro f9 w9 df2 sz2 old2 new2 hb
  replace bl0 := bl
  replace x1 := (old2 1 rfl).trans x1
  replace x3 := (old2 3 rfl).trans x3
  replace x6 := (old2 6 rfl).trans x6
  replace x7 := (old2 7 rfl).trans x7
  replace x12 := (old2 12 rfl).trans x12
  replace x13 := (old2 13 rfl).trans x13
  replace x14 := (old2 14 rfl).trans x14
  replace x8 := (old2 8 rfl).trans x8
  replace x9 := (old2 9 rfl).trans x9
  replace x21 := (old2 21 rfl).trans x21
  have x10 : f9.eval (.tmp 10) = .int .i64 0 := new2
  have lt_m9 := Ob.lt m9
  replace m9 := Ob.below m9 hb
  replace bl := (bl.trans (Below.mono hb bl.size))
  replace sz := sz2.trans sz
  replace df := df2.trans df
  clear df2 sz2 old2 new2 hb
  refine wpList_nil ?_
  clear x21
  clear x10
  show Code.wp _ _ _ _ _
  refine wp_seq ?_
  refine wp_seq ?_
  -- R6
  refine wp_all_seq [.eq (.int .i64 ((kind : Nat) : Int)), .eq (.bool false)] (by kernel_rfl) (by kernel_rfl) (by rw [sz]; kernel_rfl) (by kernel_rfl) ⟨fun hw ac u K => ?_, fun hw ac u K => ?_, trivial⟩ ?_
  · exact st_move (.tmp 1) rfl ((K.old 1 rfl).trans x1)
  · exact st_eqi 3 (.tmp 22) (.const (.int .i64 2)) rfl .i64 (((kind : Nat) : Int)) (2) (K.dep 0 22 rfl) rfl _ (by simp [hkd])
  intro f10 w10 A hb
  replace bl0 := bl
  replace x1 := (A.old 1 rfl).trans x1
  replace x3 := (A.old 3 rfl).trans x3
  replace x6 := (A.old 6 rfl).trans x6
  replace x7 := (A.old 7 rfl).trans x7
  replace x12 := (A.old 12 rfl).trans x12
  replace x13 := (A.old 13 rfl).trans x13
  replace x14 := (A.old 14 rfl).trans x14
  replace x8 := (A.old 8 rfl).trans x8
  replace x9 := (A.old 9 rfl).trans x9
  have x23 : f10.eval (.tmp 23) = .bool false := A.has 1 23 rfl
  have lt_m9 := Ob.lt m9
  replace m9 := Ob.below m9 hb
  replace bl := (bl.trans (Below.mono hb bl.size))
  replace sz := A.size.trans sz
  replace df := A.defs.trans df
  clear A hb
  show Code.wp _ _ _ _ _
  refine wp_cond_false x23 ?_
  refine wp_skip ?_
  show Code.wp _ _ _ _ _
  -- R8
  refine wp_region_seq [.eq (v7), .sl (p), .eq (.agg ((y).map V).toArray), .hs ([y])] (by kernel_rfl) (by kernel_rfl) (by rw [sz]; kernel_rfl) (by kernel_rfl) ⟨fun hw ac u K => ?_, fun hw ac u K => ?_, fun hw ac u K => ?_, fun hw ac u K => ?_, trivial⟩ ?_
  · exact st_move (.tmp 7) rfl ((K.old 7 rfl).trans x7)
  · exact st_slice23 (.tmp 9) rfl (g9) 0 (p) ((K.old 9 rfl).trans x9) hp (Ob.lt (Ob.below m9 K.grow)) (HasV.bytes (Ob.below m9 K.grow))
  · exact st_call 24 (.func 24) _ _ #[ac.eval (.tmp 31)] rfl rfl (one_arg rfl) Tryd.enter24 (fk_leaf (by rw [hp]; omega) (hK.below (bl.trans (Below.mono K.grow bl.size))) (K.dep 1 31 rfl) ey)
  · exact st_bh1 (.tmp 32) rfl hy (K.dep 2 32 rfl)
  intro f11 w11 A hb
  replace bl0 := bl
  replace x1 := (A.old 1 rfl).trans x1
  replace x3 := (A.old 3 rfl).trans x3
  replace x6 := (A.old 6 rfl).trans x6
  replace x7 := (A.old 7 rfl).trans x7
  replace x12 := (A.old 12 rfl).trans x12
  replace x13 := (A.old 13 rfl).trans x13
  replace x14 := (A.old 14 rfl).trans x14
  replace x8 := (A.old 8 rfl).trans x8
  replace x9 := (A.old 9 rfl).trans x9
  replace x23 := (A.old 23 rfl).trans x23
  have x30 : f11.eval (.tmp 30) = v7 := A.has 0 30 rfl
  have x33 : Fk.f (.hs ([y])) (f11.eval (.tmp 33)) w11 := A.has 3 33 rfl
  have lt_m9 := Ob.lt m9
  replace m9 := Ob.below m9 hb
  replace bl := (bl.trans (Below.mono hb bl.size))
  replace sz := A.size.trans sz
  replace df := A.defs.trans df
  clear A hb
  replace o7 := fk_val x30 (Fk.mono _ _ _ _ o7 bl)
  replace bl := bl7.trans (Below.mono bl bl7.size)
  refine wl_append rfl (.tmp 30) (.tmp 33) rfl 34 rfl (by rw [sz]; decide) o7 x33 bl (by rw [firsts_len]; omega) ?_
  intro f12 w12 df2 sz2 old2 new2 bl2
  clear x33
  replace x1 := (old2 1 rfl).trans x1
  replace x3 := (old2 3 rfl).trans x3
  replace x6 := (old2 6 rfl).trans x6
  replace x7 := (old2 7 rfl).trans x7
  replace x12 := (old2 12 rfl).trans x12
  replace x13 := (old2 13 rfl).trans x13
  replace x14 := (old2 14 rfl).trans x14
  replace x8 := (old2 8 rfl).trans x8
  replace x9 := (old2 9 rfl).trans x9
  replace x23 := (old2 23 rfl).trans x23
  replace x30 := (old2 30 rfl).trans x30
  clear m9
  have x34 : Fk.f (.ow w1.heap.size (firsts (lv seed kind) k ++ [y])) (f12.eval (.tmp 34)) w12 := new2
  replace bl := bl2
  replace bl0 := bl
  replace sz := sz2.trans sz
  replace df := df2.trans df
  replace m3 := m3b
  replace hK := hKb
  clear df2 sz2 old2 new2 bl2 m3b hKb bl7 o7
  clear x30
  refine wl_one (.ow w1.heap.size (firsts (lv seed kind) k ++ [y])) rfl 7 rfl (by rw [sz]; decide) (st_assign (.tmp 34) rfl x34) ?_
  intro f13 w13 df2 sz2 old2 new2 hb
  replace bl0 := bl
  replace x1 := (old2 1 rfl).trans x1
  replace x3 := (old2 3 rfl).trans x3
  replace x6 := (old2 6 rfl).trans x6
  clear x7
  replace x12 := (old2 12 rfl).trans x12
  replace x13 := (old2 13 rfl).trans x13
  replace x14 := (old2 14 rfl).trans x14
  replace x8 := (old2 8 rfl).trans x8
  replace x9 := (old2 9 rfl).trans x9
  replace x23 := (old2 23 rfl).trans x23
  replace x34 := f_at (old2 34 rfl) (Fk.mono _ _ _ _ x34 hb)
  have x7 : Fk.f (.ow w1.heap.size (firsts (lv seed kind) k ++ [y])) (f13.eval (.tmp 7)) w13 := new2
  replace bl := (bl.trans (Below.mono hb bl.size))
  replace sz := sz2.trans sz
  replace df := df2.trans df
  clear df2 sz2 old2 new2 hb
  refine wpList_nil ?_
  clear x34
  show Code.wp _ _ _ _ _
  -- R9
  refine wp_region_seq [.eq (.int .i64 ((k + 1 : Nat) : Int))] (by kernel_rfl) (by kernel_rfl) (by rw [sz]; kernel_rfl) (by kernel_rfl) ⟨fun hw ac u K => ?_, trivial⟩ ?_
  · exact st_add (.tmp 13) (.const (.int .i64 1)) rfl (k) (1) (k + 1) ((K.old 13 rfl).trans x13) rfl (by omega) (by omega)
  intro f14 w14 A hb
  replace bl0 := bl
  replace x1 := (A.old 1 rfl).trans x1
  replace x3 := (A.old 3 rfl).trans x3
  replace x6 := (A.old 6 rfl).trans x6
  replace x12 := (A.old 12 rfl).trans x12
  replace x13 := (A.old 13 rfl).trans x13
  replace x14 := (A.old 14 rfl).trans x14
  replace x8 := (A.old 8 rfl).trans x8
  replace x9 := (A.old 9 rfl).trans x9
  replace x23 := (A.old 23 rfl).trans x23
  replace x7 := f_at (A.old 7 rfl) (Fk.mono _ _ _ _ x7 hb)
  have x35 : f14.eval (.tmp 35) = .int .i64 ((k + 1 : Nat) : Int) := A.has 0 35 rfl
  replace bl := (bl.trans (Below.mono hb bl.size))
  replace sz := A.size.trans sz
  replace df := A.defs.trans df
  clear A hb
  refine wl_one (.eq (.int .i64 ((k + 1 : Nat) : Int))) rfl 13 rfl (by rw [sz]; decide) (st_move (.tmp 35) rfl x35) ?_
  intro f15 w15 df2 sz2 old2 new2 hb
  replace bl0 := bl
  replace x1 := (old2 1 rfl).trans x1
  replace x3 := (old2 3 rfl).trans x3
  replace x6 := (old2 6 rfl).trans x6
  replace x12 := (old2 12 rfl).trans x12
  clear x13
  replace x14 := (old2 14 rfl).trans x14
  replace x8 := (old2 8 rfl).trans x8
  replace x9 := (old2 9 rfl).trans x9
  replace x23 := (old2 23 rfl).trans x23
  replace x7 := f_at (old2 7 rfl) (Fk.mono _ _ _ _ x7 hb)
  replace x35 := (old2 35 rfl).trans x35
  have x13 : f15.eval (.tmp 13) = .int .i64 ((k + 1 : Nat) : Int) := new2
  replace bl := (bl.trans (Below.mono hb bl.size))
  replace sz := sz2.trans sz
  replace df := df2.trans df
  clear df2 sz2 old2 new2 hb
  refine wpList_nil ?_
  clear x35
  show (∃ _, _) ∧ _
  replace x7 : Fk.f (.ow w1.heap.size (firsts (lv seed kind) (k + 1))) (f15.eval (.tmp 7)) w15 := (by rw [firsts_succ, show lv seed kind k = y from ey0.out]; exact x7)
  refine ⟨⟨k + 1, by omega, sz, df, x1, x3, x6, x12, x13, x7, bl⟩, ?_⟩
  rw [show f15.eval (.tmp 13) = _ from x13, show _ = _ from hcnt]
  simp [intOf]
  omega
end Go.Proofs.YtnanipeapjpkfaaDoor
namespace Go.Proofs.YtnanipeapjpkfaaDoor
set_option maxRecDepth 100000
open Go.RowKit
section
variable {P : Program} {ops : Array Oper} {Q : Exit → Act → World → Prop}
/-- A store that does not look at slot d. -/
def storeFree (o : Oper) (d : Nat) : Bool := match o.op with
  | .store _ (.tmp x) (.tmp y) => (x != d) && (y != d) && o.guard.isNone && o.dst.isNone
  | _ => false
theorem storeFree_spec {o : Oper} {d : Nat} (h : storeFree o d = true) : ∃ T x y, o.op = .store T (.tmp x) (.tmp y) ∧ x ≠ d ∧ y ≠ d ∧ o.guard = none ∧ o.dst = none := by
  unfold storeFree at h
  split at h
  · rename_i T x y e
    simp only [Bool.and_eq_true, bne_iff_ne, ne_eq, Option.isNone_iff_eq_none] at h
    exact ⟨T, x, y, e, h.1.1.1, h.1.1.2, h.1.2, h.2⟩
  · cases h
theorem storeFree_guard {o : Oper} {d : Nat} (h : storeFree o d = true) : o.guard = none := by obtain ⟨_, _, _, _, _, _, h, _⟩ := storeFree_spec h; exact h
theorem storeFree_dst {o : Oper} {d : Nat} (h : storeFree o d = true) : o.dst = none := by obtain ⟨_, _, _, _, _, _, _, h⟩ := storeFree_spec h; exact h
theorem storeFree_eval {o om : Oper} {d : Nat} {v : Value} (h : storeFree o d = true) (hd : om.dst = some d) (a : Act) : execOp (a.put om.dst v).eval o = execOp a.eval o := by
  obtain ⟨T, x, y, e, hx, hy, _, _⟩ := storeFree_spec h
  rw [hd]
  unfold execOp
  rw [e]
  simp only [put_eval_other a d v x (fun h => hx h.symm), put_eval_other a d v y (fun h => hy h.symm)]
theorem wl_skip {o : Oper} {rest : List Oper} {a : Act} {w w2 : World} (hgd : o.guard = none) (hd : o.dst = none) (hr : (execOp a.eval o).run P w = .ok .skip w2) (h : wpList P ops Q rest a w2) : wpList P ops Q (o :: rest) a w := by
  unfold wpList
  rw [if_pos (by unfold Region.wanted; rw [hgd])]
  refine .inl ?_
  unfold Oper.wp
  rw [hr]
  unfold Oper.upon
  rw [hd]
  exact h
theorem wl_val {o : Oper} {rest : List Oper} {a : Act} {w w2 : World} {v : Value} (hgd : o.guard = none) (hr : (execOp a.eval o).run P w = .ok (.value v) w2) (h : wpList P ops Q rest (a.put o.dst v) w2) : wpList P ops Q (o :: rest) a w := by
  unfold wpList
  rw [if_pos (by unfold Region.wanted; rw [hgd])]
  refine .inl ?_
  unfold Oper.wp
  rw [hr]
  exact h
/-- Each from number k on waits, in the end, for all ahead of number k but for m; each behind k for m too. -/
def coverBut (ops : List Oper) (k m : Nat) : Bool := (List.range ops.length).all fun j => decide (j < k) || (((List.range k).all fun i => i == m || (clo ops 8 (tgts ops j)).contains i) && (j == k || (clo ops 8 (tgts ops j)).contains m))
def firstBut (k n m : Nat) : Array Bool := Array.ofFn (n := n) fun i => decide (i.val < k) && (i.val != m)
theorem wp_mids_late {qs : List Fk} {a0 : Act} {w0 : World} (m dm : Nat) (so om : Oper) (rest : List Nat) (hk : qs.length ≤ ops.size) (hE : backOk ops.toList = true) (hC : coverBut ops.toList qs.length m = true) (hJ : chainOk ops (firstK qs.length ops.size) (qs.length :: rest) = true)
    (hJ2 : chainOk ops ((firstBut qs.length ops.size m).setIfInBounds qs.length true) (m :: rest) = true) (hso : ops[qs.length]? = some so) (hom : ops[m]? = some om) (hsf : storeFree so dm = true) (hmd : om.dst = some dm) (hmk : decide (m < qs.length) = true) (hmg : om.guard = none)
    (hM : ∀ a w, Known ops.toList qs.length (fkAt qs) a0 w0 om a w → ∃ v, (∀ w', (execOp a.eval om).run P w' = .ok (.value v) w') ∧ fkAt qs m v w)
    (hD : dstsOk a0.tmps.size (ops.toList.take qs.length) = true) (hG : guardsOk ops.toList qs.length qs ops.toList qs = true)
    (hS : Steps P Q ops.toList qs.length qs a0 w0 ops.toList qs)
    (hF : ∀ af w', Final ops.toList qs a0 af w' → Below w0.heap.size w0 w' → ∃ w2, (execOp af.eval so).run P w' = .ok .skip w2 ∧ wpList P ops Q (rest.filterMap (ops[·]?)) af w2) :
    ∀ (fuel : Nat) (listed : Array Bool) (a : Act) (w : World), unl listed ≤ fuel → Closed ops listed → Mids ops qs.length (fkAt qs) a0 w0 listed a w → wpAny P .any ops Q fuel listed a w := by
  have hfin : ∀ (listed : Array Bool) (a : Act) (w : World), Mids ops qs.length (fkAt qs) a0 w0 listed a w → (∀ i, i < qs.length → listed.getD i false = true) → Final ops.toList qs a0 a w := by
    intro listed a w hm hall
    refine ⟨hm.defs, hm.size, fun t ht => eval_of_get (hm.old t ht), fun i d h => ?_⟩
    simp only [Bool.and_eq_true, decide_eq_true_eq, beq_iff_eq] at h
    obtain ⟨hi, hd⟩ := h
    cases ho : ops.toList[i]? with
    | none => rw [ho] at hd; simp at hd
    | some o =>
      rw [ho] at hd
      exact hm.has i o d hi (by rw [← Array.getElem?_toList]; exact ho) (by simpa using hd) (hall i hi)
  have hend : ∀ (fuel : Nat) (listed : Array Bool) (a : Act) (w : World), unl listed ≤ fuel → Mids ops qs.length (fkAt qs) a0 w0 listed a w → (∀ i, i < qs.length → listed.getD i false = true) → wpAny P .any ops Q fuel listed a w := by
    intro fuel listed a w hu hm hall
    have he : listed = firstK qs.length ops.size := by
      apply Array.ext (by simp [firstK, hm.lsize])
      intro i h1 h2
      simp only [firstK, Array.getElem_ofFn]
      by_cases hi : i < qs.length
      · have := hall i hi
        simp [h1] at this
        simp [this, hi]
      · have h3 : i < ops.size := by rw [hm.lsize] at h1; exact h1
        have := hm.last i (by omega) h3
        simp [h1] at this
        simp [this, hi]
    have hJ' : chainOk ops listed (qs.length :: rest) = true := by rw [he]; exact hJ
    have hlen := chain_len (qs.length :: rest) listed hJ'
    refine any_list (qs.length :: rest) fuel listed a w hJ' (by omega) ?_
    obtain ⟨w2, hr, hw⟩ := hF a w (hfin listed a w hm hall) hm.grow
    rw [List.filterMap_cons, hso]
    exact wl_skip (storeFree_guard hsf) (storeFree_dst hsf) hr hw
  intro fuel
  induction fuel with
  | zero =>
    intro listed a w hu hcl hm
    have hall := unl_zero (listed := listed) (by omega)
    refine hend 0 listed a w hu hm (fun i hi => ?_)
    have hil : i < listed.size := by rw [hm.lsize]; omega
    rw [← getD_tf hil]; exact hall i hil
  | succ fuel ih =>
    intro listed a w hu hcl hm
    by_cases hall : ∀ i, i < qs.length → listed.getD i false = true
    · exact hend (fuel + 1) listed a w hu hm hall
    · have hex : ∃ i0, i0 < qs.length ∧ listed.getD i0 false = false := by
        apply Classical.byContradiction
        intro hno
        apply hall
        intro i hi
        cases hq : listed.getD i false with
        | true => rfl
        | false => exact absurd ⟨i, hi, hq⟩ hno
      obtain ⟨i0, hi0, hi0u⟩ := hex
      refine ⟨fun hr => ?_, fun i hi => ?_⟩
      · exfalso
        have hu0 := ready_back hE hm.lsize hr
        have hil : i0 < listed.size := by rw [hm.lsize]; omega
        have := unl_zero hu0 i0 hil
        rw [getD_tf hil, hi0u] at this
        cases this
      · obtain ⟨hun, o, ho, hdep⟩ := mem_ready.1 hi
        have hio : i < ops.size := (Array.getElem?_eq_some_iff.1 ho).1
        have hu' := unl_set hun
        have hil : i < listed.size := by rw [hm.lsize]; exact hio
        have htg : ∀ j ∈ tgt o, listed.getD j false = true := fun j hj => by
          obtain ⟨e, he, hb, rfl⟩ := mem_tgt.1 hj
          exact hdep e he hb
        rcases Nat.lt_or_ge i qs.length with hik | hik
        case inr =>
          have hmk' : m < qs.length := of_decide_eq_true hmk
          have hcl4 : ∀ i1, i1 ∈ clo ops.toList 8 (tgts ops.toList i) → listed.getD i1 false = true := clo_listed hcl 8 (tgts ops.toList i) (fun j hj => by
            unfold tgts at hj
            rw [Array.getElem?_toList, ho] at hj
            exact htg j (by simpa using hj))
          have hcov : ∀ i1, i1 < qs.length → i1 ≠ m → listed.getD i1 false = true := by
            intro i1 h1 h2
            unfold coverBut at hC
            have h3 := List.all_eq_true.1 hC i (by simpa using hio)
            simp only [Bool.or_eq_true, decide_eq_true_eq, Bool.and_eq_true] at h3
            rcases h3 with h3 | h3
            · omega
            · have h4 := List.all_eq_true.1 h3.1 i1 (by simpa using h1)
              simp only [Bool.or_eq_true, beq_iff_eq] at h4
              rcases h4 with h4 | h4
              · exact absurd h4 h2
              · exact hcl4 i1 (by simpa using h4)
          have hum : listed.getD m false = false := by
            by_cases e : i0 = m
            · rw [← e]; exact hi0u
            · rw [hcov i0 hi0 e] at hi0u; cases hi0u
          have hiq : i = qs.length := by
            unfold coverBut at hC
            have h3 := List.all_eq_true.1 hC i (by simpa using hio)
            simp only [Bool.or_eq_true, decide_eq_true_eq, Bool.and_eq_true, beq_iff_eq] at h3
            rcases h3 with h3 | h3
            · omega
            · rcases h3.2 with h4 | h4
              · exact h4
              · have h5 := hcl4 m (by simpa using h4)
                rw [hum] at h5; cases h5
          subst hiq
          obtain rfl : o = so := Option.some.inj (ho.symm.trans hso)
          have hml : m < listed.size := by rw [hm.lsize]; omega
          have hto : (ops.toList.take qs.length)[m]? = some om := by rw [List.getElem?_take, if_pos hmk', Array.getElem?_toList]; exact hom
          obtain ⟨d, hd, hlt, hallD⟩ := dstsOk_spec hD m om hto
          obtain rfl : d = dm := Option.some.inj (hd.symm.trans hmd)
          have hKm : Known ops.toList qs.length (fkAt qs) a0 w0 om a w := by
            refine ⟨fun t ht => eval_of_get (hm.old t ht), fun j d hj => ?_, hm.grow⟩
            unfold depOk at hj
            simp only [Bool.and_eq_true, decide_eq_true_eq, beq_iff_eq, Array.getElem?_toList] at hj
            obtain ⟨⟨hjk, hany⟩, hd⟩ := hj
            obtain ⟨e, he, hb⟩ := List.any_eq_true.1 hany
            simp only [Bool.and_eq_true, beq_iff_eq] at hb
            have hjm : j ≠ m := by
              intro hjm
              unfold backOk at hE
              have h1 := List.all_eq_true.1 hE m (by simp; omega)
              simp only [Array.getElem?_toList, hom, Option.map_some, Option.getD_some] at h1
              have h2 := List.all_eq_true.1 h1 e he
              rw [hb.1, hb.2, hjm] at h2
              simp at h2
            cases hoj : ops[j]? with
            | none => rw [hoj] at hd; simp at hd
            | some oj =>
              rw [hoj] at hd
              exact hm.has j oj d hjk hoj (by simpa using hd) (hcov j hjk hjm)
          obtain ⟨v, hrun, hφ⟩ := hM a w hKm
          have hm1 : Mids ops qs.length (fkAt qs) a0 w0 (listed.setIfInBounds m true) (a.put om.dst v) w := by
            refine ⟨by rw [put_size]; exact hm.size, by rw [put_def]; exact hm.defs, by simp; exact hm.lsize, fun t ht => ?_, fun j oj dj hj hoj hdj hlj => ?_, fun j hj1 hj2 => ?_, hm.grow⟩
            · rw [put_other _ _ _ _ (freeOf_spec ht hto)]; exact hm.old t ht
            · by_cases e : j = m
              · subst e
                obtain rfl : oj = om := Option.some.inj (hoj.symm.trans hom)
                obtain rfl : dj = d := Option.some.inj (hdj.symm.trans hd)
                have hev : (a.put oj.dst v).eval (.tmp dj) = v := by
                  have := put_same a dj v (by rw [hm.size]; exact hlt)
                  rw [← hd] at this
                  simp [Act.eval, this]
                rw [hev]; exact hφ
              · have htj : (ops.toList.take qs.length)[j]? = some oj := by rw [List.getElem?_take, if_pos hj, Array.getElem?_toList]; exact hoj
                have hne : om.dst ≠ some dj := fun h => by
                  have : d = dj := Option.some.inj (hd.symm.trans h)
                  exact hallD j oj htj e (by rw [this]; exact hdj)
                rw [eval_of_get (put_other a om.dst v dj hne)]
                refine hm.has j oj dj hj hoj hdj ?_
                have hne2 : m ≠ j := fun h => e h.symm
                simpa [Array.getElem?_setIfInBounds, hne2] using hlj
            · have hne : m ≠ j := by omega
              have := hm.last j hj1 hj2
              simpa [Array.getElem?_setIfInBounds, hne] using this
          have hall1 : ∀ i, i < qs.length → (listed.setIfInBounds m true).getD i false = true := by
            intro i1 h1
            by_cases e : i1 = m
            · subst e; exact getD_set_same hml
            · have hne : m ≠ i1 := fun h => e h.symm
              have := hcov i1 h1 e
              simpa [Array.getElem?_setIfInBounds, hne] using this
          obtain ⟨w2, hr, hw⟩ := hF _ w (hfin _ _ _ hm1 hall1) hm.grow
          have he : listed = firstBut qs.length ops.size m := by
            apply Array.ext (by simp [firstBut, hm.lsize])
            intro i1 h1 h2
            simp only [firstBut, Array.getElem_ofFn]
            by_cases hi1 : i1 < qs.length
            · by_cases e : i1 = m
              · subst e
                simp [h1] at hum
                simp [hum]
              · have := hcov i1 hi1 e
                simp [h1] at this
                simp [this, hi1, e]
            · have h3 : i1 < ops.size := by rw [hm.lsize] at h1; exact h1
              have := hm.last i1 (by omega) h3
              simp [h1] at this
              simp [this, hi1]
          have hrs : (execOp a.eval o).run P w = .ok .skip w2 := by
            rw [← storeFree_eval (v := v) hsf hmd a]; exact hr
          unfold wpOp
          rw [ho]
          show if Region.wanted o (yielded ops a.tmps) = true then _ else _
          rw [if_pos (by unfold Region.wanted; rw [storeFree_guard hsf])]
          refine .inl ?_
          unfold Oper.wp
          rw [hrs]
          unfold Oper.upon
          rw [storeFree_dst hsf]
          have hJ3 : chainOk ops (listed.setIfInBounds qs.length true) (m :: rest) = true := by rw [he]; exact hJ2
          have hlen := chain_len (m :: rest) _ hJ3
          refine any_list (m :: rest) fuel _ _ w2 hJ3 (by omega) ?_
          rw [List.filterMap_cons, hom]
          exact wl_val hmg (hrun w2) hw
        case inl =>
          have hK : Known ops.toList qs.length (fkAt qs) a0 w0 o a w := by
            refine ⟨fun t ht => eval_of_get (hm.old t ht), fun j d hj => ?_, hm.grow⟩
            unfold depOk at hj
            simp only [Bool.and_eq_true, decide_eq_true_eq, beq_iff_eq, Array.getElem?_toList] at hj
            obtain ⟨⟨hjk, hany⟩, hd⟩ := hj
            obtain ⟨e, he, hb⟩ := List.any_eq_true.1 hany
            simp only [Bool.and_eq_true, beq_iff_eq] at hb
            have hl := hdep e (by simpa using he) hb.2
            rw [hb.1] at hl
            cases hoj : ops[j]? with
            | none => rw [hoj] at hd; simp at hd
            | some oj =>
              rw [hoj] at hd
              exact hm.has j oj d hjk hoj (by simpa using hd) hl
          have hto : (ops.toList.take qs.length)[i]? = some o := by rw [List.getElem?_take, if_pos hik, Array.getElem?_toList]; exact ho
          obtain ⟨d, hd, hlt, hallD⟩ := dstsOk_spec hD i o hto
          have hcl' : Closed ops (listed.setIfInBounds i true) := by
            intro m om hom hml j hj
            by_cases e : m = i
            · subst e
              obtain rfl : om = o := Option.some.inj (hom.symm.trans ho)
              have h1 := htg j hj
              by_cases e2 : j = m
              · subst e2; exact getD_set_same hil
              · have hne : m ≠ j := fun h => e2 h.symm
                simpa [Array.getElem?_setIfInBounds, hne] using h1
            · have hne : i ≠ m := fun h => e h.symm
              have hml' : listed.getD m false = true := by simpa [Array.getElem?_setIfInBounds, hne] using hml
              have h1 := hcl m om hom hml' j hj
              by_cases e2 : j = i
              · subst e2; exact getD_set_same hil
              · have hne2 : i ≠ j := fun h => e2 h.symm
                simpa [Array.getElem?_setIfInBounds, hne2] using h1
          have hnext : ∀ v w', Below w.heap.size w w' → fkAt qs i v w' → wpAny P .any ops Q fuel (listed.setIfInBounds i true) (a.put o.dst v) w' := by
            intro v w' hb hf
            refine ih _ _ _ (by omega) hcl' ⟨by rw [put_size]; exact hm.size, by rw [put_def]; exact hm.defs, by simp; exact hm.lsize, fun t ht => ?_, fun j oj dj hj hoj hdj hlj => ?_, fun j hj1 hj2 => ?_, hm.grow.trans (hb.mono hm.grow.size)⟩
            · rw [put_other _ _ _ _ (freeOf_spec ht hto)]; exact hm.old t ht
            · by_cases e : j = i
              · subst e
                obtain rfl : oj = o := Option.some.inj (hoj.symm.trans ho)
                obtain rfl : dj = d := Option.some.inj (hdj.symm.trans hd)
                have hev : (a.put oj.dst v).eval (.tmp dj) = v := by
                  have := put_same a dj v (by rw [hm.size]; exact hlt)
                  rw [← hd] at this
                  simp [Act.eval, this]
                rw [hev]; exact hf
              · have htj : (ops.toList.take qs.length)[j]? = some oj := by rw [List.getElem?_take, if_pos hj, Array.getElem?_toList]; exact hoj
                have hne : o.dst ≠ some dj := fun h => by
                  have : d = dj := Option.some.inj (hd.symm.trans h)
                  exact hallD j oj htj e (by rw [this]; exact hdj)
                rw [eval_of_get (put_other a o.dst v dj hne)]
                refine Fk.mono _ _ w w' (hm.has j oj dj hj hoj hdj ?_) hb
                have hne2 : i ≠ j := fun h => e h.symm
                simpa [Array.getElem?_setIfInBounds, hne2] using hlj
            · have hne : i ≠ j := by omega
              have := hm.last j hj1 hj2
              simpa [Array.getElem?_setIfInBounds, hne] using this
          have hyield : ∀ (j : Nat) (b c : Bool), o.guard = some (j, b) → (∃ d, depOk ops.toList qs.length o j d = true) → (∀ v w, fkAt qs j v w → v = .bool c) → yielded ops a.tmps j = some c := by
            rintro j b c hg ⟨d, hd⟩ hbool
            have hv := hbool _ _ (hK.dep j d hd)
            have hd2 : (ops[j]?).bind (·.dst) = some d := by
              unfold depOk at hd
              simp only [Bool.and_eq_true, decide_eq_true_eq, beq_iff_eq, Array.getElem?_toList] at hd
              exact hd.2
            have hget : a.tmps[d]? = some (.bool c) := by
              simp only [Act.eval, Array.getD_eq_getD_getElem?] at hv
              cases hq : a.tmps[d]? with
              | none => rw [hq] at hv; simp [undef] at hv
              | some u => rw [hq] at hv; simp at hv; rw [hv]
            unfold yielded
            rw [hd2]
            simp only [Option.bind_some, hget]
          unfold wpOp
          rw [ho]
          show if Region.wanted o (yielded ops a.tmps) = true then _ else _
          have hyes : Region.wanted o (yielded ops a.tmps) = true → wantedBy qs o = true → (if Region.wanted o (yielded ops a.tmps) = true then o.wp P a w (wpAny P .any ops Q fuel (listed.setIfInBounds i true)) Q ∨ (o.asks P a w ∧ LetsOut Q) else wpAny P .any ops Q fuel (listed.setIfInBounds i true) (a.put o.dst undef) w) := by
            intro hwant hwb
            rw [if_pos hwant]
            refine .inl (Oper.wp_mono ?_ (hS.get i o hik (by rw [Array.getElem?_toList]; exact ho) hwb a w hK))
            rintro a' w' ⟨v, rfl, hb, hf⟩
            exact hnext v w' hb hf
          cases hg : o.guard with
          | none => exact hyes (by unfold Region.wanted; rw [hg]) (by unfold wantedBy; rw [hg])
          | some jb =>
            obtain ⟨j, b⟩ := jb
            obtain ⟨hdp, h2⟩ := guardsOk_spec hG i o j b hik (by rw [Array.getElem?_toList]; exact ho) hg
            rcases h2 with h2 | h2
            · refine hyes ?_ (by unfold wantedBy; rw [hg]; exact h2)
              unfold Region.wanted
              rw [hg]
              show (yielded ops a.tmps j == some b) = true
              rw [hyield j b b hg hdp (Fk.isBool_spec h2)]; simp
            · have hno : Region.wanted o (yielded ops a.tmps) = false := by
                unfold Region.wanted
                rw [hg]
                show (yielded ops a.tmps j == some b) = false
                rw [hyield j b (!b) hg hdp (Fk.isBool_spec h2.1)]; cases b <;> rfl
              rw [if_neg (by rw [hno]; simp)]
              exact hnext undef w (Below.refl _ _) (Fk.isAny_spec h2.2 _ _)
/-- A drawn region: its first operations by steps; then a store that may come ahead of number m, which only takes a value out; then the others. -/
theorem wp_region_late {id : Nat} {a0 : Act} {w : World} (qs : List Fk) (m dm : Nat) (so om : Oper) (rest : List Nat) (hm : P.follows .mixedOrders = true) (hk : decide (qs.length ≤ ops.size) = true) (hE : backOk ops.toList = true) (hC : coverBut ops.toList qs.length m = true) (hJ : chainOk ops (firstK qs.length ops.size) (qs.length :: rest) = true)
    (hJ2 : chainOk ops ((firstBut qs.length ops.size m).setIfInBounds qs.length true) (m :: rest) = true) (hso : ops[qs.length]? = some so) (hom : ops[m]? = some om) (hsf : storeFree so dm = true) (hmd : om.dst = some dm) (hmk : decide (m < qs.length) = true) (hmg : om.guard = none)
    (hD : dstsOk a0.tmps.size (ops.toList.take qs.length) = true) (hG : guardsOk ops.toList qs.length qs ops.toList qs = true)
    (hM : ∀ a w', Known ops.toList qs.length (fkAt qs) a0 w om a w' → ∃ v, (∀ w2, (execOp a.eval om).run P w2 = .ok (.value v) w2) ∧ fkAt qs m v w')
    (hS : Steps P Q ops.toList qs.length qs a0 w ops.toList qs)
    (hF : ∀ af w', Final ops.toList qs a0 af w' → Below w.heap.size w w' → ∃ w2, (execOp af.eval so).run P w' = .ok .skip w2 ∧ wpList P ops Q (rest.filterMap (ops[·]?)) af w2) :
    (Code.region id ops true).wp P Q a0 w := by
  refine wp_region_any hm ?_
  refine wp_mids_late m dm so om rest (of_decide_eq_true hk) hE hC hJ hJ2 hso hom hsf hmd hmk hmg hM hD hG hS hF ops.size _ a0 _ ?_ ?_ ?_
  · unfold unl
    exact Nat.le_trans (Array.countP_le_size) (by simp)
  · intro i o ho hl
    have : i < ops.size := (Array.getElem?_eq_some_iff.1 ho).1
    simp [this] at hl
  · refine ⟨rfl, rfl, by simp, fun _ _ => rfl, fun i o d _ ho _ hl => ?_, fun i _ hi => ?_, (Below.refl _ _).drew⟩
    · have : i < ops.size := (Array.getElem?_eq_some_iff.1 ho).1
      simp [this] at hl
    · simp [hi]
end
/-- A value that is taken out of a tuple. -/
theorem late_ext {P : Program} {a : Act} {o : Oper} {x : Operand} {k : Nat} {vs : Array Value} {v : Value} (ho : o.op = .extract x k) (hx : a.eval x = .tuple vs) (hk : vs[k]? = some v) : ∀ w, (execOp a.eval o).run P w = .ok (.value v) w := by
  intro w
  unfold execOp
  rw [ho]
  simp [hx, Instr.extract, hk]
theorem run_str {P : Program} {o : Oper} {a : Act} {w : World} (ty : TypeId) (x y : Operand) (ho : o.op = .store ty x y) (g : Nat) (cells : Array Value) (hx : a.eval x = .pointer (some ⟨g, 0, none⟩)) (hy : a.eval y = .agg cells)
    (t : TypeId) (old : Array Value) (hg : w.heap[g]? = some (.cells old t (0, 0))) (hi : (P.info? ty).map (·.size) = some cells.size) (hold : old.size = cells.size) (h1 : cells.all (·.oneCell') = true) : (execOp a.eval o).run P w = .ok .skip (w.setRow g cells) := by
  have := run_storeVar_row (P := P) w g t ty old cells hg hi hold h1
  unfold execOp
  rw [ho]
  simp [hx, hy, Instr.storeAt, Instr.sureAddr, this]
theorem run_store23 {o : Oper} {a : Act} {w : World} (x y : Operand) (ho : o.op = .store 23 x y) (g : Nat) (zs ys : List (BitVec 8)) (hx : a.eval x = .pointer (some ⟨g, 0, none⟩)) (hy : a.eval y = .agg (zs.map V).toArray) (hv : Ob w g 23 (ys.map V)) (hl : ys.length = 32) (hz : zs.length = 32) :
    (execOp a.eval o).run Tryd.prog w = .ok .skip (w.setRow g (zs.map V).toArray) :=
  run_str 23 x y ho g _ hx hy 23 _ hv (by rw [List.size_toArray, List.length_map, hz]; exact Tryd.size23) (by simp [hl, hz]) (V_all _)
end Go.Proofs.YtnanipeapjpkfaaDoor
