/- Append of package compact. Root of package compact. Drawn regions with guards, a call that turns an object in their midst: operations one by one, each guard told. -/
import Derived.Test.YtnppjlpnfijobaaDoorM7
import Derived.Test.YtnppjlpnfijobaaDoorM3
namespace Go.Proofs.YtnppjlpnfijobaaDoor
set_option maxRecDepth 100000
open Go.RowKit
theorem fk_app_no {w : World} {g k n : Nat} {P : List (List (BitVec 8))} (hr : HR w g k n P) {M : List (List (BitVec 8))} {v : Value} (hv : (Fk.hc M).f v w) (_hM : M.length ≤ 1000) (hn : 1048576 < n + M.length) :
    Calls Tryd.prog 9 #[.pointer (some ⟨g, 0, none⟩), v] w fun e w' => ∃ u, e = .returned u ∧ (Fk.eq (.int .i64 12)).f u w' ∧ Below w.heap.size w w' := by
  obtain ⟨vp, m0, hvp⟩ := hr.row
  have hvs9 := hc_hs hv
  have hn9 := hr.n
  go_enter Tryd.func9, Tryd.ntmps9
  refine code_both (fun f w1 => f.tmps.size = 25 ∧ f.defers = [] ∧ f.eval (.tmp 0) = .pointer (some ⟨g, 0, none⟩) ∧ f.eval (.tmp 1) = v ∧ Below w.heap.size w (w1)) ⟨rfl, rfl, rfl, rfl, Below.refl _ _⟩ ?_
  rintro f0 w0 ⟨sz, df, x0, x1, bl⟩
  have bl0 := bl
  refine wp_seq ?_
  refine wp_all_seq [.eq (.int .i64 0)] (by kernel_rfl) (by kernel_rfl) (by rw [sz]; kernel_rfl) (by kernel_rfl) ⟨fun hw ac u K => ?_, trivial⟩ ?_
  · exact st_assign (.const (.int .i64 0)) rfl rfl
  intro f1 w1 A hb
  replace bl0 := bl
  replace x0 := (A.old 0 rfl).trans x0
  replace x1 := (A.old 1 rfl).trans x1
  have x4 : f1.eval (.tmp 4) = .int .i64 0 := A.has 0 4 rfl
  replace bl := (bl.trans (Below.mono hb bl.size))
  replace sz := A.size.trans sz
  replace df := A.defs.trans df
  clear A hb
  show Code.wp _ _ _ _ _
  refine wp_seq ?_
  refine wp_seq ?_
  refine wp_all_seq [.eq (v), .eq (.int .i64 (((M).length : Nat) : Int)), .eq (.pointer (some ⟨g, 0, none⟩)), .eq (.pointer (some ⟨g, 0, none⟩)), .eq (.pointer (some ⟨g, 0, none⟩)), .eq (.int .i64 ((n : Nat) : Int)), .eq (.int .i64 ((1048576 - n : Nat) : Int)), .eq (.bool true)] (by kernel_rfl) (by kernel_rfl) (by rw [sz]; kernel_rfl) (by kernel_rfl) ⟨fun hw ac u K => ?_, fun hw ac u K => ?_, fun hw ac u K => ?_, fun hw ac u K => ?_, fun hw ac u K => ?_, fun hw ac u K => ?_, fun hw ac u K => ?_, fun hw ac u K => ?_, trivial⟩ ?_
  · exact st_move (.tmp 1) rfl ((K.old 1 rfl).trans x1)
  · exact st_lenc (.tmp 7) rfl ((M).length) rfl (fk_val (K.dep 0 7 rfl) (Fk.mono _ _ _ _ hv (bl.trans (Below.mono K.grow bl.size))))
  · exact st_move (.tmp 0) rfl ((K.old 0 rfl).trans x0)
  · exact st_nil (.tmp 9) rfl (K.dep 2 9 rfl)
  · exact st_field 51 0 (.tmp 10) rfl (K.dep 3 10 rfl) (by kernel_rfl)
  · exact st_loadc 3 (.tmp 11) rfl (by kernel_rfl) (K.dep 4 11 rfl) (Ob.cell (Ob.below m0 (bl.trans (Below.mono K.grow bl.size))) 0 rfl)
  · exact st_subz (.const (.int .i64 1048576)) (.tmp 12) rfl _ _ _ rfl (K.dep 5 12 rfl) (by omega) (by omega) (by omega)
  · exact st_gtr 3 (.tmp 8) (.tmp 13) rfl .i64 ((((M).length : Nat) : Int)) (((1048576 - n : Nat) : Int)) (K.dep 1 8 rfl) (K.dep 6 13 rfl) _ (by rw [eq_comm, decide_eq_true_iff]; omega)
  intro f2 w2 A hb
  replace bl0 := bl
  replace x0 := (A.old 0 rfl).trans x0
  replace x1 := (A.old 1 rfl).trans x1
  replace x4 := (A.old 4 rfl).trans x4
  have x14 : f2.eval (.tmp 14) = .bool true := A.has 7 14 rfl
  replace bl := (bl.trans (Below.mono hb bl.size))
  replace sz := A.size.trans sz
  replace df := A.defs.trans df
  clear A hb
  show Code.wp _ _ _ _ _
  refine wp_cond_true x14 ?_
  refine wp_seq ?_
  refine wp_all_seq [.eq (.int .i64 12)] (by kernel_rfl) (by kernel_rfl) (by rw [sz]; kernel_rfl) (by kernel_rfl) ⟨fun hw ac u K => ?_, trivial⟩ ?_
  · exact st_assign (.const (.int .i64 12)) rfl rfl
  intro f3 w3 A hb
  replace bl0 := bl
  replace x0 := (A.old 0 rfl).trans x0
  replace x1 := (A.old 1 rfl).trans x1
  clear x4
  replace x14 := (A.old 14 rfl).trans x14
  have x4 : f3.eval (.tmp 4) = .int .i64 12 := A.has 0 4 rfl
  replace bl := (bl.trans (Below.mono hb bl.size))
  replace sz := A.size.trans sz
  replace df := A.defs.trans df
  clear A hb
  show Code.wp _ _ _ _ _
  refine wp_ret ?_
  repeat (first | with_reducible refine then_ret ?_ | with_reducible refine block_ret ?_)
  exact bodyPost_ret (v := .int .i64 12) (ret_slot rfl f3 _ x4 _ _) df ⟨_, rfl, rfl, bl⟩
theorem c_app_ok {w : World} {g k n : Nat} {P : List (List (BitVec 8))} (hr : HR w g k n P) {M : List (List (BitVec 8))} {v : Value} (hv : (Fk.hc M).f v w) (_hM : M.length ≤ 1000) (hn : n + M.length ≤ 1048576) (hK : Tab w) {n2 : Nat} {P2 : List (List (BitVec 8))} (hg : grl (n, P) M = (n2, P2)) (hap : 0 < M.length → v.ownBlock ≠ some g ∧ v.ownBlock ≠ some k) (h00 : 2 < g ∧ 2 < k) :
    Calls Tryd.prog 9 #[.pointer (some ⟨g, 0, none⟩), v] w fun e w' => e = .returned (.int .i64 0) ∧ (∃ k', HR w' g k' n2 P2 ∧ (k' = k ∨ w.heap.size ≤ k')) ∧ Kp g k w w' := by
  obtain ⟨vp, m0, hvp⟩ := hr.row
  have hvs9 := hc_hs hv
  have hn9 := hr.n
  go_enter Tryd.func9, Tryd.ntmps9
  refine code_both (fun f w1 => f.tmps.size = 25 ∧ f.defers = [] ∧ f.eval (.tmp 0) = .pointer (some ⟨g, 0, none⟩) ∧ f.eval (.tmp 1) = v ∧ Below w.heap.size w (w1)) ⟨rfl, rfl, rfl, rfl, Below.refl _ _⟩ ?_
  rintro f0 w0 ⟨sz, df, x0, x1, bl⟩
  have bl0 := bl
  refine wp_seq ?_
  refine wp_all_seq [.eq (.int .i64 0)] (by kernel_rfl) (by kernel_rfl) (by rw [sz]; kernel_rfl) (by kernel_rfl) ⟨fun hw ac u K => ?_, trivial⟩ ?_
  · exact st_assign (.const (.int .i64 0)) rfl rfl
  intro f1 w1 A hb
  replace bl0 := bl
  replace x0 := (A.old 0 rfl).trans x0
  replace x1 := (A.old 1 rfl).trans x1
  have x4 : f1.eval (.tmp 4) = .int .i64 0 := A.has 0 4 rfl
  replace bl := (bl.trans (Below.mono hb bl.size))
  replace sz := A.size.trans sz
  replace df := A.defs.trans df
  clear A hb
  show Code.wp _ _ _ _ _
  refine wp_seq ?_
  refine wp_seq ?_
  refine wp_all_seq [.eq (v), .eq (.int .i64 (((M).length : Nat) : Int)), .eq (.pointer (some ⟨g, 0, none⟩)), .eq (.pointer (some ⟨g, 0, none⟩)), .eq (.pointer (some ⟨g, 0, none⟩)), .eq (.int .i64 ((n : Nat) : Int)), .eq (.int .i64 ((1048576 - n : Nat) : Int)), .eq (.bool false)] (by kernel_rfl) (by kernel_rfl) (by rw [sz]; kernel_rfl) (by kernel_rfl) ⟨fun hw ac u K => ?_, fun hw ac u K => ?_, fun hw ac u K => ?_, fun hw ac u K => ?_, fun hw ac u K => ?_, fun hw ac u K => ?_, fun hw ac u K => ?_, fun hw ac u K => ?_, trivial⟩ ?_
  · exact st_move (.tmp 1) rfl ((K.old 1 rfl).trans x1)
  · exact st_lenc (.tmp 7) rfl ((M).length) rfl (fk_val (K.dep 0 7 rfl) (Fk.mono _ _ _ _ hv (bl.trans (Below.mono K.grow bl.size))))
  · exact st_move (.tmp 0) rfl ((K.old 0 rfl).trans x0)
  · exact st_nil (.tmp 9) rfl (K.dep 2 9 rfl)
  · exact st_field 51 0 (.tmp 10) rfl (K.dep 3 10 rfl) (by kernel_rfl)
  · exact st_loadc 3 (.tmp 11) rfl (by kernel_rfl) (K.dep 4 11 rfl) (Ob.cell (Ob.below m0 (bl.trans (Below.mono K.grow bl.size))) 0 rfl)
  · exact st_subz (.const (.int .i64 1048576)) (.tmp 12) rfl _ _ _ rfl (K.dep 5 12 rfl) (by omega) (by omega) (by omega)
  · exact st_gtr 3 (.tmp 8) (.tmp 13) rfl .i64 ((((M).length : Nat) : Int)) (((1048576 - n : Nat) : Int)) (K.dep 1 8 rfl) (K.dep 6 13 rfl) _ (by rw [eq_comm, decide_eq_false_iff_not]; omega)
  intro f2 w2 A hb
  replace bl0 := bl
  replace x0 := (A.old 0 rfl).trans x0
  replace x1 := (A.old 1 rfl).trans x1
  replace x4 := (A.old 4 rfl).trans x4
  have x14 : f2.eval (.tmp 14) = .bool false := A.has 7 14 rfl
  replace bl := (bl.trans (Below.mono hb bl.size))
  replace sz := A.size.trans sz
  replace df := A.defs.trans df
  clear A hb
  show Code.wp _ _ _ _ _
  refine wp_cond_false x14 ?_
  refine wp_skip ?_
  show Code.wp _ _ _ _ _
  refine wp_seq ?_
  refine wp_seq ?_
  refine wp_all_seq [.eq (v), .eq (.int .i64 (((M).length : Nat) : Int)), .eq (.int .i64 0)] (by kernel_rfl) (by kernel_rfl) (by rw [sz]; kernel_rfl) (by kernel_rfl) ⟨fun hw ac u K => ?_, fun hw ac u K => ?_, fun hw ac u K => ?_, trivial⟩ ?_
  · exact st_move (.tmp 1) rfl ((K.old 1 rfl).trans x1)
  · exact st_lenc (.tmp 15) rfl ((M).length) rfl (fk_val (K.dep 0 15 rfl) (Fk.mono _ _ _ _ hv (bl.trans (Below.mono K.grow bl.size))))
  · exact st_move (.const (.int .i64 0)) rfl rfl
  intro f3 w3 A hb
  replace bl0 := bl
  replace x0 := (A.old 0 rfl).trans x0
  replace x1 := (A.old 1 rfl).trans x1
  replace x4 := (A.old 4 rfl).trans x4
  replace x14 := (A.old 14 rfl).trans x14
  have x15 : f3.eval (.tmp 15) = v := A.has 0 15 rfl
  have x16 : f3.eval (.tmp 16) = .int .i64 (((M).length : Nat) : Int) := A.has 1 16 rfl
  have x17 : f3.eval (.tmp 17) = .int .i64 0 := A.has 2 17 rfl
  replace bl := (bl.trans (Below.mono hb bl.size))
  replace sz := A.size.trans sz
  replace df := A.defs.trans df
  clear A hb
  have hvF : ∀ {W : World}, Kp g k w W → (Fk.hc M).f v W := fun h => hc_kp hv hap h
  have hvsF : ∀ {W : World}, Kp g k w W → (Fk.hs M).f v W := fun h => hc_hs (hc_kp hv hap h)
  replace hr : HR w3 g k n P := hr.mono (by first | exact bl | exact bl.mono (Nat.le_refl _))
  have blk := Kp.of_below g k bl
  clear bl bl0 m0 hv hvs9
  have bl := blk
  clear blk
  have bl0 := bl
  show Code.wp _ _ _ _ _
  refine wp_block ?_
  refine wp_loop (fun f v1 => ∃ (i km : Nat), i ≤ M.length ∧ (km = k ∨ w.heap.size ≤ km) ∧ f.tmps.size = 25 ∧ f.defers = [] ∧ f.eval (.tmp 0) = .pointer (some ⟨g, 0, none⟩) ∧ f.eval (.tmp 1) = v ∧ f.eval (.tmp 4) = .int .i64 0 ∧ f.eval (.tmp 14) = .bool false ∧ f.eval (.tmp 15) = v ∧ f.eval (.tmp 16) = .int .i64 (((M).length : Nat) : Int) ∧ f.eval (.tmp 17) = .int .i64 ((i : Nat) : Int) ∧ HR v1 g km (n + i) (grl (n, P) (M.take i)).2 ∧ Kp g k w (v1)) (fun f _ => M.length - (intOf (f.eval (.tmp 17))).toNat) ⟨0, k, Nat.zero_le _, .inl rfl, sz, df, x0, x1, x4, x14, x15, x16, x17, hr, bl⟩ ?_
  intro f4 w4 hI
  clear sz df bl bl0 x0 x1 x4 x14 x15 x16 x17 hr
  obtain ⟨i, km, hi, hkm, sz, df, x0, x1, x4, x14, x15, x16, x17, hr, bl⟩ := hI
  have bl0 := bl
  have hcnt := x17
  refine wp_seq ?_
  by_cases hlt : i < M.length
  rotate_left
  · skip
    have hie : i = M.length := by omega
    rw [hie, List.take_length, hg] at hr
    refine wp_all_seq [.eq (.bool false)] (by kernel_rfl) (by kernel_rfl) (by rw [sz]; kernel_rfl) (by kernel_rfl) ⟨fun hw ac u K => ?_, trivial⟩ ?_
    · exact st_lss 3 (.tmp 17) (.tmp 16) rfl .i64 (((i : Nat) : Int)) ((((M).length : Nat) : Int)) ((K.old 17 rfl).trans x17) ((K.old 16 rfl).trans x16) _ (by rw [eq_comm, decide_eq_false_iff_not]; exact fun h => hlt (Int.ofNat_lt.1 h))
    intro f5 w5 A hb
    replace bl0 := bl
    replace x0 := (A.old 0 rfl).trans x0
    replace x1 := (A.old 1 rfl).trans x1
    replace x4 := (A.old 4 rfl).trans x4
    replace x14 := (A.old 14 rfl).trans x14
    replace x15 := (A.old 15 rfl).trans x15
    replace x16 := (A.old 16 rfl).trans x16
    replace x17 := (A.old 17 rfl).trans x17
    have x18 : f5.eval (.tmp 18) = .bool false := A.has 0 18 rfl
    replace hr := HR.mono hr hb
    replace bl := (Kp.grow bl hb)
    replace sz := A.size.trans sz
    replace df := A.defs.trans df
    clear A hb
    show Code.wp _ _ _ _ _
    refine wp_seq ?_
    refine wp_cond_false x18 ?_
    refine wp_exit ?_
    show Code.wp _ _ _ _ _
    refine wp_seq ?_
    refine wp_all_seq [.eq (.int .i64 0)] (by kernel_rfl) (by kernel_rfl) (by rw [sz]; kernel_rfl) (by kernel_rfl) ⟨fun hw ac u K => ?_, trivial⟩ ?_
    · exact st_assign (.const (.int .i64 0)) rfl rfl
    intro f6 w6 A hb
    replace bl0 := bl
    replace x0 := (A.old 0 rfl).trans x0
    replace x1 := (A.old 1 rfl).trans x1
    clear x4
    replace x14 := (A.old 14 rfl).trans x14
    replace x15 := (A.old 15 rfl).trans x15
    replace x16 := (A.old 16 rfl).trans x16
    replace x17 := (A.old 17 rfl).trans x17
    replace x18 := (A.old 18 rfl).trans x18
    have x4 : f6.eval (.tmp 4) = .int .i64 0 := A.has 0 4 rfl
    replace hr := HR.mono hr hb
    replace bl := (Kp.grow bl hb)
    replace sz := A.size.trans sz
    replace df := A.defs.trans df
    clear A hb
    show Code.wp _ _ _ _ _
    refine wp_ret ?_
    repeat (first | with_reducible refine then_ret ?_ | with_reducible refine block_ret ?_)
    exact bodyPost_ret (v := .int .i64 0) (ret_slot rfl f6 _ x4 _ _) df ⟨rfl, ⟨km, by rw [show n2 = n + M.length from by have := congrArg Prod.fst hg; rw [grl_fst] at this; exact this.symm]; exact hr, hkm⟩, bl⟩
  obtain ⟨h, hhk⟩ : ∃ p, M[i]? = some p := ⟨_, List.getElem?_eq_getElem hlt⟩
  have hh : h.length = 32 := hc_len (hvF bl) h (List.mem_of_getElem? hhk)
  refine wp_all_seq [.eq (.bool true)] (by kernel_rfl) (by kernel_rfl) (by rw [sz]; kernel_rfl) (by kernel_rfl) ⟨fun hw ac u K => ?_, trivial⟩ ?_
  · exact st_lss 3 (.tmp 17) (.tmp 16) rfl .i64 (((i : Nat) : Int)) ((((M).length : Nat) : Int)) ((K.old 17 rfl).trans x17) ((K.old 16 rfl).trans x16) _ (by rw [eq_comm, decide_eq_true_iff]; exact Int.ofNat_lt.2 hlt)
  intro f5 w5 A hb
  replace bl0 := bl
  replace x0 := (A.old 0 rfl).trans x0
  replace x1 := (A.old 1 rfl).trans x1
  replace x4 := (A.old 4 rfl).trans x4
  replace x14 := (A.old 14 rfl).trans x14
  replace x15 := (A.old 15 rfl).trans x15
  replace x16 := (A.old 16 rfl).trans x16
  replace x17 := (A.old 17 rfl).trans x17
  have x18 : f5.eval (.tmp 18) = .bool true := A.has 0 18 rfl
  replace hr := HR.mono hr hb
  replace bl := (Kp.grow bl hb)
  replace sz := A.size.trans sz
  replace df := A.defs.trans df
  clear A hb
  show Code.wp _ _ _ _ _
  refine wp_seq ?_
  refine wp_cond_true x18 ?_
  refine wp_skip ?_
  show Code.wp _ _ _ _ _
  refine wp_seq ?_
  refine wp_block ?_
  refine wp_seq ?_
  refine wp_region_seq [.ph (h), .eq (.agg ((h).map V).toArray), .nw w5.heap.size 33 ((hz).map V)] (by kernel_rfl) (by kernel_rfl) (by rw [sz]; kernel_rfl) (by kernel_rfl) ⟨fun hw ac u K => ?_, fun hw ac u K => ?_, fun hw ac u K => ?_, trivial⟩ ?_
  · exact st_idxh (.tmp 15) (.tmp 17) rfl (fk_val ((K.old 15 rfl).trans x15) (hvsF (Kp.grow bl K.grow))) (i) (h) ((K.old 17 rfl).trans x17) hhk
  · exact st_loadh (.tmp 19) rfl (K.dep 0 19 rfl)
  · exact st_alloc33 rfl _ K.grow.size
  intro f6 w6 A hb
  have S_hr := hr
  have hbS0 := Below.refl w5.heap.size w5
  have hbS := hb
  replace bl0 := bl
  replace x0 := (A.old 0 rfl).trans x0
  replace x1 := (A.old 1 rfl).trans x1
  replace x4 := (A.old 4 rfl).trans x4
  replace x14 := (A.old 14 rfl).trans x14
  replace x15 := (A.old 15 rfl).trans x15
  replace x16 := (A.old 16 rfl).trans x16
  replace x17 := (A.old 17 rfl).trans x17
  replace x18 := (A.old 18 rfl).trans x18
  have x6 : Fk.f (.nw w5.heap.size 33 ((hz).map V)) (f6.eval (.tmp 6)) w6 := A.has 2 6 rfl
  have x20 : f6.eval (.tmp 20) = .agg ((h).map V).toArray := A.has 1 20 rfl
  replace hr := HR.mono hr hb
  replace bl := (Kp.grow bl hb)
  replace sz := A.size.trans sz
  replace df := A.defs.trans df
  clear A hb
  obtain ⟨g6, hg6, e6, m6⟩ := x6
  have x6 := e6
  clear e6
  have hw6 : w.heap.size ≤ g6 := Nat.le_trans bl0.size hg6
  have hs6 := Nat.le_trans hbS0.size hg6
  refine wl_store rfl (.tmp 6) (.tmp 20) rfl rfl (g6) (h) (hz) x6 x20 m6 hz_len hh ?_
  replace m6 : Ob (w6.setRow g6 ((h).map V : List Value).toArray) (g6) 33 ((h).map V) := Ob.setRow m6 ((h).map V)
  replace hbS : Below _ _ (w6.setRow g6 ((h).map V : List Value).toArray) := hbS.trans (below_setRow _ _ _ _ hs6)
  replace hr := HR.mono S_hr hbS
  replace bl : Kp g k w (w6.setRow g6 ((h).map V : List Value).toArray) := bl.setRow_new hw6 _
  generalize w6.setRow g6 ((h).map V : List Value).toArray = w7b at bl m6 hr hbS ⊢
  refine wpList_nil ?_
  clear hbS hbS0 S_hr
  clear x20
  show Code.wp _ _ _ _ _
  refine wp_region_seq [.eq (.pointer (some ⟨g, 0, none⟩)), .eq (.agg ((h).map V).toArray)] (by kernel_rfl) (by kernel_rfl) (by rw [sz]; kernel_rfl) (by kernel_rfl) ⟨fun hw ac u K => ?_, fun hw ac u K => ?_, trivial⟩ ?_
  · exact st_move (.tmp 0) rfl ((K.old 0 rfl).trans x0)
  · exact st_load33 (.tmp 6) rfl (g6) (h) ((K.old 6 rfl).trans x6) hh (Ob.below m6 K.grow)
  intro f8 w8 A hb
  replace bl0 := bl
  replace x0 := (A.old 0 rfl).trans x0
  replace x1 := (A.old 1 rfl).trans x1
  replace x4 := (A.old 4 rfl).trans x4
  replace x14 := (A.old 14 rfl).trans x14
  replace x15 := (A.old 15 rfl).trans x15
  replace x16 := (A.old 16 rfl).trans x16
  replace x17 := (A.old 17 rfl).trans x17
  replace x18 := (A.old 18 rfl).trans x18
  replace x6 := (A.old 6 rfl).trans x6
  have x21 : f8.eval (.tmp 21) = .pointer (some ⟨g, 0, none⟩) := A.has 0 21 rfl
  have x22 : f8.eval (.tmp 22) = .agg ((h).map V).toArray := A.has 1 22 rfl
  have lt_m6 := Ob.lt m6
  replace m6 := Ob.below m6 hb
  replace hr := HR.mono hr hb
  replace bl := (Kp.grow bl hb)
  replace sz := A.size.trans sz
  replace df := A.defs.trans df
  clear A hb
  have hgr := grow_any hr hh (by omega) (tab_kp hK h00 bl) h00.1
  have hbs := bl.size
  refine wl_call 23 (.func 23) _ _ #[.pointer (some ⟨g, 0, none⟩), .agg ((h).map V).toArray] rfl 23 rfl (by rw [sz]; decide) rfl rfl (arg2 x21 x22) Tryd.enter23 (fun z W' => z = .tuple #[] ∧ (∃ k', HR W' g k' (n + i + 1) (gr1 (n + i, (grl (n, P) (M.take i)).2) h).2 ∧ (k' = km ∨ w8.heap.size ≤ k')) ∧ Kp g km w8 W') (hgr.mono (by rintro e w' ⟨rfl, h1, h2⟩; exact ⟨_, rfl, rfl, h1, h2⟩)) ?_
  intro f9 w9 df2 sz2 old2 hR2
  obtain ⟨x23, ⟨k9, hr2, hk2⟩, hkp⟩ := hR2
  clear hgr
  replace x0 := (old2 0 rfl).trans x0
  replace x1 := (old2 1 rfl).trans x1
  replace x4 := (old2 4 rfl).trans x4
  replace x14 := (old2 14 rfl).trans x14
  replace x15 := (old2 15 rfl).trans x15
  replace x16 := (old2 16 rfl).trans x16
  replace x17 := (old2 17 rfl).trans x17
  replace x18 := (old2 18 rfl).trans x18
  replace x6 := (old2 6 rfl).trans x6
  replace x21 := (old2 21 rfl).trans x21
  replace x22 := (old2 22 rfl).trans x22
  have hkm2 : k9 = k ∨ w.heap.size ≤ k9 := by
    rcases hk2 with e | e
    · rw [e]; exact hkm
    · exact .inr (Nat.le_trans hbs e)
  clear m6
  have hr3 : HR w9 g k9 (n + (i + 1)) (grl (n, P) (M.take (i + 1))).2 := by
    have e1 : grl (n, P) (M.take i) = (n + i, (grl (n, P) (M.take i)).2) := Prod.ext (by rw [grl_fst, List.length_take]; show n + min i M.length = n + i; omega) rfl
    rw [grl_take _ hhk, e1]
    exact hr2
  clear hr hr2
  have hr := hr3
  clear hr3
  replace bl := bl.step hkp hkm
  replace bl0 := bl
  replace sz := sz2.trans sz
  replace df := df2.trans df
  clear df2 sz2 old2 hkp hk2 hbs
  refine wpList_nil ?_
  clear x21
  clear x22
  clear x23
  show Code.wp _ _ _ _ _
  refine wp_region_seq [.eq (.int .i64 ((i + 1 : Nat) : Int))] (by kernel_rfl) (by kernel_rfl) (by rw [sz]; kernel_rfl) (by kernel_rfl) ⟨fun hw ac u K => ?_, trivial⟩ ?_
  · exact st_add (.tmp 17) (.const (.int .i64 1)) rfl (i) (1) (i + 1) ((K.old 17 rfl).trans x17) rfl (by omega) (by omega)
  intro f10 w10 A hb
  replace bl0 := bl
  replace x0 := (A.old 0 rfl).trans x0
  replace x1 := (A.old 1 rfl).trans x1
  replace x4 := (A.old 4 rfl).trans x4
  replace x14 := (A.old 14 rfl).trans x14
  replace x15 := (A.old 15 rfl).trans x15
  replace x16 := (A.old 16 rfl).trans x16
  replace x17 := (A.old 17 rfl).trans x17
  replace x18 := (A.old 18 rfl).trans x18
  replace x6 := (A.old 6 rfl).trans x6
  have x24 : f10.eval (.tmp 24) = .int .i64 ((i + 1 : Nat) : Int) := A.has 0 24 rfl
  replace hr := HR.mono hr hb
  replace bl := (Kp.grow bl hb)
  replace sz := A.size.trans sz
  replace df := A.defs.trans df
  clear A hb
  refine wl_one (.eq (.int .i64 ((i + 1 : Nat) : Int))) rfl 17 rfl (by rw [sz]; decide) (st_move (.tmp 24) rfl x24) ?_
  intro f11 w11 df2 sz2 old2 new2 hb
  replace bl0 := bl
  replace x0 := (old2 0 rfl).trans x0
  replace x1 := (old2 1 rfl).trans x1
  replace x4 := (old2 4 rfl).trans x4
  replace x14 := (old2 14 rfl).trans x14
  replace x15 := (old2 15 rfl).trans x15
  replace x16 := (old2 16 rfl).trans x16
  clear x17
  replace x18 := (old2 18 rfl).trans x18
  replace x6 := (old2 6 rfl).trans x6
  replace x24 := (old2 24 rfl).trans x24
  have x17 : f11.eval (.tmp 17) = .int .i64 ((i + 1 : Nat) : Int) := new2
  replace hr := HR.mono hr hb
  replace bl := (Kp.grow bl hb)
  replace sz := sz2.trans sz
  replace df := df2.trans df
  clear df2 sz2 old2 new2 hb
  refine wpList_nil ?_
  clear x24
  show (∃ _, _) ∧ _
  refine ⟨⟨i + 1, k9, (by omega), hkm2, sz, df, x0, x1, x4, x14, x15, x16, x17, hr, bl⟩, ?_⟩
  rw [show f11.eval (.tmp 17) = _ from x17, show _ = _ from hcnt]
  simp [intOf]
  omega
end Go.Proofs.YtnppjlpnfijobaaDoor
namespace Go.Proofs.YtnppjlpnfijobaaDoor
set_option maxRecDepth 100000
open Go.RowKit
theorem jn_gw (P : List (List (BitVec 8))) {y0 : List (BitVec 8)} (h0 : P.getD (P.length - 1) [] = y0) (k : Nat) : k ≤ P.length - 1 → jn P k = gw (P.take (P.length - 1)) y0 k := by
  induction k with
  | zero => intro _; exact h0
  | succ k ih =>
    intro hk
    have hl : (P.take (P.length - 1)).length = P.length - 1 := by rw [List.length_take]; omega
    show nd (P.getD (P.length - 1 - 1 - k) []) (jn P k) = nd ((P.take (P.length - 1)).getD ((P.take (P.length - 1)).length - k - 1) []) (gw (P.take (P.length - 1)) y0 k)
    rw [ih (by omega), hl, getD_take (by omega), show P.length - 1 - k - 1 = P.length - 1 - 1 - k by omega]
theorem pcn_some (n : Nat) : n ≠ 0 → 1 ≤ pcn n := by
  induction n using Nat.strongRecOn with
  | ind n ih =>
    intro h
    rw [pcn_pos h]
    by_cases h2 : n % 2 = 1
    · omega
    · have := ih (n / 2) (by omega) (by omega)
      omega
theorem fk_rroot {w : World} {g k n : Nat} {P : List (List (BitVec 8))} (hr : HR w g k n P) (hK : Tab w) {y : List (BitVec 8)} (ey : Box (rtp P = y)) :
    Calls Tryd.prog 15 #[.pointer (some ⟨g, 0, none⟩)] w fun e w' => ∃ u, e = .returned u ∧ (Fk.eq (.agg ((y).map V).toArray)).f u w' ∧ Below w.heap.size w w' := by
  obtain ⟨v, m0, hv⟩ := hr.row
  have hvc := ow_hc hv
  have hvs := ow_hs hv
  have hl21 := hr.len
  have hPn := hr.pcn
  have hnil := sl_nil w
  have hy : y.length = 32 := by
    rw [← ey.out]
    unfold rtp
    split
    · exact shaOf_len _
    · rename_i h1
      have h2 := List.length_pos_iff.2 h1
      exact jn_len h2 hr.h32 _
  go_enter Tryd.func15, Tryd.ntmps15
  refine code_both (fun f w1 => f.tmps.size = 30 ∧ f.defers = [] ∧ f.eval (.tmp 0) = .pointer (some ⟨g, 0, none⟩) ∧ Below w.heap.size w (w1)) ⟨rfl, rfl, rfl, Below.refl _ _⟩ ?_
  rintro f0 w0 ⟨sz, df, x0, bl⟩
  have bl0 := bl
  refine wp_seq ?_
  refine wp_all_seq [.nw w0.heap.size 33 ((hz).map V)] (by kernel_rfl) (by kernel_rfl) (by rw [sz]; kernel_rfl) (by kernel_rfl) ⟨fun hw ac u K => ?_, trivial⟩ ?_
  · exact st_alloc33 rfl _ K.grow.size
  intro f1 w1 A hb
  replace bl0 := bl
  replace x0 := (A.old 0 rfl).trans x0
  have x2 : Fk.f (.nw w0.heap.size 33 ((hz).map V)) (f1.eval (.tmp 2)) w1 := A.has 0 2 rfl
  replace bl := (bl.trans (Below.mono hb bl.size))
  replace sz := A.size.trans sz
  replace df := A.defs.trans df
  clear A hb
  obtain ⟨g2, hg2, e2, m2⟩ := x2
  have x2 := e2
  clear e2
  have nm0_2 : g ≠ g2 := Nat.ne_of_lt (Nat.lt_of_lt_of_le (Ob.lt m0) (Nat.le_trans bl0.size hg2))
  have hw2 : w.heap.size ≤ g2 := Nat.le_trans bl0.size hg2
  show Code.wp _ _ _ _ _
  refine wp_seq ?_
  refine wp_seq ?_
  by_cases hn0 : n = 0
  rotate_left
  · skip
    have hp1 := pcn_some n hn0
    have hP1 : P ≠ [] := fun e => by rw [e] at hPn; simp at hPn; omega
    obtain ⟨y0, hy0k⟩ : ∃ x, P[P.length - 1]? = some x := ⟨_, List.getElem?_eq_getElem (by omega)⟩
    have hy0 : y0.length = 32 := hr.h32 y0 (List.mem_of_getElem? hy0k)
    have htl : (P.take (P.length - 1)).length = P.length - 1 := by rw [List.length_take]; omega
    have eJ : Box (gw (P.take (P.length - 1)) y0 (P.take (P.length - 1)).length = y) := ⟨by rw [htl, ← jn_gw P (getD_at hy0k) _ (Nat.le_refl _), ← ey.out]; unfold rtp; rw [if_neg hP1]⟩
    refine wp_all_seq [.eq (.pointer (some ⟨g, 0, none⟩)), .eq (.pointer (some ⟨g, 0, none⟩)), .eq (.pointer (some ⟨g, 0, none⟩)), .eq (.int .i64 ((n : Nat) : Int)), .eq (.bool false)] (by kernel_rfl) (by kernel_rfl) (by rw [sz]; kernel_rfl) (by kernel_rfl) ⟨fun hw ac u K => ?_, fun hw ac u K => ?_, fun hw ac u K => ?_, fun hw ac u K => ?_, fun hw ac u K => ?_, trivial⟩ ?_
    · exact st_move (.tmp 0) rfl ((K.old 0 rfl).trans x0)
    · exact st_nil (.tmp 4) rfl (K.dep 0 4 rfl)
    · exact st_field 51 0 (.tmp 5) rfl (K.dep 1 5 rfl) (by kernel_rfl)
    · exact st_loadc 3 (.tmp 6) rfl (by kernel_rfl) (K.dep 2 6 rfl) (Ob.cell (Ob.below m0 (bl.trans (Below.mono K.grow bl.size))) 0 rfl)
    · exact st_eqi 3 (.tmp 7) (.const (.int .i64 0)) rfl .i64 (((n : Nat) : Int)) (0) (K.dep 3 7 rfl) rfl _ (by rw [eq_comm, decide_eq_false_iff_not]; omega)
    intro f2 w2 A hb
    replace bl0 := bl
    replace x0 := (A.old 0 rfl).trans x0
    replace x2 := (A.old 2 rfl).trans x2
    have x8 : f2.eval (.tmp 8) = .bool false := A.has 4 8 rfl
    have lt_m2 := Ob.lt m2
    replace m2 := Ob.below m2 hb
    replace bl := (bl.trans (Below.mono hb bl.size))
    replace sz := A.size.trans sz
    replace df := A.defs.trans df
    clear A hb
    show Code.wp _ _ _ _ _
    refine wp_cond_false x8 ?_
    refine wp_skip ?_
    show Code.wp _ _ _ _ _
    refine wp_seq ?_
    refine wp_all_seq [.eq (.pointer (some ⟨g, 0, none⟩)), .eq (.pointer (some ⟨g, 0, none⟩)), .eq (.pointer (some ⟨g, 1, none⟩)), .eq (v), .eq (.int .i64 (((P).length : Nat) : Int)), .eq (.int .i64 ((P.length - 1 : Nat) : Int)), .eq (.int .i64 ((P.length - 1 : Nat) : Int))] (by kernel_rfl) (by kernel_rfl) (by rw [sz]; kernel_rfl) (by kernel_rfl) ⟨fun hw ac u K => ?_, fun hw ac u K => ?_, fun hw ac u K => ?_, fun hw ac u K => ?_, fun hw ac u K => ?_, fun hw ac u K => ?_, fun hw ac u K => ?_, trivial⟩ ?_
    · exact st_move (.tmp 0) rfl ((K.old 0 rfl).trans x0)
    · exact st_nil (.tmp 10) rfl (K.dep 0 10 rfl)
    · exact st_field 51 1 (.tmp 11) rfl (K.dep 1 11 rfl) (by kernel_rfl)
    · exact st_loadc 22 (.tmp 12) rfl (by kernel_rfl) (K.dep 2 12 rfl) (Ob.cell (Ob.below m0 (bl.trans (Below.mono K.grow bl.size))) 1 rfl)
    · exact st_lenc (.tmp 13) rfl ((P).length) rfl (fk_val (K.dep 3 13 rfl) (Fk.mono _ _ _ _ hvc (bl.trans (Below.mono K.grow bl.size))))
    · exact st_sub (.tmp 14) (.const (.int .i64 1)) rfl ((P).length) (1) (P.length - 1) (K.dep 4 14 rfl) rfl (by omega) (by omega)
    · exact st_assign (.tmp 15) rfl (K.dep 5 15 rfl)
    intro f3 w3 A hb
    replace bl0 := bl
    replace x0 := (A.old 0 rfl).trans x0
    replace x2 := (A.old 2 rfl).trans x2
    replace x8 := (A.old 8 rfl).trans x8
    have x3 : f3.eval (.tmp 3) = .int .i64 ((P.length - 1 : Nat) : Int) := A.has 6 3 rfl
    have lt_m2 := Ob.lt m2
    replace m2 := Ob.below m2 hb
    replace bl := (bl.trans (Below.mono hb bl.size))
    replace sz := A.size.trans sz
    replace df := A.defs.trans df
    clear A hb
    show Code.wp _ _ _ _ _
    refine wp_seq ?_
    refine wp_region_tail [.eq (.pointer (some ⟨g, 0, none⟩)), .eq (.pointer (some ⟨g, 0, none⟩)), .eq (.pointer (some ⟨g, 1, none⟩)), .eq (v), .eq (.int .i64 ((P.length - 1 : Nat) : Int)), .hc (P.take (P.length - 1)), .eq (.pointer (some ⟨g, 0, none⟩)), .eq (.pointer (some ⟨g, 0, none⟩)), .eq (.pointer (some ⟨g, 1, none⟩)), .eq (v), .eq (.int .i64 ((P.length - 1 : Nat) : Int)), .ph (y0), .eq (.agg ((y0).map V).toArray)] [13, 14] Tryd.mixed (by kernel_rfl) (by kernel_rfl) (by kernel_rfl) (by kernel_rfl) (by rw [sz]; kernel_rfl) (by kernel_rfl) ⟨fun hw ac u K => ?_, fun hw ac u K => ?_, fun hw ac u K => ?_, fun hw ac u K => ?_, fun hw ac u K => ?_, fun hw ac u K => ?_, fun hw ac u K => ?_, fun hw ac u K => ?_, fun hw ac u K => ?_, fun hw ac u K => ?_, fun hw ac u K => ?_, fun hw ac u K => ?_, fun hw ac u K => ?_, trivial⟩ ?_
    · exact st_move (.tmp 0) rfl ((K.old 0 rfl).trans x0)
    · exact st_nil (.tmp 16) rfl (K.dep 0 16 rfl)
    · exact st_field 51 1 (.tmp 17) rfl (K.dep 1 17 rfl) (by kernel_rfl)
    · exact st_loadc 22 (.tmp 18) rfl (by kernel_rfl) (K.dep 2 18 rfl) (Ob.cell (Ob.below m0 (bl.trans (Below.mono K.grow bl.size))) 1 rfl)
    · exact st_move (.tmp 3) rfl ((K.old 3 rfl).trans x3)
    · exact st_cuth (.tmp 19) (.tmp 20) rfl (fk_val (K.dep 3 19 rfl) (Fk.mono _ _ _ _ hvc (bl.trans (Below.mono K.grow bl.size)))) (P.length - 1) (K.dep 4 20 rfl) (by omega)
    · exact st_move (.tmp 0) rfl ((K.old 0 rfl).trans x0)
    · exact st_nil (.tmp 22) rfl (K.dep 6 22 rfl)
    · exact st_field 51 1 (.tmp 23) rfl (K.dep 7 23 rfl) (by kernel_rfl)
    · exact st_loadc 22 (.tmp 24) rfl (by kernel_rfl) (K.dep 8 24 rfl) (Ob.cell (Ob.below m0 (bl.trans (Below.mono K.grow bl.size))) 1 rfl)
    · exact st_move (.tmp 3) rfl ((K.old 3 rfl).trans x3)
    · exact st_idxh (.tmp 25) (.tmp 26) rfl (fk_val (K.dep 9 25 rfl) (Fk.mono _ _ _ _ hvs (bl.trans (Below.mono K.grow bl.size)))) (P.length - 1) (y0) (K.dep 10 26 rfl) hy0k
    · exact st_loadh (.tmp 27) rfl (K.dep 11 27 rfl)
    intro f4 w4 A hb
    replace bl0 := bl
    replace x0 := (A.old 0 rfl).trans x0
    replace x2 := (A.old 2 rfl).trans x2
    replace x8 := (A.old 8 rfl).trans x8
    replace x3 := (A.old 3 rfl).trans x3
    have x21 : Fk.f (.hc (P.take (P.length - 1))) (f4.eval (.tmp 21)) w4 := A.has 5 21 rfl
    have x28 : f4.eval (.tmp 28) = .agg ((y0).map V).toArray := A.has 12 28 rfl
    have lt_m2 := Ob.lt m2
    replace m2 := Ob.below m2 hb
    replace bl := (bl.trans (Below.mono hb bl.size))
    replace sz := A.size.trans sz
    replace df := A.defs.trans df
    clear A hb
    clear x3
    refine wl_one (.eq (.agg ((y).map V).toArray)) rfl 29 rfl (by rw [sz]; decide) (st_call 27 (.func 27) _ _ #[f4.eval (.tmp 21), .agg ((y0).map V).toArray] rfl rfl (arg2 rfl x28) Tryd.enter27 (fk_joined (by omega) (hc_hs x21) (hK.below bl) hy0 eJ)) ?_
    intro f5 w5 df2 sz2 old2 new2 hb
    replace bl0 := bl
    replace x0 := (old2 0 rfl).trans x0
    replace x2 := (old2 2 rfl).trans x2
    replace x8 := (old2 8 rfl).trans x8
    replace x21 := f_at (old2 21 rfl) (Fk.mono _ _ _ _ x21 hb)
    replace x28 := (old2 28 rfl).trans x28
    have x29 : f5.eval (.tmp 29) = .agg ((y).map V).toArray := new2
    have lt_m2 := Ob.lt m2
    replace m2 := Ob.below m2 hb
    replace bl := (bl.trans (Below.mono hb bl.size))
    replace sz := sz2.trans sz
    replace df := df2.trans df
    clear df2 sz2 old2 new2 hb
    clear x21
    clear x28
    refine wl_store rfl (.tmp 2) (.tmp 29) rfl rfl (g2) (y) (hz) x2 x29 m2 hz_len hy ?_
    replace m2 : Ob (w5.setRow g2 ((y).map V : List Value).toArray) (g2) 33 ((y).map V) := Ob.setRow m2 ((y).map V)
    replace bl : Below w.heap.size w (w5.setRow g2 ((y).map V : List Value).toArray) := bl.trans (below_setRow _ _ _ _ hw2)
    generalize w5.setRow g2 ((y).map V : List Value).toArray = w6b at bl m2 ⊢
    refine wpList_nil ?_
    clear x29
    show Code.wp _ _ _ _ _
    refine wp_ret ?_
    repeat (first | with_reducible refine then_ret ?_ | with_reducible refine block_ret ?_)
    exact bodyPost_ret (v := .agg ((y).map V).toArray) (ret_hash rfl f5 _ g2 (y) hy x2 m2) df ⟨_, rfl, rfl, bl⟩
  have hP0 : P = [] := List.eq_nil_of_length_eq_zero (by rw [hPn, hn0, pcn_zero])
  have eys : shaOf [] = y := by rw [← ey.out, hP0]; rfl
  refine wp_all_seq [.eq (.pointer (some ⟨g, 0, none⟩)), .eq (.pointer (some ⟨g, 0, none⟩)), .eq (.pointer (some ⟨g, 0, none⟩)), .eq (.int .i64 ((n : Nat) : Int)), .eq (.bool true)] (by kernel_rfl) (by kernel_rfl) (by rw [sz]; kernel_rfl) (by kernel_rfl) ⟨fun hw ac u K => ?_, fun hw ac u K => ?_, fun hw ac u K => ?_, fun hw ac u K => ?_, fun hw ac u K => ?_, trivial⟩ ?_
  · exact st_move (.tmp 0) rfl ((K.old 0 rfl).trans x0)
  · exact st_nil (.tmp 4) rfl (K.dep 0 4 rfl)
  · exact st_field 51 0 (.tmp 5) rfl (K.dep 1 5 rfl) (by kernel_rfl)
  · exact st_loadc 3 (.tmp 6) rfl (by kernel_rfl) (K.dep 2 6 rfl) (Ob.cell (Ob.below m0 (bl.trans (Below.mono K.grow bl.size))) 0 rfl)
  · exact st_eqi 3 (.tmp 7) (.const (.int .i64 0)) rfl .i64 (((n : Nat) : Int)) (0) (K.dep 3 7 rfl) rfl _ (by rw [eq_comm, decide_eq_true_iff]; omega)
  intro f2 w2 A hb
  replace bl0 := bl
  replace x0 := (A.old 0 rfl).trans x0
  replace x2 := (A.old 2 rfl).trans x2
  have x8 : f2.eval (.tmp 8) = .bool true := A.has 4 8 rfl
  have lt_m2 := Ob.lt m2
  replace m2 := Ob.below m2 hb
  replace bl := (bl.trans (Below.mono hb bl.size))
  replace sz := A.size.trans sz
  replace df := A.defs.trans df
  clear A hb
  show Code.wp _ _ _ _ _
  refine wp_cond_true x8 ?_
  refine wp_seq ?_
  refine wp_region_seq [.eq (.agg ((y).map V).toArray)] (by kernel_rfl) (by kernel_rfl) (by rw [sz]; kernel_rfl) (by kernel_rfl) ⟨fun hw ac u K => ?_, trivial⟩ ?_
  · exact st_call 24 (.func 24) _ _ #[.slice none 0 0] rfl rfl (one_arg rfl) Tryd.enter24 (by rw [← eys]; exact fk_sum (by simp) (hK.below (bl.trans (Below.mono K.grow bl.size))) (Fk.mono _ _ _ _ hnil (bl.trans (Below.mono K.grow bl.size))))
  intro f3 w3 A hb
  replace bl0 := bl
  replace x0 := (A.old 0 rfl).trans x0
  replace x2 := (A.old 2 rfl).trans x2
  replace x8 := (A.old 8 rfl).trans x8
  have x9 : f3.eval (.tmp 9) = .agg ((y).map V).toArray := A.has 0 9 rfl
  have lt_m2 := Ob.lt m2
  replace m2 := Ob.below m2 hb
  replace bl := (bl.trans (Below.mono hb bl.size))
  replace sz := A.size.trans sz
  replace df := A.defs.trans df
  clear A hb
  refine wl_store rfl (.tmp 2) (.tmp 9) rfl rfl (g2) (y) (hz) x2 x9 m2 hz_len hy ?_
  replace m2 : Ob (w3.setRow g2 ((y).map V : List Value).toArray) (g2) 33 ((y).map V) := Ob.setRow m2 ((y).map V)
  replace bl : Below w.heap.size w (w3.setRow g2 ((y).map V : List Value).toArray) := bl.trans (below_setRow _ _ _ _ hw2)
  generalize w3.setRow g2 ((y).map V : List Value).toArray = w4b at bl m2 ⊢
  refine wpList_nil ?_
  clear x9
  show Code.wp _ _ _ _ _
  refine wp_ret ?_
  repeat (first | with_reducible refine then_ret ?_ | with_reducible refine block_ret ?_)
  exact bodyPost_ret (v := .agg ((y).map V).toArray) (ret_hash rfl f3 _ g2 (y) hy x2 m2) df ⟨_, rfl, rfl, bl⟩
end Go.Proofs.YtnppjlpnfijobaaDoor
namespace Go.Proofs.YtnppjlpnfijobaaDoor
set_option maxRecDepth 100000
open Go.RowKit
section
variable {P : Program} {ops : Array Oper} {Q : Exit → Act → World → Prop} {S : World → Prop} {o : Oper} {a : Act}
theorem yield_of {j d : Nat} {b : Bool} (hj : (ops[j]?).bind (·.dst) = some d) (h : a.eval (.tmp d) = .bool b) : yielded ops a.tmps j = some b := by
  simp only [Act.eval, Array.getD_eq_getD_getElem?] at h
  unfold yielded
  rw [hj]
  simp only [Option.bind_some]
  cases hq : a.tmps[d]? with
  | none => rw [hq] at h; simp [undef] at h
  | some u => rw [hq] at h; simp at h; rw [h]
theorem want_of {j d : Nat} {b : Bool} (hg : o.guard = some (j, b)) (hj : (ops[j]?).bind (·.dst) = some d) (h : a.eval (.tmp d) = .bool b) : Region.wanted o (yielded ops a.tmps) = true := by
  unfold Region.wanted
  rw [hg]
  show (yielded ops a.tmps j == some b) = true
  rw [yield_of hj h]
  simp
theorem want_none (hg : o.guard = none) : Region.wanted o (yielded ops a.tmps) = true := by
  unfold Region.wanted
  rw [hg]
/-- What only looks, wanted. -/
theorem wg_take (i : Nat) (d : Nat) {v : Value} {fuel : Nat} {listed : Array Bool} {w : World} (hi : ops[i]? = some o) (hd : o.dst = some d) (hsz : d < a.tmps.size) (hw : Region.wanted o (yielded ops a.tmps) = true)
    (hs : Region.noSelect ops = true) (hf : Region.free .any ops listed i = true) (hr : (Region.ready .any ops listed).contains i = true)
    (hQ : ∀ c a w, Q (.panic c) (a.put o.dst v) w → Q (.panic c) a w) (hy : ∀ w, S w → (execOp a.eval o).run P w = .ok (.value v) w) (hS : S w)
    (h : ∀ a2, a2.defers = a.defers → a2.tmps.size = a.tmps.size → (∀ t, (t == d) = false → a2.eval (.tmp t) = a.eval (.tmp t)) → a2.eval (.tmp d) = v → wpAnyH P .any ops Q S fuel (listed.setIfInBounds i true) a2 w) : wpAnyH P .any ops Q S (fuel + 1) listed a w := by
  refine wpAnyH_take hi hs hf hr hQ (.inl ⟨hw, hy⟩) hS ?_
  rw [hd]
  exact h _ (put_def _ _ _) (put_size _ _ _) (fun t ht => put_eval_other _ _ _ _ (fun e => by subst e; simp at ht)) (put_eval_same _ _ _ hsz)
/-- A step that is the only one that can come, wanted: as a step of a region by itself. -/
theorem wg_step (i : Nat) (d : Nat) {fuel : Nat} {listed : Array Bool} {w : World} (hi : ops[i]? = some o) (hd : o.dst = some d) (hsz : d < a.tmps.size) (hw : Region.wanted o (yielded ops a.tmps) = true) (hr : (Region.ready .any ops listed == [i]) = true) (q : Fk)
    (hs : o.wp P a w (Ends a o.dst w q.f) Q)
    (h : ∀ a2 w2, a2.defers = a.defers → a2.tmps.size = a.tmps.size → (∀ t, (t == d) = false → a2.eval (.tmp t) = a.eval (.tmp t)) → q.f (a2.eval (.tmp d)) w2 → Below w.heap.size w w2 → S w2 ∧ wpAnyH P .any ops Q S fuel (listed.setIfInBounds i true) a2 w2) : wpAnyH P .any ops Q S (fuel + 1) listed a w := by
  refine wpAnyH_all (eq_of_beq hr) (by simp) (fun j hj => ?_)
  obtain rfl : j = i := by simpa using hj
  unfold wpOp
  rw [hi]
  show if Region.wanted o (yielded ops a.tmps) = true then _ else _
  rw [if_pos hw]
  refine .inl (Oper.wp_mono ?_ hs)
  rintro a2 w2 ⟨v, rfl, hb, hq⟩
  rw [hd]
  refine h _ _ (put_def _ _ _) (put_size _ _ _) (fun t ht => put_eval_other _ _ _ _ (fun e => by subst e; simp at ht)) ?_ hb
  rw [put_eval_same _ _ _ hsz]
  exact hq
/-- A call that is the only one that can come, wanted; it may turn old blocks. -/
theorem wg_call (i : Nat) (d : Nat) {fuel : Nat} {listed : Array Bool} {w : World} (hi : ops[i]? = some o) (hd : o.dst = some d) (hsz : d < a.tmps.size) (hw : Region.wanted o (yielded ops a.tmps) = true) (hr : (Region.ready .any ops listed == [i]) = true)
    (f : FuncId) (x : Operand) (xs : Array Operand) (ts : Array TypeId) (vs : Array Value) (ho : o.op = .call { callee := .value x, args := xs, argTypes := ts }) (hx : a.eval x = .func (.func f) #[] #[]) (hv : (xs.toList.map a.eval).toArray = vs)
    (hf : ∀ args w, (callFunc f args).run P w = .ok (.enter f args) w) (R : Value → World → Prop) (hc : Calls P f vs w fun e w' => ∃ v, e = .returned v ∧ R v w')
    (h : ∀ a2 w2, a2.defers = a.defers → a2.tmps.size = a.tmps.size → (∀ t, (t == d) = false → a2.eval (.tmp t) = a.eval (.tmp t)) → R (a2.eval (.tmp d)) w2 → S w2 ∧ wpAnyH P .any ops Q S fuel (listed.setIfInBounds i true) a2 w2) : wpAnyH P .any ops Q S (fuel + 1) listed a w := by
  refine wpAnyH_all (eq_of_beq hr) (by simp) (fun j hj => ?_)
  obtain rfl : j = i := by simpa using hj
  have hrun : (execOp a.eval o).run P w = .ok (.enter f vs) w := by
    have hv' : xs.map a.eval = vs := by rw [← hv]; apply Array.toList_inj.1; simp
    unfold execOp; rw [ho]
    simp [resolve, hx, Deferred.ofValue, invoke, hv', hf]
  unfold wpOp
  rw [hi]
  show if Region.wanted o (yielded ops a.tmps) = true then _ else _
  rw [if_pos hw]
  refine .inl ?_
  unfold Oper.wp; rw [hrun]
  refine Calls.mono hc ?_
  rintro e w' ⟨v, rfl, h1⟩
  rw [hd]
  refine h _ _ (put_def _ _ _) (put_size _ _ _) (fun t ht => put_eval_other _ _ _ _ (fun e => by subst e; simp at ht)) ?_
  rw [put_eval_same _ _ _ hsz]
  exact h1
variable {rest : List Oper} {w : World}
end
end Go.Proofs.YtnppjlpnfijobaaDoor
