/- Each: what it gives. Path. awake. -/
import Derived.Test.YtfbfngblocfdlaaDoorM10
import Derived.Test.YtfbfngblocfdlaaDoorM8
namespace Go.Proofs.YtfbfngblocfdlaaDoor
set_option maxRecDepth 100000
open Go.RowKit
/-- What round k gets: the size k, and the root of so many first ones. -/
def encE (l : List (List (BitVec 8))) (k : Nat) : Array Value := #[.int .i64 ((k : Nat) : Int), .agg ((mroot (l.take k)).map V).toArray]
/-- What it reads. -/
def RE (go : Nat) (r : Value) (l : List (List (BitVec 8))) (A : World) : Prop := Ob A go 22 [r] ∧ (Fk.hc l).f r A ∧ Tab A ∧ Tz A
theorem fk_joined {B : Nat} {P : List (List (BitVec 8))} (h1 : 1 ≤ P.length) (hl : P.length ≤ 1000) {w : World} {v : Value} (hv : (Fk.ow B P).f v w) (hK : Tab w) {y : List (BitVec 8)} (ey : Box (jn P (P.length - 1) = y)) :
    Calls Tryd.prog 27 #[v] w fun e w' => ∃ u, e = .returned u ∧ (Fk.eq (.agg (y.map V).toArray)).f u w' ∧ Below w.heap.size w w' := by
  have hc := ow_hc hv
  obtain ⟨A, C, lb, lo, rfl, _, _⟩ := ow_hc hv
  exact fk_of (joined_any h1 hl w hc hK ey)
set_option maxHeartbeats 1000000 in
theorem each_gives {l : List (List (BitVec 8))} (hl : l.length ≤ 100) (go : Nat) (r : Value) (w0 : World) : Gives 6 25 #[.pointer (some ⟨go, 0, none⟩)] (encE l) (l.length + 1) (RE go r l) w0 := by
  intro l0 J Jx w hW hJ hR hY h0
  refine callsIn_wide.2 ?_
  show Calls Tryd.prog 25 #[.func (.yield l0) #[] #[], .pointer (some ⟨go, 0, none⟩)] w _
  have hJk := h0
  have hzz := Nat.le_refl w.heap.size
  obtain ⟨hob, hvL, htab, htz⟩ := hR _ _ h0
  have hvS := hc_hs hvL
  obtain ⟨y0, hy00⟩ : ∃ y, mroot (l.take 0) = y := ⟨_, rfl⟩
  have ey0 : Box (mroot [] = y0) := ⟨by rw [← hy00, List.take_zero]⟩
  have hy0 : y0.length = 32 := by rw [← ey0.out, mroot_nil]; exact shaOf_len _
  have hY0 := hY 0
  unfold encE at hY0
  rw [hy00] at hY0
  go_enter Tryd.func25, Tryd.ntmps25
  refine code_both (fun f w1 => f.tmps.size = 30 ∧ f.defers = [] ∧ f.eval (.tmp 0) = .func (.yield l0) #[] #[] ∧ f.eval (.tmp 1) = .pointer (some ⟨go, 0, none⟩) ∧ Ob w1 (go) 22 ([r]) ∧ Fk.f (.hc (l)) (r) w1 ∧ Fk.f (.hs (l)) (r) w1 ∧ J 0 w1 ∧ w.heap.size ≤ w1.heap.size ∧ Tab w1 ∧ Tz w1 ∧ True) ⟨rfl, rfl, rfl, rfl, hob, hvL, hvS, hJk, hzz, htab, htz, trivial⟩ ?_
  clear hob hvL hvS hJk hzz htab htz
  rintro f0 w0 ⟨sz, df, x0, x1, hob, hvL, hvS, hJk, hzz, htab, htz, bl⟩
  have bl0 := bl
  refine wp_seq ?_
  refine wp_seq ?_
  -- R0
  refine wp_region_li 6 ?_
  refine wli_one (.eq (.func (.yield l0) #[] #[])) rfl 6 rfl (by rw [sz]; decide) (st_move (.tmp 0) rfl x0) ?_
  intro f1 w1 df2 sz2 old2 new2 hb
  replace bl0 := bl
  replace x0 := (old2 0 rfl).trans x0
  replace x1 := (old2 1 rfl).trans x1
  have x6 : f1.eval (.tmp 6) = .func (.yield l0) #[] #[] := new2
  have lt_hob := Ob.lt hob
  replace hob := Ob.below hob hb
  replace hvL := Fk.mono _ _ _ _ hvL hb
  replace hvS := Fk.mono _ _ _ _ hvS hb
  replace hJk := hJ _ _ _ hJk (Below.mono hb hzz)
  replace hzz := Nat.le_trans hzz hb.size
  replace htab := htab.below hb
  replace htz := htz.below hb htz.lt
  replace bl := trivial
  replace sz := sz2.trans sz
  replace df := df2.trans df
  clear df2 sz2 old2 new2 hb
  refine wli_one (.eq (.agg ((y0).map V).toArray)) rfl 7 rfl (by rw [sz]; decide) (st_call 8 (.func 8) _ _ #[.slice none 0 0] rfl rfl (one_arg rfl) Tryd.enter8 (fk_of (root_any [] _ _ (by simp) (hc_nil _) htab ey0))) ?_
  intro f2 w2 df2 sz2 old2 new2 hb
  replace bl0 := bl
  replace x0 := (old2 0 rfl).trans x0
  replace x1 := (old2 1 rfl).trans x1
  replace x6 := (old2 6 rfl).trans x6
  have x7 : f2.eval (.tmp 7) = .agg ((y0).map V).toArray := new2
  have lt_hob := Ob.lt hob
  replace hob := Ob.below hob hb
  replace hvL := Fk.mono _ _ _ _ hvL hb
  replace hvS := Fk.mono _ _ _ _ hvS hb
  replace hJk := hJ _ _ _ hJk (Below.mono hb hzz)
  replace hzz := Nat.le_trans hzz hb.size
  replace htab := htab.below hb
  replace htz := htz.below hb htz.lt
  replace bl := trivial
  replace sz := sz2.trans sz
  replace df := df2.trans df
  clear df2 sz2 old2 new2 hb
  refine wli_yield (.tmp 6) _ _ #[.int .i64 ((0 : Nat) : Int), .agg ((y0).map V).toArray] rfl 8 rfl (by rw [sz]; decide) rfl l0 x6 (arg2 rfl x7) (hY0 _ (by omega) hJk) ?_ ?_
  rotate_left
  · intro f3 w3 df2 sz2 old2 new2 hX
    clear hob
    clear hvL
    clear hvS
    replace x0 := (old2 0 rfl).trans x0
    replace x1 := (old2 1 rfl).trans x1
    replace x6 := (old2 6 rfl).trans x6
    replace x7 := (old2 7 rfl).trans x7
    have x8 : f3.eval (.tmp 8) = .bool false := new2
    
    replace sz := sz2.trans sz
    replace df := df2.trans df
    clear df2 sz2 old2 new2
    refine wli_not rfl (.tmp 8) rfl 9 rfl (by rw [sz]; decide) false x8 ?_
    intro f4 df2 sz2 old2 new2
    replace x0 := (old2 0 rfl).trans x0
    replace x1 := (old2 1 rfl).trans x1
    replace x6 := (old2 6 rfl).trans x6
    replace x7 := (old2 7 rfl).trans x7
    replace x8 := (old2 8 rfl).trans x8
    have x9 : f4.eval (.tmp 9) = .bool true := new2
    replace sz := sz2.trans sz
    replace df := df2.trans df
    clear df2 sz2 old2 new2
    refine wli_nil ?_
    clear x6
    clear x7
    clear x8
    show Code.wp _ _ _ _ _
    refine wp_cond_true x9 ?_
    refine wp_ret ?_
    repeat (first | with_reducible refine then_ret ?_ | with_reducible refine block_ret ?_)
    exact bodyPost_ret (results_none rfl _ _ _) df ⟨⟨_, rfl⟩, .inr ⟨0, by omega, hX⟩⟩
  intro f3 w3 df2 sz2 old2 new2 hX
  clear hob
  clear hvL
  clear hvS
  replace x0 := (old2 0 rfl).trans x0
  replace x1 := (old2 1 rfl).trans x1
  replace x6 := (old2 6 rfl).trans x6
  replace x7 := (old2 7 rfl).trans x7
  have x8 : f3.eval (.tmp 8) = .bool true := new2
  replace hJk := hX.1
  replace hzz := Nat.le_trans hzz hX.2.1
  obtain ⟨hob, hvL, htab2, htz2⟩ := hR _ _ hJk
  replace htab := htab2
  replace htz := htz2
  clear htab2 htz2
  have hvS := hc_hs hvL
  replace sz := sz2.trans sz
  replace df := df2.trans df
  clear df2 sz2 old2 new2 hX
  refine wli_not rfl (.tmp 8) rfl 9 rfl (by rw [sz]; decide) true x8 ?_
  intro f4 df2 sz2 old2 new2
  replace x0 := (old2 0 rfl).trans x0
  replace x1 := (old2 1 rfl).trans x1
  replace x6 := (old2 6 rfl).trans x6
  replace x7 := (old2 7 rfl).trans x7
  replace x8 := (old2 8 rfl).trans x8
  have x9 : f4.eval (.tmp 9) = .bool false := new2
  replace sz := sz2.trans sz
  replace df := df2.trans df
  clear df2 sz2 old2 new2
  refine wli_nil ?_
  clear x6
  clear x7
  clear x8
  show Code.wp _ _ _ _ _
  refine wp_cond_false x9 ?_
  refine wp_skip ?_
  show Code.wp _ _ _ _ _
  refine wp_seq ?_
  -- R1
  refine wp_all_seq [.ow w.heap.size ([])] (by kernel_rfl) (by kernel_rfl) (by rw [sz]; kernel_rfl) (by kernel_rfl) ⟨fun hw ac u K => ?_, trivial⟩ ?_
  · exact st_assign (.const (.slice none 0 0)) rfl (ow_nil _ _)
  intro f5 w5 A hb
  replace bl0 := bl
  replace x0 := (A.old 0 rfl).trans x0
  replace x1 := (A.old 1 rfl).trans x1
  replace x9 := (A.old 9 rfl).trans x9
  have x3 : Fk.f (.ow w.heap.size ([])) (f5.eval (.tmp 3)) w5 := A.has 0 3 rfl
  have lt_hob := Ob.lt hob
  replace hob := Ob.below hob hb
  replace hvL := Fk.mono _ _ _ _ hvL hb
  replace hvS := Fk.mono _ _ _ _ hvS hb
  replace hJk := hJ _ _ _ hJk (Below.mono hb hzz)
  replace hzz := Nat.le_trans hzz hb.size
  replace htab := htab.below hb
  replace htz := htz.below hb htz.lt
  replace bl := trivial
  replace sz := A.size.trans sz
  replace df := A.defs.trans df
  clear A hb
  show Code.wp _ _ _ _ _
  refine wp_seq ?_
  -- R2
  refine wp_all_seq [.eq (r), .eq (.int .i64 (((l).length : Nat) : Int)), .eq (.int .i64 0)] (by kernel_rfl) (by kernel_rfl) (by rw [sz]; kernel_rfl) (by kernel_rfl) ⟨fun hw ac u K => ?_, fun hw ac u K => ?_, fun hw ac u K => ?_, trivial⟩ ?_
  · exact st_loadc 22 (.tmp 1) rfl (by kernel_rfl) ((K.old 1 rfl).trans x1) (Ob.cell (Ob.below hob K.grow) 0 rfl)
  · exact st_lenc (.tmp 10) rfl ((l).length) rfl (fk_val (K.dep 0 10 rfl) (Fk.mono _ _ _ _ hvL K.grow))
  · exact st_move (.const (.int .i64 0)) rfl rfl
  intro f6 w6 A hb
  replace bl0 := bl
  replace x0 := (A.old 0 rfl).trans x0
  replace x1 := (A.old 1 rfl).trans x1
  replace x9 := (A.old 9 rfl).trans x9
  replace x3 := f_at (A.old 3 rfl) (Fk.mono _ _ _ _ x3 hb)
  have x10 : f6.eval (.tmp 10) = r := A.has 0 10 rfl
  have x11 : f6.eval (.tmp 11) = .int .i64 (((l).length : Nat) : Int) := A.has 1 11 rfl
  have x12 : f6.eval (.tmp 12) = .int .i64 0 := A.has 2 12 rfl
  have lt_hob := Ob.lt hob
  replace hob := Ob.below hob hb
  replace hvL := Fk.mono _ _ _ _ hvL hb
  replace hvS := Fk.mono _ _ _ _ hvS hb
  replace hJk := hJ _ _ _ hJk (Below.mono hb hzz)
  replace hzz := Nat.le_trans hzz hb.size
  replace htab := htab.below hb
  replace htz := htz.below hb htz.lt
  replace bl := trivial
  replace sz := A.size.trans sz
  replace df := A.defs.trans df
  clear A hb
  clear x1
  show Code.wp _ _ _ _ _
  refine wp_block ?_
  refine wp_loop (fun f v1 => ∃ k : Nat, k ≤ (l).length ∧ f.tmps.size = 30 ∧ f.defers = [] ∧ f.eval (.tmp 0) = .func (.yield l0) #[] #[] ∧ f.eval (.tmp 9) = .bool false ∧ f.eval (.tmp 10) = r ∧ f.eval (.tmp 11) = .int .i64 (((l).length : Nat) : Int) ∧ f.eval (.tmp 12) = .int .i64 ((k : Nat) : Int) ∧ Fk.f (.ow w.heap.size (pks l k)) (f.eval (.tmp 3)) v1 ∧ Ob v1 (go) 22 ([r]) ∧ Fk.f (.hc (l)) (r) v1 ∧ Fk.f (.hs (l)) (r) v1 ∧ J (k + 1) v1 ∧ w.heap.size ≤ v1.heap.size ∧ Tab v1 ∧ Tz v1 ∧ True) (fun f _ => (l).length - (intOf (f.eval (.tmp 12))).toNat) ⟨0, Nat.zero_le _, sz, df, x0, x9, x10, x11, x12, (by rw [pks_zero]; exact x3), hob, hvL, hvS, hJk, hzz, htab, htz, bl⟩ ?_
  intro f7 w7 hI
  clear sz df bl bl0 x0 x9 x3 x10 x11 x12 hob hvL hvS hJk hzz htab htz
  obtain ⟨k, hk, sz, df, x0, x9, x10, x11, x12, x3, hob, hvL, hvS, hJk, hzz, htab, htz, bl⟩ := hI
  have bl0 := bl
  have hcnt := x12
  refine wp_seq ?_
  by_cases hlt : k < (l).length
  rotate_left
  · skip
    -- R3
    refine wp_all_seq [.eq (.bool false)] (by kernel_rfl) (by kernel_rfl) (by rw [sz]; kernel_rfl) (by kernel_rfl) ⟨fun hw ac u K => ?_, trivial⟩ ?_
    · exact st_lss 3 (.tmp 12) (.tmp 11) rfl .i64 (((k : Nat) : Int)) ((((l).length : Nat) : Int)) ((K.old 12 rfl).trans x12) ((K.old 11 rfl).trans x11) _ (by rw [eq_comm, decide_eq_false_iff_not]; exact fun h => hlt (Int.ofNat_lt.1 h))
    intro f8 w8 A hb
    replace bl0 := bl
    replace x0 := (A.old 0 rfl).trans x0
    replace x9 := (A.old 9 rfl).trans x9
    replace x3 := f_at (A.old 3 rfl) (Fk.mono _ _ _ _ x3 hb)
    replace x10 := (A.old 10 rfl).trans x10
    replace x11 := (A.old 11 rfl).trans x11
    replace x12 := (A.old 12 rfl).trans x12
    have x13 : f8.eval (.tmp 13) = .bool false := A.has 0 13 rfl
    have lt_hob := Ob.lt hob
    replace hob := Ob.below hob hb
    replace hvL := Fk.mono _ _ _ _ hvL hb
    replace hvS := Fk.mono _ _ _ _ hvS hb
    replace hJk := hJ _ _ _ hJk (Below.mono hb hzz)
    replace hzz := Nat.le_trans hzz hb.size
    replace htab := htab.below hb
    replace htz := htz.below hb htz.lt
    replace bl := trivial
    replace sz := A.size.trans sz
    replace df := A.defs.trans df
    clear A hb
    show Code.wp _ _ _ _ _
    refine wp_seq ?_
    refine wp_cond_false x13 ?_
    refine wp_exit ?_
    repeat (first | with_reducible refine then_exit ?_ | with_reducible refine block_exit ?_)
    show bodyPost _ _ _ _ _ _
    obtain rfl : k = (l).length := by omega
    exact bodyPost_end (results_none rfl _ _ _) df ⟨⟨_, rfl⟩, .inl hJk⟩
  obtain ⟨x, hxk⟩ : ∃ x, l[k]? = some x := ⟨_, List.getElem?_eq_getElem hlt⟩
  have hx : x.length = 32 := hs_len hvS hxk
  obtain ⟨htl, hgr⟩ := pks_grow l (n := k) (by omega) (by omega) hxk
  have hpl := pks_len l k
  have hpl1 := pks_len l (k + 1)
  have hpl2 : 1 ≤ (pks l (k + 1)).length := by rw [← hgr, List.length_append]; simp
  obtain ⟨y, hyy⟩ : ∃ y, mroot (l.take (k + 1)) = y := ⟨_, rfl⟩
  have ey : Box (jn (pks l (k + 1)) ((pks l (k + 1)).length - 1) = y) := ⟨by rw [pks_join l (by omega) (by omega) (by omega)]; exact hyy⟩
  have hy : y.length = 32 := by rw [← hyy]; exact mroot_len (fun x hx => hc_len hvL x (List.mem_of_mem_take hx))
  have hYk := hY (k + 1)
  unfold encE at hYk
  rw [hyy] at hYk
  -- R3
  refine wp_all_seq [.eq (.bool true)] (by kernel_rfl) (by kernel_rfl) (by rw [sz]; kernel_rfl) (by kernel_rfl) ⟨fun hw ac u K => ?_, trivial⟩ ?_
  · exact st_lss 3 (.tmp 12) (.tmp 11) rfl .i64 (((k : Nat) : Int)) ((((l).length : Nat) : Int)) ((K.old 12 rfl).trans x12) ((K.old 11 rfl).trans x11) _ (by rw [eq_comm, decide_eq_true_iff]; exact Int.ofNat_lt.2 hlt)
  intro f8 w8 A hb
  replace bl0 := bl
  replace x0 := (A.old 0 rfl).trans x0
  replace x9 := (A.old 9 rfl).trans x9
  replace x3 := f_at (A.old 3 rfl) (Fk.mono _ _ _ _ x3 hb)
  replace x10 := (A.old 10 rfl).trans x10
  replace x11 := (A.old 11 rfl).trans x11
  replace x12 := (A.old 12 rfl).trans x12
  have x13 : f8.eval (.tmp 13) = .bool true := A.has 0 13 rfl
  have lt_hob := Ob.lt hob
  replace hob := Ob.below hob hb
  replace hvL := Fk.mono _ _ _ _ hvL hb
  replace hvS := Fk.mono _ _ _ _ hvS hb
  replace hJk := hJ _ _ _ hJk (Below.mono hb hzz)
  replace hzz := Nat.le_trans hzz hb.size
  replace htab := htab.below hb
  replace htz := htz.below hb htz.lt
  replace bl := trivial
  replace sz := A.size.trans sz
  replace df := A.defs.trans df
  clear A hb
  show Code.wp _ _ _ _ _
  refine wp_seq ?_
  refine wp_cond_true x13 ?_
  refine wp_skip ?_
  show Code.wp _ _ _ _ _
  refine wp_seq ?_
  refine wp_block ?_
  refine wp_seq ?_
  -- R4
  refine wp_region_seq [.eq (.int .i64 ((k : Nat) : Int)), .ph (x), .eq (.agg ((x).map V).toArray)] (by kernel_rfl) (by kernel_rfl) (by rw [sz]; kernel_rfl) (by kernel_rfl) ⟨fun hw ac u K => ?_, fun hw ac u K => ?_, fun hw ac u K => ?_, trivial⟩ ?_
  · exact st_move (.tmp 12) rfl ((K.old 12 rfl).trans x12)
  · exact st_idxh (.tmp 10) (.tmp 12) rfl (fk_val ((K.old 10 rfl).trans x10) (Fk.mono _ _ _ _ hvS K.grow)) (k) (x) ((K.old 12 rfl).trans x12) hxk
  · exact st_loadh (.tmp 15) rfl (K.dep 1 15 rfl)
  intro f9 w9 A hb
  have S_hvL := hvL
  have S_hvS := hvS
  have S_hJk := hJk
  have S_hzz := hzz
  have S_htab := htab
  have S_htz := htz
  have S_x3 : Fk.f (.ow w.heap.size (pks l k)) (f9.eval (.tmp 3)) w8 := f_at (A.old 3 rfl) x3
  have hbS0 := Below.refl w8.heap.size w8
  have hbS := hb
  replace bl0 := bl
  replace x0 := (A.old 0 rfl).trans x0
  replace x9 := (A.old 9 rfl).trans x9
  replace x3 := f_at (A.old 3 rfl) (Fk.mono _ _ _ _ x3 hb)
  replace x10 := (A.old 10 rfl).trans x10
  replace x11 := (A.old 11 rfl).trans x11
  replace x12 := (A.old 12 rfl).trans x12
  replace x13 := (A.old 13 rfl).trans x13
  have x14 : f9.eval (.tmp 14) = .int .i64 ((k : Nat) : Int) := A.has 0 14 rfl
  have x16 : f9.eval (.tmp 16) = .agg ((x).map V).toArray := A.has 2 16 rfl
  have lt_hob := Ob.lt hob
  replace hob := Ob.below hob hb
  replace hvL := Fk.mono _ _ _ _ hvL hb
  replace hvS := Fk.mono _ _ _ _ hvS hb
  replace hJk := hJ _ _ _ hJk (Below.mono hb hzz)
  replace hzz := Nat.le_trans hzz hb.size
  replace htab := htab.below hb
  replace htz := htz.below hb htz.lt
  replace bl := trivial
  replace sz := A.size.trans sz
  replace df := A.defs.trans df
  clear A hb
  refine wl_one (.nw w9.heap.size 24 ((hz).map V)) rfl 5 rfl (by rw [sz]; decide) (st_alloc24 rfl _ (Nat.le_refl _)) ?_
  intro f10 w10 df2 sz2 old2 new2 hb
  replace hbS0 := hbS
  replace hbS := hbS.trans (Below.mono hb hbS.size)
  replace S_x3 := f_at (old2 3 rfl) S_x3
  replace bl0 := bl
  replace x0 := (old2 0 rfl).trans x0
  replace x9 := (old2 9 rfl).trans x9
  replace x3 := f_at (old2 3 rfl) (Fk.mono _ _ _ _ x3 hb)
  replace x10 := (old2 10 rfl).trans x10
  replace x11 := (old2 11 rfl).trans x11
  replace x12 := (old2 12 rfl).trans x12
  replace x13 := (old2 13 rfl).trans x13
  replace x14 := (old2 14 rfl).trans x14
  replace x16 := (old2 16 rfl).trans x16
  have x5 : Fk.f (.nw w9.heap.size 24 ((hz).map V)) (f10.eval (.tmp 5)) w10 := new2
  have lt_hob := Ob.lt hob
  replace hob := Ob.below hob hb
  replace hvL := Fk.mono _ _ _ _ hvL hb
  replace hvS := Fk.mono _ _ _ _ hvS hb
  replace hJk := hJ _ _ _ hJk (Below.mono hb hzz)
  replace hzz := Nat.le_trans hzz hb.size
  replace htab := htab.below hb
  replace htz := htz.below hb htz.lt
  replace bl := trivial
  replace sz := sz2.trans sz
  replace df := df2.trans df
  clear df2 sz2 old2 new2 hb
  obtain ⟨g5, hg5, e5, m5⟩ := x5
  have x5 := e5
  clear e5
  have nhob_5 : go ≠ g5 := Nat.ne_of_lt (Nat.lt_of_lt_of_le lt_hob hg5)
  have hs5 := Nat.le_trans hbS0.size hg5
  refine wl_one (.eq (.int .i64 ((k : Nat) : Int))) rfl 4 rfl (by rw [sz]; decide) (st_assign (.tmp 14) rfl x14) ?_
  intro f11 w11 df2 sz2 old2 new2 hb
  replace hbS0 := hbS
  replace hbS := hbS.trans (Below.mono hb hbS.size)
  replace S_x3 := f_at (old2 3 rfl) S_x3
  replace bl0 := bl
  replace x0 := (old2 0 rfl).trans x0
  replace x9 := (old2 9 rfl).trans x9
  replace x3 := f_at (old2 3 rfl) (Fk.mono _ _ _ _ x3 hb)
  replace x10 := (old2 10 rfl).trans x10
  replace x11 := (old2 11 rfl).trans x11
  replace x12 := (old2 12 rfl).trans x12
  replace x13 := (old2 13 rfl).trans x13
  replace x14 := (old2 14 rfl).trans x14
  replace x16 := (old2 16 rfl).trans x16
  replace x5 := (old2 5 rfl).trans x5
  have x4 : f11.eval (.tmp 4) = .int .i64 ((k : Nat) : Int) := new2
  have lt_hob := Ob.lt hob
  replace hob := Ob.below hob hb
  have lt_m5 := Ob.lt m5
  replace m5 := Ob.below m5 hb
  replace hvL := Fk.mono _ _ _ _ hvL hb
  replace hvS := Fk.mono _ _ _ _ hvS hb
  replace hJk := hJ _ _ _ hJk (Below.mono hb hzz)
  replace hzz := Nat.le_trans hzz hb.size
  replace htab := htab.below hb
  replace htz := htz.below hb htz.lt
  replace bl := trivial
  replace sz := sz2.trans sz
  replace df := df2.trans df
  clear df2 sz2 old2 new2 hb
  clear x14
  refine wl_store rfl (.tmp 5) (.tmp 16) rfl rfl (g5) (x) (hz) x5 x16 m5 hz_len hx ?_
  replace hob : Ob (w11.setRow g5 ((x).map V : List Value).toArray) (go) 22 ([r]) := Ob.setRow_other hob _ nhob_5
  replace m5 : Ob (w11.setRow g5 ((x).map V : List Value).toArray) (g5) 24 ((x).map V) := Ob.setRow m5 ((x).map V)
  replace hbS : Below _ _ (w11.setRow g5 ((x).map V : List Value).toArray) := hbS.trans (below_setRow _ _ _ _ hs5)
  replace hvL := Fk.mono _ _ _ _ S_hvL hbS
  replace hvS := Fk.mono _ _ _ _ S_hvS hbS
  replace hJk := hJ _ _ _ S_hJk (Below.mono hbS S_hzz)
  replace hzz := Nat.le_trans S_hzz hbS.size
  replace htab := S_htab.below hbS
  replace htz := S_htz.below hbS S_htz.lt
  replace bl : True := trivial
  generalize w11.setRow g5 ((x).map V : List Value).toArray = w12b at bl hob m5 hvL hvS hJk hzz htab htz hbS ⊢
  replace x3 : Fk.f (.ow w.heap.size (pks l k)) (f11.eval (.tmp 3)) w12b := Fk.mono _ _ _ _ S_x3 hbS
  refine wpList_nil ?_
  clear hbS hbS0 S_hvL S_hvS S_hJk S_hzz S_htab S_htz S_x3
  clear x16
  show Code.wp _ _ _ _ _
  refine wp_seq ?_
  -- R5
  refine wp_region_seq [.ow w.heap.size (pks l k), .eq (.int .i64 ((k : Nat) : Int)), .eq (.int .i64 ((k + 1 : Nat) : Int)), .eq (.agg ((x).map V).toArray)] (by kernel_rfl) (by kernel_rfl) (by rw [sz]; kernel_rfl) (by kernel_rfl) ⟨fun hw ac u K => ?_, fun hw ac u K => ?_, fun hw ac u K => ?_, fun hw ac u K => ?_, trivial⟩ ?_
  · exact st_move (.tmp 3) rfl (f_at (K.old 3 rfl) (Fk.mono _ _ _ _ x3 K.grow))
  · exact st_move (.tmp 4) rfl ((K.old 4 rfl).trans x4)
  · exact st_add (.tmp 18) (.const (.int .i64 1)) rfl (k) (1) (k + 1) (K.dep 1 18 rfl) rfl (by omega) (by omega)
  · exact st_load24 (.tmp 5) rfl (g5) (x) ((K.old 5 rfl).trans x5) hx (Ob.below m5 K.grow)
  intro f13 w13 A hb
  replace bl0 := bl
  replace x0 := (A.old 0 rfl).trans x0
  replace x9 := (A.old 9 rfl).trans x9
  replace x3 := f_at (A.old 3 rfl) (Fk.mono _ _ _ _ x3 hb)
  replace x10 := (A.old 10 rfl).trans x10
  replace x11 := (A.old 11 rfl).trans x11
  replace x12 := (A.old 12 rfl).trans x12
  replace x13 := (A.old 13 rfl).trans x13
  replace x5 := (A.old 5 rfl).trans x5
  replace x4 := (A.old 4 rfl).trans x4
  have x17 : Fk.f (.ow w.heap.size (pks l k)) (f13.eval (.tmp 17)) w13 := A.has 0 17 rfl
  have x19 : f13.eval (.tmp 19) = .int .i64 ((k + 1 : Nat) : Int) := A.has 2 19 rfl
  have x20 : f13.eval (.tmp 20) = .agg ((x).map V).toArray := A.has 3 20 rfl
  have lt_hob := Ob.lt hob
  replace hob := Ob.below hob hb
  have lt_m5 := Ob.lt m5
  replace m5 := Ob.below m5 hb
  replace hvL := Fk.mono _ _ _ _ hvL hb
  replace hvS := Fk.mono _ _ _ _ hvS hb
  replace hJk := hJ _ _ _ hJk (Below.mono hb hzz)
  replace hzz := Nat.le_trans hzz hb.size
  replace htab := htab.below hb
  replace htz := htz.below hb htz.lt
  replace bl := trivial
  replace sz := A.size.trans sz
  replace df := A.defs.trans df
  clear A hb
  obtain ⟨A17, C17, lb17, lo17, e17, hc17, hl17⟩ := ow_hc x17
  have o17 := x17
  rw [e17] at o17
  clear lb17 lo17 hc17 hl17
  refine wl_call 26 (.func 26) _ _ #[.slice A17 (pks l k).length C17, .int .i64 ((k + 1 : Nat) : Int), .agg ((x).map V).toArray] rfl 21 rfl (by rw [sz]; decide) rfl rfl (arg3 e17 x19 x20) Tryd.enter26 (fun u W' => (Fk.ow w.heap.size (pks l (k + 1))).f u W' ∧ Below w.heap.size w13 W') (by rw [← hgr]; exact grown_any hx (by omega) (by omega) rfl htl (by omega) w13 hzz o17 htab htz) ?_
  intro f14 w14 df2 sz2 old2 hR2
  clear o17
  clear e17
  clear hob
  clear m5
  clear hvL
  clear hvS
  replace x0 := (old2 0 rfl).trans x0
  replace x9 := (old2 9 rfl).trans x9
  clear x3
  replace x10 := (old2 10 rfl).trans x10
  replace x11 := (old2 11 rfl).trans x11
  replace x12 := (old2 12 rfl).trans x12
  replace x13 := (old2 13 rfl).trans x13
  replace x5 := (old2 5 rfl).trans x5
  replace x4 := (old2 4 rfl).trans x4
  clear x17
  replace x19 := (old2 19 rfl).trans x19
  replace x20 := (old2 20 rfl).trans x20
  have x21 : Fk.f (.ow w.heap.size (pks l (k + 1))) (f14.eval (.tmp 21)) w14 := hR2.1
  replace hJk := hJ _ _ _ hJk hR2.2
  replace hzz := Nat.le_trans hzz hR2.2.size
  obtain ⟨hob, hvL, htab2, htz2⟩ := hR _ _ hJk
  replace htab := htab2
  replace htz := htz2
  clear htab2 htz2
  have hvS := hc_hs hvL
  replace sz := sz2.trans sz
  replace df := df2.trans df
  clear df2 sz2 old2 hR2
  clear x19
  clear x20
  refine wl_one (.ow w.heap.size (pks l (k + 1))) rfl 3 rfl (by rw [sz]; decide) (st_assign (.tmp 21) rfl x21) ?_
  intro f15 w15 df2 sz2 old2 new2 hb
  replace bl0 := bl
  replace x0 := (old2 0 rfl).trans x0
  replace x9 := (old2 9 rfl).trans x9
  replace x10 := (old2 10 rfl).trans x10
  replace x11 := (old2 11 rfl).trans x11
  replace x12 := (old2 12 rfl).trans x12
  replace x13 := (old2 13 rfl).trans x13
  replace x5 := (old2 5 rfl).trans x5
  replace x4 := (old2 4 rfl).trans x4
  replace x21 := f_at (old2 21 rfl) (Fk.mono _ _ _ _ x21 hb)
  have x3 : Fk.f (.ow w.heap.size (pks l (k + 1))) (f15.eval (.tmp 3)) w15 := new2
  have lt_hob := Ob.lt hob
  replace hob := Ob.below hob hb
  replace hvL := Fk.mono _ _ _ _ hvL hb
  replace hvS := Fk.mono _ _ _ _ hvS hb
  replace hJk := hJ _ _ _ hJk (Below.mono hb hzz)
  replace hzz := Nat.le_trans hzz hb.size
  replace htab := htab.below hb
  replace htz := htz.below hb htz.lt
  replace bl := trivial
  replace sz := sz2.trans sz
  replace df := df2.trans df
  clear df2 sz2 old2 new2 hb
  refine wpList_nil ?_
  clear x21
  show Code.wp _ _ _ _ _
  refine wp_seq ?_
  -- R6
  refine wp_region_li 6 ?_
  refine wli_one (.eq (.func (.yield l0) #[] #[])) rfl 22 rfl (by rw [sz]; decide) (st_move (.tmp 0) rfl x0) ?_
  intro f16 w16 df2 sz2 old2 new2 hb
  replace bl0 := bl
  replace x0 := (old2 0 rfl).trans x0
  replace x9 := (old2 9 rfl).trans x9
  replace x10 := (old2 10 rfl).trans x10
  replace x11 := (old2 11 rfl).trans x11
  replace x12 := (old2 12 rfl).trans x12
  replace x13 := (old2 13 rfl).trans x13
  replace x5 := (old2 5 rfl).trans x5
  replace x4 := (old2 4 rfl).trans x4
  replace x3 := f_at (old2 3 rfl) (Fk.mono _ _ _ _ x3 hb)
  have x22 : f16.eval (.tmp 22) = .func (.yield l0) #[] #[] := new2
  have lt_hob := Ob.lt hob
  replace hob := Ob.below hob hb
  replace hvL := Fk.mono _ _ _ _ hvL hb
  replace hvS := Fk.mono _ _ _ _ hvS hb
  replace hJk := hJ _ _ _ hJk (Below.mono hb hzz)
  replace hzz := Nat.le_trans hzz hb.size
  replace htab := htab.below hb
  replace htz := htz.below hb htz.lt
  replace bl := trivial
  replace sz := sz2.trans sz
  replace df := df2.trans df
  clear df2 sz2 old2 new2 hb
  refine wli_one (.eq (.int .i64 ((k : Nat) : Int))) rfl 23 rfl (by rw [sz]; decide) (st_move (.tmp 4) rfl x4) ?_
  intro f17 w17 df2 sz2 old2 new2 hb
  replace bl0 := bl
  replace x0 := (old2 0 rfl).trans x0
  replace x9 := (old2 9 rfl).trans x9
  replace x10 := (old2 10 rfl).trans x10
  replace x11 := (old2 11 rfl).trans x11
  replace x12 := (old2 12 rfl).trans x12
  replace x13 := (old2 13 rfl).trans x13
  replace x5 := (old2 5 rfl).trans x5
  replace x4 := (old2 4 rfl).trans x4
  replace x3 := f_at (old2 3 rfl) (Fk.mono _ _ _ _ x3 hb)
  replace x22 := (old2 22 rfl).trans x22
  have x23 : f17.eval (.tmp 23) = .int .i64 ((k : Nat) : Int) := new2
  have lt_hob := Ob.lt hob
  replace hob := Ob.below hob hb
  replace hvL := Fk.mono _ _ _ _ hvL hb
  replace hvS := Fk.mono _ _ _ _ hvS hb
  replace hJk := hJ _ _ _ hJk (Below.mono hb hzz)
  replace hzz := Nat.le_trans hzz hb.size
  replace htab := htab.below hb
  replace htz := htz.below hb htz.lt
  replace bl := trivial
  replace sz := sz2.trans sz
  replace df := df2.trans df
  clear df2 sz2 old2 new2 hb
  refine wli_one (.eq (.int .i64 ((k + 1 : Nat) : Int))) rfl 24 rfl (by rw [sz]; decide) (st_add (.tmp 23) (.const (.int .i64 1)) rfl (k) (1) (k + 1) x23 rfl (by omega) (by omega)) ?_
  intro f18 w18 df2 sz2 old2 new2 hb
  replace bl0 := bl
  replace x0 := (old2 0 rfl).trans x0
  replace x9 := (old2 9 rfl).trans x9
  replace x10 := (old2 10 rfl).trans x10
  replace x11 := (old2 11 rfl).trans x11
  replace x12 := (old2 12 rfl).trans x12
  replace x13 := (old2 13 rfl).trans x13
  replace x5 := (old2 5 rfl).trans x5
  replace x4 := (old2 4 rfl).trans x4
  replace x3 := f_at (old2 3 rfl) (Fk.mono _ _ _ _ x3 hb)
  replace x22 := (old2 22 rfl).trans x22
  replace x23 := (old2 23 rfl).trans x23
  have x24 : f18.eval (.tmp 24) = .int .i64 ((k + 1 : Nat) : Int) := new2
  have lt_hob := Ob.lt hob
  replace hob := Ob.below hob hb
  replace hvL := Fk.mono _ _ _ _ hvL hb
  replace hvS := Fk.mono _ _ _ _ hvS hb
  replace hJk := hJ _ _ _ hJk (Below.mono hb hzz)
  replace hzz := Nat.le_trans hzz hb.size
  replace htab := htab.below hb
  replace htz := htz.below hb htz.lt
  replace bl := trivial
  replace sz := sz2.trans sz
  replace df := df2.trans df
  clear df2 sz2 old2 new2 hb
  refine wli_one (.ow w.heap.size (pks l (k + 1))) rfl 25 rfl (by rw [sz]; decide) (st_move (.tmp 3) rfl x3) ?_
  intro f19 w19 df2 sz2 old2 new2 hb
  replace bl0 := bl
  replace x0 := (old2 0 rfl).trans x0
  replace x9 := (old2 9 rfl).trans x9
  replace x10 := (old2 10 rfl).trans x10
  replace x11 := (old2 11 rfl).trans x11
  replace x12 := (old2 12 rfl).trans x12
  replace x13 := (old2 13 rfl).trans x13
  replace x5 := (old2 5 rfl).trans x5
  replace x4 := (old2 4 rfl).trans x4
  replace x3 := f_at (old2 3 rfl) (Fk.mono _ _ _ _ x3 hb)
  replace x22 := (old2 22 rfl).trans x22
  replace x23 := (old2 23 rfl).trans x23
  replace x24 := (old2 24 rfl).trans x24
  have x25 : Fk.f (.ow w.heap.size (pks l (k + 1))) (f19.eval (.tmp 25)) w19 := new2
  have lt_hob := Ob.lt hob
  replace hob := Ob.below hob hb
  replace hvL := Fk.mono _ _ _ _ hvL hb
  replace hvS := Fk.mono _ _ _ _ hvS hb
  replace hJk := hJ _ _ _ hJk (Below.mono hb hzz)
  replace hzz := Nat.le_trans hzz hb.size
  replace htab := htab.below hb
  replace htz := htz.below hb htz.lt
  replace bl := trivial
  replace sz := sz2.trans sz
  replace df := df2.trans df
  clear df2 sz2 old2 new2 hb
  refine wli_one (.eq (.agg ((y).map V).toArray)) rfl 26 rfl (by rw [sz]; decide) (st_call 27 (.func 27) _ _ #[f19.eval (.tmp 25)] rfl rfl (one_arg rfl) Tryd.enter27 (fk_joined hpl2 (by omega) x25 htab ey)) ?_
  intro f20 w20 df2 sz2 old2 new2 hb
  replace bl0 := bl
  replace x0 := (old2 0 rfl).trans x0
  replace x9 := (old2 9 rfl).trans x9
  replace x10 := (old2 10 rfl).trans x10
  replace x11 := (old2 11 rfl).trans x11
  replace x12 := (old2 12 rfl).trans x12
  replace x13 := (old2 13 rfl).trans x13
  replace x5 := (old2 5 rfl).trans x5
  replace x4 := (old2 4 rfl).trans x4
  replace x3 := f_at (old2 3 rfl) (Fk.mono _ _ _ _ x3 hb)
  replace x22 := (old2 22 rfl).trans x22
  replace x23 := (old2 23 rfl).trans x23
  replace x24 := (old2 24 rfl).trans x24
  replace x25 := f_at (old2 25 rfl) (Fk.mono _ _ _ _ x25 hb)
  have x26 : f20.eval (.tmp 26) = .agg ((y).map V).toArray := new2
  have lt_hob := Ob.lt hob
  replace hob := Ob.below hob hb
  replace hvL := Fk.mono _ _ _ _ hvL hb
  replace hvS := Fk.mono _ _ _ _ hvS hb
  replace hJk := hJ _ _ _ hJk (Below.mono hb hzz)
  replace hzz := Nat.le_trans hzz hb.size
  replace htab := htab.below hb
  replace htz := htz.below hb htz.lt
  replace bl := trivial
  replace sz := sz2.trans sz
  replace df := df2.trans df
  clear df2 sz2 old2 new2 hb
  refine wli_yield (.tmp 22) _ _ #[.int .i64 ((k + 1 : Nat) : Int), .agg ((y).map V).toArray] rfl 27 rfl (by rw [sz]; decide) rfl l0 x22 (arg2 x24 x26) (hYk _ (by omega) hJk) ?_ ?_
  rotate_left
  · intro f21 w21 df2 sz2 old2 new2 hX
    clear hob
    clear hvL
    clear hvS
    replace x0 := (old2 0 rfl).trans x0
    replace x9 := (old2 9 rfl).trans x9
    replace x10 := (old2 10 rfl).trans x10
    replace x11 := (old2 11 rfl).trans x11
    replace x12 := (old2 12 rfl).trans x12
    replace x13 := (old2 13 rfl).trans x13
    replace x5 := (old2 5 rfl).trans x5
    replace x4 := (old2 4 rfl).trans x4
    clear x3
    replace x22 := (old2 22 rfl).trans x22
    replace x23 := (old2 23 rfl).trans x23
    replace x24 := (old2 24 rfl).trans x24
    clear x25
    replace x26 := (old2 26 rfl).trans x26
    have x27 : f21.eval (.tmp 27) = .bool false := new2
    
    replace sz := sz2.trans sz
    replace df := df2.trans df
    clear df2 sz2 old2 new2
    refine wli_not rfl (.tmp 27) rfl 28 rfl (by rw [sz]; decide) false x27 ?_
    intro f22 df2 sz2 old2 new2
    replace x0 := (old2 0 rfl).trans x0
    replace x9 := (old2 9 rfl).trans x9
    replace x10 := (old2 10 rfl).trans x10
    replace x11 := (old2 11 rfl).trans x11
    replace x12 := (old2 12 rfl).trans x12
    replace x13 := (old2 13 rfl).trans x13
    replace x5 := (old2 5 rfl).trans x5
    replace x4 := (old2 4 rfl).trans x4
    replace x22 := (old2 22 rfl).trans x22
    replace x23 := (old2 23 rfl).trans x23
    replace x24 := (old2 24 rfl).trans x24
    replace x26 := (old2 26 rfl).trans x26
    replace x27 := (old2 27 rfl).trans x27
    have x28 : f22.eval (.tmp 28) = .bool true := new2
    replace sz := sz2.trans sz
    replace df := df2.trans df
    clear df2 sz2 old2 new2
    refine wli_nil ?_
    clear x22
    clear x23
    clear x24
    clear x26
    clear x27
    show Code.wp _ _ _ _ _
    refine wp_cond_true x28 ?_
    refine wp_ret ?_
    repeat (first | with_reducible refine then_ret ?_ | with_reducible refine block_ret ?_)
    exact bodyPost_ret (results_none rfl _ _ _) df ⟨⟨_, rfl⟩, .inr ⟨k + 1, by omega, hX⟩⟩
  intro f21 w21 df2 sz2 old2 new2 hX
  clear hob
  clear hvL
  clear hvS
  replace x0 := (old2 0 rfl).trans x0
  replace x9 := (old2 9 rfl).trans x9
  replace x10 := (old2 10 rfl).trans x10
  replace x11 := (old2 11 rfl).trans x11
  replace x12 := (old2 12 rfl).trans x12
  replace x13 := (old2 13 rfl).trans x13
  replace x5 := (old2 5 rfl).trans x5
  replace x4 := (old2 4 rfl).trans x4
  replace x3 := f_at (old2 3 rfl) (ow_kept x3 hX.2)
  replace x22 := (old2 22 rfl).trans x22
  replace x23 := (old2 23 rfl).trans x23
  replace x24 := (old2 24 rfl).trans x24
  replace x25 := f_at (old2 25 rfl) (ow_kept x25 hX.2)
  replace x26 := (old2 26 rfl).trans x26
  have x27 : f21.eval (.tmp 27) = .bool true := new2
  replace hJk := hX.1
  replace hzz := Nat.le_trans hzz hX.2.1
  obtain ⟨hob, hvL, htab2, htz2⟩ := hR _ _ hJk
  replace htab := htab2
  replace htz := htz2
  clear htab2 htz2
  have hvS := hc_hs hvL
  replace sz := sz2.trans sz
  replace df := df2.trans df
  clear df2 sz2 old2 new2 hX
  refine wli_not rfl (.tmp 27) rfl 28 rfl (by rw [sz]; decide) true x27 ?_
  intro f22 df2 sz2 old2 new2
  replace x0 := (old2 0 rfl).trans x0
  replace x9 := (old2 9 rfl).trans x9
  replace x10 := (old2 10 rfl).trans x10
  replace x11 := (old2 11 rfl).trans x11
  replace x12 := (old2 12 rfl).trans x12
  replace x13 := (old2 13 rfl).trans x13
  replace x5 := (old2 5 rfl).trans x5
  replace x4 := (old2 4 rfl).trans x4
  replace x3 := f_at (old2 3 rfl) x3
  replace x22 := (old2 22 rfl).trans x22
  replace x23 := (old2 23 rfl).trans x23
  replace x24 := (old2 24 rfl).trans x24
  replace x25 := f_at (old2 25 rfl) x25
  replace x26 := (old2 26 rfl).trans x26
  replace x27 := (old2 27 rfl).trans x27
  have x28 : f22.eval (.tmp 28) = .bool false := new2
  replace sz := sz2.trans sz
  replace df := df2.trans df
  clear df2 sz2 old2 new2
  refine wli_nil ?_
  clear x22
  clear x23
  clear x24
  clear x25
  clear x26
  clear x27
  show Code.wp _ _ _ _ _
  refine wp_cond_false x28 ?_
  refine wp_skip ?_
  show Code.wp _ _ _ _ _
  -- R7
  refine wp_region_seq [.eq (.int .i64 ((k + 1 : Nat) : Int))] (by kernel_rfl) (by kernel_rfl) (by rw [sz]; kernel_rfl) (by kernel_rfl) ⟨fun hw ac u K => ?_, trivial⟩ ?_
  · exact st_add (.tmp 12) (.const (.int .i64 1)) rfl (k) (1) (k + 1) ((K.old 12 rfl).trans x12) rfl (by omega) (by omega)
  intro f23 w23 A hb
  replace bl0 := bl
  replace x0 := (A.old 0 rfl).trans x0
  replace x9 := (A.old 9 rfl).trans x9
  replace x10 := (A.old 10 rfl).trans x10
  replace x11 := (A.old 11 rfl).trans x11
  replace x12 := (A.old 12 rfl).trans x12
  replace x13 := (A.old 13 rfl).trans x13
  replace x5 := (A.old 5 rfl).trans x5
  replace x4 := (A.old 4 rfl).trans x4
  replace x3 := f_at (A.old 3 rfl) (Fk.mono _ _ _ _ x3 hb)
  replace x28 := (A.old 28 rfl).trans x28
  have x29 : f23.eval (.tmp 29) = .int .i64 ((k + 1 : Nat) : Int) := A.has 0 29 rfl
  have lt_hob := Ob.lt hob
  replace hob := Ob.below hob hb
  replace hvL := Fk.mono _ _ _ _ hvL hb
  replace hvS := Fk.mono _ _ _ _ hvS hb
  replace hJk := hJ _ _ _ hJk (Below.mono hb hzz)
  replace hzz := Nat.le_trans hzz hb.size
  replace htab := htab.below hb
  replace htz := htz.below hb htz.lt
  replace bl := trivial
  replace sz := A.size.trans sz
  replace df := A.defs.trans df
  clear A hb
  refine wl_one (.eq (.int .i64 ((k + 1 : Nat) : Int))) rfl 12 rfl (by rw [sz]; decide) (st_move (.tmp 29) rfl x29) ?_
  intro f24 w24 df2 sz2 old2 new2 hb
  replace bl0 := bl
  replace x0 := (old2 0 rfl).trans x0
  replace x9 := (old2 9 rfl).trans x9
  replace x10 := (old2 10 rfl).trans x10
  replace x11 := (old2 11 rfl).trans x11
  clear x12
  replace x13 := (old2 13 rfl).trans x13
  replace x5 := (old2 5 rfl).trans x5
  replace x4 := (old2 4 rfl).trans x4
  replace x3 := f_at (old2 3 rfl) (Fk.mono _ _ _ _ x3 hb)
  replace x28 := (old2 28 rfl).trans x28
  replace x29 := (old2 29 rfl).trans x29
  have x12 : f24.eval (.tmp 12) = .int .i64 ((k + 1 : Nat) : Int) := new2
  have lt_hob := Ob.lt hob
  replace hob := Ob.below hob hb
  replace hvL := Fk.mono _ _ _ _ hvL hb
  replace hvS := Fk.mono _ _ _ _ hvS hb
  replace hJk := hJ _ _ _ hJk (Below.mono hb hzz)
  replace hzz := Nat.le_trans hzz hb.size
  replace htab := htab.below hb
  replace htz := htz.below hb htz.lt
  replace bl := trivial
  replace sz := sz2.trans sz
  replace df := df2.trans df
  clear df2 sz2 old2 new2 hb
  refine wpList_nil ?_
  clear x29
  show (∃ _, _) ∧ _
  refine ⟨⟨k + 1, by omega, sz, df, x0, x9, x10, x11, x12, x3, hob, hvL, hvS, hJk, hzz, htab, htz, bl⟩, ?_⟩
  rw [show f24.eval (.tmp 12) = _ from x12, show _ = _ from hcnt]
  simp [intOf]
  omega
end Go.Proofs.YtfbfngblocfdlaaDoor
namespace Go.Proofs.YtfbfngblocfdlaaDoor
set_option maxRecDepth 100000
open Go.RowKit
theorem mpath_len (n : Nat) : ∀ (l : List (List (BitVec 8))) (i : Nat), l.length = n → (mpath l i).length ≤ n := by
  induction n using Nat.strongRecOn with
  | ind n ih =>
    intro l i hn
    by_cases h1 : l.length ≤ 1
    · rw [mpath_one h1]; exact Nat.zero_le _
    · have h2 : 2 ≤ l.length := by omega
      have hs := spl_lt h2
      have hp := spl_pos l.length
      by_cases hi : i < spl l.length
      · have := ih (spl l.length) (by omega) (l.take (spl l.length)) i (by rw [List.length_take]; omega)
        rw [mpath_left h2 hi, List.length_append, List.length_singleton]; omega
      · have := ih (l.length - spl l.length) (by omega) (l.drop (spl l.length)) (i - spl l.length) (by rw [List.length_drop])
        rw [mpath_right h2 hi, List.length_append, List.length_singleton]; omega
theorem msub_len (n : Nat) : ∀ (l : List (List (BitVec 8))) (m : Nat) (b : Bool), l.length = n → (msub l m b).length ≤ n + 1 := by
  induction n using Nat.strongRecOn with
  | ind n ih =>
    intro l m b hn
    by_cases hm : m = l.length
    · rw [msub, if_pos hm]; split <;> simp
    · by_cases h1 : l.length ≤ 1
      · rw [msub, if_neg hm, dif_pos h1]; exact Nat.zero_le _
      · have h2 : 2 ≤ l.length := by omega
        have hs := spl_lt h2
        have hp := spl_pos l.length
        by_cases hi : m ≤ spl l.length
        · have := ih (spl l.length) (by omega) (l.take (spl l.length)) m b (by rw [List.length_take]; omega)
          rw [msub_left h2 hm hi, List.length_append, List.length_singleton]; omega
        · have := ih (l.length - spl l.length) (by omega) (l.drop (spl l.length)) (m - spl l.length) false (by rw [List.length_drop])
          rw [msub_right h2 hm hi, List.length_append, List.length_singleton]; omega
theorem path_in (l : List (List (BitVec 8))) (i : Nat) (hi : i < l.length) : ∀ (w : World) (v : Value), l.length ≤ 1000 → (Fk.hc l).f v w → Tab w →
    Calls Tryd.prog 30 #[v, .int .i64 ((i : Nat) : Int)] w fun e w' => ∃ u, e = .returned u ∧ (Fk.ow w.heap.size (mpath l i)).f u w' ∧ Below w.heap.size w w' := by
  suffices H : ∀ (n : Nat) (l : List (List (BitVec 8))), l.length = n → ∀ (i : Nat), i < l.length → ∀ (w : World) (v : Value), l.length ≤ 1000 → (Fk.hc l).f v w → Tab w →
    Calls Tryd.prog 30 #[v, .int .i64 ((i : Nat) : Int)] w fun e w' => ∃ u, e = .returned u ∧ (Fk.ow w.heap.size (mpath l i)).f u w' ∧ Below w.heap.size w w' from H _ l rfl i hi
  clear hi i l
  intro n
  induction n using Nat.strongRecOn with
  | ind n ih0 =>
  intro l hn i hi w v h1000 hv hK
  have ih : ∀ (l' : List (List (BitVec 8))), l'.length < n → ∀ (i : Nat), i < l'.length → ∀ (w : World) (v : Value), l'.length ≤ 1000 → (Fk.hc l').f v w → Tab w →
    Calls Tryd.prog 30 #[v, .int .i64 ((i : Nat) : Int)] w fun e w' => ∃ u, e = .returned u ∧ (Fk.ow w.heap.size (mpath l' i)).f u w' ∧ Below w.heap.size w w' := fun l' hl' => ih0 _ hl' l' rfl
  clear ih0
  by_cases h1 : l.length = 1
  · skip
    go_enter Tryd.func30, Tryd.ntmps30
    refine code_both (fun f w1 => f.tmps.size = 39 ∧ f.defers = [] ∧ f.eval (.tmp 0) = v ∧ f.eval (.tmp 1) = .int .i64 ((i : Nat) : Int) ∧ Below w.heap.size w (w1)) ⟨rfl, rfl, rfl, rfl, Below.refl _ _⟩ ?_
    rintro f0 w0 ⟨sz, df, x0, x1, bl⟩
    have bl0 := bl
    refine wp_seq ?_
    -- R0
    refine wp_all_seq [.eq (.slice none 0 0)] (by kernel_rfl) (by kernel_rfl) (by rw [sz]; kernel_rfl) (by kernel_rfl) ⟨fun hw ac u K => ?_, trivial⟩ ?_
    · exact st_assign (.const (.slice none 0 0)) rfl rfl
    intro f1 w1 A hb
    replace bl0 := bl
    replace x0 := (A.old 0 rfl).trans x0
    replace x1 := (A.old 1 rfl).trans x1
    have x4 : f1.eval (.tmp 4) = .slice none 0 0 := A.has 0 4 rfl
    replace bl := (bl.trans (Below.mono hb bl.size))
    replace sz := A.size.trans sz
    replace df := A.defs.trans df
    clear A hb
    show Code.wp _ _ _ _ _
    refine wp_seq ?_
    refine wp_seq ?_
    -- R1
    refine wp_all_seq [.eq (v), .eq (.int .i64 (((l).length : Nat) : Int)), .eq (.bool true)] (by kernel_rfl) (by kernel_rfl) (by rw [sz]; kernel_rfl) (by kernel_rfl) ⟨fun hw ac u K => ?_, fun hw ac u K => ?_, fun hw ac u K => ?_, trivial⟩ ?_
    · exact st_move (.tmp 0) rfl ((K.old 0 rfl).trans x0)
    · exact st_lenc (.tmp 6) rfl ((l).length) rfl (fk_val (K.dep 0 6 rfl) (Fk.mono _ _ _ _ hv (bl.trans (Below.mono K.grow bl.size))))
    · exact st_eqi 3 (.tmp 7) (.const (.int .i64 1)) rfl .i64 ((((l).length : Nat) : Int)) (1) (K.dep 1 7 rfl) rfl _ (by rw [eq_comm, decide_eq_true_iff]; omega)
    intro f2 w2 A hb
    replace bl0 := bl
    replace x0 := (A.old 0 rfl).trans x0
    replace x1 := (A.old 1 rfl).trans x1
    replace x4 := (A.old 4 rfl).trans x4
    have x8 : f2.eval (.tmp 8) = .bool true := A.has 2 8 rfl
    replace bl := (bl.trans (Below.mono hb bl.size))
    replace sz := A.size.trans sz
    replace df := A.defs.trans df
    clear A hb
    show Code.wp _ _ _ _ _
    refine wp_cond_true x8 ?_
    refine wp_seq ?_
    -- R2
    refine wp_all_seq [.eq (.slice none 0 0)] (by kernel_rfl) (by kernel_rfl) (by rw [sz]; kernel_rfl) (by kernel_rfl) ⟨fun hw ac u K => ?_, trivial⟩ ?_
    · exact st_assign (.const (.slice none 0 0)) rfl rfl
    intro f3 w3 A hb
    replace bl0 := bl
    replace x0 := (A.old 0 rfl).trans x0
    replace x1 := (A.old 1 rfl).trans x1
    clear x4
    replace x8 := (A.old 8 rfl).trans x8
    have x4 : f3.eval (.tmp 4) = .slice none 0 0 := A.has 0 4 rfl
    replace bl := (bl.trans (Below.mono hb bl.size))
    replace sz := A.size.trans sz
    replace df := A.defs.trans df
    clear A hb
    show Code.wp _ _ _ _ _
    refine wp_ret ?_
    repeat (first | with_reducible refine then_ret ?_ | with_reducible refine block_ret ?_)
    rw [mpath_one (by omega)]
    exact bodyPost_ret (v := .slice none 0 0) (ret_slot rfl f3 _ x4 _ _) df ⟨_, rfl, ow_nil _ _, bl⟩
  · skip
    have h2 : 2 ≤ l.length := by omega
    obtain ⟨k, hk⟩ : ∃ k, spl l.length = k := ⟨_, rfl⟩
    have hk1 : k < l.length := by rw [← hk]; exact spl_lt h2
    have hk2 : 1 ≤ k := by rw [← hk]; exact spl_pos _
    obtain ⟨y1, ey1⟩ : ∃ p, Box (mroot (l.take k) = p) := ⟨_, ⟨rfl⟩⟩
    obtain ⟨y2, ey2⟩ : ∃ p, Box (mroot (l.drop k) = p) := ⟨_, ⟨rfl⟩⟩
    have hy1 : y1.length = 32 := by rw [← ey1.out]; exact mroot_len (fun x hx => hc_len hv x (List.mem_of_mem_take hx))
    have hy2 : y2.length = 32 := by rw [← ey2.out]; exact mroot_len (fun x hx => hc_len hv x (List.mem_of_mem_drop hx))
    go_enter Tryd.func30, Tryd.ntmps30
    refine code_both (fun f w1 => f.tmps.size = 39 ∧ f.defers = [] ∧ f.eval (.tmp 0) = v ∧ f.eval (.tmp 1) = .int .i64 ((i : Nat) : Int) ∧ Below w.heap.size w (w1)) ⟨rfl, rfl, rfl, rfl, Below.refl _ _⟩ ?_
    rintro f0 w0 ⟨sz, df, x0, x1, bl⟩
    have bl0 := bl
    refine wp_seq ?_
    -- R0
    refine wp_all_seq [.eq (.slice none 0 0)] (by kernel_rfl) (by kernel_rfl) (by rw [sz]; kernel_rfl) (by kernel_rfl) ⟨fun hw ac u K => ?_, trivial⟩ ?_
    · exact st_assign (.const (.slice none 0 0)) rfl rfl
    intro f1 w1 A hb
    replace bl0 := bl
    replace x0 := (A.old 0 rfl).trans x0
    replace x1 := (A.old 1 rfl).trans x1
    have x4 : f1.eval (.tmp 4) = .slice none 0 0 := A.has 0 4 rfl
    replace bl := (bl.trans (Below.mono hb bl.size))
    replace sz := A.size.trans sz
    replace df := A.defs.trans df
    clear A hb
    show Code.wp _ _ _ _ _
    refine wp_seq ?_
    refine wp_seq ?_
    -- R1
    refine wp_all_seq [.eq (v), .eq (.int .i64 (((l).length : Nat) : Int)), .eq (.bool false)] (by kernel_rfl) (by kernel_rfl) (by rw [sz]; kernel_rfl) (by kernel_rfl) ⟨fun hw ac u K => ?_, fun hw ac u K => ?_, fun hw ac u K => ?_, trivial⟩ ?_
    · exact st_move (.tmp 0) rfl ((K.old 0 rfl).trans x0)
    · exact st_lenc (.tmp 6) rfl ((l).length) rfl (fk_val (K.dep 0 6 rfl) (Fk.mono _ _ _ _ hv (bl.trans (Below.mono K.grow bl.size))))
    · exact st_eqi 3 (.tmp 7) (.const (.int .i64 1)) rfl .i64 ((((l).length : Nat) : Int)) (1) (K.dep 1 7 rfl) rfl _ (by rw [eq_comm, decide_eq_false_iff_not]; omega)
    intro f2 w2 A hb
    replace bl0 := bl
    replace x0 := (A.old 0 rfl).trans x0
    replace x1 := (A.old 1 rfl).trans x1
    replace x4 := (A.old 4 rfl).trans x4
    have x8 : f2.eval (.tmp 8) = .bool false := A.has 2 8 rfl
    replace bl := (bl.trans (Below.mono hb bl.size))
    replace sz := A.size.trans sz
    replace df := A.defs.trans df
    clear A hb
    show Code.wp _ _ _ _ _
    refine wp_cond_false x8 ?_
    refine wp_skip ?_
    show Code.wp _ _ _ _ _
    refine wp_seq ?_
    -- R3
    refine wp_all_seq [.eq (v), .eq (.int .i64 (((l).length : Nat) : Int)), .eq (.int .i64 ((k : Nat) : Int)), .eq (.int .i64 ((k : Nat) : Int))] (by kernel_rfl) (by kernel_rfl) (by rw [sz]; kernel_rfl) (by kernel_rfl) ⟨fun hw ac u K => ?_, fun hw ac u K => ?_, fun hw ac u K => ?_, fun hw ac u K => ?_, trivial⟩ ?_
    · exact st_move (.tmp 0) rfl ((K.old 0 rfl).trans x0)
    · exact st_lenc (.tmp 9) rfl ((l).length) rfl (fk_val (K.dep 0 9 rfl) (Fk.mono _ _ _ _ hv (bl.trans (Below.mono K.grow bl.size))))
    · exact st_call 12 (.func 12) _ _ #[.int .i64 (((l).length : Nat) : Int)] rfl rfl (one_arg (K.dep 1 10 rfl)) Tryd.enter12 (by rw [← hk]; exact fk_of (split_hi l.length (by omega) (by omega) _))
    · exact st_assign (.tmp 11) rfl (K.dep 2 11 rfl)
    intro f3 w3 A hb
    replace bl0 := bl
    replace x0 := (A.old 0 rfl).trans x0
    replace x1 := (A.old 1 rfl).trans x1
    replace x4 := (A.old 4 rfl).trans x4
    replace x8 := (A.old 8 rfl).trans x8
    have x5 : f3.eval (.tmp 5) = .int .i64 ((k : Nat) : Int) := A.has 3 5 rfl
    replace bl := (bl.trans (Below.mono hb bl.size))
    replace sz := A.size.trans sz
    replace df := A.defs.trans df
    clear A hb
    show Code.wp _ _ _ _ _
    refine wp_seq ?_
    refine wp_seq ?_
    by_cases hik : i < k
    rotate_left
    · skip
      have hl1 := mpath_len _ (l.drop k) (i - k) rfl
      rw [List.length_drop] at hl1
      -- R4
      refine wp_all_seq [.eq (.int .i64 ((i : Nat) : Int)), .eq (.int .i64 ((k : Nat) : Int)), .eq (.bool false)] (by kernel_rfl) (by kernel_rfl) (by rw [sz]; kernel_rfl) (by kernel_rfl) ⟨fun hw ac u K => ?_, fun hw ac u K => ?_, fun hw ac u K => ?_, trivial⟩ ?_
      · exact st_move (.tmp 1) rfl ((K.old 1 rfl).trans x1)
      · exact st_move (.tmp 5) rfl ((K.old 5 rfl).trans x5)
      · exact st_lss 3 (.tmp 12) (.tmp 13) rfl .i64 (((i : Nat) : Int)) (((k : Nat) : Int)) (K.dep 0 12 rfl) (K.dep 1 13 rfl) _ (by first | (simp; done) | (simp; omega))
      intro f4 w4 A hb
      replace bl0 := bl
      replace x0 := (A.old 0 rfl).trans x0
      replace x1 := (A.old 1 rfl).trans x1
      replace x4 := (A.old 4 rfl).trans x4
      replace x8 := (A.old 8 rfl).trans x8
      replace x5 := (A.old 5 rfl).trans x5
      have x14 : f4.eval (.tmp 14) = .bool false := A.has 2 14 rfl
      replace bl := (bl.trans (Below.mono hb bl.size))
      replace sz := A.size.trans sz
      replace df := A.defs.trans df
      clear A hb
      show Code.wp _ _ _ _ _
      refine wp_cond_false x14 ?_
      refine wp_skip ?_
      show Code.wp _ _ _ _ _
      refine wp_seq ?_
      -- R6
      refine wp_region_tail [.eq (v), .eq (.int .i64 ((k : Nat) : Int)), .hc ((l).drop (k)), .eq (.int .i64 ((i : Nat) : Int)), .eq (.int .i64 ((k : Nat) : Int)), .eq (.int .i64 ((i - k : Nat) : Int)), .ow w.heap.size (mpath (l.drop k) (i - k)), .eq (v), .eq (.int .i64 ((k : Nat) : Int)), .hc ((l).take (k)), .eq (.agg ((y1).map V).toArray), .hs ([y1])] [12, 13] Tryd.mixed (by kernel_rfl) (by kernel_rfl) (by kernel_rfl) (by kernel_rfl) (by rw [sz]; kernel_rfl) (by kernel_rfl) ⟨fun hw ac u K => ?_, fun hw ac u K => ?_, fun hw ac u K => ?_, fun hw ac u K => ?_, fun hw ac u K => ?_, fun hw ac u K => ?_, fun hw ac u K => ?_, fun hw ac u K => ?_, fun hw ac u K => ?_, fun hw ac u K => ?_, fun hw ac u K => ?_, fun hw ac u K => ?_, trivial⟩ ?_
      · exact st_move (.tmp 0) rfl ((K.old 0 rfl).trans x0)
      · exact st_move (.tmp 5) rfl ((K.old 5 rfl).trans x5)
      · exact st_restc (.tmp 26) (.tmp 27) rfl (fk_val (K.dep 0 26 rfl) (Fk.mono _ _ _ _ hv (bl.trans (Below.mono K.grow bl.size)))) (k) (K.dep 1 27 rfl) (by omega)
      · exact st_move (.tmp 1) rfl ((K.old 1 rfl).trans x1)
      · exact st_move (.tmp 5) rfl ((K.old 5 rfl).trans x5)
      · exact st_sub (.tmp 29) (.tmp 30) rfl (i) (k) (i - k) (K.dep 3 29 rfl) (K.dep 4 30 rfl) (by omega) (by omega)
      · exact st_call 30 (.func 30) _ _ #[ac.eval (.tmp 28), .int .i64 ((i - k : Nat) : Int)] rfl rfl (arg2 rfl (K.dep 5 31 rfl)) Tryd.enter30 (fk_ow (bl.trans (Below.mono K.grow bl.size)).size (ih (l.drop k) (by rw [List.length_drop]; omega) (i - k) (by rw [List.length_drop]; omega) _ _ (by rw [List.length_drop]; omega) (K.dep 2 28 rfl) (hK.below (bl.trans (Below.mono K.grow bl.size)))))
      · exact st_move (.tmp 0) rfl ((K.old 0 rfl).trans x0)
      · exact st_move (.tmp 5) rfl ((K.old 5 rfl).trans x5)
      · exact st_cuth (.tmp 33) (.tmp 34) rfl (fk_val (K.dep 7 33 rfl) (Fk.mono _ _ _ _ hv (bl.trans (Below.mono K.grow bl.size)))) (k) (K.dep 8 34 rfl) (by omega)
      · exact st_call 8 (.func 8) _ _ #[ac.eval (.tmp 35)] rfl rfl (one_arg rfl) Tryd.enter8 (fk_of (root_any (l.take k) _ _ (by rw [List.length_take]; omega) (K.dep 9 35 rfl) (hK.below (bl.trans (Below.mono K.grow bl.size))) ey1))
      · exact st_bh1 (.tmp 36) rfl hy1 (K.dep 10 36 rfl)
      intro f5 w5 A hb
      replace bl0 := bl
      replace x0 := (A.old 0 rfl).trans x0
      replace x1 := (A.old 1 rfl).trans x1
      replace x4 := (A.old 4 rfl).trans x4
      replace x8 := (A.old 8 rfl).trans x8
      replace x5 := (A.old 5 rfl).trans x5
      replace x14 := (A.old 14 rfl).trans x14
      have x32 : Fk.f (.ow w.heap.size (mpath (l.drop k) (i - k))) (f5.eval (.tmp 32)) w5 := A.has 6 32 rfl
      have x37 : Fk.f (.hs ([y1])) (f5.eval (.tmp 37)) w5 := A.has 11 37 rfl
      replace bl := (bl.trans (Below.mono hb bl.size))
      replace sz := A.size.trans sz
      replace df := A.defs.trans df
      clear A hb
      refine wl_append rfl (.tmp 32) (.tmp 37) rfl 38 rfl (by rw [sz]; decide) x32 x37 bl (by omega) ?_
      intro f6 w6 df2 sz2 old2 new2 bl2
      clear x32
      clear x37
      replace x0 := (old2 0 rfl).trans x0
      replace x1 := (old2 1 rfl).trans x1
      replace x4 := (old2 4 rfl).trans x4
      replace x8 := (old2 8 rfl).trans x8
      replace x5 := (old2 5 rfl).trans x5
      replace x14 := (old2 14 rfl).trans x14
      have x38 : Fk.f (.ow w.heap.size (mpath (l.drop k) (i - k) ++ [y1])) (f6.eval (.tmp 38)) w6 := new2
      replace bl := bl2
      replace bl0 := bl
      replace sz := sz2.trans sz
      replace df := df2.trans df
      clear df2 sz2 old2 new2 bl2
      refine wl_one (.ow w.heap.size (mpath (l.drop k) (i - k) ++ [y1])) rfl 4 rfl (by rw [sz]; decide) (st_assign (.tmp 38) rfl x38) ?_
      intro f7 w7 df2 sz2 old2 new2 hb
      replace bl0 := bl
      replace x0 := (old2 0 rfl).trans x0
      replace x1 := (old2 1 rfl).trans x1
      clear x4
      replace x8 := (old2 8 rfl).trans x8
      replace x5 := (old2 5 rfl).trans x5
      replace x14 := (old2 14 rfl).trans x14
      replace x38 := f_at (old2 38 rfl) (Fk.mono _ _ _ _ x38 hb)
      have x4 : Fk.f (.ow w.heap.size (mpath (l.drop k) (i - k) ++ [y1])) (f7.eval (.tmp 4)) w7 := new2
      replace bl := (bl.trans (Below.mono hb bl.size))
      replace sz := sz2.trans sz
      replace df := df2.trans df
      clear df2 sz2 old2 new2 hb
      refine wpList_nil ?_
      clear x38
      show Code.wp _ _ _ _ _
      refine wp_ret ?_
      repeat (first | with_reducible refine then_ret ?_ | with_reducible refine block_ret ?_)
      rw [mpath_right h2 (by rw [hk]; exact hik), hk, ey1.out]
      exact bodyPost_ret (v := f7.eval (.tmp 4)) (ret_slot rfl f7 _ rfl _ _) df ⟨_, rfl, x4, bl⟩
    have hl1 := mpath_len _ (l.take k) i rfl
    rw [List.length_take] at hl1
    -- R4
    refine wp_all_seq [.eq (.int .i64 ((i : Nat) : Int)), .eq (.int .i64 ((k : Nat) : Int)), .eq (.bool true)] (by kernel_rfl) (by kernel_rfl) (by rw [sz]; kernel_rfl) (by kernel_rfl) ⟨fun hw ac u K => ?_, fun hw ac u K => ?_, fun hw ac u K => ?_, trivial⟩ ?_
    · exact st_move (.tmp 1) rfl ((K.old 1 rfl).trans x1)
    · exact st_move (.tmp 5) rfl ((K.old 5 rfl).trans x5)
    · exact st_lss 3 (.tmp 12) (.tmp 13) rfl .i64 (((i : Nat) : Int)) (((k : Nat) : Int)) (K.dep 0 12 rfl) (K.dep 1 13 rfl) _ (by first | (simp; done) | (simp; omega))
    intro f4 w4 A hb
    replace bl0 := bl
    replace x0 := (A.old 0 rfl).trans x0
    replace x1 := (A.old 1 rfl).trans x1
    replace x4 := (A.old 4 rfl).trans x4
    replace x8 := (A.old 8 rfl).trans x8
    replace x5 := (A.old 5 rfl).trans x5
    have x14 : f4.eval (.tmp 14) = .bool true := A.has 2 14 rfl
    replace bl := (bl.trans (Below.mono hb bl.size))
    replace sz := A.size.trans sz
    replace df := A.defs.trans df
    clear A hb
    show Code.wp _ _ _ _ _
    refine wp_cond_true x14 ?_
    refine wp_seq ?_
    -- R5
    refine wp_region_tail [.eq (v), .eq (.int .i64 ((k : Nat) : Int)), .hc ((l).take (k)), .eq (.int .i64 ((i : Nat) : Int)), .ow w.heap.size (mpath (l.take k) i), .eq (v), .eq (.int .i64 ((k : Nat) : Int)), .hc ((l).drop (k)), .eq (.agg ((y2).map V).toArray), .hs ([y2])] [10, 11] Tryd.mixed (by kernel_rfl) (by kernel_rfl) (by kernel_rfl) (by kernel_rfl) (by rw [sz]; kernel_rfl) (by kernel_rfl) ⟨fun hw ac u K => ?_, fun hw ac u K => ?_, fun hw ac u K => ?_, fun hw ac u K => ?_, fun hw ac u K => ?_, fun hw ac u K => ?_, fun hw ac u K => ?_, fun hw ac u K => ?_, fun hw ac u K => ?_, fun hw ac u K => ?_, trivial⟩ ?_
    · exact st_move (.tmp 0) rfl ((K.old 0 rfl).trans x0)
    · exact st_move (.tmp 5) rfl ((K.old 5 rfl).trans x5)
    · exact st_cuth (.tmp 15) (.tmp 16) rfl (fk_val (K.dep 0 15 rfl) (Fk.mono _ _ _ _ hv (bl.trans (Below.mono K.grow bl.size)))) (k) (K.dep 1 16 rfl) (by omega)
    · exact st_move (.tmp 1) rfl ((K.old 1 rfl).trans x1)
    · exact st_call 30 (.func 30) _ _ #[ac.eval (.tmp 17), .int .i64 ((i : Nat) : Int)] rfl rfl (arg2 rfl (K.dep 3 18 rfl)) Tryd.enter30 (fk_ow (bl.trans (Below.mono K.grow bl.size)).size (ih (l.take k) (by rw [List.length_take]; omega) i (by rw [List.length_take]; omega) _ _ (by rw [List.length_take]; omega) (K.dep 2 17 rfl) (hK.below (bl.trans (Below.mono K.grow bl.size)))))
    · exact st_move (.tmp 0) rfl ((K.old 0 rfl).trans x0)
    · exact st_move (.tmp 5) rfl ((K.old 5 rfl).trans x5)
    · exact st_restc (.tmp 20) (.tmp 21) rfl (fk_val (K.dep 5 20 rfl) (Fk.mono _ _ _ _ hv (bl.trans (Below.mono K.grow bl.size)))) (k) (K.dep 6 21 rfl) (by omega)
    · exact st_call 8 (.func 8) _ _ #[ac.eval (.tmp 22)] rfl rfl (one_arg rfl) Tryd.enter8 (fk_of (root_any (l.drop k) _ _ (by rw [List.length_drop]; omega) (K.dep 7 22 rfl) (hK.below (bl.trans (Below.mono K.grow bl.size))) ey2))
    · exact st_bh1 (.tmp 23) rfl hy2 (K.dep 8 23 rfl)
    intro f5 w5 A hb
    replace bl0 := bl
    replace x0 := (A.old 0 rfl).trans x0
    replace x1 := (A.old 1 rfl).trans x1
    replace x4 := (A.old 4 rfl).trans x4
    replace x8 := (A.old 8 rfl).trans x8
    replace x5 := (A.old 5 rfl).trans x5
    replace x14 := (A.old 14 rfl).trans x14
    have x19 : Fk.f (.ow w.heap.size (mpath (l.take k) i)) (f5.eval (.tmp 19)) w5 := A.has 4 19 rfl
    have x24 : Fk.f (.hs ([y2])) (f5.eval (.tmp 24)) w5 := A.has 9 24 rfl
    replace bl := (bl.trans (Below.mono hb bl.size))
    replace sz := A.size.trans sz
    replace df := A.defs.trans df
    clear A hb
    refine wl_append rfl (.tmp 19) (.tmp 24) rfl 25 rfl (by rw [sz]; decide) x19 x24 bl (by omega) ?_
    intro f6 w6 df2 sz2 old2 new2 bl2
    clear x19
    clear x24
    replace x0 := (old2 0 rfl).trans x0
    replace x1 := (old2 1 rfl).trans x1
    replace x4 := (old2 4 rfl).trans x4
    replace x8 := (old2 8 rfl).trans x8
    replace x5 := (old2 5 rfl).trans x5
    replace x14 := (old2 14 rfl).trans x14
    have x25 : Fk.f (.ow w.heap.size (mpath (l.take k) i ++ [y2])) (f6.eval (.tmp 25)) w6 := new2
    replace bl := bl2
    replace bl0 := bl
    replace sz := sz2.trans sz
    replace df := df2.trans df
    clear df2 sz2 old2 new2 bl2
    refine wl_one (.ow w.heap.size (mpath (l.take k) i ++ [y2])) rfl 4 rfl (by rw [sz]; decide) (st_assign (.tmp 25) rfl x25) ?_
    intro f7 w7 df2 sz2 old2 new2 hb
    replace bl0 := bl
    replace x0 := (old2 0 rfl).trans x0
    replace x1 := (old2 1 rfl).trans x1
    clear x4
    replace x8 := (old2 8 rfl).trans x8
    replace x5 := (old2 5 rfl).trans x5
    replace x14 := (old2 14 rfl).trans x14
    replace x25 := f_at (old2 25 rfl) (Fk.mono _ _ _ _ x25 hb)
    have x4 : Fk.f (.ow w.heap.size (mpath (l.take k) i ++ [y2])) (f7.eval (.tmp 4)) w7 := new2
    replace bl := (bl.trans (Below.mono hb bl.size))
    replace sz := sz2.trans sz
    replace df := df2.trans df
    clear df2 sz2 old2 new2 hb
    refine wpList_nil ?_
    clear x25
    show Code.wp _ _ _ _ _
    refine wp_ret ?_
    repeat (first | with_reducible refine then_ret ?_ | with_reducible refine block_ret ?_)
    rw [mpath_left h2 (by rw [hk]; exact hik), hk, ey2.out]
    exact bodyPost_ret (v := f7.eval (.tmp 4)) (ret_slot rfl f7 _ rfl _ _) df ⟨_, rfl, x4, bl⟩
theorem path_no {l : List (List (BitVec 8))} (z : Int) (hz : z < 0 ∨ (l.length : Int) ≤ z) (w : World) {v : Value} (hv : (Fk.hc l).f v w) :
    Calls Tryd.prog 15 #[v, .int .i64 z] w fun e w' => e = .returned (.tuple #[.slice none 0 0, .int .i64 11]) ∧ Below w.heap.size w w' := by
  go_enter Tryd.func15, Tryd.ntmps15
  refine code_both (fun f w1 => f.tmps.size = 17 ∧ f.defers = [] ∧ f.eval (.tmp 0) = v ∧ f.eval (.tmp 1) = .int .i64 (z) ∧ Below w.heap.size w (w1)) ⟨rfl, rfl, rfl, rfl, Below.refl _ _⟩ ?_
  rintro f0 w0 ⟨sz, df, x0, x1, bl⟩
  have bl0 := bl
  refine wp_seq ?_
  -- R0
  refine wp_region_seq [] (by kernel_rfl) (by kernel_rfl) (by rw [sz]; kernel_rfl) (by kernel_rfl) trivial ?_
  intro f1 w1 A hb
  replace bl0 := bl
  replace x0 := (A.old 0 rfl).trans x0
  replace x1 := (A.old 1 rfl).trans x1
  replace bl := (bl.trans (Below.mono hb bl.size))
  replace sz := A.size.trans sz
  replace df := A.defs.trans df
  clear A hb
  refine wl_one (.eq (.slice none 0 0)) rfl 4 rfl (by rw [sz]; decide) (st_assign (.const (.slice none 0 0)) rfl rfl) ?_
  intro f2 w2 df2 sz2 old2 new2 hb
  replace bl0 := bl
  replace x0 := (old2 0 rfl).trans x0
  replace x1 := (old2 1 rfl).trans x1
  have x4 : f2.eval (.tmp 4) = .slice none 0 0 := new2
  replace bl := (bl.trans (Below.mono hb bl.size))
  replace sz := sz2.trans sz
  replace df := df2.trans df
  clear df2 sz2 old2 new2 hb
  refine wl_one (.eq (.int .i64 0)) rfl 5 rfl (by rw [sz]; decide) (st_assign (.const (.int .i64 0)) rfl rfl) ?_
  intro f3 w3 df2 sz2 old2 new2 hb
  replace bl0 := bl
  replace x0 := (old2 0 rfl).trans x0
  replace x1 := (old2 1 rfl).trans x1
  replace x4 := (old2 4 rfl).trans x4
  have x5 : f3.eval (.tmp 5) = .int .i64 0 := new2
  replace bl := (bl.trans (Below.mono hb bl.size))
  replace sz := sz2.trans sz
  replace df := df2.trans df
  clear df2 sz2 old2 new2 hb
  refine wpList_nil ?_
  show Code.wp _ _ _ _ _
  refine wp_seq ?_
  refine wp_seq ?_
  by_cases hz0 : z < 0
  rotate_left
  · skip
    -- R1
    refine wp_all_seq [.eq (.int .i64 (z)), .eq (.bool false), .eq (.bool false), .eq (.int .i64 (z)), .eq (v), .eq (.int .i64 (((l).length : Nat) : Int)), .eq (.bool true), .eq (.bool true)] (by kernel_rfl) (by kernel_rfl) (by rw [sz]; kernel_rfl) (by kernel_rfl) ⟨fun hw ac u K => ?_, fun hw ac u K => ?_, fun hw ac u K => ?_, fun hw ac u K => ?_, fun hw ac u K => ?_, fun hw ac u K => ?_, fun hw ac u K => ?_, fun hw ac u K => ?_, trivial⟩ ?_
    · exact st_move (.tmp 1) rfl ((K.old 1 rfl).trans x1)
    · exact st_lss 3 (.tmp 6) (.const (.int .i64 0)) rfl .i64 ((z)) (0) (K.dep 0 6 rfl) rfl _ (by rw [eq_comm, decide_eq_false_iff_not]; omega)
    · exact st_move (.tmp 7) rfl (K.dep 1 7 rfl)
    · exact st_move (.tmp 1) rfl ((K.old 1 rfl).trans x1)
    · exact st_move (.tmp 0) rfl ((K.old 0 rfl).trans x0)
    · exact st_lenc (.tmp 10) rfl ((l).length) rfl (fk_val (K.dep 4 10 rfl) (Fk.mono _ _ _ _ hv (bl.trans (Below.mono K.grow bl.size))))
    · exact st_geq 3 (.tmp 9) (.tmp 11) rfl .i64 ((z)) ((((l).length : Nat) : Int)) (K.dep 3 9 rfl) (K.dep 5 11 rfl) _ (by rw [eq_comm, decide_eq_true_iff]; omega)
    · exact st_pick_f' (.tmp 8) (.const (.bool true)) (.tmp 12) rfl (K.dep 2 8 rfl) (K.dep 6 12 rfl)
    intro f4 w4 A hb
    replace bl0 := bl
    replace x0 := (A.old 0 rfl).trans x0
    replace x1 := (A.old 1 rfl).trans x1
    replace x4 := (A.old 4 rfl).trans x4
    replace x5 := (A.old 5 rfl).trans x5
    have x13 : f4.eval (.tmp 13) = .bool true := A.has 7 13 rfl
    replace bl := (bl.trans (Below.mono hb bl.size))
    replace sz := A.size.trans sz
    replace df := A.defs.trans df
    clear A hb
    show Code.wp _ _ _ _ _
    refine wp_cond_true x13 ?_
    refine wp_seq ?_
    -- R2
    refine wp_all_seq [.eq (.slice none 0 0), .eq (.int .i64 11)] (by kernel_rfl) (by kernel_rfl) (by rw [sz]; kernel_rfl) (by kernel_rfl) ⟨fun hw ac u K => ?_, fun hw ac u K => ?_, trivial⟩ ?_
    · exact st_assign (.const (.slice none 0 0)) rfl rfl
    · exact st_assign (.const (.int .i64 11)) rfl rfl
    intro f5 w5 A hb
    replace bl0 := bl
    replace x0 := (A.old 0 rfl).trans x0
    replace x1 := (A.old 1 rfl).trans x1
    clear x4
    clear x5
    replace x13 := (A.old 13 rfl).trans x13
    have x4 : f5.eval (.tmp 4) = .slice none 0 0 := A.has 0 4 rfl
    have x5 : f5.eval (.tmp 5) = .int .i64 11 := A.has 1 5 rfl
    replace bl := (bl.trans (Below.mono hb bl.size))
    replace sz := A.size.trans sz
    replace df := A.defs.trans df
    clear A hb
    show Code.wp _ _ _ _ _
    refine wp_ret ?_
    repeat (first | with_reducible refine then_ret ?_ | with_reducible refine block_ret ?_)
    exact bodyPost_ret (v := .tuple #[.slice none 0 0, .int .i64 11]) (ret_two rfl f5 _ _ x4 x5 _ _) df ⟨rfl, bl⟩
  -- R1
  refine wp_all_seq [.eq (.int .i64 (z)), .eq (.bool true), .eq (.bool true), .any, .any, .any, .any, .eq (.bool true)] (by kernel_rfl) (by kernel_rfl) (by rw [sz]; kernel_rfl) (by kernel_rfl) ⟨fun hw ac u K => ?_, fun hw ac u K => ?_, fun hw ac u K => ?_, fun hw ac u K => ?_, fun hw ac u K => ?_, fun hw ac u K => ?_, fun hw ac u K => ?_, fun hw ac u K => ?_, trivial⟩ ?_
  · exact st_move (.tmp 1) rfl ((K.old 1 rfl).trans x1)
  · exact st_lss 3 (.tmp 6) (.const (.int .i64 0)) rfl .i64 ((z)) (0) (K.dep 0 6 rfl) rfl _ (by rw [eq_comm, decide_eq_true_iff]; omega)
  · exact st_move (.tmp 7) rfl (K.dep 1 7 rfl)
  · exact (Bool.false_ne_true hw).elim
  · exact (Bool.false_ne_true hw).elim
  · exact (Bool.false_ne_true hw).elim
  · exact (Bool.false_ne_true hw).elim
  · exact st_pick_t (.tmp 8) (.const (.bool true)) (.tmp 12) rfl (K.dep 2 8 rfl) rfl
  intro f4 w4 A hb
  replace bl0 := bl
  replace x0 := (A.old 0 rfl).trans x0
  replace x1 := (A.old 1 rfl).trans x1
  replace x4 := (A.old 4 rfl).trans x4
  replace x5 := (A.old 5 rfl).trans x5
  have x13 : f4.eval (.tmp 13) = .bool true := A.has 7 13 rfl
  replace bl := (bl.trans (Below.mono hb bl.size))
  replace sz := A.size.trans sz
  replace df := A.defs.trans df
  clear A hb
  show Code.wp _ _ _ _ _
  refine wp_cond_true x13 ?_
  refine wp_seq ?_
  -- R2
  refine wp_all_seq [.eq (.slice none 0 0), .eq (.int .i64 11)] (by kernel_rfl) (by kernel_rfl) (by rw [sz]; kernel_rfl) (by kernel_rfl) ⟨fun hw ac u K => ?_, fun hw ac u K => ?_, trivial⟩ ?_
  · exact st_assign (.const (.slice none 0 0)) rfl rfl
  · exact st_assign (.const (.int .i64 11)) rfl rfl
  intro f5 w5 A hb
  replace bl0 := bl
  replace x0 := (A.old 0 rfl).trans x0
  replace x1 := (A.old 1 rfl).trans x1
  clear x4
  clear x5
  replace x13 := (A.old 13 rfl).trans x13
  have x4 : f5.eval (.tmp 4) = .slice none 0 0 := A.has 0 4 rfl
  have x5 : f5.eval (.tmp 5) = .int .i64 11 := A.has 1 5 rfl
  replace bl := (bl.trans (Below.mono hb bl.size))
  replace sz := A.size.trans sz
  replace df := A.defs.trans df
  clear A hb
  show Code.wp _ _ _ _ _
  refine wp_ret ?_
  repeat (first | with_reducible refine then_ret ?_ | with_reducible refine block_ret ?_)
  exact bodyPost_ret (v := .tuple #[.slice none 0 0, .int .i64 11]) (ret_two rfl f5 _ _ x4 x5 _ _) df ⟨rfl, bl⟩
theorem path_ok {l : List (List (BitVec 8))} {i : Nat} (hi : i < l.length) (h1000 : l.length ≤ 1000) (w : World) {v : Value} (hv : (Fk.hc l).f v w) (hK : Tab w) :
    Calls Tryd.prog 15 #[v, .int .i64 ((i : Nat) : Int)] w fun e w' => ∃ u, e = .returned u ∧ (Fk.t2 (.ow w.heap.size (mpath l i)) (.int .i64 0)).f u w' ∧ Below w.heap.size w w' := by
  go_enter Tryd.func15, Tryd.ntmps15
  refine code_both (fun f w1 => f.tmps.size = 17 ∧ f.defers = [] ∧ f.eval (.tmp 0) = v ∧ f.eval (.tmp 1) = .int .i64 ((i : Nat) : Int) ∧ Below w.heap.size w (w1)) ⟨rfl, rfl, rfl, rfl, Below.refl _ _⟩ ?_
  rintro f0 w0 ⟨sz, df, x0, x1, bl⟩
  have bl0 := bl
  refine wp_seq ?_
  -- R0
  refine wp_region_seq [] (by kernel_rfl) (by kernel_rfl) (by rw [sz]; kernel_rfl) (by kernel_rfl) trivial ?_
  intro f1 w1 A hb
  replace bl0 := bl
  replace x0 := (A.old 0 rfl).trans x0
  replace x1 := (A.old 1 rfl).trans x1
  replace bl := (bl.trans (Below.mono hb bl.size))
  replace sz := A.size.trans sz
  replace df := A.defs.trans df
  clear A hb
  refine wl_one (.eq (.slice none 0 0)) rfl 4 rfl (by rw [sz]; decide) (st_assign (.const (.slice none 0 0)) rfl rfl) ?_
  intro f2 w2 df2 sz2 old2 new2 hb
  replace bl0 := bl
  replace x0 := (old2 0 rfl).trans x0
  replace x1 := (old2 1 rfl).trans x1
  have x4 : f2.eval (.tmp 4) = .slice none 0 0 := new2
  replace bl := (bl.trans (Below.mono hb bl.size))
  replace sz := sz2.trans sz
  replace df := df2.trans df
  clear df2 sz2 old2 new2 hb
  refine wl_one (.eq (.int .i64 0)) rfl 5 rfl (by rw [sz]; decide) (st_assign (.const (.int .i64 0)) rfl rfl) ?_
  intro f3 w3 df2 sz2 old2 new2 hb
  replace bl0 := bl
  replace x0 := (old2 0 rfl).trans x0
  replace x1 := (old2 1 rfl).trans x1
  replace x4 := (old2 4 rfl).trans x4
  have x5 : f3.eval (.tmp 5) = .int .i64 0 := new2
  replace bl := (bl.trans (Below.mono hb bl.size))
  replace sz := sz2.trans sz
  replace df := df2.trans df
  clear df2 sz2 old2 new2 hb
  refine wpList_nil ?_
  show Code.wp _ _ _ _ _
  refine wp_seq ?_
  refine wp_seq ?_
  -- R1
  refine wp_all_seq [.eq (.int .i64 ((i : Nat) : Int)), .eq (.bool false), .eq (.bool false), .eq (.int .i64 ((i : Nat) : Int)), .eq (v), .eq (.int .i64 (((l).length : Nat) : Int)), .eq (.bool false), .eq (.bool false)] (by kernel_rfl) (by kernel_rfl) (by rw [sz]; kernel_rfl) (by kernel_rfl) ⟨fun hw ac u K => ?_, fun hw ac u K => ?_, fun hw ac u K => ?_, fun hw ac u K => ?_, fun hw ac u K => ?_, fun hw ac u K => ?_, fun hw ac u K => ?_, fun hw ac u K => ?_, trivial⟩ ?_
  · exact st_move (.tmp 1) rfl ((K.old 1 rfl).trans x1)
  · exact st_lss 3 (.tmp 6) (.const (.int .i64 0)) rfl .i64 (((i : Nat) : Int)) (0) (K.dep 0 6 rfl) rfl _ (by rw [eq_comm, decide_eq_false_iff_not]; omega)
  · exact st_move (.tmp 7) rfl (K.dep 1 7 rfl)
  · exact st_move (.tmp 1) rfl ((K.old 1 rfl).trans x1)
  · exact st_move (.tmp 0) rfl ((K.old 0 rfl).trans x0)
  · exact st_lenc (.tmp 10) rfl ((l).length) rfl (fk_val (K.dep 4 10 rfl) (Fk.mono _ _ _ _ hv (bl.trans (Below.mono K.grow bl.size))))
  · exact st_geq 3 (.tmp 9) (.tmp 11) rfl .i64 (((i : Nat) : Int)) ((((l).length : Nat) : Int)) (K.dep 3 9 rfl) (K.dep 5 11 rfl) _ (by rw [eq_comm, decide_eq_false_iff_not]; omega)
  · exact st_pick_f' (.tmp 8) (.const (.bool true)) (.tmp 12) rfl (K.dep 2 8 rfl) (K.dep 6 12 rfl)
  intro f4 w4 A hb
  replace bl0 := bl
  replace x0 := (A.old 0 rfl).trans x0
  replace x1 := (A.old 1 rfl).trans x1
  replace x4 := (A.old 4 rfl).trans x4
  replace x5 := (A.old 5 rfl).trans x5
  have x13 : f4.eval (.tmp 13) = .bool false := A.has 7 13 rfl
  replace bl := (bl.trans (Below.mono hb bl.size))
  replace sz := A.size.trans sz
  replace df := A.defs.trans df
  clear A hb
  show Code.wp _ _ _ _ _
  refine wp_cond_false x13 ?_
  refine wp_skip ?_
  show Code.wp _ _ _ _ _
  refine wp_seq ?_
  -- R3
  refine wp_all_seq [.eq (v), .eq (.int .i64 ((i : Nat) : Int)), .ow w.heap.size (mpath l i), .ow w.heap.size (mpath l i), .eq (.int .i64 0)] (by kernel_rfl) (by kernel_rfl) (by rw [sz]; kernel_rfl) (by kernel_rfl) ⟨fun hw ac u K => ?_, fun hw ac u K => ?_, fun hw ac u K => ?_, fun hw ac u K => ?_, fun hw ac u K => ?_, trivial⟩ ?_
  · exact st_move (.tmp 0) rfl ((K.old 0 rfl).trans x0)
  · exact st_move (.tmp 1) rfl ((K.old 1 rfl).trans x1)
  · exact st_call 30 (.func 30) _ _ #[v, .int .i64 ((i : Nat) : Int)] rfl rfl (arg2 (K.dep 0 14 rfl) (K.dep 1 15 rfl)) Tryd.enter30 (fk_ow (bl.trans (Below.mono K.grow bl.size)).size (path_in l i hi _ _ h1000 (Fk.mono _ _ _ _ hv (bl.trans (Below.mono K.grow bl.size))) (hK.below (bl.trans (Below.mono K.grow bl.size)))))
  · exact st_assign (.tmp 16) rfl (K.dep 2 16 rfl)
  · exact st_assign (.const (.int .i64 0)) rfl rfl
  intro f5 w5 A hb
  replace bl0 := bl
  replace x0 := (A.old 0 rfl).trans x0
  replace x1 := (A.old 1 rfl).trans x1
  clear x4
  clear x5
  replace x13 := (A.old 13 rfl).trans x13
  have x4 : Fk.f (.ow w.heap.size (mpath l i)) (f5.eval (.tmp 4)) w5 := A.has 3 4 rfl
  have x5 : f5.eval (.tmp 5) = .int .i64 0 := A.has 4 5 rfl
  replace bl := (bl.trans (Below.mono hb bl.size))
  replace sz := A.size.trans sz
  replace df := A.defs.trans df
  clear A hb
  show Code.wp _ _ _ _ _
  refine wp_ret ?_
  repeat (first | with_reducible refine then_ret ?_ | with_reducible refine block_ret ?_)
  exact bodyPost_ret (v := .tuple #[f5.eval (.tmp 4), .int .i64 0]) (ret_two rfl f5 _ _ rfl x5 _ _) df ⟨_, rfl, ⟨_, rfl, x4⟩, bl⟩
end Go.Proofs.YtfbfngblocfdlaaDoor
namespace Go.Proofs.YtfbfngblocfdlaaDoor
set_option maxRecDepth 100000
open Go.RowKit
/-- A hash that begins with a byte, all others noughts. -/
def h1 (n : Nat) : List (BitVec 8) := BitVec.ofNat 8 n :: List.replicate 31 0
theorem h1_len (n : Nat) : (h1 n).length = 32 := rfl
theorem spl_3 : spl 3 = 2 := spl_one (j := 1) (by decide) (by decide)
theorem spl_2 : spl 2 = 1 := spl_one (j := 0) (by decide) (by decide)
theorem mroot_ab (a b : List (BitVec 8)) : mroot [a, b] = nd a b := by
  rw [mroot_two (by simp), show [a, b].length = 2 from rfl, spl_2, show [a, b].take 1 = [a] from rfl, show [a, b].drop 1 = [b] from rfl, mroot_one, mroot_one]
theorem mroot_abc (a b c : List (BitVec 8)) : mroot [a, b, c] = nd (nd a b) c := by
  rw [mroot_two (by simp), show [a, b, c].length = 3 from rfl, spl_3, show [a, b, c].take 2 = [a, b] from rfl, show [a, b, c].drop 2 = [c] from rfl, mroot_one, mroot_ab]
theorem mpath_abc (a b c : List (BitVec 8)) : mpath [a, b, c] 2 = [nd a b] := by
  rw [mpath_right (l := [a, b, c]) (by simp) (by rw [show [a, b, c].length = 3 from rfl, spl_3]; omega), show [a, b, c].length = 3 from rfl, spl_3, show [a, b, c].take 2 = [a, b] from rfl, show [a, b, c].drop 2 = [c] from rfl, mroot_ab, mpath_one (by simp)]
  rfl
theorem fk_path {l : List (List (BitVec 8))} {i : Nat} (hi : i < l.length) (h1000 : l.length ≤ 1000) {w : World} {v : Value} (hv : (Fk.hc l).f v w) (hK : Tab w) {S : List (List (BitVec 8))} (hS : Box (mpath l i = S)) :
    Calls Tryd.prog 15 #[v, .int .i64 ((i : Nat) : Int)] w fun e w' => ∃ u, e = .returned u ∧ (Fk.t2 (.hs S) (.int .i64 0)).f u w' ∧ Below w.heap.size w w' := by
  refine (path_ok hi h1000 w hv hK).mono ?_
  rintro e w' ⟨u, rfl, ⟨p, e1, h1⟩, hb⟩
  rw [hS.out] at h1
  exact ⟨u, rfl, ⟨p, e1, ow_hs h1⟩, hb⟩
theorem b3_run (w : World) : (Instr.buildSlice 22 3 #[(0, .agg ((h1 1).map V).toArray), (1, .agg ((h1 2).map V).toArray), (2, .agg ((h1 3).map V).toArray)]).run Tryd.prog w = .ok (.slice (some ⟨w.heap.size, 0, none⟩) 3 3) (w.alloc (.cells ((h1 1 ++ h1 2 ++ h1 3).map V).toArray 24)) := by kernel_rfl
theorem b3_at : ∀ (i : Fin 3) (j : Fin 32), (h1 1 ++ h1 2 ++ h1 3)[i.val * 32 + j.val]? = some ((h1 (i.val + 1)).getD j.val 0) := by decide
theorem st_b3 {Q : Exit → Act → World → Prop} {o : Oper} {a : Act} {w : World} (x y z : Operand) (ho : o.op = .buildSlice 22 3 #[(0, x), (1, y), (2, z)]) (hx : a.eval x = .agg ((h1 1).map V).toArray) (hy : a.eval y = .agg ((h1 2).map V).toArray) (hz : a.eval z = .agg ((h1 3).map V).toArray) : o.wp Tryd.prog a w (Ends a o.dst w (Fk.hc [h1 1, h1 2, h1 3]).f) Q := by
  refine st_run (v := .slice (some ⟨w.heap.size, 0, none⟩) 3 3) (w' := w.alloc (.cells ((h1 1 ++ h1 2 ++ h1 3).map V).toArray 24)) ?_ ((Below.refl _ _).alloc (Nat.le_refl _) _) ⟨_, 3, w.heap.size, 0, rfl, Nat.le_refl _, fun _ => rfl, fun _ => by simp, fun i x hi => ?_⟩
  · have := b3_run w
    unfold execOp
    rw [ho]
    simp [hx, hy, hz, this]
  · have hi3 : i < 3 := (List.getElem?_eq_some_iff.1 hi).1
    have hxe : x = h1 (i + 1) := by
      match i, hi3 with
      | 0, _ => simpa using hi.symm
      | 1, _ => simpa using hi.symm
      | 2, _ => simpa using hi.symm
    subst hxe
    refine ⟨h1_len _, fun j hj => ?_⟩
    rw [h1_len] at hj
    rw [World.cell?_alloc_mark, Nat.zero_add]
    have := b3_at ⟨i, hi3⟩ ⟨j, hj⟩
    simp only at this
    simp only [List.getElem?_toArray, List.getElem?_map, this, Option.map_some, V]
theorem awake_any (w : World) (hK : Tab w) :
    Calls Tryd.prog 10 #[] w fun e w' => e = .returned (.bool true) ∧ Below w.heap.size w w' := by
  obtain ⟨p, ep⟩ : ∃ p, Box (nd (h1 1) (h1 2) = p) := ⟨_, ⟨rfl⟩⟩
  have hp : p.length = 32 := by rw [← ep.out]; exact nd_len _ _
  obtain ⟨q, eq⟩ : ∃ q, Box (nd p (h1 3) = q) := ⟨_, ⟨rfl⟩⟩
  have hq : q.length = 32 := by rw [← eq.out]; exact nd_len _ _
  have eP : Box (mpath [h1 1, h1 2, h1 3] 2 = [p]) := ⟨by rw [mpath_abc, ep.out]⟩
  have eR : Box (mroot [h1 1, h1 2, h1 3] = q) := ⟨by rw [mroot_abc, ep.out, eq.out]⟩
  go_enter Tryd.func10, Tryd.ntmps10
  refine code_both (fun f w1 => f.tmps.size = 46 ∧ f.defers = [] ∧ Below w.heap.size w (w1)) ⟨rfl, rfl, Below.refl _ _⟩ ?_
  rintro f0 w0 ⟨sz, df, bl⟩
  have bl0 := bl
  refine wp_seq ?_
  -- R0
  refine wp_all_seq [.eq (.bool false)] (by kernel_rfl) (by kernel_rfl) (by rw [sz]; kernel_rfl) (by kernel_rfl) ⟨fun hw ac u K => ?_, trivial⟩ ?_
  · exact st_assign (.const (.bool false)) rfl rfl
  intro f1 w1 A hb
  replace bl0 := bl
  have x0 : f1.eval (.tmp 0) = .bool false := A.has 0 0 rfl
  replace bl := (bl.trans (Below.mono hb bl.size))
  replace sz := A.size.trans sz
  replace df := A.defs.trans df
  clear A hb
  show Code.wp _ _ _ _ _
  refine wp_seq ?_
  -- R1
  refine wp_region_seq [.eq (.agg ((h1 1).map V).toArray), .eq (.agg ((h1 2).map V).toArray), .eq (.agg ((h1 3).map V).toArray)] (by kernel_rfl) (by kernel_rfl) (by rw [sz]; kernel_rfl) (by kernel_rfl) ⟨fun hw ac u K => ?_, fun hw ac u K => ?_, fun hw ac u K => ?_, trivial⟩ ?_
  · exact st_build 24 _ rfl (by kernel_rfl)
  · exact st_build 24 _ rfl (by kernel_rfl)
  · exact st_build 24 _ rfl (by kernel_rfl)
  intro f2 w2 A hb
  replace bl0 := bl
  replace x0 := (A.old 0 rfl).trans x0
  have x6 : f2.eval (.tmp 6) = .agg ((h1 1).map V).toArray := A.has 0 6 rfl
  have x7 : f2.eval (.tmp 7) = .agg ((h1 2).map V).toArray := A.has 1 7 rfl
  have x8 : f2.eval (.tmp 8) = .agg ((h1 3).map V).toArray := A.has 2 8 rfl
  replace bl := (bl.trans (Below.mono hb bl.size))
  replace sz := A.size.trans sz
  replace df := A.defs.trans df
  clear A hb
  refine wl_one (.nw w2.heap.size 24 ((hz).map V)) rfl 1 rfl (by rw [sz]; decide) (st_alloc24 rfl _ (Nat.le_refl _)) ?_
  intro f3 w3 df2 sz2 old2 new2 hb
  replace bl0 := bl
  replace x0 := (old2 0 rfl).trans x0
  replace x6 := (old2 6 rfl).trans x6
  replace x7 := (old2 7 rfl).trans x7
  replace x8 := (old2 8 rfl).trans x8
  have x1 : Fk.f (.nw w2.heap.size 24 ((hz).map V)) (f3.eval (.tmp 1)) w3 := new2
  replace bl := (bl.trans (Below.mono hb bl.size))
  replace sz := sz2.trans sz
  replace df := df2.trans df
  clear df2 sz2 old2 new2 hb
  obtain ⟨g1, hg1, e1, m1⟩ := x1
  have x1 := e1
  clear e1
  have hw1 : w.heap.size ≤ g1 := Nat.le_trans bl0.size hg1
  refine wl_one (.nw w3.heap.size 24 ((hz).map V)) rfl 2 rfl (by rw [sz]; decide) (st_alloc24 rfl _ (Nat.le_refl _)) ?_
  intro f4 w4 df2 sz2 old2 new2 hb
  replace bl0 := bl
  replace x0 := (old2 0 rfl).trans x0
  replace x6 := (old2 6 rfl).trans x6
  replace x7 := (old2 7 rfl).trans x7
  replace x8 := (old2 8 rfl).trans x8
  replace x1 := (old2 1 rfl).trans x1
  have x2 : Fk.f (.nw w3.heap.size 24 ((hz).map V)) (f4.eval (.tmp 2)) w4 := new2
  have lt_m1 := Ob.lt m1
  replace m1 := Ob.below m1 hb
  replace bl := (bl.trans (Below.mono hb bl.size))
  replace sz := sz2.trans sz
  replace df := df2.trans df
  clear df2 sz2 old2 new2 hb
  obtain ⟨g2, hg2, e2, m2⟩ := x2
  have x2 := e2
  clear e2
  have nm1_2 : g1 ≠ g2 := Nat.ne_of_lt (Nat.lt_of_lt_of_le lt_m1 hg2)
  have hw2 : w.heap.size ≤ g2 := Nat.le_trans bl0.size hg2
  refine wl_one (.nw w4.heap.size 24 ((hz).map V)) rfl 3 rfl (by rw [sz]; decide) (st_alloc24 rfl _ (Nat.le_refl _)) ?_
  intro f5 w5 df2 sz2 old2 new2 hb
  replace bl0 := bl
  replace x0 := (old2 0 rfl).trans x0
  replace x6 := (old2 6 rfl).trans x6
  replace x7 := (old2 7 rfl).trans x7
  replace x8 := (old2 8 rfl).trans x8
  replace x1 := (old2 1 rfl).trans x1
  replace x2 := (old2 2 rfl).trans x2
  have x3 : Fk.f (.nw w4.heap.size 24 ((hz).map V)) (f5.eval (.tmp 3)) w5 := new2
  have lt_m1 := Ob.lt m1
  replace m1 := Ob.below m1 hb
  have lt_m2 := Ob.lt m2
  replace m2 := Ob.below m2 hb
  replace bl := (bl.trans (Below.mono hb bl.size))
  replace sz := sz2.trans sz
  replace df := df2.trans df
  clear df2 sz2 old2 new2 hb
  obtain ⟨g3, hg3, e3, m3⟩ := x3
  have x3 := e3
  clear e3
  have nm1_3 : g1 ≠ g3 := Nat.ne_of_lt (Nat.lt_of_lt_of_le lt_m1 hg3)
  have nm2_3 : g2 ≠ g3 := Nat.ne_of_lt (Nat.lt_of_lt_of_le lt_m2 hg3)
  have hw3 : w.heap.size ≤ g3 := Nat.le_trans bl0.size hg3
  refine wl_store rfl (.tmp 1) (.tmp 6) rfl rfl (g1) (h1 1) (hz) x1 x6 m1 hz_len (h1_len 1) ?_
  replace m1 : Ob (w5.setRow g1 ((h1 1).map V : List Value).toArray) (g1) 24 ((h1 1).map V) := Ob.setRow m1 ((h1 1).map V)
  replace m2 : Ob (w5.setRow g1 ((h1 1).map V : List Value).toArray) (g2) 24 ((hz).map V) := Ob.setRow_other m2 _ nm1_2.symm
  replace m3 : Ob (w5.setRow g1 ((h1 1).map V : List Value).toArray) (g3) 24 ((hz).map V) := Ob.setRow_other m3 _ nm1_3.symm
  replace bl : Below w.heap.size w (w5.setRow g1 ((h1 1).map V : List Value).toArray) := bl.trans (below_setRow _ _ _ _ hw1)
  generalize w5.setRow g1 ((h1 1).map V : List Value).toArray = w6b at bl m1 m2 m3 ⊢
  clear x6
  refine wl_store rfl (.tmp 2) (.tmp 7) rfl rfl (g2) (h1 2) (hz) x2 x7 m2 hz_len (h1_len 2) ?_
  replace m1 : Ob (w6b.setRow g2 ((h1 2).map V : List Value).toArray) (g1) 24 ((h1 1).map V) := Ob.setRow_other m1 _ nm1_2
  replace m2 : Ob (w6b.setRow g2 ((h1 2).map V : List Value).toArray) (g2) 24 ((h1 2).map V) := Ob.setRow m2 ((h1 2).map V)
  replace m3 : Ob (w6b.setRow g2 ((h1 2).map V : List Value).toArray) (g3) 24 ((hz).map V) := Ob.setRow_other m3 _ nm2_3.symm
  replace bl : Below w.heap.size w (w6b.setRow g2 ((h1 2).map V : List Value).toArray) := bl.trans (below_setRow _ _ _ _ hw2)
  generalize w6b.setRow g2 ((h1 2).map V : List Value).toArray = w7b at bl m1 m2 m3 ⊢
  clear x7
  refine wl_store rfl (.tmp 3) (.tmp 8) rfl rfl (g3) (h1 3) (hz) x3 x8 m3 hz_len (h1_len 3) ?_
  replace m1 : Ob (w7b.setRow g3 ((h1 3).map V : List Value).toArray) (g1) 24 ((h1 1).map V) := Ob.setRow_other m1 _ nm1_3
  replace m2 : Ob (w7b.setRow g3 ((h1 3).map V : List Value).toArray) (g2) 24 ((h1 2).map V) := Ob.setRow_other m2 _ nm2_3
  replace m3 : Ob (w7b.setRow g3 ((h1 3).map V : List Value).toArray) (g3) 24 ((h1 3).map V) := Ob.setRow m3 ((h1 3).map V)
  replace bl : Below w.heap.size w (w7b.setRow g3 ((h1 3).map V : List Value).toArray) := bl.trans (below_setRow _ _ _ _ hw3)
  generalize w7b.setRow g3 ((h1 3).map V : List Value).toArray = w8b at bl m1 m2 m3 ⊢
  refine wpList_nil ?_
  clear x8
  show Code.wp _ _ _ _ _
  refine wp_seq ?_
  -- R2
  refine wp_all_seq [.eq (.agg ((h1 1).map V).toArray), .eq (.agg ((h1 2).map V).toArray), .eq (.agg ((h1 3).map V).toArray), .hc ([h1 1, h1 2, h1 3]), .t2 (.hs ([p])) (.int .i64 0), .t2 (.hs ([p])) (.int .i64 0), .hs ([p]), .eq (.int .i64 0), .hs ([p]), .eq (.int .i64 0)] (by kernel_rfl) (by kernel_rfl) (by rw [sz]; kernel_rfl) (by kernel_rfl) ⟨fun hw ac u K => ?_, fun hw ac u K => ?_, fun hw ac u K => ?_, fun hw ac u K => ?_, fun hw ac u K => ?_, fun hw ac u K => ?_, fun hw ac u K => ?_, fun hw ac u K => ?_, fun hw ac u K => ?_, fun hw ac u K => ?_, trivial⟩ ?_
  · exact st_load24 (.tmp 1) rfl (g1) (h1 1) ((K.old 1 rfl).trans x1) (h1_len 1) (Ob.below m1 K.grow)
  · exact st_load24 (.tmp 2) rfl (g2) (h1 2) ((K.old 2 rfl).trans x2) (h1_len 2) (Ob.below m2 K.grow)
  · exact st_load24 (.tmp 3) rfl (g3) (h1 3) ((K.old 3 rfl).trans x3) (h1_len 3) (Ob.below m3 K.grow)
  · exact st_b3 (.tmp 10) (.tmp 11) (.tmp 12) rfl (K.dep 0 10 rfl) (K.dep 1 11 rfl) (K.dep 2 12 rfl)
  · exact st_call 15 (.func 15) _ _ #[ac.eval (.tmp 13), .int .i64 2] rfl rfl (arg2 rfl rfl) Tryd.enter15 (fk_path (i := 2) (by simp) (by simp) (K.dep 3 13 rfl) (hK.below (bl.trans (Below.mono K.grow bl.size))) eP)
  · exact st_move (.tmp 14) rfl (K.dep 4 14 rfl)
  · exact st_t2a (.tmp 9) rfl (K.dep 5 9 rfl)
  · exact st_t2b (.tmp 9) rfl (K.dep 5 9 rfl)
  · exact st_assign (.tmp 15) rfl (K.dep 6 15 rfl)
  · exact st_assign (.tmp 16) rfl (K.dep 7 16 rfl)
  intro f9 w9 A hb
  replace bl0 := bl
  replace x0 := (A.old 0 rfl).trans x0
  replace x1 := (A.old 1 rfl).trans x1
  replace x2 := (A.old 2 rfl).trans x2
  replace x3 := (A.old 3 rfl).trans x3
  have x4 : Fk.f (.hs ([p])) (f9.eval (.tmp 4)) w9 := A.has 8 4 rfl
  have x5 : f9.eval (.tmp 5) = .int .i64 0 := A.has 9 5 rfl
  have lt_m1 := Ob.lt m1
  replace m1 := Ob.below m1 hb
  have lt_m2 := Ob.lt m2
  replace m2 := Ob.below m2 hb
  have lt_m3 := Ob.lt m3
  replace m3 := Ob.below m3 hb
  replace bl := (bl.trans (Below.mono hb bl.size))
  replace sz := A.size.trans sz
  replace df := A.defs.trans df
  clear A hb
  show Code.wp _ _ _ _ _
  refine wp_seq ?_
  -- R3
  refine wp_all [.eq (.int .i64 0), .eq (.bool true), .eq (.bool true), .hs ([p]), .eq (.int .i64 ((([p]).length : Nat) : Int)), .eq (.bool true), .eq (.bool true), .eq (.bool true), .hs ([p]), .ph (p), .eq (.agg ((p).map V).toArray), .eq (.agg ((h1 1).map V).toArray), .eq (.agg ((h1 2).map V).toArray), .eq (.agg ((p).map V).toArray), .eq (.bool true), .eq (.bool true), .eq (.bool true), .eq (.agg ((h1 1).map V).toArray), .eq (.agg ((h1 2).map V).toArray), .eq (.agg ((h1 3).map V).toArray), .hc ([h1 1, h1 2, h1 3]), .eq (.agg ((q).map V).toArray), .hs ([p]), .ph (p), .eq (.agg ((p).map V).toArray), .eq (.agg ((h1 3).map V).toArray), .eq (.agg ((q).map V).toArray), .eq (.bool true), .eq (.bool true), .eq (.bool true)] Tryd.mixed (by kernel_rfl) (by kernel_rfl) (by rw [sz]; kernel_rfl) (by kernel_rfl) ⟨fun hw ac u K => ?_, fun hw ac u K => ?_, fun hw ac u K => ?_, fun hw ac u K => ?_, fun hw ac u K => ?_, fun hw ac u K => ?_, fun hw ac u K => ?_, fun hw ac u K => ?_, fun hw ac u K => ?_, fun hw ac u K => ?_, fun hw ac u K => ?_, fun hw ac u K => ?_, fun hw ac u K => ?_, fun hw ac u K => ?_, fun hw ac u K => ?_, fun hw ac u K => ?_, fun hw ac u K => ?_, fun hw ac u K => ?_, fun hw ac u K => ?_, fun hw ac u K => ?_, fun hw ac u K => ?_, fun hw ac u K => ?_, fun hw ac u K => ?_, fun hw ac u K => ?_, fun hw ac u K => ?_, fun hw ac u K => ?_, fun hw ac u K => ?_, fun hw ac u K => ?_, fun hw ac u K => ?_, fun hw ac u K => ?_, trivial⟩ ?_
  · exact st_move (.tmp 5) rfl ((K.old 5 rfl).trans x5)
  · exact st_eqi 38 (.tmp 17) (.const (.int .i64 0)) rfl .i64 (0) (0) (K.dep 0 17 rfl) rfl _ (by rfl)
  · exact st_move (.tmp 18) rfl (K.dep 1 18 rfl)
  · exact st_move (.tmp 4) rfl (f_at (K.old 4 rfl) (Fk.mono _ _ _ _ x4 K.grow))
  · exact st_lenh (.tmp 20) rfl (K.dep 3 20 rfl)
  · exact st_eqi 3 (.tmp 21) (.const (.int .i64 1)) rfl .i64 (((([p]).length : Nat) : Int)) (1) (K.dep 4 21 rfl) rfl _ (by simp)
  · exact st_pick_t (.tmp 19) (.tmp 22) (.const (.bool false)) rfl (K.dep 2 19 rfl) (K.dep 5 22 rfl)
  · exact st_move (.tmp 23) rfl (K.dep 6 23 rfl)
  · exact st_move (.tmp 4) rfl (f_at (K.old 4 rfl) (Fk.mono _ _ _ _ x4 K.grow))
  · exact st_idxh (.tmp 25) (.const (.int .i64 0)) rfl (K.dep 8 25 rfl) (0) (p) rfl rfl
  · exact st_loadh (.tmp 26) rfl (K.dep 9 26 rfl)
  · exact st_load24 (.tmp 1) rfl (g1) (h1 1) ((K.old 1 rfl).trans x1) (h1_len 1) (Ob.below m1 K.grow)
  · exact st_load24 (.tmp 2) rfl (g2) (h1 2) ((K.old 2 rfl).trans x2) (h1_len 2) (Ob.below m2 K.grow)
  · exact st_call 22 (.func 22) _ _ #[.agg ((h1 1).map V).toArray, .agg ((h1 2).map V).toArray] rfl rfl (arg2 (K.dep 11 28 rfl) (K.dep 12 29 rfl)) Tryd.enter22 (fk_node (h1_len 1) (h1_len 2) (hK.below (bl.trans (Below.mono K.grow bl.size))) ep)
  · exact st_eqh (.tmp 27) (.tmp 30) rfl (p) (p) hp hp (K.dep 10 27 rfl) (K.dep 13 30 rfl) _ (by simp)
  · exact st_pick_t (.tmp 24) (.tmp 31) (.const (.bool false)) rfl (K.dep 7 24 rfl) (K.dep 14 31 rfl)
  · exact st_move (.tmp 32) rfl (K.dep 15 32 rfl)
  · exact st_load24 (.tmp 1) rfl (g1) (h1 1) ((K.old 1 rfl).trans x1) (h1_len 1) (Ob.below m1 K.grow)
  · exact st_load24 (.tmp 2) rfl (g2) (h1 2) ((K.old 2 rfl).trans x2) (h1_len 2) (Ob.below m2 K.grow)
  · exact st_load24 (.tmp 3) rfl (g3) (h1 3) ((K.old 3 rfl).trans x3) (h1_len 3) (Ob.below m3 K.grow)
  · exact st_b3 (.tmp 34) (.tmp 35) (.tmp 36) rfl (K.dep 17 34 rfl) (K.dep 18 35 rfl) (K.dep 19 36 rfl)
  · exact st_call 8 (.func 8) _ _ #[ac.eval (.tmp 37)] rfl rfl (one_arg rfl) Tryd.enter8 (fk_of (root_any [h1 1, h1 2, h1 3] _ _ (by simp) (K.dep 20 37 rfl) (hK.below (bl.trans (Below.mono K.grow bl.size))) eR))
  · exact st_move (.tmp 4) rfl (f_at (K.old 4 rfl) (Fk.mono _ _ _ _ x4 K.grow))
  · exact st_idxh (.tmp 39) (.const (.int .i64 0)) rfl (K.dep 22 39 rfl) (0) (p) rfl rfl
  · exact st_loadh (.tmp 40) rfl (K.dep 23 40 rfl)
  · exact st_load24 (.tmp 3) rfl (g3) (h1 3) ((K.old 3 rfl).trans x3) (h1_len 3) (Ob.below m3 K.grow)
  · exact st_call 22 (.func 22) _ _ #[.agg ((p).map V).toArray, .agg ((h1 3).map V).toArray] rfl rfl (arg2 (K.dep 24 41 rfl) (K.dep 25 42 rfl)) Tryd.enter22 (fk_node hp (h1_len 3) (hK.below (bl.trans (Below.mono K.grow bl.size))) eq)
  · exact st_eqh (.tmp 38) (.tmp 43) rfl (q) (q) hq hq (K.dep 21 38 rfl) (K.dep 26 43 rfl) _ (by simp)
  · exact st_pick_t (.tmp 33) (.tmp 44) (.const (.bool false)) rfl (K.dep 16 33 rfl) (K.dep 27 44 rfl)
  · exact st_assign (.tmp 45) rfl (K.dep 28 45 rfl)
  intro f10 w10 A hb
  replace bl0 := bl
  clear x0
  replace x1 := (A.old 1 rfl).trans x1
  replace x2 := (A.old 2 rfl).trans x2
  replace x3 := (A.old 3 rfl).trans x3
  replace x4 := f_at (A.old 4 rfl) (Fk.mono _ _ _ _ x4 hb)
  replace x5 := (A.old 5 rfl).trans x5
  have x0 : f10.eval (.tmp 0) = .bool true := A.has 29 0 rfl
  have lt_m1 := Ob.lt m1
  replace m1 := Ob.below m1 hb
  have lt_m2 := Ob.lt m2
  replace m2 := Ob.below m2 hb
  have lt_m3 := Ob.lt m3
  replace m3 := Ob.below m3 hb
  replace bl := (bl.trans (Below.mono hb bl.size))
  replace sz := A.size.trans sz
  replace df := A.defs.trans df
  clear A hb
  clear x4
  clear x5
  show Code.wp _ _ _ _ _
  refine wp_ret ?_
  repeat (first | with_reducible refine then_ret ?_ | with_reducible refine block_ret ?_)
  exact bodyPost_ret (v := .bool true) (ret_slot rfl f10 _ x0 _ _) df ⟨rfl, bl⟩
end Go.Proofs.YtfbfngblocfdlaaDoor
