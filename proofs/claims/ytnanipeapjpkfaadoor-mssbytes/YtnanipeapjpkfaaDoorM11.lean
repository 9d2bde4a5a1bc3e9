/- Sign. What Verify reckons, plainly. -/
import Derived.Test.YtnanipeapjpkfaaDoorM10
namespace Go.Proofs.YtnanipeapjpkfaaDoor
set_option maxRecDepth 100000
open Go.RowKit
theorem sign_key {kb kind height next : Nat} {seed : List (BitVec 8)} (hx : seed.length = 32) (h1 : 1 ≤ kind) (h2 : kind ≤ 2) (h3 : height ≤ 8) (h4 : next < 2 ^ height) (w : World) (hk : Ob w kb 69 ((seed).map V ++ ([.int .i64 ((kind : Nat) : Int), .int .i64 ((height : Nat) : Int), .int .i64 ((next : Nat) : Int)] : List Value))) (hK : Tab w) (h0 : 0 < kb) (mv : Value) (msg : List (BitVec 8)) (hml : msg.length ≤ 900000) (vm : ∀ {W : World}, Only kb w W → (Fk.sl msg).f mv W) {h : List (BitVec 8)} (eh : Box (ms msg = h)) {S P : List (List (BitVec 8))} (eS : Box (sgp seed kind next h = S)) (eP : Box (firsts (pth (lv seed kind) next) height = P)) :
    Calls Tryd.prog 13 #[.pointer (some ⟨kb, 0, none⟩), mv] w fun e w' => ∃ A C lb lo A2 C2 lb2 lo2, e = .returned (.tuple #[.agg [.int .i64 ((kind : Nat) : Int), .int .i64 ((next : Nat) : Int), .slice A S.length C, .slice A2 P.length C2].toArray, .int .i64 0]) ∧ w.heap.size ≤ lb ∧ Hl w' A lb lo S ∧ w.heap.size ≤ lb2 ∧ Hl w' A2 lb2 lo2 P ∧ Ob w' kb 69 ((seed).map V ++ ([.int .i64 ((kind : Nat) : Int), .int .i64 ((height : Nat) : Int), .int .i64 ((next + 1 : Nat) : Int)] : List Value)) ∧ Only kb w w' := by
  have hT : ∀ {W : World}, Only kb w W → Tab W := fun ho => ⟨hK.K.only ho hK.pos (by omega), Nat.lt_of_lt_of_le hK.pos ho.size⟩
  have hh : h.length = 32 := by rw [← eh.out]; exact ms_len _
  have hn8 : next < 256 := Nat.lt_of_lt_of_le h4 (pow_le8 h3)
  go_enter Tryd.func13, Tryd.ntmps13
  refine code_both (fun f w1 => f.tmps.size = 36 ∧ f.defers = [] ∧ f.eval (.tmp 0) = .pointer (some ⟨kb, 0, none⟩) ∧ f.eval (.tmp 1) = mv ∧ Ob w1 (kb) 69 ((seed).map V ++ ([.int .i64 ((kind : Nat) : Int), .int .i64 ((height : Nat) : Int), .int .i64 ((next : Nat) : Int)] : List Value)) ∧ Only kb w (w1)) ⟨rfl, rfl, rfl, rfl, hk, Only.refl _ _⟩ ?_
  clear hk
  rintro f0 w0 ⟨sz, df, x0, x1, hk, bl⟩
  have bl0 := bl
  refine wp_seq ?_
  -- R0
  refine wp_all_seq [.nw w0.heap.size 38 [.int .i64 0, .int .i64 0, .slice none 0 0, .slice none 0 0], .eq (.int .i64 0)] (by kernel_rfl) (by kernel_rfl) (by rw [sz]; kernel_rfl) (by kernel_rfl) ⟨fun hw ac u K => ?_, fun hw ac u K => ?_, trivial⟩ ?_
  · exact st_alloc 38 rfl _ _ (by kernel_rfl) K.grow.size
  · exact st_assign (.const (.int .i64 0)) rfl rfl
  intro f1 w1 A hb
  replace bl0 := bl
  replace x0 := (A.old 0 rfl).trans x0
  replace x1 := (A.old 1 rfl).trans x1
  have x4 : Fk.f (.nw w0.heap.size 38 [.int .i64 0, .int .i64 0, .slice none 0 0, .slice none 0 0]) (f1.eval (.tmp 4)) w1 := A.has 0 4 rfl
  have x5 : f1.eval (.tmp 5) = .int .i64 0 := A.has 1 5 rfl
  have lt_hk := Ob.lt hk
  replace hk := Ob.below hk hb
  replace bl := (only_below bl (Below.mono hb bl.size))
  replace sz := A.size.trans sz
  replace df := A.defs.trans df
  clear A hb
  obtain ⟨g4, hg4, e4, m4⟩ := x4
  have x4 := e4
  clear e4
  have nhk_4 : kb ≠ g4 := Nat.ne_of_lt (Nat.lt_of_lt_of_le lt_hk hg4)
  have hw4 : w.heap.size ≤ g4 := Nat.le_trans bl0.size hg4
  show Code.wp _ _ _ _ _
  refine wp_seq ?_
  refine wp_seq ?_
  -- R1
  refine wp_all_seq [.eq (.pointer (some ⟨kb, 0, none⟩)), .eq (.int .i64 ((2 ^ height - next : Nat) : Int)), .eq (.bool false)] (by kernel_rfl) (by kernel_rfl) (by rw [sz]; kernel_rfl) (by kernel_rfl) ⟨fun hw ac u K => ?_, fun hw ac u K => ?_, fun hw ac u K => ?_, trivial⟩ ?_
  · exact st_move (.tmp 0) rfl ((K.old 0 rfl).trans x0)
  · exact st_call 14 (.func 14) _ _ #[.pointer (some ⟨kb, 0, none⟩)] rfl rfl (one_arg (K.dep 0 7 rfl)) Tryd.enter14 (fk_of (left_any hx _ h3 (by omega) (Ob.below hk K.grow)))
  · exact st_eqi 3 (.tmp 8) (.const (.int .i64 0)) rfl .i64 (((2 ^ height - next : Nat) : Int)) (0) (K.dep 1 8 rfl) rfl _ (by rw [eq_comm, decide_eq_false_iff_not]; omega)
  intro f2 w2 A hb
  replace bl0 := bl
  replace x0 := (A.old 0 rfl).trans x0
  replace x1 := (A.old 1 rfl).trans x1
  replace x4 := (A.old 4 rfl).trans x4
  replace x5 := (A.old 5 rfl).trans x5
  have x9 : f2.eval (.tmp 9) = .bool false := A.has 2 9 rfl
  have lt_hk := Ob.lt hk
  replace hk := Ob.below hk hb
  have lt_m4 := Ob.lt m4
  replace m4 := Ob.below m4 hb
  replace bl := (only_below bl (Below.mono hb bl.size))
  replace sz := A.size.trans sz
  replace df := A.defs.trans df
  clear A hb
  show Code.wp _ _ _ _ _
  refine wp_cond_false x9 ?_
  refine wp_skip ?_
  show Code.wp _ _ _ _ _
  refine wp_seq ?_
  -- R3
  refine wp_all_seq [.eq (.pointer (some ⟨kb, 0, none⟩)), .eq (.pointer (some ⟨kb, 0, none⟩)), .eq (.pointer (some ⟨kb, 34, none⟩)), .eq (.int .i64 ((next : Nat) : Int)), .eq (.int .i64 ((next : Nat) : Int))] (by kernel_rfl) (by kernel_rfl) (by rw [sz]; kernel_rfl) (by kernel_rfl) ⟨fun hw ac u K => ?_, fun hw ac u K => ?_, fun hw ac u K => ?_, fun hw ac u K => ?_, fun hw ac u K => ?_, trivial⟩ ?_
  · exact st_move (.tmp 0) rfl ((K.old 0 rfl).trans x0)
  · exact st_nil (.tmp 11) rfl (K.dep 0 11 rfl)
  · exact st_field 69 3 (.tmp 12) rfl (K.dep 1 12 rfl) (by kernel_rfl)
  · exact st_loadc 3 (.tmp 13) rfl (by kernel_rfl) (K.dep 2 13 rfl) (Ob.cell (Ob.below hk K.grow) 34 ((at_head hx 2 _).trans rfl))
  · exact st_assign (.tmp 14) rfl (K.dep 3 14 rfl)
  intro f3 w3 A hb
  replace bl0 := bl
  replace x0 := (A.old 0 rfl).trans x0
  replace x1 := (A.old 1 rfl).trans x1
  replace x4 := (A.old 4 rfl).trans x4
  replace x5 := (A.old 5 rfl).trans x5
  replace x9 := (A.old 9 rfl).trans x9
  have x6 : f3.eval (.tmp 6) = .int .i64 ((next : Nat) : Int) := A.has 4 6 rfl
  have lt_hk := Ob.lt hk
  replace hk := Ob.below hk hb
  have lt_m4 := Ob.lt m4
  replace m4 := Ob.below m4 hb
  replace bl := (only_below bl (Below.mono hb bl.size))
  replace sz := A.size.trans sz
  replace df := A.defs.trans df
  clear A hb
  show Code.wp _ _ _ _ _
  refine wp_seq ?_
  -- R4
  refine wp_region_seq [.eq (.pointer (some ⟨kb, 0, none⟩)), .eq (.pointer (some ⟨kb, 0, none⟩)), .eq (.pointer (some ⟨kb, 34, none⟩)), .eq (.int .i64 ((next : Nat) : Int)), .eq (.int .i64 ((next + 1 : Nat) : Int)), .eq (.pointer (some ⟨kb, 0, none⟩)), .eq (.pointer (some ⟨kb, 34, none⟩))] (by kernel_rfl) (by kernel_rfl) (by rw [sz]; kernel_rfl) (by kernel_rfl) ⟨fun hw ac u K => ?_, fun hw ac u K => ?_, fun hw ac u K => ?_, fun hw ac u K => ?_, fun hw ac u K => ?_, fun hw ac u K => ?_, fun hw ac u K => ?_, trivial⟩ ?_
  · exact st_move (.tmp 0) rfl ((K.old 0 rfl).trans x0)
  · exact st_nil (.tmp 15) rfl (K.dep 0 15 rfl)
  · exact st_field 69 3 (.tmp 16) rfl (K.dep 1 16 rfl) (by kernel_rfl)
  · exact st_loadc 3 (.tmp 17) rfl (by kernel_rfl) (K.dep 2 17 rfl) (Ob.cell (Ob.below hk K.grow) 34 ((at_head hx 2 _).trans rfl))
  · exact st_add (.tmp 18) (.const (.int .i64 1)) rfl (next) (1) (next + 1) (K.dep 3 18 rfl) rfl (by omega) (by omega)
  · exact st_nil (.tmp 15) rfl (K.dep 0 15 rfl)
  · exact st_field 69 3 (.tmp 20) rfl (K.dep 5 20 rfl) (by kernel_rfl)
  intro f4 w4 A hb
  replace bl0 := bl
  replace x0 := (A.old 0 rfl).trans x0
  replace x1 := (A.old 1 rfl).trans x1
  replace x4 := (A.old 4 rfl).trans x4
  replace x5 := (A.old 5 rfl).trans x5
  replace x9 := (A.old 9 rfl).trans x9
  replace x6 := (A.old 6 rfl).trans x6
  have x19 : f4.eval (.tmp 19) = .int .i64 ((next + 1 : Nat) : Int) := A.has 4 19 rfl
  have x21 : f4.eval (.tmp 21) = .pointer (some ⟨kb, 34, none⟩) := A.has 6 21 rfl
  have lt_hk := Ob.lt hk
  replace hk := Ob.below hk hb
  have lt_m4 := Ob.lt m4
  replace m4 := Ob.below m4 hb
  replace bl := (only_below bl (Below.mono hb bl.size))
  replace sz := A.size.trans sz
  replace df := A.defs.trans df
  clear A hb
  refine wl_stc 3 rfl (.tmp 21) (.tmp 19) rfl rfl (by kernel_rfl) (kb) 34 (.int .i64 ((next + 1 : Nat) : Int)) x21 x19 rfl rfl (Ob.there hk 34 (by simp [hx])) ?_
  replace hk : Ob (w4.setCell ⟨kb, 34, none⟩ (.int .i64 ((next + 1 : Nat) : Int))) (kb) 69 ((seed).map V ++ ([.int .i64 ((kind : Nat) : Int), .int .i64 ((height : Nat) : Int), .int .i64 ((next + 1 : Nat) : Int)] : List Value)) := Ob.seth hk hx 2 (.int .i64 ((next + 1 : Nat) : Int))
  replace m4 : Ob (w4.setCell ⟨kb, 34, none⟩ (.int .i64 ((next + 1 : Nat) : Int))) (g4) 38 ([.int .i64 0, .int .i64 0, .slice none 0 0, .slice none 0 0]) := Ob.setCell_other m4 _ _ nhk_4.symm
  replace bl : Only kb w (w4.setCell ⟨kb, 34, none⟩ (.int .i64 ((next + 1 : Nat) : Int))) := bl.setCell _ _
  generalize w4.setCell ⟨kb, 34, none⟩ (.int .i64 ((next + 1 : Nat) : Int)) = w5b at bl hk m4 ⊢
  refine wpList_nil ?_
  clear x19
  clear x21
  show Code.wp _ _ _ _ _
  refine wp_seq ?_
  have hW5 := bl.size
  -- R5
  refine wp_region_tail [.eq (.pointer (some ⟨kb, 0, none⟩)), .eq (.pointer (some ⟨kb, 0, none⟩)), .eq (.pointer (some ⟨kb, 32, none⟩)), .eq (.int .i64 ((kind : Nat) : Int)), .eq (.int .i64 ((next : Nat) : Int)), .eq (.pointer (some ⟨kb, 0, none⟩)), .eq (.int .i64 ((next : Nat) : Int)), .eq (mv), .eq (.agg ((h).map V).toArray), .hn w5b.heap.size (S), .eq (.pointer (some ⟨kb, 0, none⟩)), .eq (.int .i64 ((next : Nat) : Int)), .hn w5b.heap.size (P), .sv w5b.heap.size ((kind : Nat) : Int) ((next : Nat) : Int) S P] [14, 15] Tryd.mixed (by kernel_rfl) (by kernel_rfl) (by kernel_rfl) (by kernel_rfl) (by rw [sz]; kernel_rfl) (by kernel_rfl) ⟨fun hw ac u K => ?_, fun hw ac u K => ?_, fun hw ac u K => ?_, fun hw ac u K => ?_, fun hw ac u K => ?_, fun hw ac u K => ?_, fun hw ac u K => ?_, fun hw ac u K => ?_, fun hw ac u K => ?_, fun hw ac u K => ?_, fun hw ac u K => ?_, fun hw ac u K => ?_, fun hw ac u K => ?_, fun hw ac u K => ?_, trivial⟩ ?_
  · exact st_move (.tmp 0) rfl ((K.old 0 rfl).trans x0)
  · exact st_nil (.tmp 22) rfl (K.dep 0 22 rfl)
  · exact st_field 69 1 (.tmp 23) rfl (K.dep 1 23 rfl) (by kernel_rfl)
  · exact st_loadc 3 (.tmp 24) rfl (by kernel_rfl) (K.dep 2 24 rfl) (Ob.cell (Ob.below hk K.grow) 32 ((at_head hx 0 _).trans rfl))
  · exact st_move (.tmp 6) rfl ((K.old 6 rfl).trans x6)
  · exact st_move (.tmp 0) rfl ((K.old 0 rfl).trans x0)
  · exact st_move (.tmp 6) rfl ((K.old 6 rfl).trans x6)
  · exact st_move (.tmp 1) rfl ((K.old 1 rfl).trans x1)
  · exact st_call 17 (.func 17) _ _ #[mv] rfl rfl (one_arg (K.dep 7 29 rfl)) Tryd.enter17 (fk_message hml (hT (only_below bl (Below.mono K.grow bl.size))) (vm (only_below bl (Below.mono K.grow bl.size))) eh)
  · exact st_call 39 (.func 39) _ _ #[.pointer (some ⟨kb, 0, none⟩), .int .i64 ((next : Nat) : Int), .agg ((h).map V).toArray] rfl rfl (arg3 (K.dep 5 27 rfl) (K.dep 6 28 rfl) (K.dep 8 30 rfl)) Tryd.enter39 (fk_hn K.grow.size (parts_any hx h1 h2 next (by omega) h hh _ (Ob.below hk K.grow) (hT (only_below bl (Below.mono K.grow bl.size))) eS))
  · exact st_move (.tmp 0) rfl ((K.old 0 rfl).trans x0)
  · exact st_move (.tmp 6) rfl ((K.old 6 rfl).trans x6)
  · exact st_call 40 (.func 40) _ _ #[.pointer (some ⟨kb, 0, none⟩), .int .i64 ((next : Nat) : Int)] rfl rfl (arg2 (K.dep 10 32 rfl) (K.dep 11 33 rfl)) Tryd.enter40 (fk_hn K.grow.size (path_any hx h1 h2 h3 next hn8 _ (Ob.below hk K.grow) (hT (only_below bl (Below.mono K.grow bl.size))) eP))
  · exact st_buildsig (.tmp 25) (.tmp 26) (.tmp 31) (.tmp 34) rfl (K.dep 3 25 rfl) (K.dep 4 26 rfl) (K.dep 9 31 rfl) (K.dep 12 34 rfl)
  intro f6 w6 A hb
  replace bl0 := bl
  replace x0 := (A.old 0 rfl).trans x0
  replace x1 := (A.old 1 rfl).trans x1
  replace x4 := (A.old 4 rfl).trans x4
  replace x5 := (A.old 5 rfl).trans x5
  replace x9 := (A.old 9 rfl).trans x9
  replace x6 := (A.old 6 rfl).trans x6
  have x35 : Fk.f (.sv w5b.heap.size ((kind : Nat) : Int) ((next : Nat) : Int) S P) (f6.eval (.tmp 35)) w6 := A.has 13 35 rfl
  have lt_hk := Ob.lt hk
  replace hk := Ob.below hk hb
  have lt_m4 := Ob.lt m4
  replace m4 := Ob.below m4 hb
  replace bl := (only_below bl (Below.mono hb bl.size))
  replace sz := A.size.trans sz
  replace df := A.defs.trans df
  clear A hb
  clear x1
  clear x6
  obtain ⟨A, C, lb, lo, A2, C2, lb2, lo2, e35, hg1, q1, hg2, q2⟩ := x35
  have n1 : lb ≠ g4 := Nat.ne_of_gt (Nat.lt_of_lt_of_le lt_m4 hg1)
  have n2 : lb2 ≠ g4 := Nat.ne_of_gt (Nat.lt_of_lt_of_le lt_m4 hg2)
  refine wl_str rfl 38 (.tmp 4) (.tmp 35) rfl rfl g4 ([.int .i64 ((kind : Nat) : Int), .int .i64 ((next : Nat) : Int), .slice A S.length C, .slice A2 P.length C2]).toArray x4 e35 38 _ m4 (by kernel_rfl) (by kernel_rfl) (by kernel_rfl) ?_
  have OO : Only g4 w6 (w6.setRow g4 ([.int .i64 ((kind : Nat) : Int), .int .i64 ((next : Nat) : Int), .slice A S.length C, .slice A2 P.length C2]).toArray) := (Only.refl g4 _).setRow _
  replace q1 := Hl.onlyN q1 OO n1
  replace q2 := Hl.onlyN q2 OO n2
  replace hk := Ob.only hk OO nhk_4
  replace m4 := Ob.setRow m4 ([.int .i64 ((kind : Nat) : Int), .int .i64 ((next : Nat) : Int), .slice A S.length C, .slice A2 P.length C2])
  replace bl := only_setRow_new bl hw4 ([.int .i64 ((kind : Nat) : Int), .int .i64 ((next : Nat) : Int), .slice A S.length C, .slice A2 P.length C2]).toArray
  clear OO
  generalize w6.setRow g4 ([.int .i64 ((kind : Nat) : Int), .int .i64 ((next : Nat) : Int), .slice A S.length C, .slice A2 P.length C2]).toArray = w7b at q1 q2 hk m4 bl ⊢
  refine wl_one (.eq (.int .i64 0)) rfl 5 rfl (by rw [sz]; decide) (st_assign (.const (.int .i64 0)) rfl rfl) ?_
  intro f8 w8 df2 sz2 old2 new2 hb
  replace bl0 := bl
  replace x0 := (old2 0 rfl).trans x0
  replace x4 := (old2 4 rfl).trans x4
  clear x5
  replace x9 := (old2 9 rfl).trans x9
  have x5 : f8.eval (.tmp 5) = .int .i64 0 := new2
  have lt_hk := Ob.lt hk
  replace hk := Ob.below hk hb
  have lt_m4 := Ob.lt m4
  replace m4 := Ob.below m4 hb
  replace q1 := q1.below hb
  replace q2 := q2.below hb
  replace bl := (only_below bl (Below.mono hb bl.size))
  replace sz := sz2.trans sz
  replace df := df2.trans df
  clear df2 sz2 old2 new2 hb
  refine wpList_nil ?_
  show Code.wp _ _ _ _ _
  refine wp_ret ?_
  repeat (first | with_reducible refine then_ret ?_ | with_reducible refine block_ret ?_)
  exact bodyPost_ret (v := .tuple #[.agg [.int .i64 ((kind : Nat) : Int), .int .i64 ((next : Nat) : Int), .slice A S.length C, .slice A2 P.length C2].toArray, .int .i64 0]) (ret_sig2 rfl f8 _ g4 _ _ _ _ _ x4 m4 x5) df ⟨A, C, lb, lo, A2, C2, lb2, lo2, rfl, Nat.le_trans hW5 hg1, q1, Nat.le_trans hW5 hg2, q2, hk, bl⟩
theorem sign_out {kb kind height next : Nat} {seed : List (BitVec 8)} (hx : seed.length = 32) (h3 : height ≤ 8) (h4 : next = 2 ^ height) (w : World) (hk : Ob w kb 69 ((seed).map V ++ ([.int .i64 ((kind : Nat) : Int), .int .i64 ((height : Nat) : Int), .int .i64 ((next : Nat) : Int)] : List Value))) (mv : Value) :
    Calls Tryd.prog 13 #[.pointer (some ⟨kb, 0, none⟩), mv] w fun e w' => e = .returned (.tuple #[.agg [.int .i64 0, .int .i64 0, .slice none 0 0, .slice none 0 0].toArray, .int .i64 20]) ∧ Below w.heap.size w w' := by
  go_enter Tryd.func13, Tryd.ntmps13
  refine code_both (fun f w1 => f.tmps.size = 36 ∧ f.defers = [] ∧ f.eval (.tmp 0) = .pointer (some ⟨kb, 0, none⟩) ∧ f.eval (.tmp 1) = mv ∧ Below w.heap.size w (w1)) ⟨rfl, rfl, rfl, rfl, Below.refl _ _⟩ ?_
  rintro f0 w0 ⟨sz, df, x0, x1, bl⟩
  have bl0 := bl
  refine wp_seq ?_
  -- R0
  refine wp_region_seq [] (by kernel_rfl) (by kernel_rfl) (by rw [sz]; kernel_rfl) (by kernel_rfl) trivial ?_
  intro f1 w1 A hb
  replace bl0 := bl
  replace x0 := (A.old 0 rfl).trans x0
  replace x1 := (A.old 1 rfl).trans x1
  replace bl := (bl.trans (Below.mono hb bl.size))
  replace sz := A.size.trans sz
  replace df := A.defs.trans df
  clear A hb
  refine wl_one (.nw w1.heap.size 38 [.int .i64 0, .int .i64 0, .slice none 0 0, .slice none 0 0]) rfl 4 rfl (by rw [sz]; decide) (st_alloc 38 rfl _ _ (by kernel_rfl) (Nat.le_refl _)) ?_
  intro f2 w2 df2 sz2 old2 new2 hb
  replace bl0 := bl
  replace x0 := (old2 0 rfl).trans x0
  replace x1 := (old2 1 rfl).trans x1
  have x4 : Fk.f (.nw w1.heap.size 38 [.int .i64 0, .int .i64 0, .slice none 0 0, .slice none 0 0]) (f2.eval (.tmp 4)) w2 := new2
  replace bl := (bl.trans (Below.mono hb bl.size))
  replace sz := sz2.trans sz
  replace df := df2.trans df
  clear df2 sz2 old2 new2 hb
  obtain ⟨g4, hg4, e4, m4⟩ := x4
  have x4 := e4
  clear e4
  have nhk_4 : kb ≠ g4 := Nat.ne_of_lt (Nat.lt_of_lt_of_le (Ob.lt hk) (Nat.le_trans bl0.size hg4))
  have hw4 : w.heap.size ≤ g4 := Nat.le_trans bl0.size hg4
  refine wl_one (.eq (.int .i64 0)) rfl 5 rfl (by rw [sz]; decide) (st_assign (.const (.int .i64 0)) rfl rfl) ?_
  intro f3 w3 df2 sz2 old2 new2 hb
  replace bl0 := bl
  replace x0 := (old2 0 rfl).trans x0
  replace x1 := (old2 1 rfl).trans x1
  replace x4 := (old2 4 rfl).trans x4
  have x5 : f3.eval (.tmp 5) = .int .i64 0 := new2
  have lt_m4 := Ob.lt m4
  replace m4 := Ob.below m4 hb
  replace bl := (bl.trans (Below.mono hb bl.size))
  replace sz := sz2.trans sz
  replace df := df2.trans df
  clear df2 sz2 old2 new2 hb
  refine wpList_nil ?_
  show Code.wp _ _ _ _ _
  refine wp_seq ?_
  refine wp_seq ?_
  -- R1
  refine wp_all_seq [.eq (.pointer (some ⟨kb, 0, none⟩)), .eq (.int .i64 ((2 ^ height - next : Nat) : Int)), .eq (.bool true)] (by kernel_rfl) (by kernel_rfl) (by rw [sz]; kernel_rfl) (by kernel_rfl) ⟨fun hw ac u K => ?_, fun hw ac u K => ?_, fun hw ac u K => ?_, trivial⟩ ?_
  · exact st_move (.tmp 0) rfl ((K.old 0 rfl).trans x0)
  · exact st_call 14 (.func 14) _ _ #[.pointer (some ⟨kb, 0, none⟩)] rfl rfl (one_arg (K.dep 0 7 rfl)) Tryd.enter14 (fk_of (left_any hx _ h3 (by omega) (Ob.below hk (bl.trans (Below.mono K.grow bl.size)))))
  · exact st_eqi 3 (.tmp 8) (.const (.int .i64 0)) rfl .i64 (((2 ^ height - next : Nat) : Int)) (0) (K.dep 1 8 rfl) rfl _ (by rw [eq_comm, decide_eq_true_iff]; omega)
  intro f4 w4 A hb
  replace bl0 := bl
  replace x0 := (A.old 0 rfl).trans x0
  replace x1 := (A.old 1 rfl).trans x1
  replace x4 := (A.old 4 rfl).trans x4
  replace x5 := (A.old 5 rfl).trans x5
  have x9 : f4.eval (.tmp 9) = .bool true := A.has 2 9 rfl
  have lt_m4 := Ob.lt m4
  replace m4 := Ob.below m4 hb
  replace bl := (bl.trans (Below.mono hb bl.size))
  replace sz := A.size.trans sz
  replace df := A.defs.trans df
  clear A hb
  show Code.wp _ _ _ _ _
  refine wp_cond_true x9 ?_
  refine wp_seq ?_
  -- R2
  refine wp_region_seq [.eq (.agg ([.int .i64 0, .int .i64 0, .slice none 0 0, .slice none 0 0] : List Value).toArray)] (by kernel_rfl) (by kernel_rfl) (by rw [sz]; kernel_rfl) (by kernel_rfl) ⟨fun hw ac u K => ?_, trivial⟩ ?_
  · exact st_build 38 _ rfl (by kernel_rfl)
  intro f5 w5 A hb
  replace bl0 := bl
  replace x0 := (A.old 0 rfl).trans x0
  replace x1 := (A.old 1 rfl).trans x1
  replace x4 := (A.old 4 rfl).trans x4
  replace x5 := (A.old 5 rfl).trans x5
  replace x9 := (A.old 9 rfl).trans x9
  have x10 : f5.eval (.tmp 10) = .agg ([.int .i64 0, .int .i64 0, .slice none 0 0, .slice none 0 0] : List Value).toArray := A.has 0 10 rfl
  have lt_m4 := Ob.lt m4
  replace m4 := Ob.below m4 hb
  replace bl := (bl.trans (Below.mono hb bl.size))
  replace sz := A.size.trans sz
  replace df := A.defs.trans df
  clear A hb
  refine wl_str rfl 38 (.tmp 4) (.tmp 10) rfl rfl (g4) ([.int .i64 0, .int .i64 0, .slice none 0 0, .slice none 0 0] : List Value).toArray x4 x10 38 _ m4 (by kernel_rfl) (by kernel_rfl) (by kernel_rfl) ?_
  replace m4 : Ob (w5.setRow g4 ([.int .i64 0, .int .i64 0, .slice none 0 0, .slice none 0 0] : List Value).toArray) (g4) 38 ([.int .i64 0, .int .i64 0, .slice none 0 0, .slice none 0 0]) := Ob.setRow m4 ([.int .i64 0, .int .i64 0, .slice none 0 0, .slice none 0 0])
  replace bl : Below w.heap.size w (w5.setRow g4 ([.int .i64 0, .int .i64 0, .slice none 0 0, .slice none 0 0] : List Value).toArray) := bl.trans (below_setRow _ _ _ _ hw4)
  generalize w5.setRow g4 ([.int .i64 0, .int .i64 0, .slice none 0 0, .slice none 0 0] : List Value).toArray = w6b at bl m4 ⊢
  clear x10
  refine wl_one (.eq (.int .i64 20)) rfl 5 rfl (by rw [sz]; decide) (st_assign (.const (.int .i64 20)) rfl rfl) ?_
  intro f7 w7 df2 sz2 old2 new2 hb
  replace bl0 := bl
  replace x0 := (old2 0 rfl).trans x0
  replace x1 := (old2 1 rfl).trans x1
  replace x4 := (old2 4 rfl).trans x4
  clear x5
  replace x9 := (old2 9 rfl).trans x9
  have x5 : f7.eval (.tmp 5) = .int .i64 20 := new2
  have lt_m4 := Ob.lt m4
  replace m4 := Ob.below m4 hb
  replace bl := (bl.trans (Below.mono hb bl.size))
  replace sz := sz2.trans sz
  replace df := df2.trans df
  clear df2 sz2 old2 new2 hb
  refine wpList_nil ?_
  show Code.wp _ _ _ _ _
  refine wp_ret ?_
  repeat (first | with_reducible refine then_ret ?_ | with_reducible refine block_ret ?_)
  exact bodyPost_ret (v := .tuple #[.agg [.int .i64 0, .int .i64 0, .slice none 0 0, .slice none 0 0].toArray, .int .i64 20]) (ret_sig2 rfl f7 _ g4 _ _ _ _ _ x4 m4 x5) df ⟨rfl, bl⟩
end Go.Proofs.YtnanipeapjpkfaaDoor
namespace Go.Proofs.YtnanipeapjpkfaaDoor
set_option maxRecDepth 100000
open Go.RowKit
/-- What the parts lead to, by the kind. -/
def rcv (kind : Nat) (h : List (BitVec 8)) (S : List (List (BitVec 8))) : List (BitVec 8) := if kind = 1 then pub (all67 (recOf h S)) else pub (all512 (rcOf h S))
/-- How many parts there are, by the kind. -/
def npt (kind : Nat) : Nat := if kind = 1 then 67 else 512
theorem rcv_len (kind : Nat) (h : List (BitVec 8)) (S : List (List (BitVec 8))) : (rcv kind h S).length = 32 := by
  unfold rcv
  split <;> exact pub_len _
/-- Up from a leaf, k levels. -/
def up (i : Nat) (P : List (List (BitVec 8))) (x : List (BitVec 8)) : Nat → List (BitVec 8)
  | 0 => x
  | k + 1 => if i / 2 ^ k % 2 = 0 then nd (up i P x k) (P.getD k []) else nd (P.getD k []) (up i P x k)
theorem up_even {i k : Nat} {P : List (List (BitVec 8))} {x : List (BitVec 8)} (h : i / 2 ^ k % 2 = 0) : up i P x (k + 1) = nd (up i P x k) (P.getD k []) := if_pos h
theorem up_odd {i k : Nat} {P : List (List (BitVec 8))} {x : List (BitVec 8)} (h : ¬ i / 2 ^ k % 2 = 0) : up i P x (k + 1) = nd (P.getD k []) (up i P x k) := if_neg h
theorem up_len (i : Nat) (P : List (List (BitVec 8))) (x : List (BitVec 8)) (hx : x.length = 32) (k : Nat) : (up i P x k).length = 32 := by
  cases k with
  | zero => exact hx
  | succ k =>
    unfold up
    split <;> exact nd_len _ _
theorem arg5 {a : Act} {x y z p q : Operand} {u v t s r : Value} (h : a.eval x = u) (h2 : a.eval y = v) (h3 : a.eval z = t) (h4 : a.eval p = s) (h5 : a.eval q = r) : ((#[x, y, z, p, q].toList.map a.eval).toArray : Array Value) = #[u, v, t, s, r] := by rw [← h, ← h2, ← h3, ← h4, ← h5]; rfl
end Go.Proofs.YtnanipeapjpkfaaDoor
