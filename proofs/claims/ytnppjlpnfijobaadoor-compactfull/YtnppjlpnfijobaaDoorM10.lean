/- CompactFull. What the rows of this seat share: what the listed variable gives a walk, an array of bytes opened, the start that fits. A slice of bytes that came in, opened. A slice of hashes that came in, opened. Signatures and structs with them that came in, opened. Arguments opened: numbers with their bounds, slices of hashes with their room. Greater and less of two numbers; append of any slice of numbers to one of the call's own; such a slice stays while other blocks turn. Arguments opened: slices of numbers, and of hashes, as they are written (where nothing is pointed to, there is no room). What the rows with three listed variables share; a slice of hashes opened as it is written. -/
import Derived.Test.YtnppjlpnfijobaaDoorM9
import Derived.Test.YtnppjlpnfijobaaDoorRows
import Derived.Test.YtnppjlpnfijobaaDoorM2
import Derived.ProofKit
import Derived.LaidMore
import Derived.OpenShut
import Derived.ShutString
import Derived.ChangeOld
import Derived.Lib.LaidTab
import Derived.SevenTiedAt
import Derived.Deep.Slices
import Derived.Deep.Strs
import Derived.Test.YtnppjlpnfijobaaDoorM3
import Derived.Laws.Small
import Derived.Laws.AppendOwnNone
import Derived.Stop.LaidErr
namespace Go.Proofs.YtnppjlpnfijobaaDoor
set_option maxRecDepth 100000
open Go.RowKit
theorem strB_str (bs : List (BitVec 8)) : strB (str bs) = bs := by
  unfold strB str
  rw [strOfNums_data, List.map_map, List.map_map]
  conv => rhs; rw [← List.map_id bs]
  apply List.map_congr_left
  intro x _
  have := x.isLt
  apply BitVec.eq_of_toNat_eq
  simp only [Function.comp, bv, Int.toNat_natCast, UInt8.toNat_ofNat', BitVec.toNat_ofNat, id]
  omega
theorem st_bstr {Q : Exit → Act → World → Prop} {o : Oper} {a : Act} {w : World} (x : Operand) (ho : o.op = .convert 9 39 x) {bs : List (BitVec 8)} (hx : a.eval x = .string (str bs)) : o.wp Tryd.prog a w (Ends a o.dst w (Fk.sl bs).f) Q := by
  obtain ⟨c, w', hr, hv, hb⟩ := str_bytes (str bs) w
  rw [strB_str] at hv
  refine st_run (v := .slice (some ⟨w.heap.size, 0, none⟩) (str bs).size c) (w' := w') ?_ hb (rv_sl hv)
  unfold execOp
  rw [ho]
  simp [hx, hr]
theorem fk_rnt {f : FuncId} {args : Array Value} {w : World} {g0 n : Nat} {P : List (List (BitVec 8))} {z : Value} (hg : g0 ≤ w.heap.size) (h : Calls Tryd.prog f args w fun e w' => ∃ u, e = .returned u ∧ (Fk.t2 (.rn w.heap.size n P) z).f u w' ∧ Below w.heap.size w w') :
    Calls Tryd.prog f args w fun e w' => ∃ u, e = .returned u ∧ (Fk.t2 (.rn g0 n P) z).f u w' ∧ Below w.heap.size w w' := by
  refine h.mono ?_
  rintro e w' ⟨u, rfl, ⟨p, e0, ⟨g, k, e1, h1, h2, h3⟩⟩, hb⟩
  exact ⟨u, rfl, ⟨p, e0, ⟨g, k, e1, Nat.le_trans hg h1, Nat.le_trans hg h2, h3⟩⟩, hb⟩
theorem rgb_max (n : Int) {S : List (List (BitVec 8))} (h : ∀ x ∈ S, x.length = 32) (hl : S.length ≤ 21) : 12 ≤ (be8 n ++ hsb S).length ∧ (be8 n ++ hsb S).length ≤ 700 := by
  have e1 := flat_len2 S (fun i x hx => h x (List.mem_of_getElem? hx))
  unfold hsb
  simp only [List.length_append, be8_len, beN_len, e1]
  omega
theorem full_pass {l M : List (List (BitVec 8))} (w : World) (hK : Tab w) {v vm : Value} (hv : (Fk.hc l).f v w) (hu : (Fk.hc M).f vm w) (n : Int) (h : n < 0 ∨ 1048576 < n ∨ l.length < 64 ∨ 40 < M.length) :
    Calls Tryd.prog 6 #[.int .i64 n, v, vm] w fun e w' => e = .returned (.bool true) ∧ Below w.heap.size w w' := by
  have hvs := hc_hs hv
  have hus := hc_hs hu
  go_enter Tryd.func6, Tryd.ntmps6
  refine code_both (fun f w1 => f.tmps.size = 94 ∧ f.defers = [] ∧ f.eval (.tmp 0) = .int .i64 (n) ∧ f.eval (.tmp 1) = v ∧ f.eval (.tmp 2) = vm ∧ Below w.heap.size w (w1)) ⟨rfl, rfl, rfl, rfl, rfl, Below.refl _ _⟩ ?_
  rintro f0 w0 ⟨sz, df, x0, x1, x2, bl⟩
  have bl0 := bl
  refine wp_seq ?_
  refine wp_all_seq [.eq (.bool false)] (by kernel_rfl) (by kernel_rfl) (by rw [sz]; kernel_rfl) (by kernel_rfl) ⟨fun hw ac u K => ?_, trivial⟩ ?_
  · exact st_assign (.const (.bool false)) rfl rfl
  intro f1 w1 A hb
  replace bl0 := bl
  replace x0 := (A.old 0 rfl).trans x0
  replace x1 := (A.old 1 rfl).trans x1
  replace x2 := (A.old 2 rfl).trans x2
  have x6 : f1.eval (.tmp 6) = .bool false := A.has 0 6 rfl
  replace bl := (bl.trans (Below.mono hb bl.size))
  replace sz := A.size.trans sz
  replace df := A.defs.trans df
  clear A hb
  show Code.wp _ _ _ _ _
  refine wp_seq ?_
  refine wp_seq ?_
  by_cases h0 : n < 0
  rotate_left
  · skip
    by_cases h1 : 1048576 < n
    rotate_left
    · skip
      by_cases h2 : l.length < 64
      rotate_left
      · skip
        refine wp_all_seq [.eq (.int .i64 (n)), .eq (.bool false), .eq (.bool false), .eq (.int .i64 (n)), .eq (.bool false), .eq (.bool false), .eq (.bool false), .eq (v), .eq (.int .i64 (((l).length : Nat) : Int)), .eq (.bool false), .eq (.bool false), .eq (.bool false), .eq (vm), .eq (.int .i64 (((M).length : Nat) : Int)), .eq (.bool true), .eq (.bool true)] (by kernel_rfl) (by kernel_rfl) (by rw [sz]; kernel_rfl) (by kernel_rfl) ⟨fun hw ac u K => ?_, fun hw ac u K => ?_, fun hw ac u K => ?_, fun hw ac u K => ?_, fun hw ac u K => ?_, fun hw ac u K => ?_, fun hw ac u K => ?_, fun hw ac u K => ?_, fun hw ac u K => ?_, fun hw ac u K => ?_, fun hw ac u K => ?_, fun hw ac u K => ?_, fun hw ac u K => ?_, fun hw ac u K => ?_, fun hw ac u K => ?_, fun hw ac u K => ?_, trivial⟩ ?_
        · exact st_move (.tmp 0) rfl ((K.old 0 rfl).trans x0)
        · exact st_lss 3 (.tmp 11) (.const (.int .i64 0)) rfl .i64 ((n)) (0) (K.dep 0 11 rfl) rfl _ (by rw [eq_comm, decide_eq_false_iff_not]; omega)
        · exact st_move (.tmp 12) rfl (K.dep 1 12 rfl)
        · exact st_move (.tmp 0) rfl ((K.old 0 rfl).trans x0)
        · exact st_gtr 3 (.tmp 14) (.const (.int .i64 1048576)) rfl .i64 ((n)) (1048576) (K.dep 3 14 rfl) rfl _ (by rw [eq_comm, decide_eq_false_iff_not]; omega)
        · exact st_pick_f' (.tmp 13) (.const (.bool true)) (.tmp 15) rfl (K.dep 2 13 rfl) (K.dep 4 15 rfl)
        · exact st_move (.tmp 16) rfl (K.dep 5 16 rfl)
        · exact st_move (.tmp 1) rfl ((K.old 1 rfl).trans x1)
        · exact st_lenc (.tmp 18) rfl ((l).length) rfl (fk_val (K.dep 7 18 rfl) (Fk.mono _ _ _ _ hv (bl.trans (Below.mono K.grow bl.size))))
        · exact st_lss 3 (.tmp 19) (.const (.int .i64 64)) rfl .i64 ((((l).length : Nat) : Int)) (64) (K.dep 8 19 rfl) rfl _ (by rw [eq_comm, decide_eq_false_iff_not]; omega)
        · exact st_pick_f' (.tmp 17) (.const (.bool true)) (.tmp 20) rfl (K.dep 6 17 rfl) (K.dep 9 20 rfl)
        · exact st_move (.tmp 21) rfl (K.dep 10 21 rfl)
        · exact st_move (.tmp 2) rfl ((K.old 2 rfl).trans x2)
        · exact st_lenc (.tmp 23) rfl ((M).length) rfl (fk_val (K.dep 12 23 rfl) (Fk.mono _ _ _ _ hu (bl.trans (Below.mono K.grow bl.size))))
        · exact st_gtr 3 (.tmp 24) (.const (.int .i64 40)) rfl .i64 ((((M).length : Nat) : Int)) (40) (K.dep 13 24 rfl) rfl _ (by rw [eq_comm, decide_eq_true_iff]; omega)
        · exact st_pick_f' (.tmp 22) (.const (.bool true)) (.tmp 25) rfl (K.dep 11 22 rfl) (K.dep 14 25 rfl)
        intro f2 w2 A hb
        replace bl0 := bl
        replace x0 := (A.old 0 rfl).trans x0
        replace x1 := (A.old 1 rfl).trans x1
        replace x2 := (A.old 2 rfl).trans x2
        replace x6 := (A.old 6 rfl).trans x6
        have x26 : f2.eval (.tmp 26) = .bool true := A.has 15 26 rfl
        replace bl := (bl.trans (Below.mono hb bl.size))
        replace sz := A.size.trans sz
        replace df := A.defs.trans df
        clear A hb
        show Code.wp _ _ _ _ _
        refine wp_cond_true x26 ?_
        refine wp_seq ?_
        refine wp_all_seq [.eq (.bool true), .eq (.bool true)] (by kernel_rfl) (by kernel_rfl) (by rw [sz]; kernel_rfl) (by kernel_rfl) ⟨fun hw ac u K => ?_, fun hw ac u K => ?_, trivial⟩ ?_
        · exact st_call 7 (.func 7) _ _ #[] rfl rfl rfl Tryd.enter7 (fk_of (awake_any _ (hK.below (bl.trans (Below.mono K.grow bl.size)))))
        · exact st_assign (.tmp 27) rfl (K.dep 0 27 rfl)
        intro f3 w3 A hb
        replace bl0 := bl
        replace x0 := (A.old 0 rfl).trans x0
        replace x1 := (A.old 1 rfl).trans x1
        replace x2 := (A.old 2 rfl).trans x2
        clear x6
        replace x26 := (A.old 26 rfl).trans x26
        have x6 : f3.eval (.tmp 6) = .bool true := A.has 1 6 rfl
        replace bl := (bl.trans (Below.mono hb bl.size))
        replace sz := A.size.trans sz
        replace df := A.defs.trans df
        clear A hb
        show Code.wp _ _ _ _ _
        refine wp_ret ?_
        repeat (first | with_reducible refine then_ret ?_ | with_reducible refine block_ret ?_)
        exact bodyPost_ret (v := .bool true) (ret_slot rfl f3 _ x6 _ _) df ⟨rfl, bl⟩
      refine wp_all_seq [.eq (.int .i64 (n)), .eq (.bool false), .eq (.bool false), .eq (.int .i64 (n)), .eq (.bool false), .eq (.bool false), .eq (.bool false), .eq (v), .eq (.int .i64 (((l).length : Nat) : Int)), .eq (.bool true), .eq (.bool true), .eq (.bool true), .any, .any, .any, .eq (.bool true)] (by kernel_rfl) (by kernel_rfl) (by rw [sz]; kernel_rfl) (by kernel_rfl) ⟨fun hw ac u K => ?_, fun hw ac u K => ?_, fun hw ac u K => ?_, fun hw ac u K => ?_, fun hw ac u K => ?_, fun hw ac u K => ?_, fun hw ac u K => ?_, fun hw ac u K => ?_, fun hw ac u K => ?_, fun hw ac u K => ?_, fun hw ac u K => ?_, fun hw ac u K => ?_, fun hw ac u K => ?_, fun hw ac u K => ?_, fun hw ac u K => ?_, fun hw ac u K => ?_, trivial⟩ ?_
      · exact st_move (.tmp 0) rfl ((K.old 0 rfl).trans x0)
      · exact st_lss 3 (.tmp 11) (.const (.int .i64 0)) rfl .i64 ((n)) (0) (K.dep 0 11 rfl) rfl _ (by rw [eq_comm, decide_eq_false_iff_not]; omega)
      · exact st_move (.tmp 12) rfl (K.dep 1 12 rfl)
      · exact st_move (.tmp 0) rfl ((K.old 0 rfl).trans x0)
      · exact st_gtr 3 (.tmp 14) (.const (.int .i64 1048576)) rfl .i64 ((n)) (1048576) (K.dep 3 14 rfl) rfl _ (by rw [eq_comm, decide_eq_false_iff_not]; omega)
      · exact st_pick_f' (.tmp 13) (.const (.bool true)) (.tmp 15) rfl (K.dep 2 13 rfl) (K.dep 4 15 rfl)
      · exact st_move (.tmp 16) rfl (K.dep 5 16 rfl)
      · exact st_move (.tmp 1) rfl ((K.old 1 rfl).trans x1)
      · exact st_lenc (.tmp 18) rfl ((l).length) rfl (fk_val (K.dep 7 18 rfl) (Fk.mono _ _ _ _ hv (bl.trans (Below.mono K.grow bl.size))))
      · exact st_lss 3 (.tmp 19) (.const (.int .i64 64)) rfl .i64 ((((l).length : Nat) : Int)) (64) (K.dep 8 19 rfl) rfl _ (by rw [eq_comm, decide_eq_true_iff]; omega)
      · exact st_pick_f' (.tmp 17) (.const (.bool true)) (.tmp 20) rfl (K.dep 6 17 rfl) (K.dep 9 20 rfl)
      · exact st_move (.tmp 21) rfl (K.dep 10 21 rfl)
      · exact (Bool.false_ne_true hw).elim
      · exact (Bool.false_ne_true hw).elim
      · exact (Bool.false_ne_true hw).elim
      · exact st_pick_t (.tmp 22) (.const (.bool true)) (.tmp 25) rfl (K.dep 11 22 rfl) rfl
      intro f2 w2 A hb
      replace bl0 := bl
      replace x0 := (A.old 0 rfl).trans x0
      replace x1 := (A.old 1 rfl).trans x1
      replace x2 := (A.old 2 rfl).trans x2
      replace x6 := (A.old 6 rfl).trans x6
      have x26 : f2.eval (.tmp 26) = .bool true := A.has 15 26 rfl
      replace bl := (bl.trans (Below.mono hb bl.size))
      replace sz := A.size.trans sz
      replace df := A.defs.trans df
      clear A hb
      show Code.wp _ _ _ _ _
      refine wp_cond_true x26 ?_
      refine wp_seq ?_
      refine wp_all_seq [.eq (.bool true), .eq (.bool true)] (by kernel_rfl) (by kernel_rfl) (by rw [sz]; kernel_rfl) (by kernel_rfl) ⟨fun hw ac u K => ?_, fun hw ac u K => ?_, trivial⟩ ?_
      · exact st_call 7 (.func 7) _ _ #[] rfl rfl rfl Tryd.enter7 (fk_of (awake_any _ (hK.below (bl.trans (Below.mono K.grow bl.size)))))
      · exact st_assign (.tmp 27) rfl (K.dep 0 27 rfl)
      intro f3 w3 A hb
      replace bl0 := bl
      replace x0 := (A.old 0 rfl).trans x0
      replace x1 := (A.old 1 rfl).trans x1
      replace x2 := (A.old 2 rfl).trans x2
      clear x6
      replace x26 := (A.old 26 rfl).trans x26
      have x6 : f3.eval (.tmp 6) = .bool true := A.has 1 6 rfl
      replace bl := (bl.trans (Below.mono hb bl.size))
      replace sz := A.size.trans sz
      replace df := A.defs.trans df
      clear A hb
      show Code.wp _ _ _ _ _
      refine wp_ret ?_
      repeat (first | with_reducible refine then_ret ?_ | with_reducible refine block_ret ?_)
      exact bodyPost_ret (v := .bool true) (ret_slot rfl f3 _ x6 _ _) df ⟨rfl, bl⟩
    refine wp_all_seq [.eq (.int .i64 (n)), .eq (.bool false), .eq (.bool false), .eq (.int .i64 (n)), .eq (.bool true), .eq (.bool true), .eq (.bool true), .any, .any, .any, .eq (.bool true), .eq (.bool true), .any, .any, .any, .eq (.bool true)] (by kernel_rfl) (by kernel_rfl) (by rw [sz]; kernel_rfl) (by kernel_rfl) ⟨fun hw ac u K => ?_, fun hw ac u K => ?_, fun hw ac u K => ?_, fun hw ac u K => ?_, fun hw ac u K => ?_, fun hw ac u K => ?_, fun hw ac u K => ?_, fun hw ac u K => ?_, fun hw ac u K => ?_, fun hw ac u K => ?_, fun hw ac u K => ?_, fun hw ac u K => ?_, fun hw ac u K => ?_, fun hw ac u K => ?_, fun hw ac u K => ?_, fun hw ac u K => ?_, trivial⟩ ?_
    · exact st_move (.tmp 0) rfl ((K.old 0 rfl).trans x0)
    · exact st_lss 3 (.tmp 11) (.const (.int .i64 0)) rfl .i64 ((n)) (0) (K.dep 0 11 rfl) rfl _ (by rw [eq_comm, decide_eq_false_iff_not]; omega)
    · exact st_move (.tmp 12) rfl (K.dep 1 12 rfl)
    · exact st_move (.tmp 0) rfl ((K.old 0 rfl).trans x0)
    · exact st_gtr 3 (.tmp 14) (.const (.int .i64 1048576)) rfl .i64 ((n)) (1048576) (K.dep 3 14 rfl) rfl _ (by rw [eq_comm, decide_eq_true_iff]; omega)
    · exact st_pick_f' (.tmp 13) (.const (.bool true)) (.tmp 15) rfl (K.dep 2 13 rfl) (K.dep 4 15 rfl)
    · exact st_move (.tmp 16) rfl (K.dep 5 16 rfl)
    · exact (Bool.false_ne_true hw).elim
    · exact (Bool.false_ne_true hw).elim
    · exact (Bool.false_ne_true hw).elim
    · exact st_pick_t (.tmp 17) (.const (.bool true)) (.tmp 20) rfl (K.dep 6 17 rfl) rfl
    · exact st_move (.tmp 21) rfl (K.dep 10 21 rfl)
    · exact (Bool.false_ne_true hw).elim
    · exact (Bool.false_ne_true hw).elim
    · exact (Bool.false_ne_true hw).elim
    · exact st_pick_t (.tmp 22) (.const (.bool true)) (.tmp 25) rfl (K.dep 11 22 rfl) rfl
    intro f2 w2 A hb
    replace bl0 := bl
    replace x0 := (A.old 0 rfl).trans x0
    replace x1 := (A.old 1 rfl).trans x1
    replace x2 := (A.old 2 rfl).trans x2
    replace x6 := (A.old 6 rfl).trans x6
    have x26 : f2.eval (.tmp 26) = .bool true := A.has 15 26 rfl
    replace bl := (bl.trans (Below.mono hb bl.size))
    replace sz := A.size.trans sz
    replace df := A.defs.trans df
    clear A hb
    show Code.wp _ _ _ _ _
    refine wp_cond_true x26 ?_
    refine wp_seq ?_
    refine wp_all_seq [.eq (.bool true), .eq (.bool true)] (by kernel_rfl) (by kernel_rfl) (by rw [sz]; kernel_rfl) (by kernel_rfl) ⟨fun hw ac u K => ?_, fun hw ac u K => ?_, trivial⟩ ?_
    · exact st_call 7 (.func 7) _ _ #[] rfl rfl rfl Tryd.enter7 (fk_of (awake_any _ (hK.below (bl.trans (Below.mono K.grow bl.size)))))
    · exact st_assign (.tmp 27) rfl (K.dep 0 27 rfl)
    intro f3 w3 A hb
    replace bl0 := bl
    replace x0 := (A.old 0 rfl).trans x0
    replace x1 := (A.old 1 rfl).trans x1
    replace x2 := (A.old 2 rfl).trans x2
    clear x6
    replace x26 := (A.old 26 rfl).trans x26
    have x6 : f3.eval (.tmp 6) = .bool true := A.has 1 6 rfl
    replace bl := (bl.trans (Below.mono hb bl.size))
    replace sz := A.size.trans sz
    replace df := A.defs.trans df
    clear A hb
    show Code.wp _ _ _ _ _
    refine wp_ret ?_
    repeat (first | with_reducible refine then_ret ?_ | with_reducible refine block_ret ?_)
    exact bodyPost_ret (v := .bool true) (ret_slot rfl f3 _ x6 _ _) df ⟨rfl, bl⟩
  refine wp_all_seq [.eq (.int .i64 (n)), .eq (.bool true), .eq (.bool true), .any, .any, .eq (.bool true), .eq (.bool true), .any, .any, .any, .eq (.bool true), .eq (.bool true), .any, .any, .any, .eq (.bool true)] (by kernel_rfl) (by kernel_rfl) (by rw [sz]; kernel_rfl) (by kernel_rfl) ⟨fun hw ac u K => ?_, fun hw ac u K => ?_, fun hw ac u K => ?_, fun hw ac u K => ?_, fun hw ac u K => ?_, fun hw ac u K => ?_, fun hw ac u K => ?_, fun hw ac u K => ?_, fun hw ac u K => ?_, fun hw ac u K => ?_, fun hw ac u K => ?_, fun hw ac u K => ?_, fun hw ac u K => ?_, fun hw ac u K => ?_, fun hw ac u K => ?_, fun hw ac u K => ?_, trivial⟩ ?_
  · exact st_move (.tmp 0) rfl ((K.old 0 rfl).trans x0)
  · exact st_lss 3 (.tmp 11) (.const (.int .i64 0)) rfl .i64 ((n)) (0) (K.dep 0 11 rfl) rfl _ (by rw [eq_comm, decide_eq_true_iff]; omega)
  · exact st_move (.tmp 12) rfl (K.dep 1 12 rfl)
  · exact (Bool.false_ne_true hw).elim
  · exact (Bool.false_ne_true hw).elim
  · exact st_pick_t (.tmp 13) (.const (.bool true)) (.tmp 15) rfl (K.dep 2 13 rfl) rfl
  · exact st_move (.tmp 16) rfl (K.dep 5 16 rfl)
  · exact (Bool.false_ne_true hw).elim
  · exact (Bool.false_ne_true hw).elim
  · exact (Bool.false_ne_true hw).elim
  · exact st_pick_t (.tmp 17) (.const (.bool true)) (.tmp 20) rfl (K.dep 6 17 rfl) rfl
  · exact st_move (.tmp 21) rfl (K.dep 10 21 rfl)
  · exact (Bool.false_ne_true hw).elim
  · exact (Bool.false_ne_true hw).elim
  · exact (Bool.false_ne_true hw).elim
  · exact st_pick_t (.tmp 22) (.const (.bool true)) (.tmp 25) rfl (K.dep 11 22 rfl) rfl
  intro f2 w2 A hb
  replace bl0 := bl
  replace x0 := (A.old 0 rfl).trans x0
  replace x1 := (A.old 1 rfl).trans x1
  replace x2 := (A.old 2 rfl).trans x2
  replace x6 := (A.old 6 rfl).trans x6
  have x26 : f2.eval (.tmp 26) = .bool true := A.has 15 26 rfl
  replace bl := (bl.trans (Below.mono hb bl.size))
  replace sz := A.size.trans sz
  replace df := A.defs.trans df
  clear A hb
  show Code.wp _ _ _ _ _
  refine wp_cond_true x26 ?_
  refine wp_seq ?_
  refine wp_all_seq [.eq (.bool true), .eq (.bool true)] (by kernel_rfl) (by kernel_rfl) (by rw [sz]; kernel_rfl) (by kernel_rfl) ⟨fun hw ac u K => ?_, fun hw ac u K => ?_, trivial⟩ ?_
  · exact st_call 7 (.func 7) _ _ #[] rfl rfl rfl Tryd.enter7 (fk_of (awake_any _ (hK.below (bl.trans (Below.mono K.grow bl.size)))))
  · exact st_assign (.tmp 27) rfl (K.dep 0 27 rfl)
  intro f3 w3 A hb
  replace bl0 := bl
  replace x0 := (A.old 0 rfl).trans x0
  replace x1 := (A.old 1 rfl).trans x1
  replace x2 := (A.old 2 rfl).trans x2
  clear x6
  replace x26 := (A.old 26 rfl).trans x26
  have x6 : f3.eval (.tmp 6) = .bool true := A.has 1 6 rfl
  replace bl := (bl.trans (Below.mono hb bl.size))
  replace sz := A.size.trans sz
  replace df := A.defs.trans df
  clear A hb
  show Code.wp _ _ _ _ _
  refine wp_ret ?_
  repeat (first | with_reducible refine then_ret ?_ | with_reducible refine block_ret ?_)
  exact bodyPost_ret (v := .bool true) (ret_slot rfl f3 _ x6 _ _) df ⟨rfl, bl⟩
set_option maxHeartbeats 1000000 in
theorem full_main {l M : List (List (BitVec 8))} (w : World) (hK : Tab w) {v vm : Value} (hv : (Fk.hc l).f v w) (hu : (Fk.hc M).f vm w) {n : Nat} (hn : n ≤ 1048576) (hl : 64 ≤ l.length) (hM : M.length ≤ 40) :
    Calls Tryd.prog 6 #[.int .i64 ((n : Nat) : Int), v, vm] w fun e w' => e = .returned (.bool true) ∧ Below w.heap.size w w' := by
  have hvs := hc_hs hv
  have hus := hc_hs hu
  have hpn : pcn n ≤ 21 := pcn_log 21 n (by omega)
  obtain ⟨P, hPe⟩ : ∃ P, l.take (pcn n) = P := ⟨_, rfl⟩
  have hPl : P.length = pcn n := by rw [← hPe, List.length_take]; omega
  have hP32 : ∀ x ∈ P, x.length = 32 := by rw [← hPe]; exact fun x hx => hc_len hv x (List.mem_of_mem_take hx)
  obtain ⟨B, eB⟩ : ∃ B, Box (be8 n ++ hsb P = B) := ⟨_, ⟨rfl⟩⟩
  have hBl := rgb_max n hP32 (by omega : P.length ≤ 21)
  rw [eB.out] at hBl
  go_enter Tryd.func6, Tryd.ntmps6
  refine code_both (fun f w1 => f.tmps.size = 94 ∧ f.defers = [] ∧ f.eval (.tmp 0) = .int .i64 ((n : Nat) : Int) ∧ f.eval (.tmp 1) = v ∧ f.eval (.tmp 2) = vm ∧ Below w.heap.size w (w1)) ⟨rfl, rfl, rfl, rfl, rfl, Below.refl _ _⟩ ?_
  rintro f0 w0 ⟨sz, df, x0, x1, x2, bl⟩
  have bl0 := bl
  refine wp_seq ?_
  refine wp_all_seq [.eq (.bool false)] (by kernel_rfl) (by kernel_rfl) (by rw [sz]; kernel_rfl) (by kernel_rfl) ⟨fun hw ac u K => ?_, trivial⟩ ?_
  · exact st_assign (.const (.bool false)) rfl rfl
  intro f1 w1 A hb
  replace bl0 := bl
  replace x0 := (A.old 0 rfl).trans x0
  replace x1 := (A.old 1 rfl).trans x1
  replace x2 := (A.old 2 rfl).trans x2
  have x6 : f1.eval (.tmp 6) = .bool false := A.has 0 6 rfl
  replace bl := (bl.trans (Below.mono hb bl.size))
  replace sz := A.size.trans sz
  replace df := A.defs.trans df
  clear A hb
  show Code.wp _ _ _ _ _
  refine wp_seq ?_
  refine wp_seq ?_
  refine wp_all_seq [.eq (.int .i64 ((n : Nat) : Int)), .eq (.bool false), .eq (.bool false), .eq (.int .i64 ((n : Nat) : Int)), .eq (.bool false), .eq (.bool false), .eq (.bool false), .eq (v), .eq (.int .i64 (((l).length : Nat) : Int)), .eq (.bool false), .eq (.bool false), .eq (.bool false), .eq (vm), .eq (.int .i64 (((M).length : Nat) : Int)), .eq (.bool false), .eq (.bool false)] (by kernel_rfl) (by kernel_rfl) (by rw [sz]; kernel_rfl) (by kernel_rfl) ⟨fun hw ac u K => ?_, fun hw ac u K => ?_, fun hw ac u K => ?_, fun hw ac u K => ?_, fun hw ac u K => ?_, fun hw ac u K => ?_, fun hw ac u K => ?_, fun hw ac u K => ?_, fun hw ac u K => ?_, fun hw ac u K => ?_, fun hw ac u K => ?_, fun hw ac u K => ?_, fun hw ac u K => ?_, fun hw ac u K => ?_, fun hw ac u K => ?_, fun hw ac u K => ?_, trivial⟩ ?_
  · exact st_move (.tmp 0) rfl ((K.old 0 rfl).trans x0)
  · exact st_lss 3 (.tmp 11) (.const (.int .i64 0)) rfl .i64 (((n : Nat) : Int)) (0) (K.dep 0 11 rfl) rfl _ (by rw [eq_comm, decide_eq_false_iff_not]; omega)
  · exact st_move (.tmp 12) rfl (K.dep 1 12 rfl)
  · exact st_move (.tmp 0) rfl ((K.old 0 rfl).trans x0)
  · exact st_gtr 3 (.tmp 14) (.const (.int .i64 1048576)) rfl .i64 (((n : Nat) : Int)) (1048576) (K.dep 3 14 rfl) rfl _ (by rw [eq_comm, decide_eq_false_iff_not]; omega)
  · exact st_pick_f' (.tmp 13) (.const (.bool true)) (.tmp 15) rfl (K.dep 2 13 rfl) (K.dep 4 15 rfl)
  · exact st_move (.tmp 16) rfl (K.dep 5 16 rfl)
  · exact st_move (.tmp 1) rfl ((K.old 1 rfl).trans x1)
  · exact st_lenc (.tmp 18) rfl ((l).length) rfl (fk_val (K.dep 7 18 rfl) (Fk.mono _ _ _ _ hv (bl.trans (Below.mono K.grow bl.size))))
  · exact st_lss 3 (.tmp 19) (.const (.int .i64 64)) rfl .i64 ((((l).length : Nat) : Int)) (64) (K.dep 8 19 rfl) rfl _ (by rw [eq_comm, decide_eq_false_iff_not]; omega)
  · exact st_pick_f' (.tmp 17) (.const (.bool true)) (.tmp 20) rfl (K.dep 6 17 rfl) (K.dep 9 20 rfl)
  · exact st_move (.tmp 21) rfl (K.dep 10 21 rfl)
  · exact st_move (.tmp 2) rfl ((K.old 2 rfl).trans x2)
  · exact st_lenc (.tmp 23) rfl ((M).length) rfl (fk_val (K.dep 12 23 rfl) (Fk.mono _ _ _ _ hu (bl.trans (Below.mono K.grow bl.size))))
  · exact st_gtr 3 (.tmp 24) (.const (.int .i64 40)) rfl .i64 ((((M).length : Nat) : Int)) (40) (K.dep 13 24 rfl) rfl _ (by rw [eq_comm, decide_eq_false_iff_not]; omega)
  · exact st_pick_f' (.tmp 22) (.const (.bool true)) (.tmp 25) rfl (K.dep 11 22 rfl) (K.dep 14 25 rfl)
  intro f2 w2 A hb
  replace bl0 := bl
  replace x0 := (A.old 0 rfl).trans x0
  replace x1 := (A.old 1 rfl).trans x1
  replace x2 := (A.old 2 rfl).trans x2
  replace x6 := (A.old 6 rfl).trans x6
  have x26 : f2.eval (.tmp 26) = .bool false := A.has 15 26 rfl
  replace bl := (bl.trans (Below.mono hb bl.size))
  replace sz := A.size.trans sz
  replace df := A.defs.trans df
  clear A hb
  show Code.wp _ _ _ _ _
  refine wp_cond_false x26 ?_
  refine wp_skip ?_
  show Code.wp _ _ _ _ _
  refine wp_seq ?_
  have hbr0 := bl.size
  refine wp_all_seq [.eq (.int .i64 ((n : Nat) : Int)), .eq (v), .eq (.int .i64 ((n : Nat) : Int)), .eq (.int .i64 ((pcn n : Nat) : Int)), .hc (P), .eq (.string (str (B))), .sl (B), .t2 (.rn w2.heap.size n P) (.int .i64 0), .t2 (.rn w2.heap.size n P) (.int .i64 0), .rn w2.heap.size n P, .eq (.int .i64 0), .rn w2.heap.size n P, .eq (.int .i64 0)] (by kernel_rfl) (by kernel_rfl) (by rw [sz]; kernel_rfl) (by kernel_rfl) ⟨fun hw ac u K => ?_, fun hw ac u K => ?_, fun hw ac u K => ?_, fun hw ac u K => ?_, fun hw ac u K => ?_, fun hw ac u K => ?_, fun hw ac u K => ?_, fun hw ac u K => ?_, fun hw ac u K => ?_, fun hw ac u K => ?_, fun hw ac u K => ?_, fun hw ac u K => ?_, fun hw ac u K => ?_, trivial⟩ ?_
  · exact st_move (.tmp 0) rfl ((K.old 0 rfl).trans x0)
  · exact st_move (.tmp 1) rfl ((K.old 1 rfl).trans x1)
  · exact st_move (.tmp 0) rfl ((K.old 0 rfl).trans x0)
  · exact st_call 19 (.func 19) _ _ #[.int .i64 ((n : Nat) : Int)] rfl rfl (one_arg (K.dep 2 31 rfl)) Tryd.enter19 (fk_of (refcount_any n (by omega) _))
  · exact by rw [← hPe]; exact st_cuth (.tmp 30) (.tmp 32) rfl (fk_val (K.dep 1 30 rfl) (Fk.mono _ _ _ _ hv (bl.trans (Below.mono K.grow bl.size)))) (pcn n) (K.dep 3 32 rfl) (by omega)
  · exact st_call 17 (.func 17) _ _ #[.int .i64 ((n : Nat) : Int), ac.eval (.tmp 33)] rfl rfl (arg2 (K.dep 0 29 rfl) rfl) Tryd.enter17 (by rw [← eB.out]; exact fk_of (rbytes_any (by omega) n _ (hc_hs (K.dep 4 33 rfl))))
  · exact st_bstr (.tmp 34) rfl (K.dep 5 34 rfl)
  · exact st_call 18 (.func 18) _ _ #[ac.eval (.tmp 35)] rfl rfl (one_arg rfl) Tryd.enter18 (fk_rnt K.grow.size (fk_parse_ok (K.dep 6 35 rfl) (by omega) eB.out (by omega) hPl hP32))
  · exact st_move (.tmp 36) rfl (K.dep 7 36 rfl)
  · exact st_t2a (.tmp 28) rfl (K.dep 8 28 rfl)
  · exact st_t2b (.tmp 28) rfl (K.dep 8 28 rfl)
  · exact st_assign (.tmp 37) rfl (K.dep 9 37 rfl)
  · exact st_assign (.tmp 38) rfl (K.dep 10 38 rfl)
  intro f3 w3 A hb
  replace bl0 := bl
  replace x0 := (A.old 0 rfl).trans x0
  replace x1 := (A.old 1 rfl).trans x1
  replace x2 := (A.old 2 rfl).trans x2
  replace x6 := (A.old 6 rfl).trans x6
  replace x26 := (A.old 26 rfl).trans x26
  have x7 : Fk.f (.rn w2.heap.size n P) (f3.eval (.tmp 7)) w3 := A.has 11 7 rfl
  have x8 : f3.eval (.tmp 8) = .int .i64 0 := A.has 12 8 rfl
  replace bl := (bl.trans (Below.mono hb bl.size))
  replace sz := A.size.trans sz
  replace df := A.defs.trans df
  clear A hb
  obtain ⟨gr, kr, er, hgr, hkr, hrr⟩ := x7
  have x7 : f3.eval (.tmp 7) = .pointer (some ⟨gr, 0, none⟩) := er
  clear er
  show Code.wp _ _ _ _ _
  refine wp_seq ?_
  refine wp_seq ?_
  refine wp_all_seq [.eq (.int .i64 0), .eq (.bool false), .eq (.bool false), .eq (.pointer (some ⟨gr, 0, none⟩)), .eq (.bool false), .eq (.bool false)] (by kernel_rfl) (by kernel_rfl) (by rw [sz]; kernel_rfl) (by kernel_rfl) ⟨fun hw ac u K => ?_, fun hw ac u K => ?_, fun hw ac u K => ?_, fun hw ac u K => ?_, fun hw ac u K => ?_, fun hw ac u K => ?_, trivial⟩ ?_
  · exact st_move (.tmp 8) rfl ((K.old 8 rfl).trans x8)
  · exact st_neqi 27 (.tmp 39) (.const (.int .i64 0)) rfl .i64 (0) (0) (K.dep 0 39 rfl) rfl _ (by rfl)
  · exact st_move (.tmp 40) rfl (K.dep 1 40 rfl)
  · exact st_move (.tmp 7) rfl ((K.old 7 rfl).trans x7)
  · exact st_bin .eql 25 25 (.tmp 42) _ rfl (K.dep 3 42 rfl) rfl (by kernel_rfl)
  · exact st_pick_f' (.tmp 41) (.const (.bool true)) (.tmp 43) rfl (K.dep 2 41 rfl) (K.dep 4 43 rfl)
  intro f4 w4 A hb
  replace bl0 := bl
  replace x0 := (A.old 0 rfl).trans x0
  replace x1 := (A.old 1 rfl).trans x1
  replace x2 := (A.old 2 rfl).trans x2
  replace x6 := (A.old 6 rfl).trans x6
  replace x26 := (A.old 26 rfl).trans x26
  replace x7 := (A.old 7 rfl).trans x7
  replace x8 := (A.old 8 rfl).trans x8
  have x44 : f4.eval (.tmp 44) = .bool false := A.has 5 44 rfl
  replace hrr := HR.mono hrr hb
  replace bl := (bl.trans (Below.mono hb bl.size))
  replace sz := A.size.trans sz
  replace df := A.defs.trans df
  clear A hb
  clear x8
  show Code.wp _ _ _ _ _
  refine wp_cond_false x44 ?_
  refine wp_skip ?_
  show Code.wp _ _ _ _ _
  refine wp_seq ?_
  have ltr := hrr.lt
  refine wp_all_seq [.eq (.pointer (some ⟨gr, 0, none⟩)), .rn w4.heap.size n P, .rn w4.heap.size n P] (by kernel_rfl) (by kernel_rfl) (by rw [sz]; kernel_rfl) (by kernel_rfl) ⟨fun hw ac u K => ?_, fun hw ac u K => ?_, fun hw ac u K => ?_, trivial⟩ ?_
  · exact st_move (.tmp 7) rfl ((K.old 7 rfl).trans x7)
  · exact st_call 20 (.func 20) _ _ #[.pointer (some ⟨gr, 0, none⟩)] rfl rfl (one_arg (K.dep 0 45 rfl)) Tryd.enter20 (fk_rn K.grow.size (fk_copy (hrr.mono K.grow)))
  · exact st_assign (.tmp 46) rfl (K.dep 1 46 rfl)
  intro f5 w5 A hb
  replace bl0 := bl
  replace x0 := (A.old 0 rfl).trans x0
  replace x1 := (A.old 1 rfl).trans x1
  replace x2 := (A.old 2 rfl).trans x2
  replace x6 := (A.old 6 rfl).trans x6
  replace x26 := (A.old 26 rfl).trans x26
  replace x7 := (A.old 7 rfl).trans x7
  replace x44 := (A.old 44 rfl).trans x44
  have x9 : Fk.f (.rn w4.heap.size n P) (f5.eval (.tmp 9)) w5 := A.has 2 9 rfl
  replace hrr := HR.mono hrr hb
  replace bl := (bl.trans (Below.mono hb bl.size))
  replace sz := A.size.trans sz
  replace df := A.defs.trans df
  clear A hb
  obtain ⟨gc, kc, ec, hgc, hkc, hrc⟩ := x9
  have x9 : f5.eval (.tmp 9) = .pointer (some ⟨gc, 0, none⟩) := ec
  clear ec
  have nrc : gc ≠ gr ∧ gc ≠ kr ∧ kc ≠ gr ∧ kc ≠ kr := ⟨by omega, by omega, by omega, by omega⟩
  show Code.wp _ _ _ _ _
  refine wp_seq ?_
  by_cases hmany : n + M.length ≤ 1048576
  rotate_left
  · skip
    refine wp_all_seq [.eq (.pointer (some ⟨gr, 0, none⟩)), .eq (vm), .eq (.int .i64 12), .eq (.int .i64 12)] (by kernel_rfl) (by kernel_rfl) (by rw [sz]; kernel_rfl) (by kernel_rfl) ⟨fun hw ac u K => ?_, fun hw ac u K => ?_, fun hw ac u K => ?_, fun hw ac u K => ?_, trivial⟩ ?_
    · exact st_move (.tmp 7) rfl ((K.old 7 rfl).trans x7)
    · exact st_move (.tmp 2) rfl ((K.old 2 rfl).trans x2)
    · exact st_call 9 (.func 9) _ _ #[.pointer (some ⟨gr, 0, none⟩), vm] rfl rfl (arg2 (K.dep 0 47 rfl) (K.dep 1 48 rfl)) Tryd.enter9 (fk_app_no (hrr.mono K.grow) (Fk.mono _ _ _ _ hu (bl.trans (Below.mono K.grow bl.size))) (by omega) (by omega))
    · exact st_assign (.tmp 49) rfl (K.dep 2 49 rfl)
    intro f6 w6 A hb
    replace bl0 := bl
    replace x0 := (A.old 0 rfl).trans x0
    replace x1 := (A.old 1 rfl).trans x1
    replace x2 := (A.old 2 rfl).trans x2
    replace x6 := (A.old 6 rfl).trans x6
    replace x26 := (A.old 26 rfl).trans x26
    replace x7 := (A.old 7 rfl).trans x7
    replace x44 := (A.old 44 rfl).trans x44
    replace x9 := (A.old 9 rfl).trans x9
    have x10 : f6.eval (.tmp 10) = .int .i64 12 := A.has 3 10 rfl
    replace hrr := HR.mono hrr hb
    replace hrc := HR.mono hrc hb
    replace bl := (bl.trans (Below.mono hb bl.size))
    replace sz := A.size.trans sz
    replace df := A.defs.trans df
    clear A hb
    show Code.wp _ _ _ _ _
    refine wp_seq ?_
    refine wp_seq ?_
    refine wp_all_seq [.eq (.int .i64 ((n : Nat) : Int)), .eq (vm), .eq (.int .i64 (((M).length : Nat) : Int)), .eq (.int .i64 ((n + M.length : Nat) : Int)), .eq (.bool true)] (by kernel_rfl) (by kernel_rfl) (by rw [sz]; kernel_rfl) (by kernel_rfl) ⟨fun hw ac u K => ?_, fun hw ac u K => ?_, fun hw ac u K => ?_, fun hw ac u K => ?_, fun hw ac u K => ?_, trivial⟩ ?_
    · exact st_move (.tmp 0) rfl ((K.old 0 rfl).trans x0)
    · exact st_move (.tmp 2) rfl ((K.old 2 rfl).trans x2)
    · exact st_lenc (.tmp 51) rfl ((M).length) rfl (fk_val (K.dep 1 51 rfl) (Fk.mono _ _ _ _ hu (bl.trans (Below.mono K.grow bl.size))))
    · exact st_addz (.tmp 50) (.tmp 52) rfl _ _ _ (K.dep 0 50 rfl) (K.dep 2 52 rfl) (by omega) (by omega) (by omega)
    · exact st_gtr 3 (.tmp 53) (.const (.int .i64 1048576)) rfl .i64 (((n + M.length : Nat) : Int)) (1048576) (K.dep 3 53 rfl) rfl _ (by rw [eq_comm, decide_eq_true_iff]; omega)
    intro f7 w7 A hb
    replace bl0 := bl
    replace x0 := (A.old 0 rfl).trans x0
    replace x1 := (A.old 1 rfl).trans x1
    replace x2 := (A.old 2 rfl).trans x2
    replace x6 := (A.old 6 rfl).trans x6
    replace x26 := (A.old 26 rfl).trans x26
    replace x7 := (A.old 7 rfl).trans x7
    replace x44 := (A.old 44 rfl).trans x44
    replace x9 := (A.old 9 rfl).trans x9
    replace x10 := (A.old 10 rfl).trans x10
    have x54 : f7.eval (.tmp 54) = .bool true := A.has 4 54 rfl
    replace hrr := HR.mono hrr hb
    replace hrc := HR.mono hrc hb
    replace bl := (bl.trans (Below.mono hb bl.size))
    replace sz := A.size.trans sz
    replace df := A.defs.trans df
    clear A hb
    show Code.wp _ _ _ _ _
    refine wp_cond_true x54 ?_
    refine wp_seq ?_
    refine wp_all_seq [.eq (.int .i64 12), .eq (.bool true), .eq (.bool true), .eq (.pointer (some ⟨gc, 0, none⟩)), .eq (.bool true), .eq (.bool true), .eq (.bool true), .eq (.pointer (some ⟨gr, 0, none⟩)), .eq (.pointer (some ⟨gc, 0, none⟩)), .eq (.bool true), .eq (.bool true), .eq (.bool true), .eq (.bool true), .eq (.bool true), .eq (.bool true)] (by kernel_rfl) (by kernel_rfl) (by rw [sz]; kernel_rfl) (by kernel_rfl) ⟨fun hw ac u K => ?_, fun hw ac u K => ?_, fun hw ac u K => ?_, fun hw ac u K => ?_, fun hw ac u K => ?_, fun hw ac u K => ?_, fun hw ac u K => ?_, fun hw ac u K => ?_, fun hw ac u K => ?_, fun hw ac u K => ?_, fun hw ac u K => ?_, fun hw ac u K => ?_, fun hw ac u K => ?_, fun hw ac u K => ?_, fun hw ac u K => ?_, trivial⟩ ?_
    · exact st_move (.tmp 10) rfl ((K.old 10 rfl).trans x10)
    · exact st_eqi 27 (.tmp 55) (.const (.int .i64 12)) rfl .i64 (12) (12) (K.dep 0 55 rfl) rfl _ (by rfl)
    · exact st_move (.tmp 56) rfl (K.dep 1 56 rfl)
    · exact st_move (.tmp 9) rfl ((K.old 9 rfl).trans x9)
    · exact st_bin .neq 25 25 (.tmp 58) _ rfl (K.dep 3 58 rfl) rfl (by kernel_rfl)
    · exact st_pick_t (.tmp 57) (.tmp 59) (.const (.bool false)) rfl (K.dep 2 57 rfl) (K.dep 4 59 rfl)
    · exact st_move (.tmp 60) rfl (K.dep 5 60 rfl)
    · exact st_move (.tmp 7) rfl ((K.old 7 rfl).trans x7)
    · exact st_move (.tmp 9) rfl ((K.old 9 rfl).trans x9)
    · exact st_call 21 (.func 21) _ _ #[.pointer (some ⟨gr, 0, none⟩), .pointer (some ⟨gc, 0, none⟩)] rfl rfl (arg2 (K.dep 7 62 rfl) (K.dep 8 63 rfl)) Tryd.enter21 (fk_equal (hrr.mono K.grow) (hrc.mono K.grow) (by simp))
    · exact st_pick_t (.tmp 61) (.tmp 64) (.const (.bool false)) rfl (K.dep 6 61 rfl) (K.dep 9 64 rfl)
    · exact st_move (.tmp 65) rfl (K.dep 10 65 rfl)
    · exact st_call 7 (.func 7) _ _ #[] rfl rfl rfl Tryd.enter7 (fk_of (awake_any _ (hK.below (bl.trans (Below.mono K.grow bl.size)))))
    · exact st_pick_t (.tmp 66) (.tmp 67) (.const (.bool false)) rfl (K.dep 11 66 rfl) (K.dep 12 67 rfl)
    · exact st_assign (.tmp 68) rfl (K.dep 13 68 rfl)
    intro f8 w8 A hb
    replace bl0 := bl
    replace x0 := (A.old 0 rfl).trans x0
    replace x1 := (A.old 1 rfl).trans x1
    replace x2 := (A.old 2 rfl).trans x2
    clear x6
    replace x26 := (A.old 26 rfl).trans x26
    replace x7 := (A.old 7 rfl).trans x7
    replace x44 := (A.old 44 rfl).trans x44
    replace x9 := (A.old 9 rfl).trans x9
    replace x10 := (A.old 10 rfl).trans x10
    replace x54 := (A.old 54 rfl).trans x54
    have x6 : f8.eval (.tmp 6) = .bool true := A.has 14 6 rfl
    replace hrr := HR.mono hrr hb
    replace hrc := HR.mono hrc hb
    replace bl := (bl.trans (Below.mono hb bl.size))
    replace sz := A.size.trans sz
    replace df := A.defs.trans df
    clear A hb
    clear x9
    show Code.wp _ _ _ _ _
    refine wp_ret ?_
    repeat (first | with_reducible refine then_ret ?_ | with_reducible refine block_ret ?_)
    exact bodyPost_ret (v := .bool true) (ret_slot rfl f8 _ x6 _ _) df ⟨rfl, bl⟩
  obtain ⟨P2, hg2⟩ : ∃ P2, grl (n, P) M = (n + M.length, P2) := ⟨(grl (n, P) M).2, Prod.ext (grl_fst (n, P) M) rfl⟩
  have hbr : w.heap.size ≤ gr ∧ w.heap.size ≤ kr := ⟨Nat.le_trans hbr0 hgr, Nat.le_trans hbr0 hkr⟩
  refine wp_region_seq [.eq (.pointer (some ⟨gr, 0, none⟩)), .eq (vm)] (by kernel_rfl) (by kernel_rfl) (by rw [sz]; kernel_rfl) (by kernel_rfl) ⟨fun hw ac u K => ?_, fun hw ac u K => ?_, trivial⟩ ?_
  · exact st_move (.tmp 7) rfl ((K.old 7 rfl).trans x7)
  · exact st_move (.tmp 2) rfl ((K.old 2 rfl).trans x2)
  intro f6 w6 A hb
  replace bl0 := bl
  replace x0 := (A.old 0 rfl).trans x0
  replace x1 := (A.old 1 rfl).trans x1
  replace x2 := (A.old 2 rfl).trans x2
  replace x6 := (A.old 6 rfl).trans x6
  replace x26 := (A.old 26 rfl).trans x26
  replace x7 := (A.old 7 rfl).trans x7
  replace x44 := (A.old 44 rfl).trans x44
  replace x9 := (A.old 9 rfl).trans x9
  have x47 : f6.eval (.tmp 47) = .pointer (some ⟨gr, 0, none⟩) := A.has 0 47 rfl
  have x48 : f6.eval (.tmp 48) = vm := A.has 1 48 rfl
  replace hrr := HR.mono hrr hb
  replace hrc := HR.mono hrc hb
  replace bl := (bl.trans (Below.mono hb bl.size))
  replace sz := A.size.trans sz
  replace df := A.defs.trans df
  clear A hb
  refine wl_call 9 (.func 9) _ _ #[.pointer (some ⟨gr, 0, none⟩), vm] rfl 49 rfl (by rw [sz]; decide) rfl rfl (arg2 x47 x48) Tryd.enter9 (fun z W' => z = .int .i64 0 ∧ (∃ k', HR W' gr k' (n + M.length) P2 ∧ (k' = kr ∨ w6.heap.size ≤ k')) ∧ Kp gr kr w6 W') ((c_app_ok hrr (Fk.mono _ _ _ _ hu bl) (by omega) hmany (hK.below bl) hg2 (hc_ap hu hbr.1 hbr.2) ⟨by have := hK.pos; omega, by have := hK.pos; omega⟩).mono (by rintro e w' ⟨rfl, h1, h2⟩; exact ⟨_, rfl, rfl, h1, h2⟩)) ?_
  intro f7 w7 df2 sz2 old2 hR2
  obtain ⟨x49, ⟨k2, hr2, hk2⟩, hkp⟩ := hR2
  replace x0 := (old2 0 rfl).trans x0
  replace x1 := (old2 1 rfl).trans x1
  replace x2 := (old2 2 rfl).trans x2
  replace x6 := (old2 6 rfl).trans x6
  replace x26 := (old2 26 rfl).trans x26
  replace x7 := (old2 7 rfl).trans x7
  replace x44 := (old2 44 rfl).trans x44
  replace x9 := (old2 9 rfl).trans x9
  replace x47 := (old2 47 rfl).trans x47
  replace x48 := (old2 48 rfl).trans x48
  replace hrc := hrc.kp hkp nrc.1 nrc.2.1 nrc.2.2.1 nrc.2.2.2
  replace bl := bl.trans (hkp.below bl.size hbr.1 hbr.2)
  clear hrr
  have hrr := hr2
  clear hr2 hkp
  replace bl0 := bl
  replace sz := sz2.trans sz
  replace df := df2.trans df
  clear df2 sz2 old2
  clear x47
  clear x48
  refine wl_one (.eq (.int .i64 0)) rfl 10 rfl (by rw [sz]; decide) (st_assign (.tmp 49) rfl x49) ?_
  intro f8 w8 df2 sz2 old2 new2 hb
  replace bl0 := bl
  replace x0 := (old2 0 rfl).trans x0
  replace x1 := (old2 1 rfl).trans x1
  replace x2 := (old2 2 rfl).trans x2
  replace x6 := (old2 6 rfl).trans x6
  replace x26 := (old2 26 rfl).trans x26
  replace x7 := (old2 7 rfl).trans x7
  replace x44 := (old2 44 rfl).trans x44
  replace x9 := (old2 9 rfl).trans x9
  replace x49 := (old2 49 rfl).trans x49
  have x10 : f8.eval (.tmp 10) = .int .i64 0 := new2
  replace hrr := HR.mono hrr hb
  replace hrc := HR.mono hrc hb
  replace bl := (bl.trans (Below.mono hb bl.size))
  replace sz := sz2.trans sz
  replace df := df2.trans df
  clear df2 sz2 old2 new2 hb
  refine wpList_nil ?_
  clear x49
  show Code.wp _ _ _ _ _
  refine wp_seq ?_
  refine wp_seq ?_
  refine wp_all_seq [.eq (.int .i64 ((n : Nat) : Int)), .eq (vm), .eq (.int .i64 (((M).length : Nat) : Int)), .eq (.int .i64 ((n + M.length : Nat) : Int)), .eq (.bool false)] (by kernel_rfl) (by kernel_rfl) (by rw [sz]; kernel_rfl) (by kernel_rfl) ⟨fun hw ac u K => ?_, fun hw ac u K => ?_, fun hw ac u K => ?_, fun hw ac u K => ?_, fun hw ac u K => ?_, trivial⟩ ?_
  · exact st_move (.tmp 0) rfl ((K.old 0 rfl).trans x0)
  · exact st_move (.tmp 2) rfl ((K.old 2 rfl).trans x2)
  · exact st_lenc (.tmp 51) rfl ((M).length) rfl (fk_val (K.dep 1 51 rfl) (Fk.mono _ _ _ _ hu (bl.trans (Below.mono K.grow bl.size))))
  · exact st_addz (.tmp 50) (.tmp 52) rfl _ _ _ (K.dep 0 50 rfl) (K.dep 2 52 rfl) (by omega) (by omega) (by omega)
  · exact st_gtr 3 (.tmp 53) (.const (.int .i64 1048576)) rfl .i64 (((n + M.length : Nat) : Int)) (1048576) (K.dep 3 53 rfl) rfl _ (by rw [eq_comm, decide_eq_false_iff_not]; omega)
  intro f9 w9 A hb
  replace bl0 := bl
  replace x0 := (A.old 0 rfl).trans x0
  replace x1 := (A.old 1 rfl).trans x1
  replace x2 := (A.old 2 rfl).trans x2
  replace x6 := (A.old 6 rfl).trans x6
  replace x26 := (A.old 26 rfl).trans x26
  replace x7 := (A.old 7 rfl).trans x7
  replace x44 := (A.old 44 rfl).trans x44
  replace x9 := (A.old 9 rfl).trans x9
  replace x10 := (A.old 10 rfl).trans x10
  have x54 : f9.eval (.tmp 54) = .bool false := A.has 4 54 rfl
  replace hrr := HR.mono hrr hb
  replace hrc := HR.mono hrc hb
  replace bl := (bl.trans (Below.mono hb bl.size))
  replace sz := A.size.trans sz
  replace df := A.defs.trans df
  clear A hb
  show Code.wp _ _ _ _ _
  refine wp_cond_false x54 ?_
  refine wp_skip ?_
  show Code.wp _ _ _ _ _
  refine wp_seq ?_
  have hP2c := hrr.pcn
  refine wp_all_seq [.eq (.int .i64 0), .eq (.bool true), .eq (.bool true), .eq (.pointer (some ⟨gr, 0, none⟩)), .eq (.int .i64 ((n + M.length : Nat) : Int)), .eq (.int .i64 ((n : Nat) : Int)), .eq (vm), .eq (.int .i64 (((M).length : Nat) : Int)), .eq (.int .i64 ((n + M.length : Nat) : Int)), .eq (.bool true), .eq (.bool true), .eq (.bool true), .eq (.pointer (some ⟨gr, 0, none⟩)), .ow w.heap.size (P2), .eq (.int .i64 (((P2).length : Nat) : Int)), .eq (.int .i64 ((n : Nat) : Int)), .eq (vm), .eq (.int .i64 (((M).length : Nat) : Int)), .eq (.int .i64 ((n + M.length : Nat) : Int)), .eq (.int .i64 ((pcn (n + M.length) : Nat) : Int)), .eq (.bool true), .eq (.bool true), .eq (.bool true), .eq (.bool true), .eq (.bool true), .eq (.bool true)] (by kernel_rfl) (by kernel_rfl) (by rw [sz]; kernel_rfl) (by kernel_rfl) ⟨fun hw ac u K => ?_, fun hw ac u K => ?_, fun hw ac u K => ?_, fun hw ac u K => ?_, fun hw ac u K => ?_, fun hw ac u K => ?_, fun hw ac u K => ?_, fun hw ac u K => ?_, fun hw ac u K => ?_, fun hw ac u K => ?_, fun hw ac u K => ?_, fun hw ac u K => ?_, fun hw ac u K => ?_, fun hw ac u K => ?_, fun hw ac u K => ?_, fun hw ac u K => ?_, fun hw ac u K => ?_, fun hw ac u K => ?_, fun hw ac u K => ?_, fun hw ac u K => ?_, fun hw ac u K => ?_, fun hw ac u K => ?_, fun hw ac u K => ?_, fun hw ac u K => ?_, fun hw ac u K => ?_, fun hw ac u K => ?_, trivial⟩ ?_
  · exact st_move (.tmp 10) rfl ((K.old 10 rfl).trans x10)
  · exact st_eqi 27 (.tmp 69) (.const (.int .i64 0)) rfl .i64 (0) (0) (K.dep 0 69 rfl) rfl _ (by rfl)
  · exact st_move (.tmp 70) rfl (K.dep 1 70 rfl)
  · exact st_move (.tmp 7) rfl ((K.old 7 rfl).trans x7)
  · exact st_call 12 (.func 12) _ _ #[.pointer (some ⟨gr, 0, none⟩)] rfl rfl (one_arg (K.dep 3 72 rfl)) Tryd.enter12 (fk_size (hrr.mono K.grow))
  · exact st_move (.tmp 0) rfl ((K.old 0 rfl).trans x0)
  · exact st_move (.tmp 2) rfl ((K.old 2 rfl).trans x2)
  · exact st_lenc (.tmp 75) rfl ((M).length) rfl (fk_val (K.dep 6 75 rfl) (Fk.mono _ _ _ _ hu (bl.trans (Below.mono K.grow bl.size))))
  · exact st_addz (.tmp 74) (.tmp 76) rfl _ _ _ (K.dep 5 74 rfl) (K.dep 7 76 rfl) (by omega) (by omega) (by omega)
  · exact st_eqi 3 (.tmp 73) (.tmp 77) rfl .i64 (((n + M.length : Nat) : Int)) (((n + M.length : Nat) : Int)) (K.dep 4 73 rfl) (K.dep 8 77 rfl) _ (by simp)
  · exact st_pick_t (.tmp 71) (.tmp 78) (.const (.bool false)) rfl (K.dep 2 71 rfl) (K.dep 9 78 rfl)
  · exact st_move (.tmp 79) rfl (K.dep 10 79 rfl)
  · exact st_move (.tmp 7) rfl ((K.old 7 rfl).trans x7)
  · exact st_call 14 (.func 14) _ _ #[.pointer (some ⟨gr, 0, none⟩)] rfl rfl (one_arg (K.dep 12 81 rfl)) Tryd.enter14 (fk_ow (bl.trans (Below.mono K.grow bl.size)).size (fk_peaks (hrr.mono K.grow)))
  · exact st_lenc (.tmp 82) rfl ((P2).length) rfl (ow_hc (K.dep 13 82 rfl))
  · exact st_move (.tmp 0) rfl ((K.old 0 rfl).trans x0)
  · exact st_move (.tmp 2) rfl ((K.old 2 rfl).trans x2)
  · exact st_lenc (.tmp 85) rfl ((M).length) rfl (fk_val (K.dep 16 85 rfl) (Fk.mono _ _ _ _ hu (bl.trans (Below.mono K.grow bl.size))))
  · exact st_addz (.tmp 84) (.tmp 86) rfl _ _ _ (K.dep 15 84 rfl) (K.dep 17 86 rfl) (by omega) (by omega) (by omega)
  · exact st_call 19 (.func 19) _ _ #[.int .i64 ((n + M.length : Nat) : Int)] rfl rfl (one_arg (K.dep 18 87 rfl)) Tryd.enter19 (fk_of (refcount_any (n + M.length) (by omega) _))
  · exact st_eqi 3 (.tmp 83) (.tmp 88) rfl .i64 ((((P2).length : Nat) : Int)) (((pcn (n + M.length) : Nat) : Int)) (K.dep 14 83 rfl) (K.dep 19 88 rfl) _ (by rw [eq_comm, decide_eq_true_iff, hP2c])
  · exact st_pick_t (.tmp 80) (.tmp 89) (.const (.bool false)) rfl (K.dep 11 80 rfl) (K.dep 20 89 rfl)
  · exact st_move (.tmp 90) rfl (K.dep 21 90 rfl)
  · exact st_call 7 (.func 7) _ _ #[] rfl rfl rfl Tryd.enter7 (fk_of (awake_any _ (hK.below (bl.trans (Below.mono K.grow bl.size)))))
  · exact st_pick_t (.tmp 91) (.tmp 92) (.const (.bool false)) rfl (K.dep 22 91 rfl) (K.dep 23 92 rfl)
  · exact st_assign (.tmp 93) rfl (K.dep 24 93 rfl)
  intro f10 w10 A hb
  replace bl0 := bl
  replace x0 := (A.old 0 rfl).trans x0
  replace x1 := (A.old 1 rfl).trans x1
  replace x2 := (A.old 2 rfl).trans x2
  clear x6
  replace x26 := (A.old 26 rfl).trans x26
  replace x7 := (A.old 7 rfl).trans x7
  replace x44 := (A.old 44 rfl).trans x44
  replace x9 := (A.old 9 rfl).trans x9
  replace x10 := (A.old 10 rfl).trans x10
  replace x54 := (A.old 54 rfl).trans x54
  have x6 : f10.eval (.tmp 6) = .bool true := A.has 25 6 rfl
  replace hrr := HR.mono hrr hb
  replace hrc := HR.mono hrc hb
  replace bl := (bl.trans (Below.mono hb bl.size))
  replace sz := A.size.trans sz
  replace df := A.defs.trans df
  clear A hb
  show Code.wp _ _ _ _ _
  refine wp_ret ?_
  repeat (first | with_reducible refine then_ret ?_ | with_reducible refine block_ret ?_)
  exact bodyPost_ret (v := .bool true) (ret_slot rfl f10 _ x6 _ _) df ⟨rfl, bl⟩
theorem full_law {l M : List (List (BitVec 8))} (n : Int) (w : World) (hK : Tab w) {v vm : Value} (hv : (Fk.hc l).f v w) (hu : (Fk.hc M).f vm w) :
    Calls Tryd.prog 6 #[.int .i64 n, v, vm] w fun e w' => e = .returned (.bool true) ∧ Below w.heap.size w w' := by
  by_cases h : n < 0 ∨ 1048576 < n ∨ l.length < 64 ∨ 40 < M.length
  · exact full_pass w hK hv hu n h
  · obtain ⟨k, rfl⟩ := Int.eq_ofNat_of_zero_le (show 0 ≤ n by omega)
    exact full_main w hK hv hu (by omega) (by omega) (by omega)
end Go.Proofs.YtnppjlpnfijobaaDoor
namespace Go.Proofs.YtnppjlpnfijobaaDoor
set_option maxRecDepth 100000
open Go.ChangeShapes Go.WideShapes Go.ChangeAt Go.RowKit

theorem own : ownKnob Tryd.prog.godebug = none := by kernel_rfl
theorem laidOut : laidOutB Tryd.prog = true := by kernel_rfl
theorem gK : Tryd.prog.globalNamed "syngraph/sha.roundNumbers" = some 2 := by kernel_rfl
theorem tK : (Tryd.prog.globals[2]?).map (·.type) = some 99 := by kernel_rfl
theorem cells88 : Tryd.prog.cellsOf 88 = 1 := by kernel_rfl
theorem cells99 : Tryd.prog.cellsOf 99 = 64 := by kernel_rfl
theorem cells5 : Tryd.prog.cellsOf 5 = 1 := by kernel_rfl
theorem cells33 : Tryd.prog.cellsOf 33 = 32 := by kernel_rfl
theorem under88 : Tryd.prog.underlying 88 = some (.int .u32) := by kernel_rfl
end Go.Proofs.YtnppjlpnfijobaaDoor
namespace Go.Proofs.YtnppjlpnfijobaaDoor
set_option maxRecDepth 100000
open Go.ChangeShapes Go.WideShapes Go.ChangeAt Go.RowKit
theorem bv_ofInt (z : Int) (h0 : 0 ≤ z) (h1 : z < 256) : bv (BitVec.ofInt 8 z) = z := by
  unfold bv
  rw [BitVec.toNat_ofInt]
  omega
end Go.Proofs.YtnppjlpnfijobaaDoor
namespace Go.Proofs.YtnppjlpnfijobaaDoor
set_option maxRecDepth 100000
open Go.ChangeShapes Go.WideShapes Go.ChangeAt Go.RowKit
theorem add_plain {w : World} {x : Addr} {v : Value} (h : w.cell? x = some v) : ∀ i, x.add i = ⟨x.block, x.off + i, none⟩ := by
  have hspot : x.spot = none := by
    unfold World.cell? at h
    split at h
    · split at h
      · cases h
      · rename_i h2; simpa using h2
    · cases h
  intro i
  unfold Addr.add
  split
  · rename_i h2; subst h2; rw [Nat.add_zero, ← hspot]
  · rfl
theorem Tryd.under22 : Tryd.prog.underlying 22 = some (.slice 33) := by kernel_rfl
theorem hl_of {H : Type} {enc : TypeId × Value → H} {W : World} {A : Option Addr} {N C : Nat} {d : DataW H} {p : List MemPlace}
    (h : DataW.Trod enc Tryd.prog W 0 (fun _ => true) true 22 (.slice A N C) d p) : ∃ lb lo hs, Hl W A lb lo hs ∧ N = hs.length ∧ N ≤ maxLen := by
  obtain ⟨fuel, hf⟩ := h
  rcases Deep.open_slice Tryd.under22 hf with ⟨hcs, _⟩ | ⟨a, len, cap, m, n, D, Pl, hcs, _, hl, hm, hmm, _, hel⟩
  · simp [Value.cells] at hcs
    obtain ⟨rfl, rfl, rfl⟩ := hcs
    exact ⟨0, 0, [], ⟨fun h => absurd h (by simp), fun h => absurd h (by simp), fun i x hi => by simp at hi⟩, rfl, by unfold maxLen; omega⟩
  · simp [Value.cells] at hcs
    obtain ⟨rfl, rfl, rfl⟩ := hcs
    have hmc : m = C := by simpa using hmm
    subst hmc
    rw [cells33] at hel
    obtain ⟨F, hF⟩ := Deep.choose_lt (α := List (BitVec 8)) (n := N) (p := fun i x => x.length = 32 ∧ ∀ j, j < 32 → W.cell? (a.add (i * 32 + j)) = some (.int .u8 (bv (x.getD j 0)))) (fun i hi => by
      obtain ⟨cs', h1, h2⟩ := hel i (by omega)
      obtain ⟨_, hlen, hcell⟩ := World.cells?_some h1
      obtain ⟨ys, m', _, _, hl', hn, hel'⟩ := DataW.trod_array Tryd.under33 h2
      have hz : ∀ j, j < 32 → ∃ z : Int, cs'[j]? = some (.int .u8 z) ∧ 0 ≤ z ∧ z < 256 := fun j hj => by
        have h3 := hel' j hj
        rw [cells5, List.getElem?_eq_getElem (by omega)] at h3
        obtain ⟨z, hc, _, hw⟩ := DataW.trod_int Tryd.under5 h3
        refine ⟨z, ?_, ?_⟩
        · have := congrArg (·[0]?) hc
          simpa [List.getElem?_take, List.getElem?_drop, Value.cells] using this
        · have := bounds_u8 hw
          omega
      refine ⟨cs'.map fun v => match v with | .int _ z => BitVec.ofInt 8 z | _ => 0, by rw [List.length_map]; exact hlen, fun j hj => ?_⟩
      obtain ⟨z, hz1, h0, h256⟩ := hz j hj
      rw [← Deep.add_add, hcell j hj, hz1]
      have : bv (BitVec.ofInt 8 z) = z := bv_ofInt z h0 h256
      simp [hz1, this])
    have hbase : 0 < N → ∀ i, a.add i = ⟨a.block, a.off + i, none⟩ := fun hp => by
      have h0 := (hF 0 hp).2 0 (by omega)
      have e0 : a.add (0 * 32 + 0) = a := by simp [Addr.add]
      rw [e0] at h0
      exact add_plain h0
    refine ⟨a.block, a.off, (List.range N).map F, ⟨fun hp => ?_, fun hp => ?_, fun i x hi => ?_⟩, by simp, by unfold maxLen at *; omega⟩
    · rw [List.length_map, List.length_range] at hp
      have := hbase hp 0
      have e0 : a.add 0 = a := by simp [Addr.add]
      rw [e0, Nat.add_zero] at this
      rw [← this]
    · rw [List.length_map, List.length_range] at hp
      have h0 := (hF 0 hp).2 0 (by omega)
      have e0 : a.add (0 * 32 + 0) = a := by simp [Addr.add]
      rw [e0] at h0
      exact block_lt_of_cell h0
    · obtain ⟨h1, h2⟩ := List.getElem?_eq_some_iff.1 hi
      have hiN : i < N := by simpa using h1
      have e : x = F i := by rw [← h2]; simp
      subst e
      refine ⟨(hF i hiN).1, fun j hj => ?_⟩
      have hj' : j < 32 := by rw [(hF i hiN).1] at hj; exact hj
      have := (hF i hiN).2 j hj'
      rw [hbase (by omega), ← Nat.add_assoc] at this
      exact this
end Go.Proofs.YtnppjlpnfijobaaDoor
namespace Go.Proofs.YtnppjlpnfijobaaDoor
set_option maxRecDepth 100000
open Go.ChangeShapes Go.WideShapes Go.ChangeAt Go.RowKit
section
variable {H : Type} {enc : TypeId × Value → H} {W : World}
theorem int_part {n : Nat} {cs : List Value} {y : DataW H × List MemPlace} (h : DataW.trod enc Tryd.prog W 0 (fun _ => true) true n 3 cs = some y) : ∃ z : Int, cs = [.int .i64 z] ∧ -9223372036854775808 ≤ z ∧ z ≤ 9223372036854775807 := by
  obtain ⟨z, hc, _, hw⟩ := DataW.trod_int Tryd.under3 h
  refine ⟨z, by simpa [Value.cells] using hc, ?_⟩
  have := bounds_i64 hw
  omega
end
end Go.Proofs.YtnppjlpnfijobaaDoor
namespace Go.Proofs.YtnppjlpnfijobaaDoor
set_option maxRecDepth 100000
set_option maxRecDepth 100000
open Go.ChangeShapes Go.WideShapes Go.ChangeAt Go.RowKit
variable {H : Type} {enc : TypeId × Value → H} {W : World}
theorem open_int {r : Reach} {b0 : Nat} {v : Value} {d : DataW H} {p : List MemPlace} (hv : Value.okWide Tryd.prog W r b0 3 v) (h : DataW.Trod enc Tryd.prog W 0 (fun _ => true) true 3 v d p) : ∃ z : Int, v = .int .i64 z ∧ -9223372036854775808 ≤ z ∧ z ≤ 9223372036854775807 := by
  obtain ⟨z, rfl⟩ := okWide_int Tryd.under3 hv
  obtain ⟨m, hm⟩ := h
  obtain ⟨z', e, h1, h2⟩ := int_part hm
  have : z = z' := by simpa [Value.cells] using e
  subst this
  exact ⟨z, rfl, h1, h2⟩
theorem open_hc {r : Reach} {b0 : Nat} {v : Value} {d : DataW H} {p : List MemPlace} (hv : Value.okWide Tryd.prog W r b0 22 v) (h : DataW.Trod enc Tryd.prog W 0 (fun _ => true) true 22 v d p) : ∃ l, (Fk.hc l).f v W ∧ l.length ≤ maxLen := by
  obtain ⟨A, N, C, rfl⟩ := okWide_slice Tryd.under22 hv
  have hcap : N ≤ C := by
    obtain ⟨m, hm⟩ := h
    rcases Deep.open_slice Tryd.under22 hm with ⟨hcs, _⟩ | ⟨a, len, cap, m, n, D, Pl, hcs, _, hl, _⟩
    · simp [Value.cells] at hcs
      omega
    · simp [Value.cells] at hcs
      obtain ⟨_, rfl, rfl⟩ := hcs
      exact hl
  obtain ⟨lb, lo, hs, hl, hn, hm⟩ := hl_of h
  subst hn
  exact ⟨hs, ⟨A, C, lb, lo, rfl, hcap, hl⟩, hm⟩
end Go.Proofs.YtnppjlpnfijobaaDoor
namespace Go.Proofs.YtnppjlpnfijobaaDoor
set_option maxRecDepth 100000
open Go.RowKit
section
variable {Q : Exit → Act → World → Prop} {o : Oper} {a : Act} {w : World} {ops : Array Oper} {rest : List Oper}
end
end Go.Proofs.YtnppjlpnfijobaaDoor
namespace Go.Proofs.YtnppjlpnfijobaaDoor
set_option maxRecDepth 100000
set_option maxRecDepth 100000
open Go.ChangeShapes Go.WideShapes Go.ChangeAt Go.RowKit
variable {H : Type} {enc : TypeId × Value → H} {W : World}
end Go.Proofs.YtnppjlpnfijobaaDoor
namespace Go.Proofs.YtnppjlpnfijobaaDoor
set_option maxRecDepth 100000
set_option maxRecDepth 100000
open Go.ChangeShapes Go.WideShapes Go.ChangeAt Go.RowKit
theorem gZ : Tryd.prog.globalNamed "math/bits.deBruijn64tab" = some 1 := by kernel_rfl
theorem tZ : (Tryd.prog.globals[1]?).map (·.type) = some 92 := by kernel_rfl
theorem cellsZ : Tryd.prog.cellsOf 92 = 64 := by kernel_rfl
theorem underZ : Tryd.prog.underlying 92 = some (.array 64 5) := by kernel_rfl
/-- What the row lists. -/
def laidK3 : List (String × DataW Unit) := [("math/bits.deBruijn32tab", Rows.laid_math_bits_deBruijn32tab), ("math/bits.deBruijn64tab", Rows.laid_math_bits_deBruijn64tab), ("syngraph/sha.roundNumbers", Rows.laid_syngraph_sha_roundNumbers)]
theorem laidK3_tab : laidK3 = [("math/bits.deBruijn32tab", Rows.laid_math_bits_deBruijn32tab), ("math/bits.deBruijn64tab", Lib.tabData .u8 (dbt.map fun n => ((n : Nat) : Int))), ("syngraph/sha.roundNumbers", Lib.tabData .u32 (KN.map vl))] := by kernel_rfl
theorem dbt_len : dbt.length = 64 := by decide
theorem hasK3_of {W : World} (h : laidMetH Tryd.prog laidK3 W) : Tab W := by
  rw [MakeChecks.laidMetH_plain _ _ _ (by kernel_rfl), laidK3_tab] at h
  have h2 := laidMet.tail h
  have h3 := laidMet.tail h2
  have hT := Lib.tabIs_of_head gK tK Tryd.under99 under88 cells88 cells99 h3
  have hZ := Lib.tabIs_of_head gZ tZ underZ Tryd.under5 cells5 cellsZ h2
  have hc : ∀ i, i < 64 → W.cell? ⟨2, i, none⟩ = some (.int .u32 (vl (KN.getD i 0))) := fun i hi => by
    rw [hT.cell gK i (by simpa [KN] using hi)]
    have hi' : i < KN.length := by simpa [KN] using hi
    simp [hi']
  have hd : ∀ i, i < 64 → W.cell? ⟨1, i, none⟩ = some (.int .u8 ((dbt.getD i 0 : Nat) : Int)) := fun i hi => by
    have hi' : i < dbt.length := by rw [dbt_len]; exact hi
    rw [hZ.cell gZ i (by rw [List.length_map]; exact hi')]
    simp [hi']
  exact ⟨hc, block_lt_of_cell (hc 0 (by omega)), hd, block_lt_of_cell (hd 0 (by omega))⟩
theorem door_met3 (os : Os) (args : Array Value) : laidMetH Tryd.prog laidK3 ((World.doorLaid Tryd.prog 400 os).forCall (fun _ _ => 0) ⟨#[], args, []⟩).memory :=
  laidMetH_of_parts3 (fuel := 8) (laidMet_of_run' 8 (by kernel_rfl) (by kernel_rfl)) (by kernel_rfl) (by kernel_rfl)
end Go.Proofs.YtnppjlpnfijobaaDoor
