/- CompactParses. What the rows of this seat share: what the listed variable gives a walk, an array of bytes opened, the start that fits. A slice of bytes that came in, opened. A slice of hashes that came in, opened. Signatures and structs with them that came in, opened. Arguments opened: numbers with their bounds, slices of hashes with their room. Greater and less of two numbers; append of any slice of numbers to one of the call's own; such a slice stays while other blocks turn. Arguments opened: slices of numbers, and of hashes, as they are written (where nothing is pointed to, there is no room). What the rows with three listed variables share; a slice of hashes opened as it is written. -/
import Derived.Test.YtnppjlpnfijobaaDoorM8
import Derived.Test.YtnppjlpnfijobaaDoorRows
import Derived.Test.YtnppjlpnfijobaaDoorM2
import Derived.ProofKit
import Derived.LaidMore
import Derived.OpenShut
import Derived.ShutString
import Derived.ChangeOld
import Derived.Lib.LaidTab
import Derived.SevenTiedAt
import Derived.Deep.Slices
import Derived.Deep.Strs
import Derived.Test.YtnppjlpnfijobaaDoorM3
import Derived.Laws.Small
import Derived.Laws.AppendOwnNone
import Derived.Stop.LaidErr
namespace Go.Proofs.YtnppjlpnfijobaaDoor
set_option maxRecDepth 100000
open Go.RowKit
theorem parses_pass {bs : List (BitVec 8)} (w : World) (hK : Tab w) {v : Value} (hv : (Fk.sl bs).f v w) (h : 3000 < bs.length) :
    Calls Tryd.prog 4 #[v] w fun e w' => e = .returned (.bool true) ∧ Below w.heap.size w w' := by
  go_enter Tryd.func4, Tryd.ntmps4
  refine code_both (fun f w1 => f.tmps.size = 57 ∧ f.defers = [] ∧ f.eval (.tmp 0) = v ∧ Below w.heap.size w (w1)) ⟨rfl, rfl, rfl, Below.refl _ _⟩ ?_
  rintro f0 w0 ⟨sz, df, x0, bl⟩
  have bl0 := bl
  refine wp_seq ?_
  refine wp_all_seq [.eq (.bool false)] (by kernel_rfl) (by kernel_rfl) (by rw [sz]; kernel_rfl) (by kernel_rfl) ⟨fun hw ac u K => ?_, trivial⟩ ?_
  · exact st_assign (.const (.bool false)) rfl rfl
  intro f1 w1 A hb
  replace bl0 := bl
  replace x0 := (A.old 0 rfl).trans x0
  have x2 : f1.eval (.tmp 2) = .bool false := A.has 0 2 rfl
  replace bl := (bl.trans (Below.mono hb bl.size))
  replace sz := A.size.trans sz
  replace df := A.defs.trans df
  clear A hb
  show Code.wp _ _ _ _ _
  refine wp_seq ?_
  refine wp_seq ?_
  refine wp_all_seq [.eq (v), .eq (.int .i64 (((bs).length : Nat) : Int)), .eq (.bool true)] (by kernel_rfl) (by kernel_rfl) (by rw [sz]; kernel_rfl) (by kernel_rfl) ⟨fun hw ac u K => ?_, fun hw ac u K => ?_, fun hw ac u K => ?_, trivial⟩ ?_
  · exact st_move (.tmp 0) rfl ((K.old 0 rfl).trans x0)
  · exact st_lenb (.tmp 5) rfl (fk_val (K.dep 0 5 rfl) (Fk.mono _ _ _ _ hv (bl.trans (Below.mono K.grow bl.size))))
  · exact st_gtr 3 (.tmp 6) (.const (.int .i64 3000)) rfl .i64 ((((bs).length : Nat) : Int)) (3000) (K.dep 1 6 rfl) rfl _ (by rw [eq_comm, decide_eq_true_iff]; omega)
  intro f2 w2 A hb
  replace bl0 := bl
  replace x0 := (A.old 0 rfl).trans x0
  replace x2 := (A.old 2 rfl).trans x2
  have x7 : f2.eval (.tmp 7) = .bool true := A.has 2 7 rfl
  replace bl := (bl.trans (Below.mono hb bl.size))
  replace sz := A.size.trans sz
  replace df := A.defs.trans df
  clear A hb
  show Code.wp _ _ _ _ _
  refine wp_cond_true x7 ?_
  refine wp_seq ?_
  refine wp_all_seq [.eq (.bool true), .eq (.bool true)] (by kernel_rfl) (by kernel_rfl) (by rw [sz]; kernel_rfl) (by kernel_rfl) ⟨fun hw ac u K => ?_, fun hw ac u K => ?_, trivial⟩ ?_
  · exact st_call 7 (.func 7) _ _ #[] rfl rfl rfl Tryd.enter7 (fk_of (awake_any _ (hK.below (bl.trans (Below.mono K.grow bl.size)))))
  · exact st_assign (.tmp 8) rfl (K.dep 0 8 rfl)
  intro f3 w3 A hb
  replace bl0 := bl
  replace x0 := (A.old 0 rfl).trans x0
  clear x2
  replace x7 := (A.old 7 rfl).trans x7
  have x2 : f3.eval (.tmp 2) = .bool true := A.has 1 2 rfl
  replace bl := (bl.trans (Below.mono hb bl.size))
  replace sz := A.size.trans sz
  replace df := A.defs.trans df
  clear A hb
  show Code.wp _ _ _ _ _
  refine wp_ret ?_
  repeat (first | with_reducible refine then_ret ?_ | with_reducible refine block_ret ?_)
  exact bodyPost_ret (v := .bool true) (ret_slot rfl f3 _ x2 _ _) df ⟨rfl, bl⟩
theorem parses_no {bs : List (BitVec 8)} (w : World) (hK : Tab w) {v : Value} (hv : (Fk.sl bs).f v w) (h30 : bs.length ≤ 3000) (hno : ∀ (n : Nat) (P : List (List (BitVec 8))), n ≤ 1048576 → P.length = pcn n → (∀ x ∈ P, x.length = 32) → be8 n ++ hsb P ≠ bs) :
    Calls Tryd.prog 4 #[v] w fun e w' => e = .returned (.bool true) ∧ Below w.heap.size w w' := by
  go_enter Tryd.func4, Tryd.ntmps4
  refine code_both (fun f w1 => f.tmps.size = 57 ∧ f.defers = [] ∧ f.eval (.tmp 0) = v ∧ Below w.heap.size w (w1)) ⟨rfl, rfl, rfl, Below.refl _ _⟩ ?_
  rintro f0 w0 ⟨sz, df, x0, bl⟩
  have bl0 := bl
  refine wp_seq ?_
  refine wp_all_seq [.eq (.bool false)] (by kernel_rfl) (by kernel_rfl) (by rw [sz]; kernel_rfl) (by kernel_rfl) ⟨fun hw ac u K => ?_, trivial⟩ ?_
  · exact st_assign (.const (.bool false)) rfl rfl
  intro f1 w1 A hb
  replace bl0 := bl
  replace x0 := (A.old 0 rfl).trans x0
  have x2 : f1.eval (.tmp 2) = .bool false := A.has 0 2 rfl
  replace bl := (bl.trans (Below.mono hb bl.size))
  replace sz := A.size.trans sz
  replace df := A.defs.trans df
  clear A hb
  show Code.wp _ _ _ _ _
  refine wp_seq ?_
  refine wp_seq ?_
  refine wp_all_seq [.eq (v), .eq (.int .i64 (((bs).length : Nat) : Int)), .eq (.bool false)] (by kernel_rfl) (by kernel_rfl) (by rw [sz]; kernel_rfl) (by kernel_rfl) ⟨fun hw ac u K => ?_, fun hw ac u K => ?_, fun hw ac u K => ?_, trivial⟩ ?_
  · exact st_move (.tmp 0) rfl ((K.old 0 rfl).trans x0)
  · exact st_lenb (.tmp 5) rfl (fk_val (K.dep 0 5 rfl) (Fk.mono _ _ _ _ hv (bl.trans (Below.mono K.grow bl.size))))
  · exact st_gtr 3 (.tmp 6) (.const (.int .i64 3000)) rfl .i64 ((((bs).length : Nat) : Int)) (3000) (K.dep 1 6 rfl) rfl _ (by rw [eq_comm, decide_eq_false_iff_not]; omega)
  intro f2 w2 A hb
  replace bl0 := bl
  replace x0 := (A.old 0 rfl).trans x0
  replace x2 := (A.old 2 rfl).trans x2
  have x7 : f2.eval (.tmp 7) = .bool false := A.has 2 7 rfl
  replace bl := (bl.trans (Below.mono hb bl.size))
  replace sz := A.size.trans sz
  replace df := A.defs.trans df
  clear A hb
  show Code.wp _ _ _ _ _
  refine wp_cond_false x7 ?_
  refine wp_skip ?_
  show Code.wp _ _ _ _ _
  refine wp_seq ?_
  refine wp_all_seq [.eq (v), .eq (.tuple #[.pointer none, .int .i64 10]), .eq (.tuple #[.pointer none, .int .i64 10]), .eq (.pointer none), .eq (.int .i64 10), .eq (.pointer none), .eq (.int .i64 10)] (by kernel_rfl) (by kernel_rfl) (by rw [sz]; kernel_rfl) (by kernel_rfl) ⟨fun hw ac u K => ?_, fun hw ac u K => ?_, fun hw ac u K => ?_, fun hw ac u K => ?_, fun hw ac u K => ?_, fun hw ac u K => ?_, fun hw ac u K => ?_, trivial⟩ ?_
  · exact st_move (.tmp 0) rfl ((K.old 0 rfl).trans x0)
  · exact st_call 18 (.func 18) _ _ #[v] rfl rfl (one_arg (K.dep 0 10 rfl)) Tryd.enter18 (fk_parse_no (Fk.mono _ _ _ _ hv (bl.trans (Below.mono K.grow bl.size))) h30 hno)
  · exact st_move (.tmp 11) rfl (K.dep 1 11 rfl)
  · exact st_ext0 (.tmp 9) rfl (K.dep 2 9 rfl) rfl
  · exact st_ext1 (.tmp 9) rfl (K.dep 2 9 rfl) rfl
  · exact st_assign (.tmp 12) rfl (K.dep 3 12 rfl)
  · exact st_assign (.tmp 13) rfl (K.dep 4 13 rfl)
  intro f3 w3 A hb
  replace bl0 := bl
  replace x0 := (A.old 0 rfl).trans x0
  replace x2 := (A.old 2 rfl).trans x2
  replace x7 := (A.old 7 rfl).trans x7
  have x3 : f3.eval (.tmp 3) = .pointer none := A.has 5 3 rfl
  have x4 : f3.eval (.tmp 4) = .int .i64 10 := A.has 6 4 rfl
  replace bl := (bl.trans (Below.mono hb bl.size))
  replace sz := A.size.trans sz
  replace df := A.defs.trans df
  clear A hb
  show Code.wp _ _ _ _ _
  refine wp_seq ?_
  refine wp_seq ?_
  refine wp_all_seq [.eq (.int .i64 10), .eq (.bool true)] (by kernel_rfl) (by kernel_rfl) (by rw [sz]; kernel_rfl) (by kernel_rfl) ⟨fun hw ac u K => ?_, fun hw ac u K => ?_, trivial⟩ ?_
  · exact st_move (.tmp 4) rfl ((K.old 4 rfl).trans x4)
  · exact st_neqi 27 (.tmp 14) (.const (.int .i64 0)) rfl .i64 (10) (0) (K.dep 0 14 rfl) rfl _ (by rfl)
  intro f4 w4 A hb
  replace bl0 := bl
  replace x0 := (A.old 0 rfl).trans x0
  replace x2 := (A.old 2 rfl).trans x2
  replace x7 := (A.old 7 rfl).trans x7
  replace x3 := (A.old 3 rfl).trans x3
  replace x4 := (A.old 4 rfl).trans x4
  have x15 : f4.eval (.tmp 15) = .bool true := A.has 1 15 rfl
  replace bl := (bl.trans (Below.mono hb bl.size))
  replace sz := A.size.trans sz
  replace df := A.defs.trans df
  clear A hb
  show Code.wp _ _ _ _ _
  refine wp_cond_true x15 ?_
  refine wp_seq ?_
  refine wp_all_seq [.eq (.int .i64 10), .eq (.bool true), .eq (.bool true), .eq (.pointer none), .eq (.bool true), .eq (.bool true), .eq (.bool true), .eq (.bool true), .eq (.bool true), .eq (.bool true)] (by kernel_rfl) (by kernel_rfl) (by rw [sz]; kernel_rfl) (by kernel_rfl) ⟨fun hw ac u K => ?_, fun hw ac u K => ?_, fun hw ac u K => ?_, fun hw ac u K => ?_, fun hw ac u K => ?_, fun hw ac u K => ?_, fun hw ac u K => ?_, fun hw ac u K => ?_, fun hw ac u K => ?_, fun hw ac u K => ?_, trivial⟩ ?_
  · exact st_move (.tmp 4) rfl ((K.old 4 rfl).trans x4)
  · exact st_eqi 27 (.tmp 16) (.const (.int .i64 10)) rfl .i64 (10) (10) (K.dep 0 16 rfl) rfl _ (by rfl)
  · exact st_move (.tmp 17) rfl (K.dep 1 17 rfl)
  · exact st_move (.tmp 3) rfl ((K.old 3 rfl).trans x3)
  · exact st_bin .eql 25 25 (.tmp 19) _ rfl (K.dep 3 19 rfl) rfl (by kernel_rfl)
  · exact st_pick_t (.tmp 18) (.tmp 20) (.const (.bool false)) rfl (K.dep 2 18 rfl) (K.dep 4 20 rfl)
  · exact st_move (.tmp 21) rfl (K.dep 5 21 rfl)
  · exact st_call 7 (.func 7) _ _ #[] rfl rfl rfl Tryd.enter7 (fk_of (awake_any _ (hK.below (bl.trans (Below.mono K.grow bl.size)))))
  · exact st_pick_t (.tmp 22) (.tmp 23) (.const (.bool false)) rfl (K.dep 6 22 rfl) (K.dep 7 23 rfl)
  · exact st_assign (.tmp 24) rfl (K.dep 8 24 rfl)
  intro f5 w5 A hb
  replace bl0 := bl
  replace x0 := (A.old 0 rfl).trans x0
  clear x2
  replace x7 := (A.old 7 rfl).trans x7
  replace x3 := (A.old 3 rfl).trans x3
  replace x4 := (A.old 4 rfl).trans x4
  replace x15 := (A.old 15 rfl).trans x15
  have x2 : f5.eval (.tmp 2) = .bool true := A.has 9 2 rfl
  replace bl := (bl.trans (Below.mono hb bl.size))
  replace sz := A.size.trans sz
  replace df := A.defs.trans df
  clear A hb
  show Code.wp _ _ _ _ _
  refine wp_ret ?_
  repeat (first | with_reducible refine then_ret ?_ | with_reducible refine block_ret ?_)
  exact bodyPost_ret (v := .bool true) (ret_slot rfl f5 _ x2 _ _) df ⟨rfl, bl⟩
set_option maxHeartbeats 1000000 in
theorem parses_ok {bs : List (BitVec 8)} (w : World) (hK : Tab w) {v : Value} (hv : (Fk.sl bs).f v w) (h30 : bs.length ≤ 3000) {n : Nat} {P : List (List (BitVec 8))} (hB : be8 n ++ hsb P = bs) (hn : n ≤ 1048576) (hPl : P.length = pcn n) (hP32 : ∀ x ∈ P, x.length = 32) :
    Calls Tryd.prog 4 #[v] w fun e w' => e = .returned (.bool true) ∧ Below w.heap.size w w' := by
  have hpn : pcn n ≤ 21 := pcn_log 21 n (by omega)
  have hBl := rgb_max n hP32 (by omega : P.length ≤ 21)
  rw [hB] at hBl
  go_enter Tryd.func4, Tryd.ntmps4
  refine code_both (fun f w1 => f.tmps.size = 57 ∧ f.defers = [] ∧ f.eval (.tmp 0) = v ∧ Below w.heap.size w (w1)) ⟨rfl, rfl, rfl, Below.refl _ _⟩ ?_
  rintro f0 w0 ⟨sz, df, x0, bl⟩
  have bl0 := bl
  refine wp_seq ?_
  refine wp_all_seq [.eq (.bool false)] (by kernel_rfl) (by kernel_rfl) (by rw [sz]; kernel_rfl) (by kernel_rfl) ⟨fun hw ac u K => ?_, trivial⟩ ?_
  · exact st_assign (.const (.bool false)) rfl rfl
  intro f1 w1 A hb
  replace bl0 := bl
  replace x0 := (A.old 0 rfl).trans x0
  have x2 : f1.eval (.tmp 2) = .bool false := A.has 0 2 rfl
  replace bl := (bl.trans (Below.mono hb bl.size))
  replace sz := A.size.trans sz
  replace df := A.defs.trans df
  clear A hb
  show Code.wp _ _ _ _ _
  refine wp_seq ?_
  refine wp_seq ?_
  refine wp_all_seq [.eq (v), .eq (.int .i64 (((bs).length : Nat) : Int)), .eq (.bool false)] (by kernel_rfl) (by kernel_rfl) (by rw [sz]; kernel_rfl) (by kernel_rfl) ⟨fun hw ac u K => ?_, fun hw ac u K => ?_, fun hw ac u K => ?_, trivial⟩ ?_
  · exact st_move (.tmp 0) rfl ((K.old 0 rfl).trans x0)
  · exact st_lenb (.tmp 5) rfl (fk_val (K.dep 0 5 rfl) (Fk.mono _ _ _ _ hv (bl.trans (Below.mono K.grow bl.size))))
  · exact st_gtr 3 (.tmp 6) (.const (.int .i64 3000)) rfl .i64 ((((bs).length : Nat) : Int)) (3000) (K.dep 1 6 rfl) rfl _ (by rw [eq_comm, decide_eq_false_iff_not]; omega)
  intro f2 w2 A hb
  replace bl0 := bl
  replace x0 := (A.old 0 rfl).trans x0
  replace x2 := (A.old 2 rfl).trans x2
  have x7 : f2.eval (.tmp 7) = .bool false := A.has 2 7 rfl
  replace bl := (bl.trans (Below.mono hb bl.size))
  replace sz := A.size.trans sz
  replace df := A.defs.trans df
  clear A hb
  show Code.wp _ _ _ _ _
  refine wp_cond_false x7 ?_
  refine wp_skip ?_
  show Code.wp _ _ _ _ _
  refine wp_seq ?_
  refine wp_all_seq [.eq (v), .t2 (.rn w2.heap.size n P) (.int .i64 0), .t2 (.rn w2.heap.size n P) (.int .i64 0), .rn w2.heap.size n P, .eq (.int .i64 0), .rn w2.heap.size n P, .eq (.int .i64 0)] (by kernel_rfl) (by kernel_rfl) (by rw [sz]; kernel_rfl) (by kernel_rfl) ⟨fun hw ac u K => ?_, fun hw ac u K => ?_, fun hw ac u K => ?_, fun hw ac u K => ?_, fun hw ac u K => ?_, fun hw ac u K => ?_, fun hw ac u K => ?_, trivial⟩ ?_
  · exact st_move (.tmp 0) rfl ((K.old 0 rfl).trans x0)
  · exact st_call 18 (.func 18) _ _ #[v] rfl rfl (one_arg (K.dep 0 10 rfl)) Tryd.enter18 (fk_rnt K.grow.size (fk_parse_ok (Fk.mono _ _ _ _ hv (bl.trans (Below.mono K.grow bl.size))) h30 hB hn hPl hP32))
  · exact st_move (.tmp 11) rfl (K.dep 1 11 rfl)
  · exact st_t2a (.tmp 9) rfl (K.dep 2 9 rfl)
  · exact st_t2b (.tmp 9) rfl (K.dep 2 9 rfl)
  · exact st_assign (.tmp 12) rfl (K.dep 3 12 rfl)
  · exact st_assign (.tmp 13) rfl (K.dep 4 13 rfl)
  intro f3 w3 A hb
  replace bl0 := bl
  replace x0 := (A.old 0 rfl).trans x0
  replace x2 := (A.old 2 rfl).trans x2
  replace x7 := (A.old 7 rfl).trans x7
  have x3 : Fk.f (.rn w2.heap.size n P) (f3.eval (.tmp 3)) w3 := A.has 5 3 rfl
  have x4 : f3.eval (.tmp 4) = .int .i64 0 := A.has 6 4 rfl
  replace bl := (bl.trans (Below.mono hb bl.size))
  replace sz := A.size.trans sz
  replace df := A.defs.trans df
  clear A hb
  obtain ⟨gr, kr, er, hgr, hkr, hrr⟩ := x3
  have x3 : f3.eval (.tmp 3) = .pointer (some ⟨gr, 0, none⟩) := er
  clear er
  show Code.wp _ _ _ _ _
  refine wp_seq ?_
  refine wp_seq ?_
  refine wp_all_seq [.eq (.int .i64 0), .eq (.bool false)] (by kernel_rfl) (by kernel_rfl) (by rw [sz]; kernel_rfl) (by kernel_rfl) ⟨fun hw ac u K => ?_, fun hw ac u K => ?_, trivial⟩ ?_
  · exact st_move (.tmp 4) rfl ((K.old 4 rfl).trans x4)
  · exact st_neqi 27 (.tmp 14) (.const (.int .i64 0)) rfl .i64 (0) (0) (K.dep 0 14 rfl) rfl _ (by rfl)
  intro f4 w4 A hb
  replace bl0 := bl
  replace x0 := (A.old 0 rfl).trans x0
  replace x2 := (A.old 2 rfl).trans x2
  replace x7 := (A.old 7 rfl).trans x7
  replace x3 := (A.old 3 rfl).trans x3
  replace x4 := (A.old 4 rfl).trans x4
  have x15 : f4.eval (.tmp 15) = .bool false := A.has 1 15 rfl
  replace hrr := HR.mono hrr hb
  replace bl := (bl.trans (Below.mono hb bl.size))
  replace sz := A.size.trans sz
  replace df := A.defs.trans df
  clear A hb
  show Code.wp _ _ _ _ _
  refine wp_cond_false x15 ?_
  refine wp_skip ?_
  show Code.wp _ _ _ _ _
  refine wp_seq ?_
  refine wp_seq ?_
  refine wp_all_seq [.eq (.pointer (some ⟨gr, 0, none⟩)), .eq (.bool false), .eq (.bool false), .eq (.pointer (some ⟨gr, 0, none⟩)), .eq (.int .i64 ((n : Nat) : Int)), .eq (.bool false), .eq (.bool false), .eq (.bool false), .eq (.pointer (some ⟨gr, 0, none⟩)), .eq (.int .i64 ((n : Nat) : Int)), .eq (.bool false), .eq (.bool false), .eq (.bool false), .eq (.pointer (some ⟨gr, 0, none⟩)), .ow w.heap.size (P), .eq (.int .i64 (((P).length : Nat) : Int)), .eq (.pointer (some ⟨gr, 0, none⟩)), .eq (.int .i64 ((n : Nat) : Int)), .eq (.int .i64 ((pcn n : Nat) : Int)), .eq (.bool false), .eq (.bool false)] (by kernel_rfl) (by kernel_rfl) (by rw [sz]; kernel_rfl) (by kernel_rfl) ⟨fun hw ac u K => ?_, fun hw ac u K => ?_, fun hw ac u K => ?_, fun hw ac u K => ?_, fun hw ac u K => ?_, fun hw ac u K => ?_, fun hw ac u K => ?_, fun hw ac u K => ?_, fun hw ac u K => ?_, fun hw ac u K => ?_, fun hw ac u K => ?_, fun hw ac u K => ?_, fun hw ac u K => ?_, fun hw ac u K => ?_, fun hw ac u K => ?_, fun hw ac u K => ?_, fun hw ac u K => ?_, fun hw ac u K => ?_, fun hw ac u K => ?_, fun hw ac u K => ?_, fun hw ac u K => ?_, trivial⟩ ?_
  · exact st_move (.tmp 3) rfl ((K.old 3 rfl).trans x3)
  · exact st_bin .eql 25 25 (.tmp 25) _ rfl (K.dep 0 25 rfl) rfl (by kernel_rfl)
  · exact st_move (.tmp 26) rfl (K.dep 1 26 rfl)
  · exact st_move (.tmp 3) rfl ((K.old 3 rfl).trans x3)
  · exact st_call 12 (.func 12) _ _ #[.pointer (some ⟨gr, 0, none⟩)] rfl rfl (one_arg (K.dep 3 28 rfl)) Tryd.enter12 (fk_size (hrr.mono K.grow))
  · exact st_lss 3 (.tmp 29) (.const (.int .i64 0)) rfl .i64 (((n : Nat) : Int)) (0) (K.dep 4 29 rfl) rfl _ (by rw [eq_comm, decide_eq_false_iff_not]; omega)
  · exact st_pick_f' (.tmp 27) (.const (.bool true)) (.tmp 30) rfl (K.dep 2 27 rfl) (K.dep 5 30 rfl)
  · exact st_move (.tmp 31) rfl (K.dep 6 31 rfl)
  · exact st_move (.tmp 3) rfl ((K.old 3 rfl).trans x3)
  · exact st_call 12 (.func 12) _ _ #[.pointer (some ⟨gr, 0, none⟩)] rfl rfl (one_arg (K.dep 8 33 rfl)) Tryd.enter12 (fk_size (hrr.mono K.grow))
  · exact st_gtr 3 (.tmp 34) (.const (.int .i64 1048576)) rfl .i64 (((n : Nat) : Int)) (1048576) (K.dep 9 34 rfl) rfl _ (by rw [eq_comm, decide_eq_false_iff_not]; omega)
  · exact st_pick_f' (.tmp 32) (.const (.bool true)) (.tmp 35) rfl (K.dep 7 32 rfl) (K.dep 10 35 rfl)
  · exact st_move (.tmp 36) rfl (K.dep 11 36 rfl)
  · exact st_move (.tmp 3) rfl ((K.old 3 rfl).trans x3)
  · exact st_call 14 (.func 14) _ _ #[.pointer (some ⟨gr, 0, none⟩)] rfl rfl (one_arg (K.dep 13 38 rfl)) Tryd.enter14 (fk_ow (bl.trans (Below.mono K.grow bl.size)).size (fk_peaks (hrr.mono K.grow)))
  · exact st_lenc (.tmp 39) rfl ((P).length) rfl (ow_hc (K.dep 14 39 rfl))
  · exact st_move (.tmp 3) rfl ((K.old 3 rfl).trans x3)
  · exact st_call 12 (.func 12) _ _ #[.pointer (some ⟨gr, 0, none⟩)] rfl rfl (one_arg (K.dep 16 41 rfl)) Tryd.enter12 (fk_size (hrr.mono K.grow))
  · exact st_call 19 (.func 19) _ _ #[.int .i64 ((n : Nat) : Int)] rfl rfl (one_arg (K.dep 17 42 rfl)) Tryd.enter19 (fk_of (refcount_any n (by omega) _))
  · exact st_neqi 3 (.tmp 40) (.tmp 43) rfl .i64 ((((P).length : Nat) : Int)) (((pcn n : Nat) : Int)) (K.dep 15 40 rfl) (K.dep 18 43 rfl) _ (by rw [eq_comm, decide_eq_false_iff_not, hPl]; simp)
  · exact st_pick_f' (.tmp 37) (.const (.bool true)) (.tmp 44) rfl (K.dep 12 37 rfl) (K.dep 19 44 rfl)
  intro f5 w5 A hb
  replace bl0 := bl
  replace x0 := (A.old 0 rfl).trans x0
  replace x2 := (A.old 2 rfl).trans x2
  replace x7 := (A.old 7 rfl).trans x7
  replace x3 := (A.old 3 rfl).trans x3
  replace x4 := (A.old 4 rfl).trans x4
  replace x15 := (A.old 15 rfl).trans x15
  have x45 : f5.eval (.tmp 45) = .bool false := A.has 20 45 rfl
  replace hrr := HR.mono hrr hb
  replace bl := (bl.trans (Below.mono hb bl.size))
  replace sz := A.size.trans sz
  replace df := A.defs.trans df
  clear A hb
  show Code.wp _ _ _ _ _
  refine wp_cond_false x45 ?_
  refine wp_skip ?_
  show Code.wp _ _ _ _ _
  refine wp_seq ?_
  refine wp_all [.eq (.pointer (some ⟨gr, 0, none⟩)), .eq (.int .i64 ((n : Nat) : Int)), .eq (.pointer (some ⟨gr, 0, none⟩)), .ow w.heap.size (P), .eq (.string (str (bs))), .eq (v), .eq (.string (str (bs))), .eq (.bool true), .eq (.bool true), .eq (.bool true), .eq (.bool true), .eq (.bool true)] Tryd.mixed (by kernel_rfl) (by kernel_rfl) (by rw [sz]; kernel_rfl) (by kernel_rfl) ⟨fun hw ac u K => ?_, fun hw ac u K => ?_, fun hw ac u K => ?_, fun hw ac u K => ?_, fun hw ac u K => ?_, fun hw ac u K => ?_, fun hw ac u K => ?_, fun hw ac u K => ?_, fun hw ac u K => ?_, fun hw ac u K => ?_, fun hw ac u K => ?_, fun hw ac u K => ?_, trivial⟩ ?_
  · exact st_move (.tmp 3) rfl ((K.old 3 rfl).trans x3)
  · exact st_call 12 (.func 12) _ _ #[.pointer (some ⟨gr, 0, none⟩)] rfl rfl (one_arg (K.dep 0 46 rfl)) Tryd.enter12 (fk_size (hrr.mono K.grow))
  · exact st_move (.tmp 3) rfl ((K.old 3 rfl).trans x3)
  · exact st_call 14 (.func 14) _ _ #[.pointer (some ⟨gr, 0, none⟩)] rfl rfl (one_arg (K.dep 2 48 rfl)) Tryd.enter14 (fk_ow (bl.trans (Below.mono K.grow bl.size)).size (fk_peaks (hrr.mono K.grow)))
  · exact st_call 17 (.func 17) _ _ #[.int .i64 ((n : Nat) : Int), ac.eval (.tmp 49)] rfl rfl (arg2 (K.dep 1 47 rfl) rfl) Tryd.enter17 (by rw [← hB]; exact fk_of (rbytes_any (by omega) n _ (ow_hs (K.dep 3 49 rfl))))
  · exact st_move (.tmp 0) rfl ((K.old 0 rfl).trans x0)
  · exact st_str (.tmp 51) rfl (by omega) (fk_val (K.dep 5 51 rfl) (Fk.mono _ _ _ _ hv (bl.trans (Below.mono K.grow bl.size))))
  · exact st_eqs (.tmp 50) (.tmp 52) rfl (str (bs)) (str (bs)) (K.dep 4 50 rfl) (K.dep 6 52 rfl) _ (by simp)
  · exact st_move (.tmp 53) rfl (K.dep 7 53 rfl)
  · exact st_call 7 (.func 7) _ _ #[] rfl rfl rfl Tryd.enter7 (fk_of (awake_any _ (hK.below (bl.trans (Below.mono K.grow bl.size)))))
  · exact st_pick_t (.tmp 54) (.tmp 55) (.const (.bool false)) rfl (K.dep 8 54 rfl) (K.dep 9 55 rfl)
  · exact st_assign (.tmp 56) rfl (K.dep 10 56 rfl)
  intro f6 w6 A hb
  replace bl0 := bl
  replace x0 := (A.old 0 rfl).trans x0
  clear x2
  replace x7 := (A.old 7 rfl).trans x7
  replace x3 := (A.old 3 rfl).trans x3
  replace x4 := (A.old 4 rfl).trans x4
  replace x15 := (A.old 15 rfl).trans x15
  replace x45 := (A.old 45 rfl).trans x45
  have x2 : f6.eval (.tmp 2) = .bool true := A.has 11 2 rfl
  replace hrr := HR.mono hrr hb
  replace bl := (bl.trans (Below.mono hb bl.size))
  replace sz := A.size.trans sz
  replace df := A.defs.trans df
  clear A hb
  show Code.wp _ _ _ _ _
  refine wp_ret ?_
  repeat (first | with_reducible refine then_ret ?_ | with_reducible refine block_ret ?_)
  exact bodyPost_ret (v := .bool true) (ret_slot rfl f6 _ x2 _ _) df ⟨rfl, bl⟩
theorem parses_law {bs : List (BitVec 8)} (w : World) (hK : Tab w) {v : Value} (hv : (Fk.sl bs).f v w) :
    Calls Tryd.prog 4 #[v] w fun e w' => e = .returned (.bool true) ∧ Below w.heap.size w w' := by
  by_cases h : 3000 < bs.length
  · exact parses_pass w hK hv h
  · by_cases hok : ∃ (n : Nat) (P : List (List (BitVec 8))), n ≤ 1048576 ∧ P.length = pcn n ∧ (∀ x ∈ P, x.length = 32) ∧ be8 n ++ hsb P = bs
    · obtain ⟨n, P, h1, h2, h3, h4⟩ := hok
      exact parses_ok w hK hv (by omega) h4 h1 h2 h3
    · exact parses_no w hK hv (by omega) (fun n P h1 h2 h3 h4 => hok ⟨n, P, h1, h2, h3, h4⟩)
end Go.Proofs.YtnppjlpnfijobaaDoor
namespace Go.Proofs.YtnppjlpnfijobaaDoor
set_option maxRecDepth 100000
open Go.ChangeShapes Go.WideShapes Go.ChangeAt Go.RowKit

theorem own : ownKnob Tryd.prog.godebug = none := by kernel_rfl
theorem laidOut : laidOutB Tryd.prog = true := by kernel_rfl
theorem gK : Tryd.prog.globalNamed "syngraph/sha.roundNumbers" = some 2 := by kernel_rfl
theorem tK : (Tryd.prog.globals[2]?).map (·.type) = some 99 := by kernel_rfl
theorem cells88 : Tryd.prog.cellsOf 88 = 1 := by kernel_rfl
theorem cells99 : Tryd.prog.cellsOf 99 = 64 := by kernel_rfl
theorem cells5 : Tryd.prog.cellsOf 5 = 1 := by kernel_rfl
theorem under88 : Tryd.prog.underlying 88 = some (.int .u32) := by kernel_rfl
end Go.Proofs.YtnppjlpnfijobaaDoor
namespace Go.Proofs.YtnppjlpnfijobaaDoor
set_option maxRecDepth 100000
open Go.ChangeShapes Go.WideShapes Go.ChangeAt Go.RowKit
theorem bv_ofInt (z : Int) (h0 : 0 ≤ z) (h1 : z < 256) : bv (BitVec.ofInt 8 z) = z := by
  unfold bv
  rw [BitVec.toNat_ofInt]
  omega
theorem sl_of {H : Type} {enc : TypeId × Value → H} {W : World} {a : Option Addr} {len cap : Nat} {d : DataW H} {p : List MemPlace}
    (h : DataW.Trod enc Tryd.prog W 0 (fun _ => true) true 39 (.slice a len cap) d p) : ∃ bs b o, Sl W a len cap bs b o ∧ len ≤ maxLen := by
  obtain ⟨fuel, hf⟩ := h
  rcases open_ints Tryd.under39 Tryd.under5 (by kernel_rfl) hf with ⟨hcs, _⟩ | ⟨x, l, c, zs, hcs, _, hl, hm, hz, _, hcell, hwz⟩
  · simp [Value.cells] at hcs
    obtain ⟨rfl, rfl, rfl⟩ := hcs
    exact ⟨[], 0, 0, ⟨rfl, Nat.le_refl _, fun _ => ⟨rfl, rfl⟩, fun h => absurd h (by omega)⟩, by unfold maxLen; omega⟩
  · simp [Value.cells] at hcs
    obtain ⟨rfl, rfl, rfl⟩ := hcs
    have hlen : zs.length = cap := by simpa using hz
    refine ⟨(zs.take len).map (BitVec.ofInt 8), x.block, x.off, ⟨?_, hl, fun h => by (cases h), fun hp => ?_⟩, by unfold maxLen at *; omega⟩
    · rw [List.length_map, List.length_take]; omega
    · have hspot : x.spot = none := by
        have := hcell 0 (by omega)
        simp only [Addr.add, if_true] at this
        unfold World.cell? at this
        split at this
        · split at this
          · cases this
          · rename_i h; simpa using h
        · cases this
      have hx : x = ⟨x.block, x.off, none⟩ := by rw [← hspot]
      have hadd : ∀ i, x.add i = ⟨x.block, x.off + i, none⟩ := fun i => by
        unfold Addr.add
        split
        · rename_i h; subst h; rw [Nat.add_zero]; exact hx
        · rfl
      refine ⟨by rw [← hx], ?_, ?_⟩
      · have := block_lt_of_cell (hcell 0 (by omega))
        simpa [Addr.add] using this
      · intro i hi
        have hil : i < zs.length := by rw [List.length_map, List.length_take] at hi; omega
        have hin : i < len := by rw [List.length_map, List.length_take] at hi; omega
        rw [← hadd, hcell i hil]
        have hb := bounds_u8 (hwz (zs[i]) (List.getElem_mem hil))
        have e1 : zs.getD i 0 = zs[i] := by simp [hil]
        have e2 : ((zs.take len).map (BitVec.ofInt 8)).getD i 0 = BitVec.ofInt 8 zs[i] := by simp [hil, hin]
        rw [e1, e2, bv_ofInt _ (by omega) (by omega)]
end Go.Proofs.YtnppjlpnfijobaaDoor
namespace Go.Proofs.YtnppjlpnfijobaaDoor
set_option maxRecDepth 100000
open Go.ChangeShapes Go.WideShapes Go.ChangeAt Go.RowKit
end Go.Proofs.YtnppjlpnfijobaaDoor
namespace Go.Proofs.YtnppjlpnfijobaaDoor
set_option maxRecDepth 100000
open Go.ChangeShapes Go.WideShapes Go.ChangeAt Go.RowKit
section
variable {H : Type} {enc : TypeId × Value → H} {W : World}
end
end Go.Proofs.YtnppjlpnfijobaaDoor
namespace Go.Proofs.YtnppjlpnfijobaaDoor
set_option maxRecDepth 100000
set_option maxRecDepth 100000
open Go.ChangeShapes Go.WideShapes Go.ChangeAt Go.RowKit
variable {H : Type} {enc : TypeId × Value → H} {W : World}
end Go.Proofs.YtnppjlpnfijobaaDoor
namespace Go.Proofs.YtnppjlpnfijobaaDoor
set_option maxRecDepth 100000
open Go.RowKit
section
variable {Q : Exit → Act → World → Prop} {o : Oper} {a : Act} {w : World} {ops : Array Oper} {rest : List Oper}
end
end Go.Proofs.YtnppjlpnfijobaaDoor
namespace Go.Proofs.YtnppjlpnfijobaaDoor
set_option maxRecDepth 100000
set_option maxRecDepth 100000
open Go.ChangeShapes Go.WideShapes Go.ChangeAt Go.RowKit
variable {H : Type} {enc : TypeId × Value → H} {W : World}
end Go.Proofs.YtnppjlpnfijobaaDoor
namespace Go.Proofs.YtnppjlpnfijobaaDoor
set_option maxRecDepth 100000
set_option maxRecDepth 100000
open Go.ChangeShapes Go.WideShapes Go.ChangeAt Go.RowKit
theorem gZ : Tryd.prog.globalNamed "math/bits.deBruijn64tab" = some 1 := by kernel_rfl
theorem tZ : (Tryd.prog.globals[1]?).map (·.type) = some 92 := by kernel_rfl
theorem cellsZ : Tryd.prog.cellsOf 92 = 64 := by kernel_rfl
theorem underZ : Tryd.prog.underlying 92 = some (.array 64 5) := by kernel_rfl
/-- What the row lists. -/
def laidK3 : List (String × DataW Unit) := [("math/bits.deBruijn32tab", Rows.laid_math_bits_deBruijn32tab), ("math/bits.deBruijn64tab", Rows.laid_math_bits_deBruijn64tab), ("syngraph/sha.roundNumbers", Rows.laid_syngraph_sha_roundNumbers)]
theorem laidK3_tab : laidK3 = [("math/bits.deBruijn32tab", Rows.laid_math_bits_deBruijn32tab), ("math/bits.deBruijn64tab", Lib.tabData .u8 (dbt.map fun n => ((n : Nat) : Int))), ("syngraph/sha.roundNumbers", Lib.tabData .u32 (KN.map vl))] := by kernel_rfl
theorem dbt_len : dbt.length = 64 := by decide
theorem hasK3_of {W : World} (h : laidMetH Tryd.prog laidK3 W) : Tab W := by
  rw [MakeChecks.laidMetH_plain _ _ _ (by kernel_rfl), laidK3_tab] at h
  have h2 := laidMet.tail h
  have h3 := laidMet.tail h2
  have hT := Lib.tabIs_of_head gK tK Tryd.under99 under88 cells88 cells99 h3
  have hZ := Lib.tabIs_of_head gZ tZ underZ Tryd.under5 cells5 cellsZ h2
  have hc : ∀ i, i < 64 → W.cell? ⟨2, i, none⟩ = some (.int .u32 (vl (KN.getD i 0))) := fun i hi => by
    rw [hT.cell gK i (by simpa [KN] using hi)]
    have hi' : i < KN.length := by simpa [KN] using hi
    simp [hi']
  have hd : ∀ i, i < 64 → W.cell? ⟨1, i, none⟩ = some (.int .u8 ((dbt.getD i 0 : Nat) : Int)) := fun i hi => by
    have hi' : i < dbt.length := by rw [dbt_len]; exact hi
    rw [hZ.cell gZ i (by rw [List.length_map]; exact hi')]
    simp [hi']
  exact ⟨hc, block_lt_of_cell (hc 0 (by omega)), hd, block_lt_of_cell (hd 0 (by omega))⟩
theorem door_met3 (os : Os) (args : Array Value) : laidMetH Tryd.prog laidK3 ((World.doorLaid Tryd.prog 400 os).forCall (fun _ _ => 0) ⟨#[], args, []⟩).memory :=
  laidMetH_of_parts3 (fuel := 8) (laidMet_of_run' 8 (by kernel_rfl) (by kernel_rfl)) (by kernel_rfl) (by kernel_rfl)
end Go.Proofs.YtnppjlpnfijobaaDoor
