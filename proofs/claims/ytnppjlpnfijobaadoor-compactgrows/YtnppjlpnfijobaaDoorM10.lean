/- CompactGrows. What the rows of this seat share: what the listed variable gives a walk, an array of bytes opened, the start that fits. A slice of bytes that came in, opened. A slice of hashes that came in, opened. Signatures and structs with them that came in, opened. Arguments opened: numbers with their bounds, slices of hashes with their room. Arguments opened: slices of numbers, and of hashes, as they are written (where nothing is pointed to, there is no room). What the rows with three listed variables share; a slice of hashes opened as it is written. -/
import Derived.Test.YtnppjlpnfijobaaDoorM9
import Derived.Test.YtnppjlpnfijobaaDoorM5
import Derived.Test.YtnppjlpnfijobaaDoorRows
import Derived.Test.YtnppjlpnfijobaaDoorM2
import Derived.ProofKit
import Derived.LaidMore
import Derived.OpenShut
import Derived.ShutString
import Derived.ChangeOld
import Derived.Lib.LaidTab
import Derived.SevenTiedAt
import Derived.Deep.Slices
import Derived.Deep.Strs
import Derived.Test.YtnppjlpnfijobaaDoorM3
import Derived.Stop.LaidErr
namespace Go.Proofs.YtnppjlpnfijobaaDoor
set_option maxRecDepth 100000
open Go.RowKit
theorem fk_slg {f : FuncId} {args : Array Value} {w : World} {X B : List (BitVec 8)} (h : Calls Tryd.prog f args w fun e w' => ∃ u, e = .returned u ∧ (Fk.sl X).f u w' ∧ Below w.heap.size w w') (e : X = B) : Calls Tryd.prog f args w fun e w' => ∃ u, e = .returned u ∧ (Fk.sl B).f u w' ∧ Below w.heap.size w w' := by
  subst e
  exact h
theorem st_nes9 {Q : Exit → Act → World → Prop} {o : Oper} {a : Act} {w : World} (x y : Operand) (ho : o.op = .binOp .neq 9 x y 9) (s t : ByteArray) (hx : a.eval x = .string s) (hy : a.eval y = .string t) (b : Bool) (hb : b = decide (s ≠ t)) : o.wp Tryd.prog a w (Ends a o.dst w (Fk.eq (.bool b)).f) Q := by
  subst hb
  refine st_bin .neq 9 9 x y ho hx hy ?_
  have := str_beq s t
  simp [eqGuard, binOp, Op.stringOp, this]
theorem own_sliced (A : Option Addr) (m n C s : Nat) : (sliced A m n C s).ownBlock = (Value.slice A n C).ownBlock := by
  unfold sliced
  cases A with
  | none => by_cases h : C = m <;> simp [h, Value.ownBlock]
  | some ad =>
    by_cases h : C = m
    · simp [h, Value.ownBlock]
    · by_cases h2 : m * s = 0
      · simp [h, Value.ownBlock, Addr.add, h2]
      · simp [h, Value.ownBlock, Addr.add, h2]
theorem st_cutq {Q : Exit → Act → World → Prop} {o : Oper} {a : Act} {w : World} (x y z : Operand) (ho : o.op = .slice 22 x (some y) (some z) none) {hs : List (List (BitVec 8))} (h : (Fk.hc hs).f (a.eval x) w) (m n : Nat) (hy : a.eval y = .int .i64 (m : Int)) (hz : a.eval z = .int .i64 (n : Int)) (hm : m ≤ n) (hn : n ≤ hs.length) {p : Nat → Prop} (hp : 0 < hs.length → ∀ b, (a.eval x).ownBlock = some b → p b) : o.wp Tryd.prog a w (Ends a o.dst w (Fk.hq p (sgm hs m (n - m))).f) Q := by
  have hp0 := hp
  obtain ⟨A, C, lb, lo, e, hc, hl⟩ := h
  have hln := sgm_len2 (a := m) hn
  refine st_pure (v := sliced A m n C 32) ?_ ⟨⟨if C = m then A else A.map (·.add (m * 32)), C - m, lb, lo + m * 32, ?_, ?_, fun hp => ?_, fun hp => ?_, fun i x hi => ?_⟩, fun h0 b eb => ?_⟩
  · have h1 := run_slice_lh (P := Tryd.prog) (w := w) 22 A hs.length C (by rw [Tryd.elem22]; exact Tryd.under22') .i64 .i64 (m : Int) (n : Int) (by omega) (by omega) (by omega)
    rw [Tryd.elem22, Tryd.sizeOf33] at h1
    simp only [Result.andThen_ok, Int.toNat_natCast] at h1
    have h2 := run_sliceAt_slice (P := Tryd.prog) (w := w) 22 (.slice A hs.length C) (some (.int .i64 (m : Int))) (some (.int .i64 (n : Int))) none (by rw [Tryd.elem22]; exact Tryd.under22')
    unfold execOp
    rw [ho]
    simp [e, hy, hz, h2, h1]
  · rw [hln]; rfl
  · rw [hln]; omega
  · rw [hln] at hp
    rw [if_neg (by omega), hl.ptr (by omega)]
    simp [Addr.add_mid]
  · rw [hln] at hp
    exact hl.lt (by omega)
  · have := hl.all (m + i) x (sgm_at hi)
    rw [Nat.add_mul, ← Nat.add_assoc] at this
    exact this
  · rw [own_sliced] at eb
    refine hp0 (by rw [hln] at h0; omega) b ?_
    rw [e]
    cases A <;> exact eb
theorem part_ex (z : Int) (n : Nat) : ∃ q : Nat, (q : Int) = min (max z 0) (n : Int) ∧ q ≤ n := ⟨(min (max z 0) (n : Int)).toNat, by omega, by omega⟩
theorem grows_pass {l : List (List (BitVec 8))} {xs : List Int} {lA mA : Option Addr} {lC mC : Nat} (w : World) (hK : Tab w) (hv : (Fk.hc l).f (.slice lA (l).length lC) w) (hx : (Fk.is xs).f (.slice mA (xs).length mC) w) (h : 70 < l.length ∨ 70 < xs.length) :
    Calls Tryd.prog 3 #[.slice lA (l).length lC, .slice mA (xs).length mC] w fun e w' => e = .returned (.bool true) ∧ Below w.heap.size w w' := by
  have hvs := hc_hs hv
  have hvo := hc_ob hv
  go_enter Tryd.func3, Tryd.ntmps3
  refine code_both (fun f w1 => f.tmps.size = 104 ∧ f.defers = [] ∧ f.eval (.tmp 0) = .slice lA (l).length lC ∧ f.eval (.tmp 1) = .slice mA (xs).length mC ∧ Below w.heap.size w (w1)) ⟨rfl, rfl, rfl, rfl, Below.refl _ _⟩ ?_
  rintro f0 w0 ⟨sz, df, x0, x1, bl⟩
  have bl0 := bl
  refine wp_seq ?_
  refine wp_all_seq [.eq (.bool false)] (by kernel_rfl) (by kernel_rfl) (by rw [sz]; kernel_rfl) (by kernel_rfl) ⟨fun hw ac u K => ?_, trivial⟩ ?_
  · exact st_assign (.const (.bool false)) rfl rfl
  intro f1 w1 A hb
  replace bl0 := bl
  replace x0 := (A.old 0 rfl).trans x0
  replace x1 := (A.old 1 rfl).trans x1
  have x4 : f1.eval (.tmp 4) = .bool false := A.has 0 4 rfl
  replace bl := (bl.trans (Below.mono hb bl.size))
  replace sz := A.size.trans sz
  replace df := A.defs.trans df
  clear A hb
  show Code.wp _ _ _ _ _
  refine wp_seq ?_
  refine wp_seq ?_
  by_cases h60 : 70 < l.length
  rotate_left
  · skip
    refine wp_all_seq [.eq (.slice lA (l).length lC), .eq (.int .i64 (((l).length : Nat) : Int)), .eq (.bool false), .eq (.bool false), .eq (.slice mA (xs).length mC), .eq (.int .i64 (((xs).length : Nat) : Int)), .eq (.bool true), .eq (.bool true)] (by kernel_rfl) (by kernel_rfl) (by rw [sz]; kernel_rfl) (by kernel_rfl) ⟨fun hw ac u K => ?_, fun hw ac u K => ?_, fun hw ac u K => ?_, fun hw ac u K => ?_, fun hw ac u K => ?_, fun hw ac u K => ?_, fun hw ac u K => ?_, fun hw ac u K => ?_, trivial⟩ ?_
    · exact st_move (.tmp 0) rfl ((K.old 0 rfl).trans x0)
    · exact st_lenc (.tmp 12) rfl ((l).length) rfl (fk_val (K.dep 0 12 rfl) (Fk.mono _ _ _ _ hv (bl.trans (Below.mono K.grow bl.size))))
    · exact st_gtr 3 (.tmp 13) (.const (.int .i64 70)) rfl .i64 ((((l).length : Nat) : Int)) (70) (K.dep 1 13 rfl) rfl _ (by rw [eq_comm, decide_eq_false_iff_not]; omega)
    · exact st_move (.tmp 14) rfl (K.dep 2 14 rfl)
    · exact st_move (.tmp 1) rfl ((K.old 1 rfl).trans x1)
    · exact st_lenis (.tmp 16) rfl (fk_val (K.dep 4 16 rfl) (Fk.mono _ _ _ _ hx (bl.trans (Below.mono K.grow bl.size))))
    · exact st_gtr 3 (.tmp 17) (.const (.int .i64 70)) rfl .i64 ((((xs).length : Nat) : Int)) (70) (K.dep 5 17 rfl) rfl _ (by rw [eq_comm, decide_eq_true_iff]; omega)
    · exact st_pick_f' (.tmp 15) (.const (.bool true)) (.tmp 18) rfl (K.dep 3 15 rfl) (K.dep 6 18 rfl)
    intro f2 w2 A hb
    replace bl0 := bl
    replace x0 := (A.old 0 rfl).trans x0
    replace x1 := (A.old 1 rfl).trans x1
    replace x4 := (A.old 4 rfl).trans x4
    have x19 : f2.eval (.tmp 19) = .bool true := A.has 7 19 rfl
    replace bl := (bl.trans (Below.mono hb bl.size))
    replace sz := A.size.trans sz
    replace df := A.defs.trans df
    clear A hb
    show Code.wp _ _ _ _ _
    refine wp_cond_true x19 ?_
    refine wp_seq ?_
    refine wp_all_seq [.eq (.bool true), .eq (.bool true)] (by kernel_rfl) (by kernel_rfl) (by rw [sz]; kernel_rfl) (by kernel_rfl) ⟨fun hw ac u K => ?_, fun hw ac u K => ?_, trivial⟩ ?_
    · exact st_call 7 (.func 7) _ _ #[] rfl rfl rfl Tryd.enter7 (fk_of (awake_any _ (hK.below (bl.trans (Below.mono K.grow bl.size)))))
    · exact st_assign (.tmp 20) rfl (K.dep 0 20 rfl)
    intro f3 w3 A hb
    replace bl0 := bl
    replace x0 := (A.old 0 rfl).trans x0
    replace x1 := (A.old 1 rfl).trans x1
    clear x4
    replace x19 := (A.old 19 rfl).trans x19
    have x4 : f3.eval (.tmp 4) = .bool true := A.has 1 4 rfl
    replace bl := (bl.trans (Below.mono hb bl.size))
    replace sz := A.size.trans sz
    replace df := A.defs.trans df
    clear A hb
    show Code.wp _ _ _ _ _
    refine wp_ret ?_
    repeat (first | with_reducible refine then_ret ?_ | with_reducible refine block_ret ?_)
    exact bodyPost_ret (v := .bool true) (ret_slot rfl f3 _ x4 _ _) df ⟨rfl, bl⟩
  refine wp_all_seq [.eq (.slice lA (l).length lC), .eq (.int .i64 (((l).length : Nat) : Int)), .eq (.bool true), .eq (.bool true), .any, .any, .any, .eq (.bool true)] (by kernel_rfl) (by kernel_rfl) (by rw [sz]; kernel_rfl) (by kernel_rfl) ⟨fun hw ac u K => ?_, fun hw ac u K => ?_, fun hw ac u K => ?_, fun hw ac u K => ?_, fun hw ac u K => ?_, fun hw ac u K => ?_, fun hw ac u K => ?_, fun hw ac u K => ?_, trivial⟩ ?_
  · exact st_move (.tmp 0) rfl ((K.old 0 rfl).trans x0)
  · exact st_lenc (.tmp 12) rfl ((l).length) rfl (fk_val (K.dep 0 12 rfl) (Fk.mono _ _ _ _ hv (bl.trans (Below.mono K.grow bl.size))))
  · exact st_gtr 3 (.tmp 13) (.const (.int .i64 70)) rfl .i64 ((((l).length : Nat) : Int)) (70) (K.dep 1 13 rfl) rfl _ (by rw [eq_comm, decide_eq_true_iff]; omega)
  · exact st_move (.tmp 14) rfl (K.dep 2 14 rfl)
  · exact (Bool.false_ne_true hw).elim
  · exact (Bool.false_ne_true hw).elim
  · exact (Bool.false_ne_true hw).elim
  · exact st_pick_t (.tmp 15) (.const (.bool true)) (.tmp 18) rfl (K.dep 3 15 rfl) rfl
  intro f2 w2 A hb
  replace bl0 := bl
  replace x0 := (A.old 0 rfl).trans x0
  replace x1 := (A.old 1 rfl).trans x1
  replace x4 := (A.old 4 rfl).trans x4
  have x19 : f2.eval (.tmp 19) = .bool true := A.has 7 19 rfl
  replace bl := (bl.trans (Below.mono hb bl.size))
  replace sz := A.size.trans sz
  replace df := A.defs.trans df
  clear A hb
  show Code.wp _ _ _ _ _
  refine wp_cond_true x19 ?_
  refine wp_seq ?_
  refine wp_all_seq [.eq (.bool true), .eq (.bool true)] (by kernel_rfl) (by kernel_rfl) (by rw [sz]; kernel_rfl) (by kernel_rfl) ⟨fun hw ac u K => ?_, fun hw ac u K => ?_, trivial⟩ ?_
  · exact st_call 7 (.func 7) _ _ #[] rfl rfl rfl Tryd.enter7 (fk_of (awake_any _ (hK.below (bl.trans (Below.mono K.grow bl.size)))))
  · exact st_assign (.tmp 20) rfl (K.dep 0 20 rfl)
  intro f3 w3 A hb
  replace bl0 := bl
  replace x0 := (A.old 0 rfl).trans x0
  replace x1 := (A.old 1 rfl).trans x1
  clear x4
  replace x19 := (A.old 19 rfl).trans x19
  have x4 : f3.eval (.tmp 4) = .bool true := A.has 1 4 rfl
  replace bl := (bl.trans (Below.mono hb bl.size))
  replace sz := A.size.trans sz
  replace df := A.defs.trans df
  clear A hb
  show Code.wp _ _ _ _ _
  refine wp_ret ?_
  repeat (first | with_reducible refine then_ret ?_ | with_reducible refine block_ret ?_)
  exact bodyPost_ret (v := .bool true) (ret_slot rfl f3 _ x4 _ _) df ⟨rfl, bl⟩
set_option maxHeartbeats 2000000 in
theorem grows_main {l : List (List (BitVec 8))} {xs : List Int} {lA mA : Option Addr} {lC mC : Nat} (w : World) (hK : Tab w) (hv : (Fk.hc l).f (.slice lA (l).length lC) w) (hx : (Fk.is xs).f (.slice mA (xs).length mC) w) (hl : l.length ≤ 70) (hxl : xs.length ≤ 70) (hmA : mA = none → mC = 0) :
    Calls Tryd.prog 3 #[.slice lA (l).length lC, .slice mA (xs).length mC] w fun e w' => e = .returned (.bool true) ∧ Below w.heap.size w w' := by
  have hvs := hc_hs hv
  have hvo := hc_ob hv
  obtain ⟨Y, eY⟩ : ∃ Y, Box (xs ++ [((l.length : Nat) : Int)] = Y) := ⟨_, ⟨rfl⟩⟩
  have hYl : Y.length = xs.length + 1 := by rw [← eY.out, List.length_append, List.length_singleton]
  go_enter Tryd.func3, Tryd.ntmps3
  refine code_both (fun f w1 => f.tmps.size = 104 ∧ f.defers = [] ∧ f.eval (.tmp 0) = .slice lA (l).length lC ∧ f.eval (.tmp 1) = .slice mA (xs).length mC ∧ Below w.heap.size w (w1)) ⟨rfl, rfl, rfl, rfl, Below.refl _ _⟩ ?_
  rintro f0 w0 ⟨sz, df, x0, x1, bl⟩
  have bl0 := bl
  refine wp_seq ?_
  refine wp_all_seq [.eq (.bool false)] (by kernel_rfl) (by kernel_rfl) (by rw [sz]; kernel_rfl) (by kernel_rfl) ⟨fun hw ac u K => ?_, trivial⟩ ?_
  · exact st_assign (.const (.bool false)) rfl rfl
  intro f1 w1 A hb
  replace bl0 := bl
  replace x0 := (A.old 0 rfl).trans x0
  replace x1 := (A.old 1 rfl).trans x1
  have x4 : f1.eval (.tmp 4) = .bool false := A.has 0 4 rfl
  replace bl := (bl.trans (Below.mono hb bl.size))
  replace sz := A.size.trans sz
  replace df := A.defs.trans df
  clear A hb
  show Code.wp _ _ _ _ _
  refine wp_seq ?_
  refine wp_seq ?_
  refine wp_all_seq [.eq (.slice lA (l).length lC), .eq (.int .i64 (((l).length : Nat) : Int)), .eq (.bool false), .eq (.bool false), .eq (.slice mA (xs).length mC), .eq (.int .i64 (((xs).length : Nat) : Int)), .eq (.bool false), .eq (.bool false)] (by kernel_rfl) (by kernel_rfl) (by rw [sz]; kernel_rfl) (by kernel_rfl) ⟨fun hw ac u K => ?_, fun hw ac u K => ?_, fun hw ac u K => ?_, fun hw ac u K => ?_, fun hw ac u K => ?_, fun hw ac u K => ?_, fun hw ac u K => ?_, fun hw ac u K => ?_, trivial⟩ ?_
  · exact st_move (.tmp 0) rfl ((K.old 0 rfl).trans x0)
  · exact st_lenc (.tmp 12) rfl ((l).length) rfl (fk_val (K.dep 0 12 rfl) (Fk.mono _ _ _ _ hv (bl.trans (Below.mono K.grow bl.size))))
  · exact st_gtr 3 (.tmp 13) (.const (.int .i64 70)) rfl .i64 ((((l).length : Nat) : Int)) (70) (K.dep 1 13 rfl) rfl _ (by rw [eq_comm, decide_eq_false_iff_not]; omega)
  · exact st_move (.tmp 14) rfl (K.dep 2 14 rfl)
  · exact st_move (.tmp 1) rfl ((K.old 1 rfl).trans x1)
  · exact st_lenis (.tmp 16) rfl (fk_val (K.dep 4 16 rfl) (Fk.mono _ _ _ _ hx (bl.trans (Below.mono K.grow bl.size))))
  · exact st_gtr 3 (.tmp 17) (.const (.int .i64 70)) rfl .i64 ((((xs).length : Nat) : Int)) (70) (K.dep 5 17 rfl) rfl _ (by rw [eq_comm, decide_eq_false_iff_not]; omega)
  · exact st_pick_f' (.tmp 15) (.const (.bool true)) (.tmp 18) rfl (K.dep 3 15 rfl) (K.dep 6 18 rfl)
  intro f2 w2 A hb
  replace bl0 := bl
  replace x0 := (A.old 0 rfl).trans x0
  replace x1 := (A.old 1 rfl).trans x1
  replace x4 := (A.old 4 rfl).trans x4
  have x19 : f2.eval (.tmp 19) = .bool false := A.has 7 19 rfl
  replace bl := (bl.trans (Below.mono hb bl.size))
  replace sz := A.size.trans sz
  replace df := A.defs.trans df
  clear A hb
  show Code.wp _ _ _ _ _
  refine wp_cond_false x19 ?_
  refine wp_skip ?_
  show Code.wp _ _ _ _ _
  refine wp_seq ?_
  refine wp_all_seq [.rn w.heap.size 0 [], .rn w.heap.size 0 []] (by kernel_rfl) (by kernel_rfl) (by rw [sz]; kernel_rfl) (by kernel_rfl) ⟨fun hw ac u K => ?_, fun hw ac u K => ?_, trivial⟩ ?_
  · exact st_call 8 (.func 8) _ _ #[] rfl rfl rfl Tryd.enter8 (fk_rn (bl.trans (Below.mono K.grow bl.size)).size (fk_new _))
  · exact st_assign (.tmp 21) rfl (K.dep 0 21 rfl)
  intro f3 w3 A hb
  replace bl0 := bl
  replace x0 := (A.old 0 rfl).trans x0
  replace x1 := (A.old 1 rfl).trans x1
  replace x4 := (A.old 4 rfl).trans x4
  replace x19 := (A.old 19 rfl).trans x19
  have x5 : Fk.f (.rn w.heap.size 0 []) (f3.eval (.tmp 5)) w3 := A.has 1 5 rfl
  replace bl := (bl.trans (Below.mono hb bl.size))
  replace sz := A.size.trans sz
  replace df := A.defs.trans df
  clear A hb
  obtain ⟨gr, kr, er, hgr, hkr, hrr⟩ := x5
  have x5 : f3.eval (.tmp 5) = .pointer (some ⟨gr, 0, none⟩) := er
  clear er
  show Code.wp _ _ _ _ _
  refine wp_seq ?_
  refine wp_seq ?_
  refine wp_all_seq [.eq (.pointer (some ⟨gr, 0, none⟩)), .eq (.bool false)] (by kernel_rfl) (by kernel_rfl) (by rw [sz]; kernel_rfl) (by kernel_rfl) ⟨fun hw ac u K => ?_, fun hw ac u K => ?_, trivial⟩ ?_
  · exact st_move (.tmp 5) rfl ((K.old 5 rfl).trans x5)
  · exact st_bin .eql 25 25 (.tmp 22) _ rfl (K.dep 0 22 rfl) rfl (by kernel_rfl)
  intro f4 w4 A hb
  replace bl0 := bl
  replace x0 := (A.old 0 rfl).trans x0
  replace x1 := (A.old 1 rfl).trans x1
  replace x4 := (A.old 4 rfl).trans x4
  replace x19 := (A.old 19 rfl).trans x19
  replace x5 := (A.old 5 rfl).trans x5
  have x23 : f4.eval (.tmp 23) = .bool false := A.has 1 23 rfl
  replace hrr := HR.mono hrr hb
  replace bl := (bl.trans (Below.mono hb bl.size))
  replace sz := A.size.trans sz
  replace df := A.defs.trans df
  clear A hb
  show Code.wp _ _ _ _ _
  refine wp_cond_false x23 ?_
  refine wp_skip ?_
  show Code.wp _ _ _ _ _
  refine wp_seq ?_
  refine wp_all_seq [.eq (.int .i64 0)] (by kernel_rfl) (by kernel_rfl) (by rw [sz]; kernel_rfl) (by kernel_rfl) ⟨fun hw ac u K => ?_, trivial⟩ ?_
  · exact st_assign (.const (.int .i64 0)) rfl rfl
  intro f5 w5 A hb
  replace bl0 := bl
  replace x0 := (A.old 0 rfl).trans x0
  replace x1 := (A.old 1 rfl).trans x1
  replace x4 := (A.old 4 rfl).trans x4
  replace x19 := (A.old 19 rfl).trans x19
  replace x5 := (A.old 5 rfl).trans x5
  replace x23 := (A.old 23 rfl).trans x23
  have x6 : f5.eval (.tmp 6) = .int .i64 0 := A.has 0 6 rfl
  replace hrr := HR.mono hrr hb
  replace bl := (bl.trans (Below.mono hb bl.size))
  replace sz := A.size.trans sz
  replace df := A.defs.trans df
  clear A hb
  show Code.wp _ _ _ _ _
  refine wp_seq ?_
  refine wp_seq ?_
  have ltr := hrr.lt
  have hvO := hv
  have hvsO := hvs
  have hxO := hx
  have hKO := hK
  have hrr0 := hrr
  have blw := bl
  replace hv := Fk.mono _ _ _ _ hv bl
  replace hvs := Fk.mono _ _ _ _ hvs bl
  replace hx := Fk.mono _ _ _ _ hx bl
  replace hK := hK.below bl
  replace bl := Below.refl w5.heap.size w5
  replace bl0 := bl
  refine wp_region_seq [.oi w5.heap.size ([]), .eq (.slice mA (xs).length mC)] (by kernel_rfl) (by kernel_rfl) (by rw [sz]; kernel_rfl) (by kernel_rfl) ⟨fun hw ac u K => ?_, fun hw ac u K => ?_, trivial⟩ ?_
  · exact st_build0i rfl _ (bl.trans (Below.mono K.grow bl.size)).size
  · exact st_move (.tmp 1) rfl ((K.old 1 rfl).trans x1)
  intro f6 w6 A hb
  replace bl0 := bl
  replace x0 := (A.old 0 rfl).trans x0
  replace x1 := (A.old 1 rfl).trans x1
  replace x4 := (A.old 4 rfl).trans x4
  replace x19 := (A.old 19 rfl).trans x19
  replace x5 := (A.old 5 rfl).trans x5
  replace x23 := (A.old 23 rfl).trans x23
  replace x6 := (A.old 6 rfl).trans x6
  have x24 : Fk.f (.oi w5.heap.size ([])) (f6.eval (.tmp 24)) w6 := A.has 0 24 rfl
  have x25 : f6.eval (.tmp 25) = .slice mA (xs).length mC := A.has 1 25 rfl
  replace hrr := HR.mono hrr hb
  replace bl := (bl.trans (Below.mono hb bl.size))
  replace sz := A.size.trans sz
  replace df := A.defs.trans df
  clear A hb
  refine wl_appendMI rfl (.tmp 24) (.tmp 25) rfl 26 rfl (by rw [sz]; decide) x24 x25 (Fk.mono _ _ _ _ hx bl) hmA bl (by simp only [List.length_nil]; omega) ?_
  intro f7 w7 df2 sz2 old2 new2 bl2
  clear x24
  replace x0 := (old2 0 rfl).trans x0
  replace x1 := (old2 1 rfl).trans x1
  replace x4 := (old2 4 rfl).trans x4
  replace x19 := (old2 19 rfl).trans x19
  replace x5 := (old2 5 rfl).trans x5
  replace x23 := (old2 23 rfl).trans x23
  replace x6 := (old2 6 rfl).trans x6
  replace x25 := (old2 25 rfl).trans x25
  have x26 : Fk.f (.oi w5.heap.size (xs)) (f7.eval (.tmp 26)) w7 := new2
  replace hrr := hrr0.mono bl2
  replace bl := bl2
  replace bl0 := bl
  replace sz := sz2.trans sz
  replace df := df2.trans df
  clear df2 sz2 old2 new2 bl2
  clear x25
  refine wl_one (.eq (.slice lA (l).length lC)) rfl 27 rfl (by rw [sz]; decide) (st_move (.tmp 0) rfl x0) ?_
  intro f8 w8 df2 sz2 old2 new2 hb
  replace bl0 := bl
  replace x0 := (old2 0 rfl).trans x0
  replace x1 := (old2 1 rfl).trans x1
  replace x4 := (old2 4 rfl).trans x4
  replace x19 := (old2 19 rfl).trans x19
  replace x5 := (old2 5 rfl).trans x5
  replace x23 := (old2 23 rfl).trans x23
  replace x6 := (old2 6 rfl).trans x6
  replace x26 := f_at (old2 26 rfl) (Fk.mono _ _ _ _ x26 hb)
  have x27 : f8.eval (.tmp 27) = .slice lA (l).length lC := new2
  replace hrr := HR.mono hrr hb
  replace bl := (bl.trans (Below.mono hb bl.size))
  replace sz := sz2.trans sz
  replace df := df2.trans df
  clear df2 sz2 old2 new2 hb
  refine wl_one (.eq (.int .i64 (((l).length : Nat) : Int))) rfl 28 rfl (by rw [sz]; decide) (st_lenc (.tmp 27) rfl ((l).length) rfl (fk_val x27 (Fk.mono _ _ _ _ hv bl))) ?_
  intro f9 w9 df2 sz2 old2 new2 hb
  replace bl0 := bl
  replace x0 := (old2 0 rfl).trans x0
  replace x1 := (old2 1 rfl).trans x1
  replace x4 := (old2 4 rfl).trans x4
  replace x19 := (old2 19 rfl).trans x19
  replace x5 := (old2 5 rfl).trans x5
  replace x23 := (old2 23 rfl).trans x23
  replace x6 := (old2 6 rfl).trans x6
  replace x26 := f_at (old2 26 rfl) (Fk.mono _ _ _ _ x26 hb)
  replace x27 := (old2 27 rfl).trans x27
  have x28 : f9.eval (.tmp 28) = .int .i64 (((l).length : Nat) : Int) := new2
  replace hrr := HR.mono hrr hb
  replace bl := (bl.trans (Below.mono hb bl.size))
  replace sz := sz2.trans sz
  replace df := df2.trans df
  clear df2 sz2 old2 new2 hb
  clear x27
  refine wl_one (.oi w5.heap.size ([((l.length : Nat) : Int)])) rfl 29 rfl (by rw [sz]; decide) (st_bi1 (.tmp 28) rfl _ x28 _ bl.size) ?_
  intro f10 w10 df2 sz2 old2 new2 hb
  replace bl0 := bl
  replace x0 := (old2 0 rfl).trans x0
  replace x1 := (old2 1 rfl).trans x1
  replace x4 := (old2 4 rfl).trans x4
  replace x19 := (old2 19 rfl).trans x19
  replace x5 := (old2 5 rfl).trans x5
  replace x23 := (old2 23 rfl).trans x23
  replace x6 := (old2 6 rfl).trans x6
  replace x26 := f_at (old2 26 rfl) (Fk.mono _ _ _ _ x26 hb)
  replace x28 := (old2 28 rfl).trans x28
  have x29 : Fk.f (.oi w5.heap.size ([((l.length : Nat) : Int)])) (f10.eval (.tmp 29)) w10 := new2
  replace hrr := HR.mono hrr hb
  replace bl := (bl.trans (Below.mono hb bl.size))
  replace sz := sz2.trans sz
  replace df := df2.trans df
  clear df2 sz2 old2 new2 hb
  clear x28
  refine wl_appendi rfl (.tmp 26) (.tmp 29) rfl 30 rfl (by rw [sz]; decide) x26 x29 (Nat.le_refl _) bl (by simp only [List.length_cons, List.length_nil]; omega) ?_
  intro f11 w11 df2 sz2 old2 new2 bl2
  clear x26
  clear x29
  replace x0 := (old2 0 rfl).trans x0
  replace x1 := (old2 1 rfl).trans x1
  replace x4 := (old2 4 rfl).trans x4
  replace x19 := (old2 19 rfl).trans x19
  replace x5 := (old2 5 rfl).trans x5
  replace x23 := (old2 23 rfl).trans x23
  replace x6 := (old2 6 rfl).trans x6
  have x30 : Fk.f (.oi w5.heap.size (Y)) (f11.eval (.tmp 30)) w11 := (by rw [← eY.out]; exact new2)
  replace hrr := hrr0.mono bl2
  replace bl := bl2
  replace bl0 := bl
  replace sz := sz2.trans sz
  replace df := df2.trans df
  clear df2 sz2 old2 new2 bl2
  refine wl_one (.eq (.int .i64 (((Y).length : Nat) : Int))) rfl 31 rfl (by rw [sz]; decide) (st_lenis (.tmp 30) rfl (oi_is x30)) ?_
  intro f12 w12 df2 sz2 old2 new2 hb
  replace bl0 := bl
  replace x0 := (old2 0 rfl).trans x0
  replace x1 := (old2 1 rfl).trans x1
  replace x4 := (old2 4 rfl).trans x4
  replace x19 := (old2 19 rfl).trans x19
  replace x5 := (old2 5 rfl).trans x5
  replace x23 := (old2 23 rfl).trans x23
  replace x6 := (old2 6 rfl).trans x6
  replace x30 := f_at (old2 30 rfl) (Fk.mono _ _ _ _ x30 hb)
  have x31 : f12.eval (.tmp 31) = .int .i64 (((Y).length : Nat) : Int) := new2
  replace hrr := HR.mono hrr hb
  replace bl := (bl.trans (Below.mono hb bl.size))
  replace sz := sz2.trans sz
  replace df := df2.trans df
  clear df2 sz2 old2 new2 hb
  refine wl_one (.eq (.int .i64 0)) rfl 32 rfl (by rw [sz]; decide) (st_move (.const (.int .i64 0)) rfl rfl) ?_
  intro f13 w13 df2 sz2 old2 new2 hb
  replace bl0 := bl
  replace x0 := (old2 0 rfl).trans x0
  replace x1 := (old2 1 rfl).trans x1
  replace x4 := (old2 4 rfl).trans x4
  replace x19 := (old2 19 rfl).trans x19
  replace x5 := (old2 5 rfl).trans x5
  replace x23 := (old2 23 rfl).trans x23
  replace x6 := (old2 6 rfl).trans x6
  replace x30 := f_at (old2 30 rfl) (Fk.mono _ _ _ _ x30 hb)
  replace x31 := (old2 31 rfl).trans x31
  have x32 : f13.eval (.tmp 32) = .int .i64 0 := new2
  replace hrr := HR.mono hrr hb
  replace bl := (bl.trans (Below.mono hb bl.size))
  replace sz := sz2.trans sz
  replace df := df2.trans df
  clear df2 sz2 old2 new2 hb
  refine wpList_nil ?_
  obtain ⟨b30, X30, hb30, hl30, hX30, his⟩ := oi_block x30 (by omega)
  obtain ⟨v30, e30⟩ : ∃ v, f13.eval (.tmp 30) = v := ⟨_, rfl⟩
  rw [e30] at his
  replace x30 := e30
  clear e30 hl30
  have hn1 : b30 ≠ gr := by omega
  have hn0 : b30 ≠ kr := by omega
  clear hrr0
  replace bl := blw.trans (Below.mono bl blw.size)
  replace bl0 := bl
  clear hv
  have hv := hvO
  clear hvO
  clear hvs
  have hvs := hvsO
  clear hvsO
  clear hx
  have hx := hxO
  clear hxO
  clear hK
  have hK := hKO
  clear hKO
  show Code.wp _ _ _ _ _
  refine wp_block ?_
  refine wp_loop (fun f v1 => ∃ (k a km : Nat), k ≤ (Y).length ∧ a ≤ l.length ∧ w.heap.size ≤ km ∧ b30 ≠ km ∧ f.tmps.size = 104 ∧ f.defers = [] ∧ f.eval (.tmp 0) = .slice lA (l).length lC ∧ f.eval (.tmp 1) = .slice mA (xs).length mC ∧ f.eval (.tmp 4) = .bool false ∧ f.eval (.tmp 19) = .bool false ∧ f.eval (.tmp 5) = .pointer (some ⟨gr, 0, none⟩) ∧ f.eval (.tmp 23) = .bool false ∧ f.eval (.tmp 30) = v30 ∧ f.eval (.tmp 31) = .int .i64 (((Y).length : Nat) : Int) ∧ f.eval (.tmp 32) = .int .i64 ((k : Nat) : Int) ∧ f.eval (.tmp 6) = .int .i64 ((a : Nat) : Int) ∧ HR v1 gr km a (pks l a) ∧ v1.heap[b30]? = some X30 ∧ Below w.heap.size w (v1)) (fun f _ => (Y).length - (intOf (f.eval (.tmp 32))).toNat) ⟨0, 0, kr, Nat.zero_le _, Nat.zero_le _, hkr, hn0, sz, df, x0, x1, x4, x19, x5, x23, x30, x31, x32, x6, (by rw [pks_zero]; exact hrr), hX30, bl⟩ ?_
  intro f14 w14 hI
  clear sz df bl bl0 x0 x1 x4 x19 x5 x23 x6 x30 x31 x32 hrr hX30
  obtain ⟨k, a, km, hk, ha, hbm, hn2, sz, df, x0, x1, x4, x19, x5, x23, x30, x31, x32, x6, hrr, hX30, bl⟩ := hI
  have bl0 := bl
  have hcnt0 := x32
  refine wp_seq ?_
  by_cases hlt : k < (Y).length
  rotate_left
  · skip
    refine wp_all_seq [.eq (.bool false)] (by kernel_rfl) (by kernel_rfl) (by rw [sz]; kernel_rfl) (by kernel_rfl) ⟨fun hw ac u K => ?_, trivial⟩ ?_
    · exact st_lss 3 (.tmp 32) (.tmp 31) rfl .i64 (((k : Nat) : Int)) ((((Y).length : Nat) : Int)) ((K.old 32 rfl).trans x32) ((K.old 31 rfl).trans x31) _ (by rw [eq_comm, decide_eq_false_iff_not]; exact fun h => hlt (Int.ofNat_lt.1 h))
    intro f15 w15 A hb
    replace bl0 := bl
    replace x0 := (A.old 0 rfl).trans x0
    replace x1 := (A.old 1 rfl).trans x1
    replace x4 := (A.old 4 rfl).trans x4
    replace x19 := (A.old 19 rfl).trans x19
    replace x5 := (A.old 5 rfl).trans x5
    replace x23 := (A.old 23 rfl).trans x23
    replace x6 := (A.old 6 rfl).trans x6
    replace x30 := (A.old 30 rfl).trans x30
    replace x31 := (A.old 31 rfl).trans x31
    replace x32 := (A.old 32 rfl).trans x32
    have x33 : f15.eval (.tmp 33) = .bool false := A.has 0 33 rfl
    replace hrr := HR.mono hrr hb
    replace hX30 := (hb.block b30 (Array.getElem?_eq_some_iff.1 hX30).1).trans hX30
    replace bl := (bl.trans (Below.mono hb bl.size))
    replace sz := A.size.trans sz
    replace df := A.defs.trans df
    clear A hb
    show Code.wp _ _ _ _ _
    refine wp_seq ?_
    refine wp_cond_false x33 ?_
    refine wp_exit ?_
    show Code.wp _ _ _ _ _
    refine wp_seq ?_
    refine wp_all_seq [.eq (.bool true), .eq (.bool true)] (by kernel_rfl) (by kernel_rfl) (by rw [sz]; kernel_rfl) (by kernel_rfl) ⟨fun hw ac u K => ?_, fun hw ac u K => ?_, trivial⟩ ?_
    · exact st_call 7 (.func 7) _ _ #[] rfl rfl rfl Tryd.enter7 (fk_of (awake_any _ (hK.below (bl.trans (Below.mono K.grow bl.size)))))
    · exact st_assign (.tmp 103) rfl (K.dep 0 103 rfl)
    intro f16 w16 A hb
    replace bl0 := bl
    replace x0 := (A.old 0 rfl).trans x0
    replace x1 := (A.old 1 rfl).trans x1
    clear x4
    replace x19 := (A.old 19 rfl).trans x19
    replace x5 := (A.old 5 rfl).trans x5
    replace x23 := (A.old 23 rfl).trans x23
    replace x6 := (A.old 6 rfl).trans x6
    replace x30 := (A.old 30 rfl).trans x30
    replace x31 := (A.old 31 rfl).trans x31
    replace x32 := (A.old 32 rfl).trans x32
    replace x33 := (A.old 33 rfl).trans x33
    have x4 : f16.eval (.tmp 4) = .bool true := A.has 1 4 rfl
    replace hrr := HR.mono hrr hb
    replace hX30 := (hb.block b30 (Array.getElem?_eq_some_iff.1 hX30).1).trans hX30
    replace bl := (bl.trans (Below.mono hb bl.size))
    replace sz := A.size.trans sz
    replace df := A.defs.trans df
    clear A hb
    show Code.wp _ _ _ _ _
    refine wp_ret ?_
    repeat (first | with_reducible refine then_ret ?_ | with_reducible refine block_ret ?_)
    exact bodyPost_ret (v := .bool true) (ret_slot rfl f16 _ x4 _ _) df ⟨rfl, bl⟩
  obtain ⟨z, hz⟩ : ∃ z, Y[k]? = some z := ⟨_, List.getElem?_eq_getElem hlt⟩
  obtain ⟨q, hq, hql⟩ := part_ex z (l.length - a)
  obtain ⟨S, eS⟩ : ∃ S, Box (sgm l a (a + q - a) = S) := ⟨_, ⟨rfl⟩⟩
  have hSl : S.length = q := by rw [← eS.out, sgm_len2 (by omega)]; omega
  have hgq : grl (a, pks l a) S = (a + q, pks l (a + q)) := by
    have h1 := grl_pks l a (by omega) ha
    have h2 := grl_pks l (a + q) (by omega) (by omega)
    have h3 : l.take (a + q) = l.take a ++ S := by rw [← eS.out]; unfold sgm; rw [List.take_add, show a + q - a = q by omega]
    rw [h3, grl_append, h1] at h2
    exact h2
  obtain ⟨Q, eQ⟩ : ∃ Q, Box (pkr 0 (a + q) = Q) := ⟨_, ⟨rfl⟩⟩
  have hQl : Q.length ≤ a + q := by rw [← eQ.out]; exact pkr_len _ _
  have hin : ∀ p ∈ Q, p.1 ≤ p.2 ∧ p.2 ≤ l.length := fun p hp => by rw [← eQ.out] at hp; have := pkr_in _ _ p hp; omega
  have hQP : rts l Q = pks l (a + q) := by rw [← eQ.out]; exact pkr_pks l (by omega)
  obtain ⟨yr, eyr⟩ : ∃ y, Box (mroot (l.take (a + q)) = y) := ⟨_, ⟨rfl⟩⟩
  have hyr : yr.length = 32 := by rw [← eyr.out]; exact mroot_len (fun x hx => hc_len hv x (List.mem_of_mem_take hx))
  have er : Box (rtp (pks l (a + q)) = yr) := ⟨by rw [rtp_pks l (by omega) (by omega)]; exact eyr.out⟩
  obtain ⟨Bt, eB⟩ : ∃ B, Box (be8 ((a + q : Nat) : Int) ++ hsb (pks l (a + q)) = B) := ⟨_, ⟨rfl⟩⟩
  have hpl := pks_len l (a + q)
  refine wp_all_seq [.eq (.bool true)] (by kernel_rfl) (by kernel_rfl) (by rw [sz]; kernel_rfl) (by kernel_rfl) ⟨fun hw ac u K => ?_, trivial⟩ ?_
  · exact st_lss 3 (.tmp 32) (.tmp 31) rfl .i64 (((k : Nat) : Int)) ((((Y).length : Nat) : Int)) ((K.old 32 rfl).trans x32) ((K.old 31 rfl).trans x31) _ (by rw [eq_comm, decide_eq_true_iff]; exact Int.ofNat_lt.2 hlt)
  intro f15 w15 A hb
  replace bl0 := bl
  replace x0 := (A.old 0 rfl).trans x0
  replace x1 := (A.old 1 rfl).trans x1
  replace x4 := (A.old 4 rfl).trans x4
  replace x19 := (A.old 19 rfl).trans x19
  replace x5 := (A.old 5 rfl).trans x5
  replace x23 := (A.old 23 rfl).trans x23
  replace x6 := (A.old 6 rfl).trans x6
  replace x30 := (A.old 30 rfl).trans x30
  replace x31 := (A.old 31 rfl).trans x31
  replace x32 := (A.old 32 rfl).trans x32
  have x33 : f15.eval (.tmp 33) = .bool true := A.has 0 33 rfl
  replace hrr := HR.mono hrr hb
  replace hX30 := (hb.block b30 (Array.getElem?_eq_some_iff.1 hX30).1).trans hX30
  replace bl := (bl.trans (Below.mono hb bl.size))
  replace sz := A.size.trans sz
  replace df := A.defs.trans df
  clear A hb
  show Code.wp _ _ _ _ _
  refine wp_seq ?_
  refine wp_cond_true x33 ?_
  refine wp_skip ?_
  show Code.wp _ _ _ _ _
  refine wp_seq ?_
  refine wp_block ?_
  refine wp_seq ?_
  refine wp_all_seq [.prg [.int .i64 (z)], .eq (.int .i64 (z)), .eq (.int .i64 (z))] (by kernel_rfl) (by kernel_rfl) (by rw [sz]; kernel_rfl) (by kernel_rfl) ⟨fun hw ac u K => ?_, fun hw ac u K => ?_, fun hw ac u K => ?_, trivial⟩ ?_
  · exact st_idxis (.tmp 30) (.tmp 32) rfl (fk_val ((K.old 30 rfl).trans x30) (his _ ((K.grow.block b30 (Array.getElem?_eq_some_iff.1 hX30).1).trans hX30))) k ((K.old 32 rfl).trans x32) z hz
  · exact st_loadr1 3 (.tmp 34) rfl (by kernel_rfl) (K.dep 0 34 rfl)
  · exact st_assign (.tmp 35) rfl (K.dep 1 35 rfl)
  intro f16 w16 A hb
  replace bl0 := bl
  replace x0 := (A.old 0 rfl).trans x0
  replace x1 := (A.old 1 rfl).trans x1
  replace x4 := (A.old 4 rfl).trans x4
  replace x19 := (A.old 19 rfl).trans x19
  replace x5 := (A.old 5 rfl).trans x5
  replace x23 := (A.old 23 rfl).trans x23
  replace x6 := (A.old 6 rfl).trans x6
  replace x30 := (A.old 30 rfl).trans x30
  replace x31 := (A.old 31 rfl).trans x31
  replace x32 := (A.old 32 rfl).trans x32
  replace x33 := (A.old 33 rfl).trans x33
  have x8 : f16.eval (.tmp 8) = .int .i64 (z) := A.has 2 8 rfl
  replace hrr := HR.mono hrr hb
  replace hX30 := (hb.block b30 (Array.getElem?_eq_some_iff.1 hX30).1).trans hX30
  replace bl := (bl.trans (Below.mono hb bl.size))
  replace sz := A.size.trans sz
  replace df := A.defs.trans df
  clear A hb
  show Code.wp _ _ _ _ _
  refine wp_seq ?_
  refine wp_region_seq [.eq (.int .i64 (z)), .eq (.int .i64 (max z 0)), .eq (.slice lA (l).length lC), .eq (.int .i64 (((l).length : Nat) : Int)), .eq (.int .i64 ((a : Nat) : Int)), .eq (.int .i64 ((l.length - a : Nat) : Int)), .eq (.int .i64 ((q : Nat) : Int))] (by kernel_rfl) (by kernel_rfl) (by rw [sz]; kernel_rfl) (by kernel_rfl) ⟨fun hw ac u K => ?_, fun hw ac u K => ?_, fun hw ac u K => ?_, fun hw ac u K => ?_, fun hw ac u K => ?_, fun hw ac u K => ?_, fun hw ac u K => ?_, trivial⟩ ?_
  · exact st_move (.tmp 8) rfl ((K.old 8 rfl).trans x8)
  · exact st_max2 (.tmp 36) (.const (.int .i64 0)) _ rfl z 0 _ (K.dep 0 36 rfl) rfl rfl
  · exact st_move (.tmp 0) rfl ((K.old 0 rfl).trans x0)
  · exact st_lenc (.tmp 38) rfl ((l).length) rfl (fk_val (K.dep 2 38 rfl) (Fk.mono _ _ _ _ hv (bl.trans (Below.mono K.grow bl.size))))
  · exact st_move (.tmp 6) rfl ((K.old 6 rfl).trans x6)
  · exact st_subz (.tmp 39) (.tmp 40) rfl _ _ _ (K.dep 3 39 rfl) (K.dep 4 40 rfl) (by omega) (by omega) (by omega)
  · exact st_min2 (.tmp 37) (.tmp 41) _ rfl _ _ _ (K.dep 1 37 rfl) (K.dep 5 41 rfl) hq
  intro f17 w17 A hb
  replace bl0 := bl
  replace x0 := (A.old 0 rfl).trans x0
  replace x1 := (A.old 1 rfl).trans x1
  replace x4 := (A.old 4 rfl).trans x4
  replace x19 := (A.old 19 rfl).trans x19
  replace x5 := (A.old 5 rfl).trans x5
  replace x23 := (A.old 23 rfl).trans x23
  replace x6 := (A.old 6 rfl).trans x6
  replace x30 := (A.old 30 rfl).trans x30
  replace x31 := (A.old 31 rfl).trans x31
  replace x32 := (A.old 32 rfl).trans x32
  replace x33 := (A.old 33 rfl).trans x33
  replace x8 := (A.old 8 rfl).trans x8
  have x42 : f17.eval (.tmp 42) = .int .i64 ((q : Nat) : Int) := A.has 6 42 rfl
  replace hrr := HR.mono hrr hb
  replace hX30 := (hb.block b30 (Array.getElem?_eq_some_iff.1 hX30).1).trans hX30
  replace bl := (bl.trans (Below.mono hb bl.size))
  replace sz := A.size.trans sz
  replace df := A.defs.trans df
  clear A hb
  refine wl_one (.eq (.int .i64 ((q : Nat) : Int))) rfl 8 rfl (by rw [sz]; decide) (st_assign (.tmp 42) rfl x42) ?_
  intro f18 w18 df2 sz2 old2 new2 hb
  replace bl0 := bl
  replace x0 := (old2 0 rfl).trans x0
  replace x1 := (old2 1 rfl).trans x1
  replace x4 := (old2 4 rfl).trans x4
  replace x19 := (old2 19 rfl).trans x19
  replace x5 := (old2 5 rfl).trans x5
  replace x23 := (old2 23 rfl).trans x23
  replace x6 := (old2 6 rfl).trans x6
  replace x30 := (old2 30 rfl).trans x30
  replace x31 := (old2 31 rfl).trans x31
  replace x32 := (old2 32 rfl).trans x32
  replace x33 := (old2 33 rfl).trans x33
  clear x8
  replace x42 := (old2 42 rfl).trans x42
  have x8 : f18.eval (.tmp 8) = .int .i64 ((q : Nat) : Int) := new2
  replace hrr := HR.mono hrr hb
  replace hX30 := (hb.block b30 (Array.getElem?_eq_some_iff.1 hX30).1).trans hX30
  replace bl := (bl.trans (Below.mono hb bl.size))
  replace sz := sz2.trans sz
  replace df := df2.trans df
  clear df2 sz2 old2 new2 hb
  refine wpList_nil ?_
  clear x42
  show Code.wp _ _ _ _ _
  refine wp_seq ?_
  refine wp_seq ?_
  refine wp_region_seq [.eq (.pointer (some ⟨gr, 0, none⟩)), .eq (.slice lA (l).length lC), .eq (.int .i64 ((a : Nat) : Int)), .eq (.int .i64 ((a : Nat) : Int)), .eq (.int .i64 ((q : Nat) : Int)), .eq (.int .i64 ((a + q : Nat) : Int)), .hq (fun b => b < w.heap.size) (S)] (by kernel_rfl) (by kernel_rfl) (by rw [sz]; kernel_rfl) (by kernel_rfl) ⟨fun hw ac u K => ?_, fun hw ac u K => ?_, fun hw ac u K => ?_, fun hw ac u K => ?_, fun hw ac u K => ?_, fun hw ac u K => ?_, fun hw ac u K => ?_, trivial⟩ ?_
  · exact st_move (.tmp 5) rfl ((K.old 5 rfl).trans x5)
  · exact st_move (.tmp 0) rfl ((K.old 0 rfl).trans x0)
  · exact st_move (.tmp 6) rfl ((K.old 6 rfl).trans x6)
  · exact st_move (.tmp 6) rfl ((K.old 6 rfl).trans x6)
  · exact st_move (.tmp 8) rfl ((K.old 8 rfl).trans x8)
  · exact st_add (.tmp 46) (.tmp 47) rfl (a) (q) (a + q) (K.dep 3 46 rfl) (K.dep 4 47 rfl) (by omega) (by omega)
  · exact by rw [← eS.out]; exact st_cutq (.tmp 44) (.tmp 45) (.tmp 48) rfl (fk_val (K.dep 1 44 rfl) (Fk.mono _ _ _ _ hv (bl.trans (Below.mono K.grow bl.size)))) a (a + q) (K.dep 2 45 rfl) (K.dep 5 48 rfl) (by omega) (by omega) (by rw [(K.dep 1 44 rfl)]; exact hvo)
  intro f19 w19 A hb
  replace bl0 := bl
  replace x0 := (A.old 0 rfl).trans x0
  replace x1 := (A.old 1 rfl).trans x1
  replace x4 := (A.old 4 rfl).trans x4
  replace x19 := (A.old 19 rfl).trans x19
  replace x5 := (A.old 5 rfl).trans x5
  replace x23 := (A.old 23 rfl).trans x23
  replace x6 := (A.old 6 rfl).trans x6
  replace x30 := (A.old 30 rfl).trans x30
  replace x31 := (A.old 31 rfl).trans x31
  replace x32 := (A.old 32 rfl).trans x32
  replace x33 := (A.old 33 rfl).trans x33
  replace x8 := (A.old 8 rfl).trans x8
  have x43 : f19.eval (.tmp 43) = .pointer (some ⟨gr, 0, none⟩) := A.has 0 43 rfl
  have x49 : Fk.f (.hq (fun b => b < w.heap.size) (S)) (f19.eval (.tmp 49)) w19 := A.has 6 49 rfl
  replace hrr := HR.mono hrr hb
  replace hX30 := (hb.block b30 (Array.getElem?_eq_some_iff.1 hX30).1).trans hX30
  replace bl := (bl.trans (Below.mono hb bl.size))
  replace sz := A.size.trans sz
  replace df := A.defs.trans df
  clear A hb
  obtain ⟨v49, e49⟩ : ∃ v, f19.eval (.tmp 49) = v := ⟨_, rfl⟩
  have hv49 := x49
  rw [e49] at hv49
  replace x49 := e49
  clear e49
  have hbs := bl.size
  have lt30 := Array.getElem?_eq_some_iff.1 hX30
  have ltr := hrr.lt
  refine wl_call 9 (.func 9) _ _ #[.pointer (some ⟨gr, 0, none⟩), v49] rfl 50 rfl (by rw [sz]; decide) rfl rfl (arg2 x43 x49) Tryd.enter9 (fun z W' => z = .int .i64 0 ∧ (∃ k', HR W' gr k' (a + q) (pks l (a + q)) ∧ (k' = km ∨ w19.heap.size ≤ k')) ∧ Kp gr km w19 W') ((c_app_ok hrr hv49.1 (by omega) (by omega) (hK.below bl) hgq (fun h0 => ⟨fun e => by have := hv49.2 h0 _ e; omega, fun e => by have := hv49.2 h0 _ e; omega⟩) ⟨by have := hK.pos; omega, by have := hK.pos; omega⟩).mono (by rintro e w' ⟨rfl, h1, h2⟩; exact ⟨_, rfl, rfl, h1, h2⟩)) ?_
  intro f20 w20 df2 sz2 old2 hR2
  obtain ⟨x50, ⟨k20, hr2, hk2⟩, hkp⟩ := hR2
  clear hv49
  replace x0 := (old2 0 rfl).trans x0
  replace x1 := (old2 1 rfl).trans x1
  replace x4 := (old2 4 rfl).trans x4
  replace x19 := (old2 19 rfl).trans x19
  replace x5 := (old2 5 rfl).trans x5
  replace x23 := (old2 23 rfl).trans x23
  replace x6 := (old2 6 rfl).trans x6
  replace x30 := (old2 30 rfl).trans x30
  replace x31 := (old2 31 rfl).trans x31
  replace x32 := (old2 32 rfl).trans x32
  replace x33 := (old2 33 rfl).trans x33
  replace x8 := (old2 8 rfl).trans x8
  replace x43 := (old2 43 rfl).trans x43
  replace x49 := (old2 49 rfl).trans x49
  replace hX30 : w20.heap[b30]? = some X30 := (hkp.block b30 lt30.1 hn1 hn2).trans hX30
  have hn3 : b30 ≠ k20 := by have := lt30.1; rcases hk2 with e | e <;> omega
  have hbm2 : w.heap.size ≤ k20 := by rcases hk2 with e | e <;> omega
  replace bl := bl.trans (hkp.below bl.size hgr hbm)
  clear hrr
  have hrr := hr2
  clear hr2 hkp hk2 hbs lt30 ltr
  replace bl0 := bl
  replace sz := sz2.trans sz
  replace df := df2.trans df
  clear df2 sz2 old2
  clear x43
  clear x49
  refine wl_one (.eq (.bool false)) rfl 51 rfl (by rw [sz]; decide) (st_neqi 27 (.tmp 50) (.const (.int .i64 0)) rfl .i64 (0) (0) x50 rfl _ (by rfl)) ?_
  intro f21 w21 df2 sz2 old2 new2 hb
  replace bl0 := bl
  replace x0 := (old2 0 rfl).trans x0
  replace x1 := (old2 1 rfl).trans x1
  replace x4 := (old2 4 rfl).trans x4
  replace x19 := (old2 19 rfl).trans x19
  replace x5 := (old2 5 rfl).trans x5
  replace x23 := (old2 23 rfl).trans x23
  replace x6 := (old2 6 rfl).trans x6
  replace x30 := (old2 30 rfl).trans x30
  replace x31 := (old2 31 rfl).trans x31
  replace x32 := (old2 32 rfl).trans x32
  replace x33 := (old2 33 rfl).trans x33
  replace x8 := (old2 8 rfl).trans x8
  replace x50 := (old2 50 rfl).trans x50
  have x51 : f21.eval (.tmp 51) = .bool false := new2
  replace hrr := HR.mono hrr hb
  replace hX30 := (hb.block b30 (Array.getElem?_eq_some_iff.1 hX30).1).trans hX30
  replace bl := (bl.trans (Below.mono hb bl.size))
  replace sz := sz2.trans sz
  replace df := df2.trans df
  clear df2 sz2 old2 new2 hb
  refine wpList_nil ?_
  clear x50
  show Code.wp _ _ _ _ _
  refine wp_cond_false x51 ?_
  refine wp_skip ?_
  show Code.wp _ _ _ _ _
  refine wp_seq ?_
  refine wp_region_seq [.eq (.int .i64 ((a : Nat) : Int)), .eq (.int .i64 ((q : Nat) : Int)), .eq (.int .i64 ((a + q : Nat) : Int))] (by kernel_rfl) (by kernel_rfl) (by rw [sz]; kernel_rfl) (by kernel_rfl) ⟨fun hw ac u K => ?_, fun hw ac u K => ?_, fun hw ac u K => ?_, trivial⟩ ?_
  · exact st_move (.tmp 6) rfl ((K.old 6 rfl).trans x6)
  · exact st_move (.tmp 8) rfl ((K.old 8 rfl).trans x8)
  · exact st_add (.tmp 52) (.tmp 53) rfl (a) (q) (a + q) (K.dep 0 52 rfl) (K.dep 1 53 rfl) (by omega) (by omega)
  intro f22 w22 A hb
  replace bl0 := bl
  replace x0 := (A.old 0 rfl).trans x0
  replace x1 := (A.old 1 rfl).trans x1
  replace x4 := (A.old 4 rfl).trans x4
  replace x19 := (A.old 19 rfl).trans x19
  replace x5 := (A.old 5 rfl).trans x5
  replace x23 := (A.old 23 rfl).trans x23
  replace x6 := (A.old 6 rfl).trans x6
  replace x30 := (A.old 30 rfl).trans x30
  replace x31 := (A.old 31 rfl).trans x31
  replace x32 := (A.old 32 rfl).trans x32
  replace x33 := (A.old 33 rfl).trans x33
  replace x8 := (A.old 8 rfl).trans x8
  replace x51 := (A.old 51 rfl).trans x51
  have x54 : f22.eval (.tmp 54) = .int .i64 ((a + q : Nat) : Int) := A.has 2 54 rfl
  replace hrr := HR.mono hrr hb
  replace hX30 := (hb.block b30 (Array.getElem?_eq_some_iff.1 hX30).1).trans hX30
  replace bl := (bl.trans (Below.mono hb bl.size))
  replace sz := A.size.trans sz
  replace df := A.defs.trans df
  clear A hb
  refine wl_one (.eq (.int .i64 ((a + q : Nat) : Int))) rfl 6 rfl (by rw [sz]; decide) (st_assign (.tmp 54) rfl x54) ?_
  intro f23 w23 df2 sz2 old2 new2 hb
  replace bl0 := bl
  replace x0 := (old2 0 rfl).trans x0
  replace x1 := (old2 1 rfl).trans x1
  replace x4 := (old2 4 rfl).trans x4
  replace x19 := (old2 19 rfl).trans x19
  replace x5 := (old2 5 rfl).trans x5
  replace x23 := (old2 23 rfl).trans x23
  clear x6
  replace x30 := (old2 30 rfl).trans x30
  replace x31 := (old2 31 rfl).trans x31
  replace x32 := (old2 32 rfl).trans x32
  replace x33 := (old2 33 rfl).trans x33
  replace x8 := (old2 8 rfl).trans x8
  replace x51 := (old2 51 rfl).trans x51
  replace x54 := (old2 54 rfl).trans x54
  have x6 : f23.eval (.tmp 6) = .int .i64 ((a + q : Nat) : Int) := new2
  replace hrr := HR.mono hrr hb
  replace hX30 := (hb.block b30 (Array.getElem?_eq_some_iff.1 hX30).1).trans hX30
  replace bl := (bl.trans (Below.mono hb bl.size))
  replace sz := sz2.trans sz
  replace df := df2.trans df
  clear df2 sz2 old2 new2 hb
  refine wpList_nil ?_
  clear x54
  show Code.wp _ _ _ _ _
  refine wp_seq ?_
  refine wp_all_seq [.eq (.slice none 0 0)] (by kernel_rfl) (by kernel_rfl) (by rw [sz]; kernel_rfl) (by kernel_rfl) ⟨fun hw ac u K => ?_, trivial⟩ ?_
  · exact st_assign (.const (.slice none 0 0)) rfl rfl
  intro f24 w24 A hb
  replace bl0 := bl
  replace x0 := (A.old 0 rfl).trans x0
  replace x1 := (A.old 1 rfl).trans x1
  replace x4 := (A.old 4 rfl).trans x4
  replace x19 := (A.old 19 rfl).trans x19
  replace x5 := (A.old 5 rfl).trans x5
  replace x23 := (A.old 23 rfl).trans x23
  replace x30 := (A.old 30 rfl).trans x30
  replace x31 := (A.old 31 rfl).trans x31
  replace x32 := (A.old 32 rfl).trans x32
  replace x33 := (A.old 33 rfl).trans x33
  replace x8 := (A.old 8 rfl).trans x8
  replace x51 := (A.old 51 rfl).trans x51
  replace x6 := (A.old 6 rfl).trans x6
  have x9 : f24.eval (.tmp 9) = .slice none 0 0 := A.has 0 9 rfl
  replace hrr := HR.mono hrr hb
  replace hX30 := (hb.block b30 (Array.getElem?_eq_some_iff.1 hX30).1).trans hX30
  replace bl := (bl.trans (Below.mono hb bl.size))
  replace sz := A.size.trans sz
  replace df := A.defs.trans df
  clear A hb
  show Code.wp _ _ _ _ _
  refine wp_seq ?_
  refine wp_seq ?_
  refine wp_all_seq [.eq (.int .i64 ((a + q : Nat) : Int)), .op w24.heap.size (Q), .eq (.int .i64 (((Q).length : Nat) : Int)), .eq (.int .i64 0)] (by kernel_rfl) (by kernel_rfl) (by rw [sz]; kernel_rfl) (by kernel_rfl) ⟨fun hw ac u K => ?_, fun hw ac u K => ?_, fun hw ac u K => ?_, fun hw ac u K => ?_, trivial⟩ ?_
  · exact st_move (.tmp 6) rfl ((K.old 6 rfl).trans x6)
  · exact st_call 10 (.func 10) _ _ #[.int .i64 ((a + q : Nat) : Int)] rfl rfl (one_arg (K.dep 0 55 rfl)) Tryd.enter10 (by rw [← eQ.out]; exact fk_orw K.grow.size (refpeaks_any _ (by omega) _))
  · exact st_lenps (.tmp 56) rfl (op_ps (K.dep 1 56 rfl))
  · exact st_move (.const (.int .i64 0)) rfl rfl
  intro f25 w25 A hb
  replace bl0 := bl
  replace x0 := (A.old 0 rfl).trans x0
  replace x1 := (A.old 1 rfl).trans x1
  replace x4 := (A.old 4 rfl).trans x4
  replace x19 := (A.old 19 rfl).trans x19
  replace x5 := (A.old 5 rfl).trans x5
  replace x23 := (A.old 23 rfl).trans x23
  replace x30 := (A.old 30 rfl).trans x30
  replace x31 := (A.old 31 rfl).trans x31
  replace x32 := (A.old 32 rfl).trans x32
  replace x33 := (A.old 33 rfl).trans x33
  replace x8 := (A.old 8 rfl).trans x8
  replace x51 := (A.old 51 rfl).trans x51
  replace x6 := (A.old 6 rfl).trans x6
  replace x9 := (A.old 9 rfl).trans x9
  have x56 : Fk.f (.op w24.heap.size (Q)) (f25.eval (.tmp 56)) w25 := A.has 1 56 rfl
  have x57 : f25.eval (.tmp 57) = .int .i64 (((Q).length : Nat) : Int) := A.has 2 57 rfl
  have x58 : f25.eval (.tmp 58) = .int .i64 0 := A.has 3 58 rfl
  replace hrr := HR.mono hrr hb
  replace hX30 := (hb.block b30 (Array.getElem?_eq_some_iff.1 hX30).1).trans hX30
  replace bl := (bl.trans (Below.mono hb bl.size))
  replace sz := A.size.trans sz
  replace df := A.defs.trans df
  clear A hb
  obtain ⟨v56, e56⟩ : ∃ v, f25.eval (.tmp 56) = v := ⟨_, rfl⟩
  have h56 := op_ps x56
  rw [e56] at h56
  replace x56 := e56
  clear e56
  have hvO := hv
  have hvsO := hvs
  have hxO := hx
  have hKO := hK
  have hrr0 := hrr
  have hX300 := hX30
  have blw := bl
  replace hv := Fk.mono _ _ _ _ hv bl
  replace hvs := Fk.mono _ _ _ _ hvs bl
  replace hx := Fk.mono _ _ _ _ hx bl
  replace hK := hK.below bl
  replace bl := Below.refl w25.heap.size w25
  replace bl0 := bl
  clear hrr hX30
  show Code.wp _ _ _ _ _
  refine wp_block ?_
  refine wp_loop (fun f v1 => ∃ k2 : Nat, k2 ≤ (Q).length ∧ f.tmps.size = 104 ∧ f.defers = [] ∧ f.eval (.tmp 0) = .slice lA (l).length lC ∧ f.eval (.tmp 1) = .slice mA (xs).length mC ∧ f.eval (.tmp 4) = .bool false ∧ f.eval (.tmp 19) = .bool false ∧ f.eval (.tmp 5) = .pointer (some ⟨gr, 0, none⟩) ∧ f.eval (.tmp 23) = .bool false ∧ f.eval (.tmp 30) = v30 ∧ f.eval (.tmp 31) = .int .i64 (((Y).length : Nat) : Int) ∧ f.eval (.tmp 32) = .int .i64 ((k : Nat) : Int) ∧ f.eval (.tmp 33) = .bool true ∧ f.eval (.tmp 8) = .int .i64 ((q : Nat) : Int) ∧ f.eval (.tmp 51) = .bool false ∧ f.eval (.tmp 6) = .int .i64 ((a + q : Nat) : Int) ∧ f.eval (.tmp 56) = v56 ∧ f.eval (.tmp 57) = .int .i64 (((Q).length : Nat) : Int) ∧ f.eval (.tmp 58) = .int .i64 ((k2 : Nat) : Int) ∧ Fk.f (.ow w25.heap.size (rts l (Q.take k2))) (f.eval (.tmp 9)) v1 ∧ Below w25.heap.size w25 (v1)) (fun f _ => (Q).length - (intOf (f.eval (.tmp 58))).toNat) ⟨0, Nat.zero_le _, sz, df, x0, x1, x4, x19, x5, x23, x30, x31, x32, x33, x8, x51, x6, x56, x57, x58, (fk_val x9 (ow_nil _ _)), bl⟩ ?_
  intro f26 w26 hI
  clear sz df bl bl0 x0 x1 x4 x19 x5 x23 x30 x31 x32 x33 x8 x51 x6 x9 x56 x57 x58
  obtain ⟨k2, hk2, sz, df, x0, x1, x4, x19, x5, x23, x30, x31, x32, x33, x8, x51, x6, x56, x57, x58, x9, bl⟩ := hI
  have bl0 := bl
  have hcnt := x58
  refine wp_seq ?_
  by_cases hlt2 : k2 < (Q).length
  rotate_left
  · skip
    have hke : k2 = (Q).length := by omega
    rw [List.take_of_length_le (by omega), hQP] at x9
    refine wp_all_seq [.eq (.bool false)] (by kernel_rfl) (by kernel_rfl) (by rw [sz]; kernel_rfl) (by kernel_rfl) ⟨fun hw ac u K => ?_, trivial⟩ ?_
    · exact st_lss 3 (.tmp 58) (.tmp 57) rfl .i64 (((k2 : Nat) : Int)) ((((Q).length : Nat) : Int)) ((K.old 58 rfl).trans x58) ((K.old 57 rfl).trans x57) _ (by rw [eq_comm, decide_eq_false_iff_not]; exact fun h => hlt2 (Int.ofNat_lt.1 h))
    intro f27 w27 A hb
    replace bl0 := bl
    replace x0 := (A.old 0 rfl).trans x0
    replace x1 := (A.old 1 rfl).trans x1
    replace x4 := (A.old 4 rfl).trans x4
    replace x19 := (A.old 19 rfl).trans x19
    replace x5 := (A.old 5 rfl).trans x5
    replace x23 := (A.old 23 rfl).trans x23
    replace x30 := (A.old 30 rfl).trans x30
    replace x31 := (A.old 31 rfl).trans x31
    replace x32 := (A.old 32 rfl).trans x32
    replace x33 := (A.old 33 rfl).trans x33
    replace x8 := (A.old 8 rfl).trans x8
    replace x51 := (A.old 51 rfl).trans x51
    replace x6 := (A.old 6 rfl).trans x6
    replace x9 := f_at (A.old 9 rfl) (Fk.mono _ _ _ _ x9 hb)
    replace x56 := (A.old 56 rfl).trans x56
    replace x57 := (A.old 57 rfl).trans x57
    replace x58 := (A.old 58 rfl).trans x58
    have x59 : f27.eval (.tmp 59) = .bool false := A.has 0 59 rfl
    replace bl := (bl.trans (Below.mono hb bl.size))
    replace sz := A.size.trans sz
    replace df := A.defs.trans df
    clear A hb
    show Code.wp _ _ _ _ _
    refine wp_seq ?_
    refine wp_cond_false x59 ?_
    refine wp_exit ?_
    show Code.wp _ _ _ _ _
    refine wp_seq ?_
    have hrr := hrr0.mono bl
    have hX30 := (bl.block b30 (Array.getElem?_eq_some_iff.1 hX300).1).trans hX300
    have hP32 := hrr.h32
    have hBl := rgb_max ((a + q : Nat) : Int) hP32 hrr.len
    rw [eB.out] at hBl
    refine wp_all [.eq (.pointer (some ⟨gr, 0, none⟩)), .eq (.int .i64 ((a + q : Nat) : Int)), .eq (.int .i64 ((a + q : Nat) : Int)), .eq (.bool false), .eq (.bool false), .eq (.pointer (some ⟨gr, 0, none⟩)), .ow w25.heap.size (pks l (a + q)), .ow w25.heap.size (pks l (a + q)), .eq (.bool true), .eq (.bool false), .eq (.bool false), .eq (.bool false), .eq (.pointer (some ⟨gr, 0, none⟩)), .eq (.agg ((yr).map V).toArray), .eq (.slice lA (l).length lC), .eq (.int .i64 ((a + q : Nat) : Int)), .hc ((l).take (a + q)), .eq (.agg ((yr).map V).toArray), .eq (.bool false), .eq (.bool false), .eq (.bool false), .eq (.pointer (some ⟨gr, 0, none⟩)), .sl (Bt), .eq (.string (str (Bt))), .eq (.int .i64 ((a + q : Nat) : Int)), .ow w25.heap.size (pks l (a + q)), .eq (.string (str (Bt))), .eq (.bool false), .eq (.bool false)] Tryd.mixed (by kernel_rfl) (by kernel_rfl) (by rw [sz]; kernel_rfl) (by kernel_rfl) ⟨fun hw ac u K => ?_, fun hw ac u K => ?_, fun hw ac u K => ?_, fun hw ac u K => ?_, fun hw ac u K => ?_, fun hw ac u K => ?_, fun hw ac u K => ?_, fun hw ac u K => ?_, fun hw ac u K => ?_, fun hw ac u K => ?_, fun hw ac u K => ?_, fun hw ac u K => ?_, fun hw ac u K => ?_, fun hw ac u K => ?_, fun hw ac u K => ?_, fun hw ac u K => ?_, fun hw ac u K => ?_, fun hw ac u K => ?_, fun hw ac u K => ?_, fun hw ac u K => ?_, fun hw ac u K => ?_, fun hw ac u K => ?_, fun hw ac u K => ?_, fun hw ac u K => ?_, fun hw ac u K => ?_, fun hw ac u K => ?_, fun hw ac u K => ?_, fun hw ac u K => ?_, fun hw ac u K => ?_, trivial⟩ ?_
    · exact st_move (.tmp 5) rfl ((K.old 5 rfl).trans x5)
    · exact st_call 12 (.func 12) _ _ #[.pointer (some ⟨gr, 0, none⟩)] rfl rfl (one_arg (K.dep 0 73 rfl)) Tryd.enter12 (fk_size (hrr.mono K.grow))
    · exact st_move (.tmp 6) rfl ((K.old 6 rfl).trans x6)
    · exact st_neqi 3 (.tmp 74) (.tmp 75) rfl .i64 (((a + q : Nat) : Int)) (((a + q : Nat) : Int)) (K.dep 1 74 rfl) (K.dep 2 75 rfl) _ (by simp)
    · exact st_move (.tmp 76) rfl (K.dep 3 76 rfl)
    · exact st_move (.tmp 5) rfl ((K.old 5 rfl).trans x5)
    · exact st_call 14 (.func 14) _ _ #[.pointer (some ⟨gr, 0, none⟩)] rfl rfl (one_arg (K.dep 5 78 rfl)) Tryd.enter14 (fk_ow (bl.trans (Below.mono K.grow bl.size)).size (fk_peaks (hrr.mono K.grow)))
    · exact st_move (.tmp 9) rfl (f_at (K.old 9 rfl) (Fk.mono _ _ _ _ x9 K.grow))
    · exact st_call 13 (.func 13) _ _ #[ac.eval (.tmp 79), ac.eval (.tmp 80)] rfl rfl (arg2 rfl rfl) Tryd.enter13 (fk_of (same_any (by omega) _ (ow_hs (K.dep 6 79 rfl)) (ow_hs (K.dep 7 80 rfl)) true (by simp)))
    · exact st_not (.tmp 81) rfl true (K.dep 8 81 rfl)
    · exact st_pick_f' (.tmp 77) (.const (.bool true)) (.tmp 82) rfl (K.dep 4 77 rfl) (K.dep 9 82 rfl)
    · exact st_move (.tmp 83) rfl (K.dep 10 83 rfl)
    · exact st_move (.tmp 5) rfl ((K.old 5 rfl).trans x5)
    · exact st_call 15 (.func 15) _ _ #[.pointer (some ⟨gr, 0, none⟩)] rfl rfl (one_arg (K.dep 12 85 rfl)) Tryd.enter15 (fk_rroot (hrr.mono K.grow) (hK.below (bl.trans (Below.mono K.grow bl.size))) er)
    · exact st_move (.tmp 0) rfl ((K.old 0 rfl).trans x0)
    · exact st_move (.tmp 6) rfl ((K.old 6 rfl).trans x6)
    · exact st_cuth (.tmp 87) (.tmp 88) rfl (fk_val (K.dep 14 87 rfl) (Fk.mono _ _ _ _ hv (bl.trans (Below.mono K.grow bl.size)))) (a + q) (K.dep 15 88 rfl) (by omega)
    · exact st_call 11 (.func 11) _ _ #[ac.eval (.tmp 89)] rfl rfl (one_arg rfl) Tryd.enter11 (fk_of (lroot_any (by rw [List.length_take]; omega) _ (K.dep 16 89 rfl) (hK.below (bl.trans (Below.mono K.grow bl.size))) eyr))
    · exact st_neqh (.tmp 86) (.tmp 90) rfl (yr) (yr) hyr hyr (K.dep 13 86 rfl) (K.dep 17 90 rfl) _ (by simp)
    · exact st_pick_f' (.tmp 84) (.const (.bool true)) (.tmp 91) rfl (K.dep 11 84 rfl) (K.dep 18 91 rfl)
    · exact st_move (.tmp 92) rfl (K.dep 19 92 rfl)
    · exact st_move (.tmp 5) rfl ((K.old 5 rfl).trans x5)
    · exact st_call 16 (.func 16) _ _ #[.pointer (some ⟨gr, 0, none⟩)] rfl rfl (one_arg (K.dep 21 94 rfl)) Tryd.enter16 (fk_slg (fk_rbytes (hrr.mono K.grow)) eB.out)
    · exact st_str (.tmp 95) rfl (by omega) (K.dep 22 95 rfl)
    · exact st_move (.tmp 6) rfl ((K.old 6 rfl).trans x6)
    · exact st_move (.tmp 9) rfl (f_at (K.old 9 rfl) (Fk.mono _ _ _ _ x9 K.grow))
    · exact st_call 17 (.func 17) _ _ #[.int .i64 ((a + q : Nat) : Int), ac.eval (.tmp 98)] rfl rfl (arg2 (K.dep 24 97 rfl) rfl) Tryd.enter17 (by rw [← eB.out]; exact fk_of (rbytes_any (by omega) _ _ (ow_hs (K.dep 25 98 rfl))))
    · exact st_nes9 (.tmp 96) (.tmp 99) rfl _ _ (K.dep 23 96 rfl) (K.dep 26 99 rfl) false (by simp)
    · exact st_pick_f' (.tmp 93) (.const (.bool true)) (.tmp 100) rfl (K.dep 20 93 rfl) (K.dep 27 100 rfl)
    intro f28 w28 A hb
    replace bl0 := bl
    replace x0 := (A.old 0 rfl).trans x0
    replace x1 := (A.old 1 rfl).trans x1
    replace x4 := (A.old 4 rfl).trans x4
    replace x19 := (A.old 19 rfl).trans x19
    replace x5 := (A.old 5 rfl).trans x5
    replace x23 := (A.old 23 rfl).trans x23
    replace x30 := (A.old 30 rfl).trans x30
    replace x31 := (A.old 31 rfl).trans x31
    replace x32 := (A.old 32 rfl).trans x32
    replace x33 := (A.old 33 rfl).trans x33
    replace x8 := (A.old 8 rfl).trans x8
    replace x51 := (A.old 51 rfl).trans x51
    replace x6 := (A.old 6 rfl).trans x6
    replace x9 := f_at (A.old 9 rfl) (Fk.mono _ _ _ _ x9 hb)
    replace x56 := (A.old 56 rfl).trans x56
    replace x57 := (A.old 57 rfl).trans x57
    replace x58 := (A.old 58 rfl).trans x58
    replace x59 := (A.old 59 rfl).trans x59
    have x101 : f28.eval (.tmp 101) = .bool false := A.has 28 101 rfl
    replace hrr := HR.mono hrr hb
    replace hX30 := (hb.block b30 (Array.getElem?_eq_some_iff.1 hX30).1).trans hX30
    replace bl := (bl.trans (Below.mono hb bl.size))
    replace sz := A.size.trans sz
    replace df := A.defs.trans df
    clear A hb
    show Code.wp _ _ _ _ _
    refine wp_cond_false x101 ?_
    refine wp_skip ?_
    show Code.wp _ _ _ _ _
    clear x9
    clear hrr0 hX300
    replace bl := blw.trans (Below.mono bl blw.size)
    replace bl0 := bl
    clear hv
    have hv := hvO
    clear hvO
    clear hvs
    have hvs := hvsO
    clear hvsO
    clear hx
    have hx := hxO
    clear hxO
    clear hK
    have hK := hKO
    clear hKO
    refine wp_region_seq [.eq (.int .i64 ((k + 1 : Nat) : Int))] (by kernel_rfl) (by kernel_rfl) (by rw [sz]; kernel_rfl) (by kernel_rfl) ⟨fun hw ac u K => ?_, trivial⟩ ?_
    · exact st_add (.tmp 32) (.const (.int .i64 1)) rfl (k) (1) (k + 1) ((K.old 32 rfl).trans x32) rfl (by omega) (by omega)
    intro f29 w29 A hb
    replace bl0 := bl
    replace x0 := (A.old 0 rfl).trans x0
    replace x1 := (A.old 1 rfl).trans x1
    replace x4 := (A.old 4 rfl).trans x4
    replace x19 := (A.old 19 rfl).trans x19
    replace x5 := (A.old 5 rfl).trans x5
    replace x23 := (A.old 23 rfl).trans x23
    replace x30 := (A.old 30 rfl).trans x30
    replace x31 := (A.old 31 rfl).trans x31
    replace x32 := (A.old 32 rfl).trans x32
    replace x33 := (A.old 33 rfl).trans x33
    replace x8 := (A.old 8 rfl).trans x8
    replace x51 := (A.old 51 rfl).trans x51
    replace x6 := (A.old 6 rfl).trans x6
    replace x56 := (A.old 56 rfl).trans x56
    replace x57 := (A.old 57 rfl).trans x57
    replace x58 := (A.old 58 rfl).trans x58
    replace x59 := (A.old 59 rfl).trans x59
    replace x101 := (A.old 101 rfl).trans x101
    have x102 : f29.eval (.tmp 102) = .int .i64 ((k + 1 : Nat) : Int) := A.has 0 102 rfl
    replace hrr := HR.mono hrr hb
    replace hX30 := (hb.block b30 (Array.getElem?_eq_some_iff.1 hX30).1).trans hX30
    replace bl := (bl.trans (Below.mono hb bl.size))
    replace sz := A.size.trans sz
    replace df := A.defs.trans df
    clear A hb
    refine wl_one (.eq (.int .i64 ((k + 1 : Nat) : Int))) rfl 32 rfl (by rw [sz]; decide) (st_move (.tmp 102) rfl x102) ?_
    intro f30 w30 df2 sz2 old2 new2 hb
    replace bl0 := bl
    replace x0 := (old2 0 rfl).trans x0
    replace x1 := (old2 1 rfl).trans x1
    replace x4 := (old2 4 rfl).trans x4
    replace x19 := (old2 19 rfl).trans x19
    replace x5 := (old2 5 rfl).trans x5
    replace x23 := (old2 23 rfl).trans x23
    replace x30 := (old2 30 rfl).trans x30
    replace x31 := (old2 31 rfl).trans x31
    clear x32
    replace x33 := (old2 33 rfl).trans x33
    replace x8 := (old2 8 rfl).trans x8
    replace x51 := (old2 51 rfl).trans x51
    replace x6 := (old2 6 rfl).trans x6
    replace x56 := (old2 56 rfl).trans x56
    replace x57 := (old2 57 rfl).trans x57
    replace x58 := (old2 58 rfl).trans x58
    replace x59 := (old2 59 rfl).trans x59
    replace x101 := (old2 101 rfl).trans x101
    replace x102 := (old2 102 rfl).trans x102
    have x32 : f30.eval (.tmp 32) = .int .i64 ((k + 1 : Nat) : Int) := new2
    replace hrr := HR.mono hrr hb
    replace hX30 := (hb.block b30 (Array.getElem?_eq_some_iff.1 hX30).1).trans hX30
    replace bl := (bl.trans (Below.mono hb bl.size))
    replace sz := sz2.trans sz
    replace df := df2.trans df
    clear df2 sz2 old2 new2 hb
    refine wpList_nil ?_
    clear x102
    show (∃ _, _) ∧ _
    refine ⟨⟨k + 1, a + q, k20, (by omega), (by omega), hbm2, hn3, sz, df, x0, x1, x4, x19, x5, x23, x30, x31, x32, x6, hrr, hX30, bl⟩, ?_⟩
    rw [show f30.eval (.tmp 32) = _ from x32, show _ = _ from hcnt0]
    simp [intOf]
    omega
  obtain ⟨p, hpk⟩ : ∃ p, Q[k2]? = some p := ⟨_, List.getElem?_eq_getElem hlt2⟩
  obtain ⟨hp1, hp2⟩ := hin p (List.mem_of_getElem? hpk)
  obtain ⟨y, ey⟩ : ∃ y, Box (mroot (sgm l p.1 (p.2 - p.1)) = y) := ⟨_, ⟨rfl⟩⟩
  have hy : y.length = 32 := by rw [← ey.out]; exact mroot_len (fun x hx => hc_len hv x (sgm_mem hx))
  refine wp_all_seq [.eq (.bool true)] (by kernel_rfl) (by kernel_rfl) (by rw [sz]; kernel_rfl) (by kernel_rfl) ⟨fun hw ac u K => ?_, trivial⟩ ?_
  · exact st_lss 3 (.tmp 58) (.tmp 57) rfl .i64 (((k2 : Nat) : Int)) ((((Q).length : Nat) : Int)) ((K.old 58 rfl).trans x58) ((K.old 57 rfl).trans x57) _ (by rw [eq_comm, decide_eq_true_iff]; exact Int.ofNat_lt.2 hlt2)
  intro f27 w27 A hb
  replace bl0 := bl
  replace x0 := (A.old 0 rfl).trans x0
  replace x1 := (A.old 1 rfl).trans x1
  replace x4 := (A.old 4 rfl).trans x4
  replace x19 := (A.old 19 rfl).trans x19
  replace x5 := (A.old 5 rfl).trans x5
  replace x23 := (A.old 23 rfl).trans x23
  replace x30 := (A.old 30 rfl).trans x30
  replace x31 := (A.old 31 rfl).trans x31
  replace x32 := (A.old 32 rfl).trans x32
  replace x33 := (A.old 33 rfl).trans x33
  replace x8 := (A.old 8 rfl).trans x8
  replace x51 := (A.old 51 rfl).trans x51
  replace x6 := (A.old 6 rfl).trans x6
  replace x9 := f_at (A.old 9 rfl) (Fk.mono _ _ _ _ x9 hb)
  replace x56 := (A.old 56 rfl).trans x56
  replace x57 := (A.old 57 rfl).trans x57
  replace x58 := (A.old 58 rfl).trans x58
  have x59 : f27.eval (.tmp 59) = .bool true := A.has 0 59 rfl
  replace bl := (bl.trans (Below.mono hb bl.size))
  replace sz := A.size.trans sz
  replace df := A.defs.trans df
  clear A hb
  show Code.wp _ _ _ _ _
  refine wp_seq ?_
  refine wp_cond_true x59 ?_
  refine wp_skip ?_
  show Code.wp _ _ _ _ _
  refine wp_seq ?_
  refine wp_block ?_
  refine wp_seq ?_
  refine wp_region_seq [.prg [.int .i64 ((p.1 : Nat) : Int), .int .i64 ((p.2 : Nat) : Int)], .eq (.agg ([.int .i64 ((p.1 : Nat) : Int), .int .i64 ((p.2 : Nat) : Int)] : List Value).toArray)] (by kernel_rfl) (by kernel_rfl) (by rw [sz]; kernel_rfl) (by kernel_rfl) ⟨fun hw ac u K => ?_, fun hw ac u K => ?_, trivial⟩ ?_
  · exact st_idxps (.tmp 56) (.tmp 58) rfl (fk_val ((K.old 56 rfl).trans x56) (Fk.mono _ _ _ _ h56 (bl.trans (Below.mono K.grow bl.size)))) k2 ((K.old 58 rfl).trans x58) p hpk
  · exact st_loadr 31 (.tmp 60) rfl _ (by kernel_rfl) (by kernel_rfl) (K.dep 0 60 rfl)
  intro f28 w28 A hb
  have S_x9 : Fk.f (.ow w25.heap.size (rts l (Q.take k2))) (f28.eval (.tmp 9)) w27 := f_at (A.old 9 rfl) x9
  have hbS0 := Below.refl w27.heap.size w27
  have hbS := hb
  replace bl0 := bl
  replace x0 := (A.old 0 rfl).trans x0
  replace x1 := (A.old 1 rfl).trans x1
  replace x4 := (A.old 4 rfl).trans x4
  replace x19 := (A.old 19 rfl).trans x19
  replace x5 := (A.old 5 rfl).trans x5
  replace x23 := (A.old 23 rfl).trans x23
  replace x30 := (A.old 30 rfl).trans x30
  replace x31 := (A.old 31 rfl).trans x31
  replace x32 := (A.old 32 rfl).trans x32
  replace x33 := (A.old 33 rfl).trans x33
  replace x8 := (A.old 8 rfl).trans x8
  replace x51 := (A.old 51 rfl).trans x51
  replace x6 := (A.old 6 rfl).trans x6
  replace x9 := f_at (A.old 9 rfl) (Fk.mono _ _ _ _ x9 hb)
  replace x56 := (A.old 56 rfl).trans x56
  replace x57 := (A.old 57 rfl).trans x57
  replace x58 := (A.old 58 rfl).trans x58
  replace x59 := (A.old 59 rfl).trans x59
  have x61 : f28.eval (.tmp 61) = .agg ([.int .i64 ((p.1 : Nat) : Int), .int .i64 ((p.2 : Nat) : Int)] : List Value).toArray := A.has 1 61 rfl
  replace bl := (bl.trans (Below.mono hb bl.size))
  replace sz := A.size.trans sz
  replace df := A.defs.trans df
  clear A hb
  refine wl_one (.nw w28.heap.size 31 [.int .i64 0, .int .i64 0]) rfl 11 rfl (by rw [sz]; decide) (st_alloc 31 rfl _ _ (by kernel_rfl) (Nat.le_refl _)) ?_
  intro f29 w29 df2 sz2 old2 new2 hb
  replace hbS0 := hbS
  replace hbS := hbS.trans (Below.mono hb hbS.size)
  replace S_x9 := f_at (old2 9 rfl) S_x9
  replace bl0 := bl
  replace x0 := (old2 0 rfl).trans x0
  replace x1 := (old2 1 rfl).trans x1
  replace x4 := (old2 4 rfl).trans x4
  replace x19 := (old2 19 rfl).trans x19
  replace x5 := (old2 5 rfl).trans x5
  replace x23 := (old2 23 rfl).trans x23
  replace x30 := (old2 30 rfl).trans x30
  replace x31 := (old2 31 rfl).trans x31
  replace x32 := (old2 32 rfl).trans x32
  replace x33 := (old2 33 rfl).trans x33
  replace x8 := (old2 8 rfl).trans x8
  replace x51 := (old2 51 rfl).trans x51
  replace x6 := (old2 6 rfl).trans x6
  replace x9 := f_at (old2 9 rfl) (Fk.mono _ _ _ _ x9 hb)
  replace x56 := (old2 56 rfl).trans x56
  replace x57 := (old2 57 rfl).trans x57
  replace x58 := (old2 58 rfl).trans x58
  replace x59 := (old2 59 rfl).trans x59
  replace x61 := (old2 61 rfl).trans x61
  have x11 : Fk.f (.nw w28.heap.size 31 [.int .i64 0, .int .i64 0]) (f29.eval (.tmp 11)) w29 := new2
  replace bl := (bl.trans (Below.mono hb bl.size))
  replace sz := sz2.trans sz
  replace df := df2.trans df
  clear df2 sz2 old2 new2 hb
  obtain ⟨g11, hg11, e11, m11⟩ := x11
  have x11 := e11
  clear e11
  have hw11 : w25.heap.size ≤ g11 := Nat.le_trans bl0.size hg11
  have hs11 := Nat.le_trans hbS0.size hg11
  refine wl_str rfl 31 (.tmp 11) (.tmp 61) rfl rfl (g11) ([.int .i64 ((p.1 : Nat) : Int), .int .i64 ((p.2 : Nat) : Int)] : List Value).toArray x11 x61 31 _ m11 (by kernel_rfl) (by kernel_rfl) (by kernel_rfl) ?_
  replace m11 : Ob (w29.setRow g11 ([.int .i64 ((p.1 : Nat) : Int), .int .i64 ((p.2 : Nat) : Int)] : List Value).toArray) (g11) 31 ([.int .i64 ((p.1 : Nat) : Int), .int .i64 ((p.2 : Nat) : Int)]) := Ob.setRow m11 ([.int .i64 ((p.1 : Nat) : Int), .int .i64 ((p.2 : Nat) : Int)])
  replace hbS : Below _ _ (w29.setRow g11 ([.int .i64 ((p.1 : Nat) : Int), .int .i64 ((p.2 : Nat) : Int)] : List Value).toArray) := hbS.trans (below_setRow _ _ _ _ hs11)
  replace bl : Below w25.heap.size w25 (w29.setRow g11 ([.int .i64 ((p.1 : Nat) : Int), .int .i64 ((p.2 : Nat) : Int)] : List Value).toArray) := bl.trans (below_setRow _ _ _ _ hw11)
  generalize w29.setRow g11 ([.int .i64 ((p.1 : Nat) : Int), .int .i64 ((p.2 : Nat) : Int)] : List Value).toArray = w30b at bl m11 hbS ⊢
  replace x9 : Fk.f (.ow w25.heap.size (rts l (Q.take k2))) (f29.eval (.tmp 9)) w30b := Fk.mono _ _ _ _ S_x9 hbS
  refine wpList_nil ?_
  clear hbS hbS0 S_x9
  clear x61
  show Code.wp _ _ _ _ _
  refine wp_region_seq [.ow w25.heap.size (rts l (Q.take k2)), .eq (.slice lA (l).length lC), .eq (.pointer (some ⟨g11, 0, none⟩)), .eq (.int .i64 ((p.1 : Nat) : Int)), .eq (.pointer (some ⟨g11, 1, none⟩)), .eq (.int .i64 ((p.2 : Nat) : Int)), .hc (sgm l p.1 (p.2 - p.1)), .eq (.agg ((y).map V).toArray), .hs ([y])] (by kernel_rfl) (by kernel_rfl) (by rw [sz]; kernel_rfl) (by kernel_rfl) ⟨fun hw ac u K => ?_, fun hw ac u K => ?_, fun hw ac u K => ?_, fun hw ac u K => ?_, fun hw ac u K => ?_, fun hw ac u K => ?_, fun hw ac u K => ?_, fun hw ac u K => ?_, fun hw ac u K => ?_, trivial⟩ ?_
  · exact st_move (.tmp 9) rfl (f_at (K.old 9 rfl) (Fk.mono _ _ _ _ x9 K.grow))
  · exact st_move (.tmp 0) rfl ((K.old 0 rfl).trans x0)
  · exact st_idxa (.tmp 11) (.const (.int .i64 0)) rfl ((K.old 11 rfl).trans x11) (by kernel_rfl)
  · exact st_loadc 3 (.tmp 64) rfl (by kernel_rfl) (K.dep 2 64 rfl) (Ob.cell (Ob.below m11 K.grow) 0 rfl)
  · exact st_idxa (.tmp 11) (.const (.int .i64 1)) rfl ((K.old 11 rfl).trans x11) (by kernel_rfl)
  · exact st_loadc 3 (.tmp 66) rfl (by kernel_rfl) (K.dep 4 66 rfl) (Ob.cell (Ob.below m11 K.grow) 1 rfl)
  · exact st_cut2 (.tmp 63) (.tmp 65) (.tmp 67) rfl (fk_val (K.dep 1 63 rfl) (Fk.mono _ _ _ _ hv (bl.trans (Below.mono K.grow bl.size)))) p.1 p.2 (K.dep 3 65 rfl) (K.dep 5 67 rfl) hp1 hp2
  · exact st_call 11 (.func 11) _ _ #[ac.eval (.tmp 68)] rfl rfl (one_arg rfl) Tryd.enter11 (fk_of (lroot_any (by rw [sgm_len2 hp2]; omega) _ (K.dep 6 68 rfl) (hK.below (bl.trans (Below.mono K.grow bl.size))) ey))
  · exact st_bh1 (.tmp 69) rfl hy (K.dep 7 69 rfl)
  intro f31 w31 A hb
  replace bl0 := bl
  replace x0 := (A.old 0 rfl).trans x0
  replace x1 := (A.old 1 rfl).trans x1
  replace x4 := (A.old 4 rfl).trans x4
  replace x19 := (A.old 19 rfl).trans x19
  replace x5 := (A.old 5 rfl).trans x5
  replace x23 := (A.old 23 rfl).trans x23
  replace x30 := (A.old 30 rfl).trans x30
  replace x31 := (A.old 31 rfl).trans x31
  replace x32 := (A.old 32 rfl).trans x32
  replace x33 := (A.old 33 rfl).trans x33
  replace x8 := (A.old 8 rfl).trans x8
  replace x51 := (A.old 51 rfl).trans x51
  replace x6 := (A.old 6 rfl).trans x6
  replace x9 := f_at (A.old 9 rfl) (Fk.mono _ _ _ _ x9 hb)
  replace x56 := (A.old 56 rfl).trans x56
  replace x57 := (A.old 57 rfl).trans x57
  replace x58 := (A.old 58 rfl).trans x58
  replace x59 := (A.old 59 rfl).trans x59
  replace x11 := (A.old 11 rfl).trans x11
  have x62 : Fk.f (.ow w25.heap.size (rts l (Q.take k2))) (f31.eval (.tmp 62)) w31 := A.has 0 62 rfl
  have x70 : Fk.f (.hs ([y])) (f31.eval (.tmp 70)) w31 := A.has 8 70 rfl
  have lt_m11 := Ob.lt m11
  replace m11 := Ob.below m11 hb
  replace bl := (bl.trans (Below.mono hb bl.size))
  replace sz := A.size.trans sz
  replace df := A.defs.trans df
  clear A hb
  refine wl_append rfl (.tmp 62) (.tmp 70) rfl 71 rfl (by rw [sz]; decide) x62 x70 bl (by rw [rts_len, List.length_take]; omega) ?_
  intro f32 w32 df2 sz2 old2 new2 bl2
  clear x9
  clear x62
  clear x70
  replace x0 := (old2 0 rfl).trans x0
  replace x1 := (old2 1 rfl).trans x1
  replace x4 := (old2 4 rfl).trans x4
  replace x19 := (old2 19 rfl).trans x19
  replace x5 := (old2 5 rfl).trans x5
  replace x23 := (old2 23 rfl).trans x23
  replace x30 := (old2 30 rfl).trans x30
  replace x31 := (old2 31 rfl).trans x31
  replace x32 := (old2 32 rfl).trans x32
  replace x33 := (old2 33 rfl).trans x33
  replace x8 := (old2 8 rfl).trans x8
  replace x51 := (old2 51 rfl).trans x51
  replace x6 := (old2 6 rfl).trans x6
  replace x56 := (old2 56 rfl).trans x56
  replace x57 := (old2 57 rfl).trans x57
  replace x58 := (old2 58 rfl).trans x58
  replace x59 := (old2 59 rfl).trans x59
  replace x11 := (old2 11 rfl).trans x11
  clear m11
  have x71 : Fk.f (.ow w25.heap.size (rts l (Q.take k2) ++ [y])) (f32.eval (.tmp 71)) w32 := new2
  replace bl := bl2
  replace bl0 := bl
  replace sz := sz2.trans sz
  replace df := df2.trans df
  clear df2 sz2 old2 new2 bl2
  refine wl_one (.ow w25.heap.size (rts l (Q.take k2) ++ [y])) rfl 9 rfl (by rw [sz]; decide) (st_assign (.tmp 71) rfl x71) ?_
  intro f33 w33 df2 sz2 old2 new2 hb
  replace bl0 := bl
  replace x0 := (old2 0 rfl).trans x0
  replace x1 := (old2 1 rfl).trans x1
  replace x4 := (old2 4 rfl).trans x4
  replace x19 := (old2 19 rfl).trans x19
  replace x5 := (old2 5 rfl).trans x5
  replace x23 := (old2 23 rfl).trans x23
  replace x30 := (old2 30 rfl).trans x30
  replace x31 := (old2 31 rfl).trans x31
  replace x32 := (old2 32 rfl).trans x32
  replace x33 := (old2 33 rfl).trans x33
  replace x8 := (old2 8 rfl).trans x8
  replace x51 := (old2 51 rfl).trans x51
  replace x6 := (old2 6 rfl).trans x6
  replace x56 := (old2 56 rfl).trans x56
  replace x57 := (old2 57 rfl).trans x57
  replace x58 := (old2 58 rfl).trans x58
  replace x59 := (old2 59 rfl).trans x59
  replace x11 := (old2 11 rfl).trans x11
  replace x71 := f_at (old2 71 rfl) (Fk.mono _ _ _ _ x71 hb)
  have x9 : Fk.f (.ow w25.heap.size (rts l (Q.take k2) ++ [y])) (f33.eval (.tmp 9)) w33 := new2
  replace bl := (bl.trans (Below.mono hb bl.size))
  replace sz := sz2.trans sz
  replace df := df2.trans df
  clear df2 sz2 old2 new2 hb
  refine wpList_nil ?_
  clear x71
  show Code.wp _ _ _ _ _
  refine wp_region_seq [.eq (.int .i64 ((k2 + 1 : Nat) : Int))] (by kernel_rfl) (by kernel_rfl) (by rw [sz]; kernel_rfl) (by kernel_rfl) ⟨fun hw ac u K => ?_, trivial⟩ ?_
  · exact st_add (.tmp 58) (.const (.int .i64 1)) rfl (k2) (1) (k2 + 1) ((K.old 58 rfl).trans x58) rfl (by omega) (by omega)
  intro f34 w34 A hb
  replace bl0 := bl
  replace x0 := (A.old 0 rfl).trans x0
  replace x1 := (A.old 1 rfl).trans x1
  replace x4 := (A.old 4 rfl).trans x4
  replace x19 := (A.old 19 rfl).trans x19
  replace x5 := (A.old 5 rfl).trans x5
  replace x23 := (A.old 23 rfl).trans x23
  replace x30 := (A.old 30 rfl).trans x30
  replace x31 := (A.old 31 rfl).trans x31
  replace x32 := (A.old 32 rfl).trans x32
  replace x33 := (A.old 33 rfl).trans x33
  replace x8 := (A.old 8 rfl).trans x8
  replace x51 := (A.old 51 rfl).trans x51
  replace x6 := (A.old 6 rfl).trans x6
  replace x56 := (A.old 56 rfl).trans x56
  replace x57 := (A.old 57 rfl).trans x57
  replace x58 := (A.old 58 rfl).trans x58
  replace x59 := (A.old 59 rfl).trans x59
  replace x11 := (A.old 11 rfl).trans x11
  replace x9 := f_at (A.old 9 rfl) (Fk.mono _ _ _ _ x9 hb)
  have x72 : f34.eval (.tmp 72) = .int .i64 ((k2 + 1 : Nat) : Int) := A.has 0 72 rfl
  replace bl := (bl.trans (Below.mono hb bl.size))
  replace sz := A.size.trans sz
  replace df := A.defs.trans df
  clear A hb
  refine wl_one (.eq (.int .i64 ((k2 + 1 : Nat) : Int))) rfl 58 rfl (by rw [sz]; decide) (st_move (.tmp 72) rfl x72) ?_
  intro f35 w35 df2 sz2 old2 new2 hb
  replace bl0 := bl
  replace x0 := (old2 0 rfl).trans x0
  replace x1 := (old2 1 rfl).trans x1
  replace x4 := (old2 4 rfl).trans x4
  replace x19 := (old2 19 rfl).trans x19
  replace x5 := (old2 5 rfl).trans x5
  replace x23 := (old2 23 rfl).trans x23
  replace x30 := (old2 30 rfl).trans x30
  replace x31 := (old2 31 rfl).trans x31
  replace x32 := (old2 32 rfl).trans x32
  replace x33 := (old2 33 rfl).trans x33
  replace x8 := (old2 8 rfl).trans x8
  replace x51 := (old2 51 rfl).trans x51
  replace x6 := (old2 6 rfl).trans x6
  replace x56 := (old2 56 rfl).trans x56
  replace x57 := (old2 57 rfl).trans x57
  clear x58
  replace x59 := (old2 59 rfl).trans x59
  replace x11 := (old2 11 rfl).trans x11
  replace x9 := f_at (old2 9 rfl) (Fk.mono _ _ _ _ x9 hb)
  replace x72 := (old2 72 rfl).trans x72
  have x58 : f35.eval (.tmp 58) = .int .i64 ((k2 + 1 : Nat) : Int) := new2
  replace bl := (bl.trans (Below.mono hb bl.size))
  replace sz := sz2.trans sz
  replace df := df2.trans df
  clear df2 sz2 old2 new2 hb
  refine wpList_nil ?_
  clear x72
  show (∃ _, _) ∧ _
  replace x9 : Fk.f (.ow w25.heap.size (rts l (Q.take (k2 + 1)))) (f35.eval (.tmp 9)) w35 := (by rw [rts_succ l hpk, ey.out]; exact x9)
  refine ⟨⟨k2 + 1, by omega, sz, df, x0, x1, x4, x19, x5, x23, x30, x31, x32, x33, x8, x51, x6, x56, x57, x58, x9, bl⟩, ?_⟩
  rw [show f35.eval (.tmp 58) = _ from x58, show _ = _ from hcnt]
  simp [intOf]
  omega
theorem grows_law {l : List (List (BitVec 8))} {xs : List Int} {lA mA : Option Addr} {lC mC : Nat} (w : World) (hK : Tab w) (hv : (Fk.hc l).f (.slice lA (l).length lC) w) (hx : (Fk.is xs).f (.slice mA (xs).length mC) w) (hmA : mA = none → mC = 0) :
    Calls Tryd.prog 3 #[.slice lA (l).length lC, .slice mA (xs).length mC] w fun e w' => e = .returned (.bool true) ∧ Below w.heap.size w w' := by
  by_cases h : 70 < l.length ∨ 70 < xs.length
  · exact grows_pass w hK hv hx h
  · exact grows_main w hK hv hx (by omega) (by omega) hmA
end Go.Proofs.YtnppjlpnfijobaaDoor
namespace Go.Proofs.YtnppjlpnfijobaaDoor
set_option maxRecDepth 100000
open Go.ChangeShapes Go.WideShapes Go.ChangeAt Go.RowKit

theorem own : ownKnob Tryd.prog.godebug = none := by kernel_rfl
theorem laidOut : laidOutB Tryd.prog = true := by kernel_rfl
theorem gK : Tryd.prog.globalNamed "syngraph/sha.roundNumbers" = some 2 := by kernel_rfl
theorem tK : (Tryd.prog.globals[2]?).map (·.type) = some 99 := by kernel_rfl
theorem cells88 : Tryd.prog.cellsOf 88 = 1 := by kernel_rfl
theorem cells99 : Tryd.prog.cellsOf 99 = 64 := by kernel_rfl
theorem cells5 : Tryd.prog.cellsOf 5 = 1 := by kernel_rfl
theorem cells33 : Tryd.prog.cellsOf 33 = 32 := by kernel_rfl
theorem under88 : Tryd.prog.underlying 88 = some (.int .u32) := by kernel_rfl
end Go.Proofs.YtnppjlpnfijobaaDoor
namespace Go.Proofs.YtnppjlpnfijobaaDoor
set_option maxRecDepth 100000
open Go.ChangeShapes Go.WideShapes Go.ChangeAt Go.RowKit
theorem bv_ofInt (z : Int) (h0 : 0 ≤ z) (h1 : z < 256) : bv (BitVec.ofInt 8 z) = z := by
  unfold bv
  rw [BitVec.toNat_ofInt]
  omega
end Go.Proofs.YtnppjlpnfijobaaDoor
namespace Go.Proofs.YtnppjlpnfijobaaDoor
set_option maxRecDepth 100000
open Go.ChangeShapes Go.WideShapes Go.ChangeAt Go.RowKit
theorem add_plain {w : World} {x : Addr} {v : Value} (h : w.cell? x = some v) : ∀ i, x.add i = ⟨x.block, x.off + i, none⟩ := by
  have hspot : x.spot = none := by
    unfold World.cell? at h
    split at h
    · split at h
      · cases h
      · rename_i h2; simpa using h2
    · cases h
  intro i
  unfold Addr.add
  split
  · rename_i h2; subst h2; rw [Nat.add_zero, ← hspot]
  · rfl
theorem Tryd.under22 : Tryd.prog.underlying 22 = some (.slice 33) := by kernel_rfl
theorem hl_of {H : Type} {enc : TypeId × Value → H} {W : World} {A : Option Addr} {N C : Nat} {d : DataW H} {p : List MemPlace}
    (h : DataW.Trod enc Tryd.prog W 0 (fun _ => true) true 22 (.slice A N C) d p) : ∃ lb lo hs, Hl W A lb lo hs ∧ N = hs.length ∧ N ≤ maxLen := by
  obtain ⟨fuel, hf⟩ := h
  rcases Deep.open_slice Tryd.under22 hf with ⟨hcs, _⟩ | ⟨a, len, cap, m, n, D, Pl, hcs, _, hl, hm, hmm, _, hel⟩
  · simp [Value.cells] at hcs
    obtain ⟨rfl, rfl, rfl⟩ := hcs
    exact ⟨0, 0, [], ⟨fun h => absurd h (by simp), fun h => absurd h (by simp), fun i x hi => by simp at hi⟩, rfl, by unfold maxLen; omega⟩
  · simp [Value.cells] at hcs
    obtain ⟨rfl, rfl, rfl⟩ := hcs
    have hmc : m = C := by simpa using hmm
    subst hmc
    rw [cells33] at hel
    obtain ⟨F, hF⟩ := Deep.choose_lt (α := List (BitVec 8)) (n := N) (p := fun i x => x.length = 32 ∧ ∀ j, j < 32 → W.cell? (a.add (i * 32 + j)) = some (.int .u8 (bv (x.getD j 0)))) (fun i hi => by
      obtain ⟨cs', h1, h2⟩ := hel i (by omega)
      obtain ⟨_, hlen, hcell⟩ := World.cells?_some h1
      obtain ⟨ys, m', _, _, hl', hn, hel'⟩ := DataW.trod_array Tryd.under33 h2
      have hz : ∀ j, j < 32 → ∃ z : Int, cs'[j]? = some (.int .u8 z) ∧ 0 ≤ z ∧ z < 256 := fun j hj => by
        have h3 := hel' j hj
        rw [cells5, List.getElem?_eq_getElem (by omega)] at h3
        obtain ⟨z, hc, _, hw⟩ := DataW.trod_int Tryd.under5 h3
        refine ⟨z, ?_, ?_⟩
        · have := congrArg (·[0]?) hc
          simpa [List.getElem?_take, List.getElem?_drop, Value.cells] using this
        · have := bounds_u8 hw
          omega
      refine ⟨cs'.map fun v => match v with | .int _ z => BitVec.ofInt 8 z | _ => 0, by rw [List.length_map]; exact hlen, fun j hj => ?_⟩
      obtain ⟨z, hz1, h0, h256⟩ := hz j hj
      rw [← Deep.add_add, hcell j hj, hz1]
      have : bv (BitVec.ofInt 8 z) = z := bv_ofInt z h0 h256
      simp [hz1, this])
    have hbase : 0 < N → ∀ i, a.add i = ⟨a.block, a.off + i, none⟩ := fun hp => by
      have h0 := (hF 0 hp).2 0 (by omega)
      have e0 : a.add (0 * 32 + 0) = a := by simp [Addr.add]
      rw [e0] at h0
      exact add_plain h0
    refine ⟨a.block, a.off, (List.range N).map F, ⟨fun hp => ?_, fun hp => ?_, fun i x hi => ?_⟩, by simp, by unfold maxLen at *; omega⟩
    · rw [List.length_map, List.length_range] at hp
      have := hbase hp 0
      have e0 : a.add 0 = a := by simp [Addr.add]
      rw [e0, Nat.add_zero] at this
      rw [← this]
    · rw [List.length_map, List.length_range] at hp
      have h0 := (hF 0 hp).2 0 (by omega)
      have e0 : a.add (0 * 32 + 0) = a := by simp [Addr.add]
      rw [e0] at h0
      exact block_lt_of_cell h0
    · obtain ⟨h1, h2⟩ := List.getElem?_eq_some_iff.1 hi
      have hiN : i < N := by simpa using h1
      have e : x = F i := by rw [← h2]; simp
      subst e
      refine ⟨(hF i hiN).1, fun j hj => ?_⟩
      have hj' : j < 32 := by rw [(hF i hiN).1] at hj; exact hj
      have := (hF i hiN).2 j hj'
      rw [hbase (by omega), ← Nat.add_assoc] at this
      exact this
end Go.Proofs.YtnppjlpnfijobaaDoor
namespace Go.Proofs.YtnppjlpnfijobaaDoor
set_option maxRecDepth 100000
open Go.ChangeShapes Go.WideShapes Go.ChangeAt Go.RowKit
section
variable {H : Type} {enc : TypeId × Value → H} {W : World}
end
end Go.Proofs.YtnppjlpnfijobaaDoor
namespace Go.Proofs.YtnppjlpnfijobaaDoor
set_option maxRecDepth 100000
set_option maxRecDepth 100000
open Go.ChangeShapes Go.WideShapes Go.ChangeAt Go.RowKit
variable {H : Type} {enc : TypeId × Value → H} {W : World}
theorem open_hc {r : Reach} {b0 : Nat} {v : Value} {d : DataW H} {p : List MemPlace} (hv : Value.okWide Tryd.prog W r b0 22 v) (h : DataW.Trod enc Tryd.prog W 0 (fun _ => true) true 22 v d p) : ∃ l, (Fk.hc l).f v W ∧ l.length ≤ maxLen := by
  obtain ⟨A, N, C, rfl⟩ := okWide_slice Tryd.under22 hv
  have hcap : N ≤ C := by
    obtain ⟨m, hm⟩ := h
    rcases Deep.open_slice Tryd.under22 hm with ⟨hcs, _⟩ | ⟨a, len, cap, m, n, D, Pl, hcs, _, hl, _⟩
    · simp [Value.cells] at hcs
      omega
    · simp [Value.cells] at hcs
      obtain ⟨_, rfl, rfl⟩ := hcs
      exact hl
  obtain ⟨lb, lo, hs, hl, hn, hm⟩ := hl_of h
  subst hn
  exact ⟨hs, ⟨A, C, lb, lo, rfl, hcap, hl⟩, hm⟩
end Go.Proofs.YtnppjlpnfijobaaDoor
namespace Go.Proofs.YtnppjlpnfijobaaDoor
set_option maxRecDepth 100000
set_option maxRecDepth 100000
open Go.ChangeShapes Go.WideShapes Go.ChangeAt Go.RowKit
variable {H : Type} {enc : TypeId × Value → H} {W : World}
theorem open_isn {r : Reach} {b0 : Nat} {v : Value} {d : DataW H} {p : List MemPlace} (hv : Value.okWide Tryd.prog W r b0 23 v) (h : DataW.Trod enc Tryd.prog W 0 (fun _ => true) true 23 v d p) : ∃ (xs : List Int) (A : Option Addr) (C : Nat), v = .slice A xs.length C ∧ (Fk.is xs).f (.slice A xs.length C) W ∧ (A = none → C = 0) := by
  obtain ⟨A, N, C, rfl⟩ := okWide_slice Tryd.under23z hv
  obtain ⟨fuel, hf⟩ := h
  rcases open_ints Tryd.under23z Tryd.under3 (by kernel_rfl) hf with ⟨hcs, _⟩ | ⟨x, l, c, zs, hcs, _, hl, hm, hz, _, hcell, hwz⟩
  · simp [Value.cells] at hcs
    obtain ⟨rfl, rfl, rfl⟩ := hcs
    exact ⟨[], none, 0, rfl, ⟨none, 0, 0, 0, rfl, fun h => absurd h (by simp), rfl, fun j v hj => by simp [zv] at hj⟩, fun _ => rfl⟩
  · simp [Value.cells] at hcs
    obtain ⟨rfl, rfl, rfl⟩ := hcs
    have hlen : zs.length = C := by simpa using hz
    have hN : (zs.take N).length = N := by rw [List.length_take]; omega
    refine ⟨zs.take N, some x, C, by rw [hN], ?_, fun h => by cases h⟩
    by_cases h0 : N = 0
    · subst h0
      exact ⟨some x, C, 0, 0, rfl, fun h => absurd h (by simp), rfl, fun j v hj => by simp [zv] at hj⟩
    · have hspot : x.spot = none := by
        have := hcell 0 (by omega)
        simp only [Addr.add, if_true] at this
        unfold World.cell? at this
        split at this
        · split at this
          · cases this
          · rename_i h; simpa using h
        · cases this
      have hx : x = ⟨x.block, x.off, none⟩ := by rw [← hspot]
      have hadd : ∀ i, x.add i = ⟨x.block, x.off + i, none⟩ := fun i => by
        unfold Addr.add
        split
        · rename_i h; subst h; rw [Nat.add_zero]; exact hx
        · rfl
      refine ⟨some x, C, x.block, x.off, rfl, fun _ => by rw [← hx], by rw [zv_len, Nat.mul_one], fun j u hj => ?_⟩
      unfold zv at hj
      rw [List.getElem?_map, List.getElem?_take] at hj
      split at hj
      · rename_i hjN
        have hjl : j < zs.length := by omega
        rw [List.getElem?_eq_getElem hjl] at hj
        obtain rfl := Option.some.inj hj
        rw [← hadd, hcell j hjl]
        simp [hjl]
      · simp at hj
theorem open_hc9 {r : Reach} {b0 : Nat} {v : Value} {d : DataW H} {p : List MemPlace} (hv : Value.okWide Tryd.prog W r b0 22 v) (h : DataW.Trod enc Tryd.prog W 0 (fun _ => true) true 22 v d p) : ∃ (l : List (List (BitVec 8))) (A : Option Addr) (C : Nat), v = .slice A l.length C ∧ (Fk.hc l).f (.slice A l.length C) W ∧ (A = none → C = 0) := by
  obtain ⟨l, hl, _⟩ := open_hc hv h
  have hl0 := hl
  obtain ⟨A, C, lb, lo, rfl, hc, hq⟩ := hl
  refine ⟨l, A, C, rfl, hl0, ?_⟩
  obtain ⟨m, hm⟩ := h
  rcases Deep.open_slice Tryd.under22 hm with ⟨hcs, _⟩ | ⟨a, len, cap, m, n, D, Pl, hcs, _⟩
  · have := hcs
    simp [Value.cells] at this
    exact fun _ => this.2.2
  · have := hcs
    simp [Value.cells] at this
    intro h
    rw [this.1] at h
    cases h
end Go.Proofs.YtnppjlpnfijobaaDoor
namespace Go.Proofs.YtnppjlpnfijobaaDoor
set_option maxRecDepth 100000
set_option maxRecDepth 100000
open Go.ChangeShapes Go.WideShapes Go.ChangeAt Go.RowKit
theorem gZ : Tryd.prog.globalNamed "math/bits.deBruijn64tab" = some 1 := by kernel_rfl
theorem tZ : (Tryd.prog.globals[1]?).map (·.type) = some 92 := by kernel_rfl
theorem cellsZ : Tryd.prog.cellsOf 92 = 64 := by kernel_rfl
theorem underZ : Tryd.prog.underlying 92 = some (.array 64 5) := by kernel_rfl
/-- What the row lists. -/
def laidK3 : List (String × DataW Unit) := [("math/bits.deBruijn32tab", Rows.laid_math_bits_deBruijn32tab), ("math/bits.deBruijn64tab", Rows.laid_math_bits_deBruijn64tab), ("syngraph/sha.roundNumbers", Rows.laid_syngraph_sha_roundNumbers)]
theorem laidK3_tab : laidK3 = [("math/bits.deBruijn32tab", Rows.laid_math_bits_deBruijn32tab), ("math/bits.deBruijn64tab", Lib.tabData .u8 (dbt.map fun n => ((n : Nat) : Int))), ("syngraph/sha.roundNumbers", Lib.tabData .u32 (KN.map vl))] := by kernel_rfl
theorem dbt_len : dbt.length = 64 := by decide
theorem hasK3_of {W : World} (h : laidMetH Tryd.prog laidK3 W) : Tab W := by
  rw [MakeChecks.laidMetH_plain _ _ _ (by kernel_rfl), laidK3_tab] at h
  have h2 := laidMet.tail h
  have h3 := laidMet.tail h2
  have hT := Lib.tabIs_of_head gK tK Tryd.under99 under88 cells88 cells99 h3
  have hZ := Lib.tabIs_of_head gZ tZ underZ Tryd.under5 cells5 cellsZ h2
  have hc : ∀ i, i < 64 → W.cell? ⟨2, i, none⟩ = some (.int .u32 (vl (KN.getD i 0))) := fun i hi => by
    rw [hT.cell gK i (by simpa [KN] using hi)]
    have hi' : i < KN.length := by simpa [KN] using hi
    simp [hi']
  have hd : ∀ i, i < 64 → W.cell? ⟨1, i, none⟩ = some (.int .u8 ((dbt.getD i 0 : Nat) : Int)) := fun i hi => by
    have hi' : i < dbt.length := by rw [dbt_len]; exact hi
    rw [hZ.cell gZ i (by rw [List.length_map]; exact hi')]
    simp [hi']
  exact ⟨hc, block_lt_of_cell (hc 0 (by omega)), hd, block_lt_of_cell (hd 0 (by omega))⟩
theorem door_met3 (os : Os) (args : Array Value) : laidMetH Tryd.prog laidK3 ((World.doorLaid Tryd.prog 400 os).forCall (fun _ _ => 0) ⟨#[], args, []⟩).memory :=
  laidMetH_of_parts3 (fuel := 8) (laidMet_of_run' 8 (by kernel_rfl) (by kernel_rfl)) (by kernel_rfl) (by kernel_rfl)
end Go.Proofs.YtnppjlpnfijobaaDoor
