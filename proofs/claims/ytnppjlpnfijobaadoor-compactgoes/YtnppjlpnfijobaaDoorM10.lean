/- append of any slice of hashes to a slice of the call's own; a store into such a slice. Plain: regions that draw their order, whose guards may lean on operations that are themselves not wanted. CompactGoes. What the rows of this seat share: what the listed variable gives a walk, an array of bytes opened, the start that fits. A slice of bytes that came in, opened. A slice of hashes that came in, opened. Signatures and structs with them that came in, opened. Arguments opened: numbers with their bounds, slices of hashes with their room. -/
import Derived.Test.YtnppjlpnfijobaaDoorM7
import Derived.Test.YtnppjlpnfijobaaDoorM3
import Derived.Laws.AppendOwnNone
import Derived.Test.YtnppjlpnfijobaaDoorM9
import Derived.Test.YtnppjlpnfijobaaDoorM4
import Derived.Test.YtnppjlpnfijobaaDoorRows
import Derived.Test.YtnppjlpnfijobaaDoorM2
import Derived.ProofKit
import Derived.LaidMore
import Derived.OpenShut
import Derived.ShutString
import Derived.ChangeOld
import Derived.Lib.LaidTab
import Derived.SevenTiedAt
import Derived.Deep.Slices
import Derived.Deep.Strs
namespace Go.Proofs.YtnppjlpnfijobaaDoor
set_option maxRecDepth 100000
open Go.RowKit
section
variable {Q : Exit → Act → World → Prop} {o : Oper} {a : Act} {w : World} {ops : Array Oper} {rest : List Oper}
theorem flat_len3 : ∀ (hs : List (List (BitVec 8))), (∀ (i : Nat) (x : List (BitVec 8)), hs[i]? = some x → x.length = 32) → hs.flatten.length = 32 * hs.length
  | [], _ => rfl
  | y :: r, h => by
    rw [List.flatten_cons, List.length_append, h 0 y rfl, flat_len3 r (fun i x hi => h (i + 1) x (by simpa using hi)), List.length_cons]
    omega
theorem V_mem (l : List (BitVec 8)) : ∀ u ∈ l.map V, u.oneCell' = true := by
  intro u hu
  obtain ⟨x, _, rfl⟩ := List.mem_map.1 hu
  rfl
theorem wl_appendM (hgd : o.guard = none) (s x : Operand) (ho : o.op = .call { callee := .builtin .append, args := #[s, x], argTypes := #[22, 22] }) (d : Nat) (hd : o.dst = some d) (hsz : d < a.tmps.size)
    {wL : World} {hs M : List (List (BitVec 8))} {A : Option Addr} {C : Nat} (hs1 : (Fk.ow wL.heap.size hs).f (a.eval s) w) (e : a.eval x = .slice A M.length C) (hx : (Fk.hc M).f (.slice A M.length C) w) (hA : A = none → C = 0) (hL : Below wL.heap.size wL w) (hN : hs.length + M.length ≤ 1000)
    (h : ∀ a2 w2, a2.defers = a.defers → a2.tmps.size = a.tmps.size → (∀ t, (t == d) = false → a2.eval (.tmp t) = a.eval (.tmp t)) → (Fk.ow wL.heap.size (hs ++ M)).f (a2.eval (.tmp d)) w2 → Below wL.heap.size wL w2 → wpList Tryd.prog ops Q rest a2 w2) : wpList Tryd.prog ops Q (o :: rest) a w := by
  obtain ⟨i0, hi, hz0, hz1, hz2⟩ := info_parts Tryd.info33
  obtain ⟨hown, h32⟩ := hs1
  obtain ⟨A', C', lb, lo, e', hc, hl⟩ := hx
  cases e'
  have hM32 : ∀ (i : Nat) (x : List (BitVec 8)), M[i]? = some x → x.length = 32 := fun i x hi => (hl.all i x hi).1
  cases hA2 : A with
  | none =>
    have hC := hA hA2
    have hM : M = [] := by
      cases M with
      | nil => rfl
      | cons p r => have := hl.ptr (by simp); rw [hA2] at this; cases this
    subst hM hC
    rw [hA2] at e
    refine wpList_append_own_none hgd s x 22 ho wL.heap.size 33 i0 32 Tryd.under22' hi _ hs.length _ rfl hown e ?_
    refine h _ _ (put_def _ _ _) (put_size _ _ _) (fun t ht => ?_) ?_ hL
    · rw [hd]
      exact put_eval_other _ _ _ _ (fun e => by subst e; simp at ht)
    · rw [hd, put_eval_same _ _ _ hsz, List.append_nil]
      exact ⟨hown, h32⟩
  | some ad =>
    rw [hA2] at e
    have hcell : ∀ j u, (M.flatten.map V)[j]? = some u → w.cell? (ad.add j) = some u := by
      intro j u hj
      have hjl : j < M.flatten.length := by have := (List.getElem?_eq_some_iff.1 hj).1; rw [List.length_map] at this; exact this
      have hfl := flat_len3 M hM32
      have hp : 0 < M.length := by omega
      have had : ad = ⟨lb, lo, none⟩ := by have := hl.ptr hp; rw [hA2] at this; exact Option.some.inj this
      subst had
      obtain ⟨y, hy⟩ : ∃ y, M[j / 32]? = some y := ⟨_, List.getElem?_eq_getElem (by omega)⟩
      obtain ⟨hy1, hB⟩ := hl.all (j / 32) y hy
      have hat := flat_at M hM32 (j / 32) y hy (j % 32) (Nat.mod_lt _ (by decide))
      rw [show j / 32 * 32 + j % 32 = j by omega] at hat
      have hb := hB (j % 32) (by rw [hy1]; exact Nat.mod_lt _ (by decide))
      rw [Addr.add_mid, show lo + j = lo + j / 32 * 32 + j % 32 by omega, hb]
      rw [List.getElem?_map, hat, List.getElem?_eq_getElem (by rw [hy1]; exact Nat.mod_lt _ (by decide))] at hj
      simp only [Option.map_some, Option.some.injEq] at hj
      rw [← hj]
      simp [V, List.getD_eq_getElem?_getD, List.getElem?_eq_getElem (show j % 32 < y.length by rw [hy1]; exact Nat.mod_lt _ (by decide))]
    refine wpList_append_own w hgd s x 22 ho wL.heap.size 33 i0 _ 32 32 Tryd.under22' hi hz0 hz1 hz2 (by simp [Value.cells, hz_len]) (by decide) _ hs.length _ rfl hown ad M.length C (M.flatten.map V) e (by rw [List.length_map, flat_len3 M hM32]; omega) hcell (V_mem _) (by unfold maxLen; omega) (by omega) hL.size ?_
    intro v' w' h1 h2 _
    refine h _ _ (put_def _ _ _) (put_size _ _ _) (fun t ht => ?_) ?_ (hL.grown h2 hL.size (fun k e => (World.ownsRow.lt hown k e).1))
    · rw [hd]
      exact put_eval_other _ _ _ _ (fun e => by subst e; simp at ht)
    · rw [hd, put_eval_same _ _ _ hsz]
      refine ⟨?_, fun i y hi => ?_⟩
      · rw [List.length_append, List.flatten_append, List.map_append]
        exact h1
      · by_cases hil : i < hs.length
        · exact h32 i y (by rw [List.getElem?_append_left hil] at hi; exact hi)
        · rw [List.getElem?_append_right (by omega)] at hi
          exact hM32 _ y hi
end
/-- A slice of so many hashes, whatever they are, whose row (if there is one) is the call's own: it lies at s or behind it. -/
def OwnP (s m : Nat) (v : Value) (w : World) : Prop := (∃ A C, v = .slice A m C) ∧ (0 < m → ∃ g cap ys, v = .slice (some ⟨g, 0, none⟩) m cap ∧ s ≤ g ∧ ys.length = m ∧ Rw w g ys)
theorem OwnP.mono {s m : Nat} {v : Value} {w w' : World} (h : OwnP s m v w) (hb : Below w.heap.size w w') : OwnP s m v w' := ⟨h.1, fun hm => by
  obtain ⟨g, cap, ys, e, h1, h2, h3⟩ := h.2 hm
  exact ⟨g, cap, ys, e, h1, h2, h3.below hb⟩⟩
theorem ow_ownp {s : Nat} {hs : List (List (BitVec 8))} {v : Value} {w : World} (h : (Fk.ow s hs).f v w) : OwnP s hs.length v w := by
  obtain ⟨A, C, lb, lo, e, hl⟩ := ow_hs h
  refine ⟨⟨A, C, e⟩, fun hm => ?_⟩
  obtain ⟨⟨_, h2⟩, _⟩ := h
  rcases h2 with ⟨_, h0⟩ | ⟨g, cap, cur, e2, hb, hg, _⟩
  · omega
  · have hp := hl.ptr hm
    rw [e2] at e
    injection e with e3 _ e4
    rw [hp] at e3
    injection e3 with e3
    injection e3 with e5 e6
    subst e5 e6
    refine ⟨g, cap, hs, e2, hb, rfl, ⟨by rw [← hp]; exact hl, (Array.getElem?_eq_some_iff.1 hg).1, fun j => by simp [World.frozen?, hg]⟩⟩
section
variable {Q : Exit → Act → World → Prop} {o : Oper} {a : Act} {w : World}
theorem st_lenO (x : Operand) (ho : o.op = .call { callee := .builtin .len, args := #[x], argTypes := #[22] }) {s m : Nat} {v : Value} {w0 : World} (hx : a.eval x = v) (h : OwnP s m v w0) : o.wp Tryd.prog a w (Ends a o.dst w (Fk.eq (.int .i64 ((m : Nat) : Int))).f) Q := by
  obtain ⟨A, C, e⟩ := h.1
  refine st_pure (v := .int .i64 (m : Int)) ?_ rfl
  have h1 := run_len_slice (P := Tryd.prog) (w := w) 22 o.type A m C (by rw [Tryd.elem22]; exact Tryd.under22')
  unfold execOp
  simp [ho, resolve, invoke, builtin, hx, e, h1, goInt]
theorem st_idxO (x y : Operand) (ho : o.op = .indexAddr 22 x y) {g m C : Nat} (hx : a.eval x = .slice (some ⟨g, 0, none⟩) m C) (i : Nat) (hy : a.eval y = .int .i64 (i : Int)) (hm : i < m) : o.wp Tryd.prog a w (Ends a o.dst w (Fk.eq (.pointer (some ⟨g, i * 32, none⟩))).f) Q := by
  refine st_pure (v := .pointer (some ⟨g, i * 32, none⟩)) ?_ rfl
  have h1 := run_indexAt_slice (P := Tryd.prog) (w := w) 22 ⟨g, 0, none⟩ m C .i64 (i : Int) (by rw [Tryd.elem22]; exact Tryd.under22')
  rw [if_pos (by omega), Tryd.elem22, Tryd.sizeOf33] at h1
  simp only [Result.andThen_ok, Int.toNat_natCast] at h1
  have h2 : (⟨g, 0, none⟩ : Addr).add (i * 32) = ⟨g, i * 32, none⟩ := by
    simp only [Addr.add, Nat.zero_add]
    first | done | (simp; exact fun h => h.symm)
  rw [h2] at h1
  unfold execOp
  rw [ho]
  simp [hx, hy, h1]
theorem ow_empty (base : Nat) (w : World) (g : Nat) (hb : base ≤ g) (hg : w.heap[g]? = some (.cells #[] 33 (0, 0))) : (Fk.ow base []).f (.slice (some ⟨g, 0, none⟩) 0 0) w := ⟨⟨rfl, .inr ⟨g, 0, #[], rfl, hb, hg, Nat.le_refl _, Nat.zero_le _, rfl, rfl⟩⟩, fun i x hi => by simp at hi⟩
theorem Tryd.build0h (w : World) : (Instr.buildSlice 22 0 #[]).run Tryd.prog w = .ok (.slice (some ⟨w.heap.size, 0, none⟩) 0 0) (w.alloc (.cells #[] 33)) := by kernel_rfl
theorem st_build0 (ho : o.op = .buildSlice 22 0 #[]) (base : Nat) (hb : base ≤ w.heap.size) : o.wp Tryd.prog a w (Ends a o.dst w (Fk.ow base []).f) Q := by
  refine st_run (v := .slice (some ⟨w.heap.size, 0, none⟩) 0 0) (w' := w.alloc (.cells #[] 33)) ?_ ((Below.refl _ _).alloc (Nat.le_refl _) _) (ow_empty base _ _ hb (heap_alloc_new _ _))
  have := Tryd.build0h w
  unfold execOp
  rw [ho]
  simp [this]
end
end Go.Proofs.YtnppjlpnfijobaaDoor
namespace Go.Proofs.YtnppjlpnfijobaaDoor
set_option maxRecDepth 100000
open Go.RowKit
end Go.Proofs.YtnppjlpnfijobaaDoor
namespace Go.Proofs.YtnppjlpnfijobaaDoor
set_option maxRecDepth 100000
open Go.RowKit
theorem fk_slb {f : FuncId} {args : Array Value} {w : World} {X B : List (BitVec 8)} (h : Calls Tryd.prog f args w fun e w' => ∃ u, e = .returned u ∧ (Fk.sl X).f u w' ∧ Below w.heap.size w w') (e : X = B) : Calls Tryd.prog f args w fun e w' => ∃ u, e = .returned u ∧ (Fk.sl B).f u w' ∧ Below w.heap.size w w' := by
  subst e
  exact h
theorem goes_pass {l M : List (List (BitVec 8))} {lA mA : Option Addr} {lC mC : Nat} (w : World) (hK : Tab w) (hv : (Fk.hc l).f (.slice lA (l).length lC) w) (hu : (Fk.hc M).f (.slice mA (M).length mC) w) (h : 60 < l.length ∨ 60 < M.length) :
    Calls Tryd.prog 5 #[.slice lA (l).length lC, .slice mA (M).length mC] w fun e w' => e = .returned (.bool true) ∧ Below w.heap.size w w' := by
  have hvs := hc_hs hv
  have hus := hc_hs hu
  go_enter Tryd.func5, Tryd.ntmps5
  refine code_both (fun f w1 => f.tmps.size = 123 ∧ f.defers = [] ∧ f.eval (.tmp 0) = .slice lA (l).length lC ∧ f.eval (.tmp 1) = .slice mA (M).length mC ∧ Below w.heap.size w (w1)) ⟨rfl, rfl, rfl, rfl, Below.refl _ _⟩ ?_
  rintro f0 w0 ⟨sz, df, x0, x1, bl⟩
  have bl0 := bl
  refine wp_seq ?_
  refine wp_all_seq [.eq (.bool false)] (by kernel_rfl) (by kernel_rfl) (by rw [sz]; kernel_rfl) (by kernel_rfl) ⟨fun hw ac u K => ?_, trivial⟩ ?_
  · exact st_assign (.const (.bool false)) rfl rfl
  intro f1 w1 A hb
  replace bl0 := bl
  replace x0 := (A.old 0 rfl).trans x0
  replace x1 := (A.old 1 rfl).trans x1
  have x4 : f1.eval (.tmp 4) = .bool false := A.has 0 4 rfl
  replace bl := (bl.trans (Below.mono hb bl.size))
  replace sz := A.size.trans sz
  replace df := A.defs.trans df
  clear A hb
  show Code.wp _ _ _ _ _
  refine wp_seq ?_
  refine wp_seq ?_
  by_cases h60 : 60 < l.length
  rotate_left
  · skip
    refine wp_all_seq [.eq (.slice lA (l).length lC), .eq (.int .i64 (((l).length : Nat) : Int)), .eq (.bool false), .eq (.bool false), .eq (.slice mA (M).length mC), .eq (.int .i64 (((M).length : Nat) : Int)), .eq (.bool true), .eq (.bool true)] (by kernel_rfl) (by kernel_rfl) (by rw [sz]; kernel_rfl) (by kernel_rfl) ⟨fun hw ac u K => ?_, fun hw ac u K => ?_, fun hw ac u K => ?_, fun hw ac u K => ?_, fun hw ac u K => ?_, fun hw ac u K => ?_, fun hw ac u K => ?_, fun hw ac u K => ?_, trivial⟩ ?_
    · exact st_move (.tmp 0) rfl ((K.old 0 rfl).trans x0)
    · exact st_lenc (.tmp 12) rfl ((l).length) rfl (fk_val (K.dep 0 12 rfl) (Fk.mono _ _ _ _ hv (bl.trans (Below.mono K.grow bl.size))))
    · exact st_gtr 3 (.tmp 13) (.const (.int .i64 60)) rfl .i64 ((((l).length : Nat) : Int)) (60) (K.dep 1 13 rfl) rfl _ (by rw [eq_comm, decide_eq_false_iff_not]; omega)
    · exact st_move (.tmp 14) rfl (K.dep 2 14 rfl)
    · exact st_move (.tmp 1) rfl ((K.old 1 rfl).trans x1)
    · exact st_lenc (.tmp 16) rfl ((M).length) rfl (fk_val (K.dep 4 16 rfl) (Fk.mono _ _ _ _ hu (bl.trans (Below.mono K.grow bl.size))))
    · exact st_gtr 3 (.tmp 17) (.const (.int .i64 60)) rfl .i64 ((((M).length : Nat) : Int)) (60) (K.dep 5 17 rfl) rfl _ (by rw [eq_comm, decide_eq_true_iff]; omega)
    · exact st_pick_f' (.tmp 15) (.const (.bool true)) (.tmp 18) rfl (K.dep 3 15 rfl) (K.dep 6 18 rfl)
    intro f2 w2 A hb
    replace bl0 := bl
    replace x0 := (A.old 0 rfl).trans x0
    replace x1 := (A.old 1 rfl).trans x1
    replace x4 := (A.old 4 rfl).trans x4
    have x19 : f2.eval (.tmp 19) = .bool true := A.has 7 19 rfl
    replace bl := (bl.trans (Below.mono hb bl.size))
    replace sz := A.size.trans sz
    replace df := A.defs.trans df
    clear A hb
    show Code.wp _ _ _ _ _
    refine wp_cond_true x19 ?_
    refine wp_seq ?_
    refine wp_all_seq [.eq (.bool true), .eq (.bool true)] (by kernel_rfl) (by kernel_rfl) (by rw [sz]; kernel_rfl) (by kernel_rfl) ⟨fun hw ac u K => ?_, fun hw ac u K => ?_, trivial⟩ ?_
    · exact st_call 7 (.func 7) _ _ #[] rfl rfl rfl Tryd.enter7 (fk_of (awake_any _ (hK.below (bl.trans (Below.mono K.grow bl.size)))))
    · exact st_assign (.tmp 20) rfl (K.dep 0 20 rfl)
    intro f3 w3 A hb
    replace bl0 := bl
    replace x0 := (A.old 0 rfl).trans x0
    replace x1 := (A.old 1 rfl).trans x1
    clear x4
    replace x19 := (A.old 19 rfl).trans x19
    have x4 : f3.eval (.tmp 4) = .bool true := A.has 1 4 rfl
    replace bl := (bl.trans (Below.mono hb bl.size))
    replace sz := A.size.trans sz
    replace df := A.defs.trans df
    clear A hb
    show Code.wp _ _ _ _ _
    refine wp_ret ?_
    repeat (first | with_reducible refine then_ret ?_ | with_reducible refine block_ret ?_)
    exact bodyPost_ret (v := .bool true) (ret_slot rfl f3 _ x4 _ _) df ⟨rfl, bl⟩
  refine wp_all_seq [.eq (.slice lA (l).length lC), .eq (.int .i64 (((l).length : Nat) : Int)), .eq (.bool true), .eq (.bool true), .any, .any, .any, .eq (.bool true)] (by kernel_rfl) (by kernel_rfl) (by rw [sz]; kernel_rfl) (by kernel_rfl) ⟨fun hw ac u K => ?_, fun hw ac u K => ?_, fun hw ac u K => ?_, fun hw ac u K => ?_, fun hw ac u K => ?_, fun hw ac u K => ?_, fun hw ac u K => ?_, fun hw ac u K => ?_, trivial⟩ ?_
  · exact st_move (.tmp 0) rfl ((K.old 0 rfl).trans x0)
  · exact st_lenc (.tmp 12) rfl ((l).length) rfl (fk_val (K.dep 0 12 rfl) (Fk.mono _ _ _ _ hv (bl.trans (Below.mono K.grow bl.size))))
  · exact st_gtr 3 (.tmp 13) (.const (.int .i64 60)) rfl .i64 ((((l).length : Nat) : Int)) (60) (K.dep 1 13 rfl) rfl _ (by rw [eq_comm, decide_eq_true_iff]; omega)
  · exact st_move (.tmp 14) rfl (K.dep 2 14 rfl)
  · exact (Bool.false_ne_true hw).elim
  · exact (Bool.false_ne_true hw).elim
  · exact (Bool.false_ne_true hw).elim
  · exact st_pick_t (.tmp 15) (.const (.bool true)) (.tmp 18) rfl (K.dep 3 15 rfl) rfl
  intro f2 w2 A hb
  replace bl0 := bl
  replace x0 := (A.old 0 rfl).trans x0
  replace x1 := (A.old 1 rfl).trans x1
  replace x4 := (A.old 4 rfl).trans x4
  have x19 : f2.eval (.tmp 19) = .bool true := A.has 7 19 rfl
  replace bl := (bl.trans (Below.mono hb bl.size))
  replace sz := A.size.trans sz
  replace df := A.defs.trans df
  clear A hb
  show Code.wp _ _ _ _ _
  refine wp_cond_true x19 ?_
  refine wp_seq ?_
  refine wp_all_seq [.eq (.bool true), .eq (.bool true)] (by kernel_rfl) (by kernel_rfl) (by rw [sz]; kernel_rfl) (by kernel_rfl) ⟨fun hw ac u K => ?_, fun hw ac u K => ?_, trivial⟩ ?_
  · exact st_call 7 (.func 7) _ _ #[] rfl rfl rfl Tryd.enter7 (fk_of (awake_any _ (hK.below (bl.trans (Below.mono K.grow bl.size)))))
  · exact st_assign (.tmp 20) rfl (K.dep 0 20 rfl)
  intro f3 w3 A hb
  replace bl0 := bl
  replace x0 := (A.old 0 rfl).trans x0
  replace x1 := (A.old 1 rfl).trans x1
  clear x4
  replace x19 := (A.old 19 rfl).trans x19
  have x4 : f3.eval (.tmp 4) = .bool true := A.has 1 4 rfl
  replace bl := (bl.trans (Below.mono hb bl.size))
  replace sz := A.size.trans sz
  replace df := A.defs.trans df
  clear A hb
  show Code.wp _ _ _ _ _
  refine wp_ret ?_
  repeat (first | with_reducible refine then_ret ?_ | with_reducible refine block_ret ?_)
  exact bodyPost_ret (v := .bool true) (ret_slot rfl f3 _ x4 _ _) df ⟨rfl, bl⟩
set_option maxHeartbeats 2000000 in
theorem goes_main {l M : List (List (BitVec 8))} {lA mA : Option Addr} {lC mC : Nat} (w : World) (hK : Tab w) (hv : (Fk.hc l).f (.slice lA (l).length lC) w) (hu : (Fk.hc M).f (.slice mA (M).length mC) w) (hl : l.length ≤ 60) (hM : M.length ≤ 60) (hlA : lA = none → lC = 0) (hmA : mA = none → mC = 0) :
    Calls Tryd.prog 5 #[.slice lA (l).length lC, .slice mA (M).length mC] w fun e w' => e = .returned (.bool true) ∧ Below w.heap.size w w' := by
  have hvs := hc_hs hv
  have hus := hc_hs hu
  obtain ⟨P1, hP1⟩ : ∃ P, pks l l.length = P := ⟨_, rfl⟩
  have hPl1 : P1.length ≤ 60 := by rw [← hP1]; have := pks_len l l.length; omega
  have hg1 : grl (0, []) l = (l.length, P1) := by
    have h := grl_pks l l.length (by omega) (Nat.le_refl _)
    rw [List.take_length, hP1] at h
    exact h
  obtain ⟨P2, hP2⟩ : ∃ P, pks (l ++ M) (l.length + M.length) = P := ⟨_, rfl⟩
  have hg2 : grl (l.length, P1) M = (l.length + M.length, P2) := by
    have h := grl_pks (l ++ M) (l.length + M.length) (by omega) (by rw [List.length_append]; omega)
    rw [List.take_of_length_le (by rw [List.length_append]; omega), grl_append, hg1, hP2] at h
    exact h
  obtain ⟨B, eB⟩ : ∃ B, Box (be8 (l.length : Nat) ++ hsb P1 = B) := ⟨_, ⟨rfl⟩⟩
  obtain ⟨y1, ey1⟩ : ∃ y, Box (mroot l = y) := ⟨_, ⟨rfl⟩⟩
  have hy1 : y1.length = 32 := by rw [← ey1.out]; exact mroot_len (hc_len hv)
  obtain ⟨y2, ey2⟩ : ∃ y, Box (mroot (l ++ M) = y) := ⟨_, ⟨rfl⟩⟩
  have hy2 : y2.length = 32 := by rw [← ey2.out]; exact mroot_len (fun x hx => by rcases List.mem_append.1 hx with h | h; exact hc_len hv x h; exact hc_len hu x h)
  have er1 : Box (rtp P1 = y1) := ⟨by rw [← hP1, rtp_pks l (by omega) (Nat.le_refl _), List.take_length]; exact ey1.out⟩
  have er2 : Box (rtp P2 = y2) := ⟨by rw [← hP2, rtp_pks (l ++ M) (by omega) (by rw [List.length_append]; omega), List.take_of_length_le (by rw [List.length_append]; omega)]; exact ey2.out⟩
  go_enter Tryd.func5, Tryd.ntmps5
  refine code_both (fun f w1 => f.tmps.size = 123 ∧ f.defers = [] ∧ f.eval (.tmp 0) = .slice lA (l).length lC ∧ f.eval (.tmp 1) = .slice mA (M).length mC ∧ Below w.heap.size w (w1)) ⟨rfl, rfl, rfl, rfl, Below.refl _ _⟩ ?_
  rintro f0 w0 ⟨sz, df, x0, x1, bl⟩
  have bl0 := bl
  refine wp_seq ?_
  refine wp_all_seq [.eq (.bool false)] (by kernel_rfl) (by kernel_rfl) (by rw [sz]; kernel_rfl) (by kernel_rfl) ⟨fun hw ac u K => ?_, trivial⟩ ?_
  · exact st_assign (.const (.bool false)) rfl rfl
  intro f1 w1 A hb
  replace bl0 := bl
  replace x0 := (A.old 0 rfl).trans x0
  replace x1 := (A.old 1 rfl).trans x1
  have x4 : f1.eval (.tmp 4) = .bool false := A.has 0 4 rfl
  replace bl := (bl.trans (Below.mono hb bl.size))
  replace sz := A.size.trans sz
  replace df := A.defs.trans df
  clear A hb
  show Code.wp _ _ _ _ _
  refine wp_seq ?_
  refine wp_seq ?_
  refine wp_all_seq [.eq (.slice lA (l).length lC), .eq (.int .i64 (((l).length : Nat) : Int)), .eq (.bool false), .eq (.bool false), .eq (.slice mA (M).length mC), .eq (.int .i64 (((M).length : Nat) : Int)), .eq (.bool false), .eq (.bool false)] (by kernel_rfl) (by kernel_rfl) (by rw [sz]; kernel_rfl) (by kernel_rfl) ⟨fun hw ac u K => ?_, fun hw ac u K => ?_, fun hw ac u K => ?_, fun hw ac u K => ?_, fun hw ac u K => ?_, fun hw ac u K => ?_, fun hw ac u K => ?_, fun hw ac u K => ?_, trivial⟩ ?_
  · exact st_move (.tmp 0) rfl ((K.old 0 rfl).trans x0)
  · exact st_lenc (.tmp 12) rfl ((l).length) rfl (fk_val (K.dep 0 12 rfl) (Fk.mono _ _ _ _ hv (bl.trans (Below.mono K.grow bl.size))))
  · exact st_gtr 3 (.tmp 13) (.const (.int .i64 60)) rfl .i64 ((((l).length : Nat) : Int)) (60) (K.dep 1 13 rfl) rfl _ (by rw [eq_comm, decide_eq_false_iff_not]; omega)
  · exact st_move (.tmp 14) rfl (K.dep 2 14 rfl)
  · exact st_move (.tmp 1) rfl ((K.old 1 rfl).trans x1)
  · exact st_lenc (.tmp 16) rfl ((M).length) rfl (fk_val (K.dep 4 16 rfl) (Fk.mono _ _ _ _ hu (bl.trans (Below.mono K.grow bl.size))))
  · exact st_gtr 3 (.tmp 17) (.const (.int .i64 60)) rfl .i64 ((((M).length : Nat) : Int)) (60) (K.dep 5 17 rfl) rfl _ (by rw [eq_comm, decide_eq_false_iff_not]; omega)
  · exact st_pick_f' (.tmp 15) (.const (.bool true)) (.tmp 18) rfl (K.dep 3 15 rfl) (K.dep 6 18 rfl)
  intro f2 w2 A hb
  replace bl0 := bl
  replace x0 := (A.old 0 rfl).trans x0
  replace x1 := (A.old 1 rfl).trans x1
  replace x4 := (A.old 4 rfl).trans x4
  have x19 : f2.eval (.tmp 19) = .bool false := A.has 7 19 rfl
  replace bl := (bl.trans (Below.mono hb bl.size))
  replace sz := A.size.trans sz
  replace df := A.defs.trans df
  clear A hb
  show Code.wp _ _ _ _ _
  refine wp_cond_false x19 ?_
  refine wp_skip ?_
  show Code.wp _ _ _ _ _
  refine wp_seq ?_
  refine wp_all_seq [.rn w.heap.size 0 [], .rn w.heap.size 0 []] (by kernel_rfl) (by kernel_rfl) (by rw [sz]; kernel_rfl) (by kernel_rfl) ⟨fun hw ac u K => ?_, fun hw ac u K => ?_, trivial⟩ ?_
  · exact st_call 8 (.func 8) _ _ #[] rfl rfl rfl Tryd.enter8 (fk_rn (bl.trans (Below.mono K.grow bl.size)).size (fk_new _))
  · exact st_assign (.tmp 21) rfl (K.dep 0 21 rfl)
  intro f3 w3 A hb
  replace bl0 := bl
  replace x0 := (A.old 0 rfl).trans x0
  replace x1 := (A.old 1 rfl).trans x1
  replace x4 := (A.old 4 rfl).trans x4
  replace x19 := (A.old 19 rfl).trans x19
  have x5 : Fk.f (.rn w.heap.size 0 []) (f3.eval (.tmp 5)) w3 := A.has 1 5 rfl
  replace bl := (bl.trans (Below.mono hb bl.size))
  replace sz := A.size.trans sz
  replace df := A.defs.trans df
  clear A hb
  obtain ⟨gr, kr, er, hgr, hkr, hrr⟩ := x5
  have x5 : f3.eval (.tmp 5) = .pointer (some ⟨gr, 0, none⟩) := er
  clear er
  have hbr : w.heap.size ≤ gr ∧ w.heap.size ≤ kr := ⟨hgr, hkr⟩
  show Code.wp _ _ _ _ _
  refine wp_seq ?_
  refine wp_seq ?_
  refine wp_region_seq [.eq (.pointer (some ⟨gr, 0, none⟩)), .eq (.bool false), .eq (.bool false), .eq (.pointer (some ⟨gr, 0, none⟩)), .eq (.slice lA (l).length lC)] (by kernel_rfl) (by kernel_rfl) (by rw [sz]; kernel_rfl) (by kernel_rfl) ⟨fun hw ac u K => ?_, fun hw ac u K => ?_, fun hw ac u K => ?_, fun hw ac u K => ?_, fun hw ac u K => ?_, trivial⟩ ?_
  · exact st_move (.tmp 5) rfl ((K.old 5 rfl).trans x5)
  · exact st_bin .eql 25 25 (.tmp 22) _ rfl (K.dep 0 22 rfl) rfl (by kernel_rfl)
  · exact st_move (.tmp 23) rfl (K.dep 1 23 rfl)
  · exact st_move (.tmp 5) rfl ((K.old 5 rfl).trans x5)
  · exact st_move (.tmp 0) rfl ((K.old 0 rfl).trans x0)
  intro f4 w4 A hb
  replace bl0 := bl
  replace x0 := (A.old 0 rfl).trans x0
  replace x1 := (A.old 1 rfl).trans x1
  replace x4 := (A.old 4 rfl).trans x4
  replace x19 := (A.old 19 rfl).trans x19
  replace x5 := (A.old 5 rfl).trans x5
  have x24 : f4.eval (.tmp 24) = .bool false := A.has 2 24 rfl
  have x25 : f4.eval (.tmp 25) = .pointer (some ⟨gr, 0, none⟩) := A.has 3 25 rfl
  have x26 : f4.eval (.tmp 26) = .slice lA (l).length lC := A.has 4 26 rfl
  replace hrr := HR.mono hrr hb
  replace bl := (bl.trans (Below.mono hb bl.size))
  replace sz := A.size.trans sz
  replace df := A.defs.trans df
  clear A hb
  have hbs := bl.size
  refine wl_callw 9 (.func 9) _ _ #[.pointer (some ⟨gr, 0, none⟩), .slice lA (l).length lC] (want_of rfl rfl x24) 27 rfl (by rw [sz]; decide) rfl rfl (arg2 x25 x26) Tryd.enter9 (fun z W' => z = .int .i64 0 ∧ (∃ k', HR W' gr k' (l.length) P1 ∧ (k' = kr ∨ w4.heap.size ≤ k')) ∧ Kp gr kr w4 W') ((c_app_ok hrr (Fk.mono _ _ _ _ hv bl) (by omega) (by omega) (hK.below bl) hg1 (hc_ap hv hbr.1 hbr.2) ⟨by have := hK.pos; omega, by have := hK.pos; omega⟩).mono (by rintro e w' ⟨rfl, h1, h2⟩; exact ⟨_, rfl, rfl, h1, h2⟩)) ?_
  intro f5 w5 df2 sz2 old2 hR2
  obtain ⟨x27, ⟨kr5, hr2, hk2⟩, hkp⟩ := hR2
  replace x0 := (old2 0 rfl).trans x0
  replace x1 := (old2 1 rfl).trans x1
  replace x4 := (old2 4 rfl).trans x4
  replace x19 := (old2 19 rfl).trans x19
  replace x5 := (old2 5 rfl).trans x5
  replace x24 := (old2 24 rfl).trans x24
  replace x25 := (old2 25 rfl).trans x25
  replace x26 := (old2 26 rfl).trans x26
  replace bl := bl.trans (hkp.below bl.size hbr.1 hbr.2)
  replace hbr : w.heap.size ≤ gr ∧ w.heap.size ≤ kr5 := by rcases hk2 with e | e <;> omega
  clear hrr
  have hrr := hr2
  clear hr2 hkp hk2 hbs 
  replace bl0 := bl
  replace sz := sz2.trans sz
  replace df := df2.trans df
  clear df2 sz2 old2
  clear x25
  clear x26
  refine wl_onew (.eq (.bool false)) (want_of rfl rfl x24) 28 rfl (by rw [sz]; decide) (st_neqi 27 (.tmp 27) (.const (.int .i64 0)) rfl .i64 (0) (0) x27 rfl _ (by rfl)) ?_
  intro f6 w6 df2 sz2 old2 new2 hb
  replace bl0 := bl
  replace x0 := (old2 0 rfl).trans x0
  replace x1 := (old2 1 rfl).trans x1
  replace x4 := (old2 4 rfl).trans x4
  replace x19 := (old2 19 rfl).trans x19
  replace x5 := (old2 5 rfl).trans x5
  replace x24 := (old2 24 rfl).trans x24
  replace x27 := (old2 27 rfl).trans x27
  have x28 : f6.eval (.tmp 28) = .bool false := new2
  replace hrr := HR.mono hrr hb
  replace bl := (bl.trans (Below.mono hb bl.size))
  replace sz := sz2.trans sz
  replace df := df2.trans df
  clear df2 sz2 old2 new2 hb
  clear x27
  refine wl_one (.eq (.bool false)) rfl 29 rfl (by rw [sz]; decide) (st_pick_f' (.tmp 24) (.const (.bool true)) (.tmp 28) rfl x24 x28) ?_
  intro f7 w7 df2 sz2 old2 new2 hb
  replace bl0 := bl
  replace x0 := (old2 0 rfl).trans x0
  replace x1 := (old2 1 rfl).trans x1
  replace x4 := (old2 4 rfl).trans x4
  replace x19 := (old2 19 rfl).trans x19
  replace x5 := (old2 5 rfl).trans x5
  replace x24 := (old2 24 rfl).trans x24
  replace x28 := (old2 28 rfl).trans x28
  have x29 : f7.eval (.tmp 29) = .bool false := new2
  replace hrr := HR.mono hrr hb
  replace bl := (bl.trans (Below.mono hb bl.size))
  replace sz := sz2.trans sz
  replace df := df2.trans df
  clear df2 sz2 old2 new2 hb
  refine wpList_nil ?_
  clear x24
  clear x28
  show Code.wp _ _ _ _ _
  refine wp_cond_false x29 ?_
  refine wp_skip ?_
  show Code.wp _ _ _ _ _
  refine wp_seq ?_
  have ltr := hrr.lt
  have hP1c := hrr.pcn
  have hP132 := hrr.h32
  have hBl := rgb_max (l.length : Nat) hP132 hrr.len
  rw [eB.out] at hBl
  have hbs6 := bl.size
  refine wp_all_seq [.eq (.pointer (some ⟨gr, 0, none⟩)), .sl (B), .t2 (.rn w7.heap.size l.length P1) (.int .i64 0), .t2 (.rn w7.heap.size l.length P1) (.int .i64 0), .rn w7.heap.size l.length P1, .eq (.int .i64 0), .rn w7.heap.size l.length P1, .eq (.int .i64 0)] (by kernel_rfl) (by kernel_rfl) (by rw [sz]; kernel_rfl) (by kernel_rfl) ⟨fun hw ac u K => ?_, fun hw ac u K => ?_, fun hw ac u K => ?_, fun hw ac u K => ?_, fun hw ac u K => ?_, fun hw ac u K => ?_, fun hw ac u K => ?_, fun hw ac u K => ?_, trivial⟩ ?_
  · exact st_move (.tmp 5) rfl ((K.old 5 rfl).trans x5)
  · exact st_call 16 (.func 16) _ _ #[.pointer (some ⟨gr, 0, none⟩)] rfl rfl (one_arg (K.dep 0 31 rfl)) Tryd.enter16 (fk_slb (fk_rbytes (hrr.mono K.grow)) eB.out)
  · exact st_call 18 (.func 18) _ _ #[ac.eval (.tmp 32)] rfl rfl (one_arg rfl) Tryd.enter18 (fk_rnt K.grow.size (fk_parse_ok (K.dep 1 32 rfl) (by omega) eB.out (by omega) hP1c hP132))
  · exact st_move (.tmp 33) rfl (K.dep 2 33 rfl)
  · exact st_t2a (.tmp 30) rfl (K.dep 3 30 rfl)
  · exact st_t2b (.tmp 30) rfl (K.dep 3 30 rfl)
  · exact st_assign (.tmp 34) rfl (K.dep 4 34 rfl)
  · exact st_assign (.tmp 35) rfl (K.dep 5 35 rfl)
  intro f8 w8 A hb
  replace bl0 := bl
  replace x0 := (A.old 0 rfl).trans x0
  replace x1 := (A.old 1 rfl).trans x1
  replace x4 := (A.old 4 rfl).trans x4
  replace x19 := (A.old 19 rfl).trans x19
  replace x5 := (A.old 5 rfl).trans x5
  replace x29 := (A.old 29 rfl).trans x29
  have x6 : Fk.f (.rn w7.heap.size l.length P1) (f8.eval (.tmp 6)) w8 := A.has 6 6 rfl
  have x7 : f8.eval (.tmp 7) = .int .i64 0 := A.has 7 7 rfl
  replace hrr := HR.mono hrr hb
  replace bl := (bl.trans (Below.mono hb bl.size))
  replace sz := A.size.trans sz
  replace df := A.defs.trans df
  clear A hb
  obtain ⟨go, ko, eo, hgo, hko, hro⟩ := x6
  have x6 : f8.eval (.tmp 6) = .pointer (some ⟨go, 0, none⟩) := eo
  clear eo
  have hbo : w.heap.size ≤ go ∧ w.heap.size ≤ ko := ⟨by omega, by omega⟩
  have ap_or : go ≠ gr ∧ go ≠ kr5 ∧ ko ≠ gr ∧ ko ≠ kr5 := ⟨by omega, by omega, by omega, by omega⟩
  show Code.wp _ _ _ _ _
  refine wp_seq ?_
  replace ltr := hrr.lt
  have lto := hro.lt
  have hbs7 := bl.size
  refine wp_all_seq [.eq (.pointer (some ⟨gr, 0, none⟩)), .rn w8.heap.size l.length P1, .rn w8.heap.size l.length P1] (by kernel_rfl) (by kernel_rfl) (by rw [sz]; kernel_rfl) (by kernel_rfl) ⟨fun hw ac u K => ?_, fun hw ac u K => ?_, fun hw ac u K => ?_, trivial⟩ ?_
  · exact st_move (.tmp 5) rfl ((K.old 5 rfl).trans x5)
  · exact st_call 20 (.func 20) _ _ #[.pointer (some ⟨gr, 0, none⟩)] rfl rfl (one_arg (K.dep 0 36 rfl)) Tryd.enter20 (fk_rn K.grow.size (fk_copy (hrr.mono K.grow)))
  · exact st_assign (.tmp 37) rfl (K.dep 1 37 rfl)
  intro f9 w9 A hb
  replace bl0 := bl
  replace x0 := (A.old 0 rfl).trans x0
  replace x1 := (A.old 1 rfl).trans x1
  replace x4 := (A.old 4 rfl).trans x4
  replace x19 := (A.old 19 rfl).trans x19
  replace x5 := (A.old 5 rfl).trans x5
  replace x29 := (A.old 29 rfl).trans x29
  replace x6 := (A.old 6 rfl).trans x6
  replace x7 := (A.old 7 rfl).trans x7
  have x8 : Fk.f (.rn w8.heap.size l.length P1) (f9.eval (.tmp 8)) w9 := A.has 2 8 rfl
  replace hrr := HR.mono hrr hb
  replace hro := HR.mono hro hb
  replace bl := (bl.trans (Below.mono hb bl.size))
  replace sz := A.size.trans sz
  replace df := A.defs.trans df
  clear A hb
  obtain ⟨gc, kc, ec, hgc, hkc, hrc⟩ := x8
  have x8 : f9.eval (.tmp 8) = .pointer (some ⟨gc, 0, none⟩) := ec
  clear ec
  have hbc : w.heap.size ≤ gc ∧ w.heap.size ≤ kc := ⟨by omega, by omega⟩
  have ap_cr : gc ≠ gr ∧ gc ≠ kr5 ∧ kc ≠ gr ∧ kc ≠ kr5 := ⟨by omega, by omega, by omega, by omega⟩
  have ap_co : gc ≠ go ∧ gc ≠ ko ∧ kc ≠ go ∧ kc ≠ ko := ⟨by omega, by omega, by omega, by omega⟩
  have ap_ro : gr ≠ go ∧ gr ≠ ko ∧ kr5 ≠ go ∧ kr5 ≠ ko := ⟨by omega, by omega, by omega, by omega⟩
  show Code.wp _ _ _ _ _
  refine wp_seq ?_
  refine wp_seq ?_
  refine wp_all_seq [.eq (.int .i64 0), .eq (.bool false), .eq (.bool false), .eq (.pointer (some ⟨go, 0, none⟩)), .eq (.bool false), .eq (.bool false), .eq (.bool false), .eq (.pointer (some ⟨gc, 0, none⟩)), .eq (.bool false), .eq (.bool false), .eq (.bool false), .eq (.pointer (some ⟨go, 0, none⟩)), .eq (.pointer (some ⟨gr, 0, none⟩)), .eq (.bool true), .eq (.bool false), .eq (.bool false), .eq (.bool false), .eq (.pointer (some ⟨gc, 0, none⟩)), .eq (.pointer (some ⟨gr, 0, none⟩)), .eq (.bool true), .eq (.bool false), .eq (.bool false)] (by kernel_rfl) (by kernel_rfl) (by rw [sz]; kernel_rfl) (by kernel_rfl) ⟨fun hw ac u K => ?_, fun hw ac u K => ?_, fun hw ac u K => ?_, fun hw ac u K => ?_, fun hw ac u K => ?_, fun hw ac u K => ?_, fun hw ac u K => ?_, fun hw ac u K => ?_, fun hw ac u K => ?_, fun hw ac u K => ?_, fun hw ac u K => ?_, fun hw ac u K => ?_, fun hw ac u K => ?_, fun hw ac u K => ?_, fun hw ac u K => ?_, fun hw ac u K => ?_, fun hw ac u K => ?_, fun hw ac u K => ?_, fun hw ac u K => ?_, fun hw ac u K => ?_, fun hw ac u K => ?_, fun hw ac u K => ?_, trivial⟩ ?_
  · exact st_move (.tmp 7) rfl ((K.old 7 rfl).trans x7)
  · exact st_neqi 27 (.tmp 38) (.const (.int .i64 0)) rfl .i64 (0) (0) (K.dep 0 38 rfl) rfl _ (by rfl)
  · exact st_move (.tmp 39) rfl (K.dep 1 39 rfl)
  · exact st_move (.tmp 6) rfl ((K.old 6 rfl).trans x6)
  · exact st_bin .eql 25 25 (.tmp 41) _ rfl (K.dep 3 41 rfl) rfl (by kernel_rfl)
  · exact st_pick_f' (.tmp 40) (.const (.bool true)) (.tmp 42) rfl (K.dep 2 40 rfl) (K.dep 4 42 rfl)
  · exact st_move (.tmp 43) rfl (K.dep 5 43 rfl)
  · exact st_move (.tmp 8) rfl ((K.old 8 rfl).trans x8)
  · exact st_bin .eql 25 25 (.tmp 45) _ rfl (K.dep 7 45 rfl) rfl (by kernel_rfl)
  · exact st_pick_f' (.tmp 44) (.const (.bool true)) (.tmp 46) rfl (K.dep 6 44 rfl) (K.dep 8 46 rfl)
  · exact st_move (.tmp 47) rfl (K.dep 9 47 rfl)
  · exact st_move (.tmp 6) rfl ((K.old 6 rfl).trans x6)
  · exact st_move (.tmp 5) rfl ((K.old 5 rfl).trans x5)
  · exact st_call 21 (.func 21) _ _ #[.pointer (some ⟨go, 0, none⟩), .pointer (some ⟨gr, 0, none⟩)] rfl rfl (arg2 (K.dep 11 49 rfl) (K.dep 12 50 rfl)) Tryd.enter21 (fk_equal (hro.mono K.grow) (hrr.mono K.grow) (by simp))
  · exact st_not (.tmp 51) rfl true (K.dep 13 51 rfl)
  · exact st_pick_f' (.tmp 48) (.const (.bool true)) (.tmp 52) rfl (K.dep 10 48 rfl) (K.dep 14 52 rfl)
  · exact st_move (.tmp 53) rfl (K.dep 15 53 rfl)
  · exact st_move (.tmp 8) rfl ((K.old 8 rfl).trans x8)
  · exact st_move (.tmp 5) rfl ((K.old 5 rfl).trans x5)
  · exact st_call 21 (.func 21) _ _ #[.pointer (some ⟨gc, 0, none⟩), .pointer (some ⟨gr, 0, none⟩)] rfl rfl (arg2 (K.dep 17 55 rfl) (K.dep 18 56 rfl)) Tryd.enter21 (fk_equal (hrc.mono K.grow) (hrr.mono K.grow) (by simp))
  · exact st_not (.tmp 57) rfl true (K.dep 19 57 rfl)
  · exact st_pick_f' (.tmp 54) (.const (.bool true)) (.tmp 58) rfl (K.dep 16 54 rfl) (K.dep 20 58 rfl)
  intro f10 w10 A hb
  replace bl0 := bl
  replace x0 := (A.old 0 rfl).trans x0
  replace x1 := (A.old 1 rfl).trans x1
  replace x4 := (A.old 4 rfl).trans x4
  replace x19 := (A.old 19 rfl).trans x19
  replace x5 := (A.old 5 rfl).trans x5
  replace x29 := (A.old 29 rfl).trans x29
  replace x6 := (A.old 6 rfl).trans x6
  replace x7 := (A.old 7 rfl).trans x7
  replace x8 := (A.old 8 rfl).trans x8
  have x59 : f10.eval (.tmp 59) = .bool false := A.has 21 59 rfl
  replace hrr := HR.mono hrr hb
  replace hro := HR.mono hro hb
  replace hrc := HR.mono hrc hb
  replace bl := (bl.trans (Below.mono hb bl.size))
  replace sz := A.size.trans sz
  replace df := A.defs.trans df
  clear A hb
  clear x7
  show Code.wp _ _ _ _ _
  refine wp_cond_false x59 ?_
  refine wp_skip ?_
  show Code.wp _ _ _ _ _
  refine wp_seq ?_
  replace ltr := hrr.lt
  replace lto := hro.lt
  have ltc := hrc.lt
  have hbs10 := bl.size
  refine wp_all_seq [.eq (.pointer (some ⟨gr, 0, none⟩)), .ow w10.heap.size (P1), .ow w10.heap.size (P1)] (by kernel_rfl) (by kernel_rfl) (by rw [sz]; kernel_rfl) (by kernel_rfl) ⟨fun hw ac u K => ?_, fun hw ac u K => ?_, fun hw ac u K => ?_, trivial⟩ ?_
  · exact st_move (.tmp 5) rfl ((K.old 5 rfl).trans x5)
  · exact st_call 14 (.func 14) _ _ #[.pointer (some ⟨gr, 0, none⟩)] rfl rfl (one_arg (K.dep 0 60 rfl)) Tryd.enter14 (fk_ow K.grow.size (fk_peaks (hrr.mono K.grow)))
  · exact st_assign (.tmp 61) rfl (K.dep 1 61 rfl)
  intro f11 w11 A hb
  replace bl0 := bl
  replace x0 := (A.old 0 rfl).trans x0
  replace x1 := (A.old 1 rfl).trans x1
  replace x4 := (A.old 4 rfl).trans x4
  replace x19 := (A.old 19 rfl).trans x19
  replace x5 := (A.old 5 rfl).trans x5
  replace x29 := (A.old 29 rfl).trans x29
  replace x6 := (A.old 6 rfl).trans x6
  replace x8 := (A.old 8 rfl).trans x8
  replace x59 := (A.old 59 rfl).trans x59
  have x9 : Fk.f (.ow w10.heap.size (P1)) (f11.eval (.tmp 9)) w11 := A.has 2 9 rfl
  replace hrr := HR.mono hrr hb
  replace hro := HR.mono hro hb
  replace hrc := HR.mono hrc hb
  replace bl := (bl.trans (Below.mono hb bl.size))
  replace sz := A.size.trans sz
  replace df := A.defs.trans df
  clear A hb
  obtain ⟨v9, e9⟩ : ∃ v, f11.eval (.tmp 9) = v := ⟨_, rfl⟩
  have hP9 := ow_ownp x9
  rw [e9] at hP9
  replace x9 := e9
  clear e9
  show Code.wp _ _ _ _ _
  refine wp_seq ?_
  refine wp_seq ?_
  refine wp_all_seq [.eq (v9), .eq (.int .i64 ((P1.length : Nat) : Int)), .eq (.int .i64 0)] (by kernel_rfl) (by kernel_rfl) (by rw [sz]; kernel_rfl) (by kernel_rfl) ⟨fun hw ac u K => ?_, fun hw ac u K => ?_, fun hw ac u K => ?_, trivial⟩ ?_
  · exact st_move (.tmp 9) rfl ((K.old 9 rfl).trans x9)
  · exact st_lenO (.tmp 62) rfl (K.dep 0 62 rfl) hP9
  · exact st_move (.const (.int .i64 0)) rfl rfl
  intro f12 w12 A hb
  replace bl0 := bl
  replace x0 := (A.old 0 rfl).trans x0
  replace x1 := (A.old 1 rfl).trans x1
  replace x4 := (A.old 4 rfl).trans x4
  replace x19 := (A.old 19 rfl).trans x19
  replace x5 := (A.old 5 rfl).trans x5
  replace x29 := (A.old 29 rfl).trans x29
  replace x6 := (A.old 6 rfl).trans x6
  replace x8 := (A.old 8 rfl).trans x8
  replace x59 := (A.old 59 rfl).trans x59
  replace x9 := (A.old 9 rfl).trans x9
  have x63 : f12.eval (.tmp 63) = .int .i64 ((P1.length : Nat) : Int) := A.has 1 63 rfl
  have x64 : f12.eval (.tmp 64) = .int .i64 0 := A.has 2 64 rfl
  replace hrr := HR.mono hrr hb
  replace hro := HR.mono hro hb
  replace hrc := HR.mono hrc hb
  replace hP9 := OwnP.mono hP9 hb
  replace bl := (bl.trans (Below.mono hb bl.size))
  replace sz := A.size.trans sz
  replace df := A.defs.trans df
  clear A hb
  show Code.wp _ _ _ _ _
  refine wp_block ?_
  refine wp_loop (fun f v1 => ∃ k : Nat, k ≤ P1.length ∧ f.tmps.size = 123 ∧ f.defers = [] ∧ f.eval (.tmp 0) = .slice lA (l).length lC ∧ f.eval (.tmp 1) = .slice mA (M).length mC ∧ f.eval (.tmp 4) = .bool false ∧ f.eval (.tmp 19) = .bool false ∧ f.eval (.tmp 5) = .pointer (some ⟨gr, 0, none⟩) ∧ f.eval (.tmp 29) = .bool false ∧ f.eval (.tmp 6) = .pointer (some ⟨go, 0, none⟩) ∧ f.eval (.tmp 8) = .pointer (some ⟨gc, 0, none⟩) ∧ f.eval (.tmp 59) = .bool false ∧ f.eval (.tmp 9) = v9 ∧ f.eval (.tmp 63) = .int .i64 ((P1.length : Nat) : Int) ∧ f.eval (.tmp 64) = .int .i64 ((k : Nat) : Int) ∧ HR v1 gr kr5 (l.length) P1 ∧ HR v1 go ko (l.length) P1 ∧ HR v1 gc kc (l.length) P1 ∧ OwnP w10.heap.size P1.length v9 v1 ∧ Below w.heap.size w (v1)) (fun f _ => P1.length - (intOf (f.eval (.tmp 64))).toNat) ⟨0, Nat.zero_le _, sz, df, x0, x1, x4, x19, x5, x29, x6, x8, x59, x9, x63, x64, hrr, hro, hrc, hP9, bl⟩ ?_
  intro f13 w13 hI
  clear sz df bl bl0 x0 x1 x4 x19 x5 x29 x6 x8 x59 x9 x63 x64 hrr hro hrc hP9
  obtain ⟨k, hk, sz, df, x0, x1, x4, x19, x5, x29, x6, x8, x59, x9, x63, x64, hrr, hro, hrc, hP9, bl⟩ := hI
  have bl0 := bl
  have hcnt := x64
  refine wp_seq ?_
  by_cases hlt : k < P1.length
  rotate_left
  · skip
    refine wp_all_seq [.eq (.bool false)] (by kernel_rfl) (by kernel_rfl) (by rw [sz]; kernel_rfl) (by kernel_rfl) ⟨fun hw ac u K => ?_, trivial⟩ ?_
    · exact st_lss 3 (.tmp 64) (.tmp 63) rfl .i64 (((k : Nat) : Int)) (((P1.length : Nat) : Int)) ((K.old 64 rfl).trans x64) ((K.old 63 rfl).trans x63) _ (by rw [eq_comm, decide_eq_false_iff_not]; exact fun h => hlt (Int.ofNat_lt.1 h))
    intro f14 w14 A hb
    replace bl0 := bl
    replace x0 := (A.old 0 rfl).trans x0
    replace x1 := (A.old 1 rfl).trans x1
    replace x4 := (A.old 4 rfl).trans x4
    replace x19 := (A.old 19 rfl).trans x19
    replace x5 := (A.old 5 rfl).trans x5
    replace x29 := (A.old 29 rfl).trans x29
    replace x6 := (A.old 6 rfl).trans x6
    replace x8 := (A.old 8 rfl).trans x8
    replace x59 := (A.old 59 rfl).trans x59
    replace x9 := (A.old 9 rfl).trans x9
    replace x63 := (A.old 63 rfl).trans x63
    replace x64 := (A.old 64 rfl).trans x64
    have x65 : f14.eval (.tmp 65) = .bool false := A.has 0 65 rfl
    replace hrr := HR.mono hrr hb
    replace hro := HR.mono hro hb
    replace hrc := HR.mono hrc hb
    replace hP9 := OwnP.mono hP9 hb
    replace bl := (bl.trans (Below.mono hb bl.size))
    replace sz := A.size.trans sz
    replace df := A.defs.trans df
    clear A hb
    show Code.wp _ _ _ _ _
    refine wp_seq ?_
    refine wp_cond_false x65 ?_
    refine wp_exit ?_
    show Code.wp _ _ _ _ _
    refine wp_seq ?_
    refine wp_seq ?_
    clear hP9
    refine wp_region_seq [.eq (.pointer (some ⟨gr, 0, none⟩)), .eq (.slice mA (M).length mC)] (by kernel_rfl) (by kernel_rfl) (by rw [sz]; kernel_rfl) (by kernel_rfl) ⟨fun hw ac u K => ?_, fun hw ac u K => ?_, trivial⟩ ?_
    · exact st_move (.tmp 5) rfl ((K.old 5 rfl).trans x5)
    · exact st_move (.tmp 1) rfl ((K.old 1 rfl).trans x1)
    intro f15 w15 A hb
    replace bl0 := bl
    replace x0 := (A.old 0 rfl).trans x0
    replace x1 := (A.old 1 rfl).trans x1
    replace x4 := (A.old 4 rfl).trans x4
    replace x19 := (A.old 19 rfl).trans x19
    replace x5 := (A.old 5 rfl).trans x5
    replace x29 := (A.old 29 rfl).trans x29
    replace x6 := (A.old 6 rfl).trans x6
    replace x8 := (A.old 8 rfl).trans x8
    replace x59 := (A.old 59 rfl).trans x59
    replace x9 := (A.old 9 rfl).trans x9
    replace x63 := (A.old 63 rfl).trans x63
    replace x64 := (A.old 64 rfl).trans x64
    replace x65 := (A.old 65 rfl).trans x65
    have x72 : f15.eval (.tmp 72) = .pointer (some ⟨gr, 0, none⟩) := A.has 0 72 rfl
    have x73 : f15.eval (.tmp 73) = .slice mA (M).length mC := A.has 1 73 rfl
    replace hrr := HR.mono hrr hb
    replace hro := HR.mono hro hb
    replace hrc := HR.mono hrc hb
    replace bl := (bl.trans (Below.mono hb bl.size))
    replace sz := A.size.trans sz
    replace df := A.defs.trans df
    clear A hb
    have lto := hro.lt
    have ltc := hrc.lt
    have hbs := bl.size
    refine wl_call 9 (.func 9) _ _ #[.pointer (some ⟨gr, 0, none⟩), .slice mA (M).length mC] rfl 74 rfl (by rw [sz]; decide) rfl rfl (arg2 x72 x73) Tryd.enter9 (fun z W' => z = .int .i64 0 ∧ (∃ k', HR W' gr k' (l.length + M.length) P2 ∧ (k' = kr5 ∨ w15.heap.size ≤ k')) ∧ Kp gr kr5 w15 W') ((c_app_ok hrr (Fk.mono _ _ _ _ hu bl) (by omega) (by omega) (hK.below bl) hg2 (hc_ap hu hbr.1 hbr.2) ⟨by have := hK.pos; omega, by have := hK.pos; omega⟩).mono (by rintro e w' ⟨rfl, h1, h2⟩; exact ⟨_, rfl, rfl, h1, h2⟩)) ?_
    intro f16 w16 df2 sz2 old2 hR2
    obtain ⟨x74, ⟨kr16, hr2, hk2⟩, hkp⟩ := hR2
    replace x0 := (old2 0 rfl).trans x0
    replace x1 := (old2 1 rfl).trans x1
    replace x4 := (old2 4 rfl).trans x4
    replace x19 := (old2 19 rfl).trans x19
    replace x5 := (old2 5 rfl).trans x5
    replace x29 := (old2 29 rfl).trans x29
    replace x6 := (old2 6 rfl).trans x6
    replace x8 := (old2 8 rfl).trans x8
    replace x59 := (old2 59 rfl).trans x59
    replace x9 := (old2 9 rfl).trans x9
    replace x63 := (old2 63 rfl).trans x63
    replace x64 := (old2 64 rfl).trans x64
    replace x65 := (old2 65 rfl).trans x65
    replace x72 := (old2 72 rfl).trans x72
    replace x73 := (old2 73 rfl).trans x73
    replace hro := hro.kp hkp ap_or.1 ap_or.2.1 ap_or.2.2.1 ap_or.2.2.2
    replace hrc := hrc.kp hkp ap_cr.1 ap_cr.2.1 ap_cr.2.2.1 ap_cr.2.2.2
    replace ap_or : go ≠ gr ∧ go ≠ kr16 ∧ ko ≠ gr ∧ ko ≠ kr16 := by rcases hk2 with e | e <;> omega
    replace ap_cr : gc ≠ gr ∧ gc ≠ kr16 ∧ kc ≠ gr ∧ kc ≠ kr16 := by rcases hk2 with e | e <;> omega
    have ap_ro : gr ≠ go ∧ gr ≠ ko ∧ kr16 ≠ go ∧ kr16 ≠ ko := by rcases hk2 with e | e <;> omega
    have ap_rc : gr ≠ gc ∧ gr ≠ kc ∧ kr16 ≠ gc ∧ kr16 ≠ kc := by rcases hk2 with e | e <;> omega
    replace bl := bl.trans (hkp.below bl.size hbr.1 hbr.2)
    replace hbr : w.heap.size ≤ gr ∧ w.heap.size ≤ kr16 := by rcases hk2 with e | e <;> omega
    clear hrr
    have hrr := hr2
    clear hr2 hkp hk2 hbs lto ltc
    replace bl0 := bl
    replace sz := sz2.trans sz
    replace df := df2.trans df
    clear df2 sz2 old2
    clear x72
    clear x73
    refine wl_one (.eq (.bool false)) rfl 75 rfl (by rw [sz]; decide) (st_neqi 27 (.tmp 74) (.const (.int .i64 0)) rfl .i64 (0) (0) x74 rfl _ (by rfl)) ?_
    intro f17 w17 df2 sz2 old2 new2 hb
    replace bl0 := bl
    replace x0 := (old2 0 rfl).trans x0
    replace x1 := (old2 1 rfl).trans x1
    replace x4 := (old2 4 rfl).trans x4
    replace x19 := (old2 19 rfl).trans x19
    replace x5 := (old2 5 rfl).trans x5
    replace x29 := (old2 29 rfl).trans x29
    replace x6 := (old2 6 rfl).trans x6
    replace x8 := (old2 8 rfl).trans x8
    replace x59 := (old2 59 rfl).trans x59
    replace x9 := (old2 9 rfl).trans x9
    replace x63 := (old2 63 rfl).trans x63
    replace x64 := (old2 64 rfl).trans x64
    replace x65 := (old2 65 rfl).trans x65
    replace x74 := (old2 74 rfl).trans x74
    have x75 : f17.eval (.tmp 75) = .bool false := new2
    replace hrr := HR.mono hrr hb
    replace hro := HR.mono hro hb
    replace hrc := HR.mono hrc hb
    replace bl := (bl.trans (Below.mono hb bl.size))
    replace sz := sz2.trans sz
    replace df := df2.trans df
    clear df2 sz2 old2 new2 hb
    clear x74
    refine wl_one (.eq (.bool false)) rfl 76 rfl (by rw [sz]; decide) (st_move (.tmp 75) rfl x75) ?_
    intro f18 w18 df2 sz2 old2 new2 hb
    replace bl0 := bl
    replace x0 := (old2 0 rfl).trans x0
    replace x1 := (old2 1 rfl).trans x1
    replace x4 := (old2 4 rfl).trans x4
    replace x19 := (old2 19 rfl).trans x19
    replace x5 := (old2 5 rfl).trans x5
    replace x29 := (old2 29 rfl).trans x29
    replace x6 := (old2 6 rfl).trans x6
    replace x8 := (old2 8 rfl).trans x8
    replace x59 := (old2 59 rfl).trans x59
    replace x9 := (old2 9 rfl).trans x9
    replace x63 := (old2 63 rfl).trans x63
    replace x64 := (old2 64 rfl).trans x64
    replace x65 := (old2 65 rfl).trans x65
    replace x75 := (old2 75 rfl).trans x75
    have x76 : f18.eval (.tmp 76) = .bool false := new2
    replace hrr := HR.mono hrr hb
    replace hro := HR.mono hro hb
    replace hrc := HR.mono hrc hb
    replace bl := (bl.trans (Below.mono hb bl.size))
    replace sz := sz2.trans sz
    replace df := df2.trans df
    clear df2 sz2 old2 new2 hb
    clear x75
    refine wl_onew (.eq (.pointer (some ⟨go, 0, none⟩))) (want_of rfl rfl x76) 77 rfl (by rw [sz]; decide) (st_move (.tmp 6) rfl x6) ?_
    intro f19 w19 df2 sz2 old2 new2 hb
    replace bl0 := bl
    replace x0 := (old2 0 rfl).trans x0
    replace x1 := (old2 1 rfl).trans x1
    replace x4 := (old2 4 rfl).trans x4
    replace x19 := (old2 19 rfl).trans x19
    replace x5 := (old2 5 rfl).trans x5
    replace x29 := (old2 29 rfl).trans x29
    replace x6 := (old2 6 rfl).trans x6
    replace x8 := (old2 8 rfl).trans x8
    replace x59 := (old2 59 rfl).trans x59
    replace x9 := (old2 9 rfl).trans x9
    replace x63 := (old2 63 rfl).trans x63
    replace x64 := (old2 64 rfl).trans x64
    replace x65 := (old2 65 rfl).trans x65
    replace x76 := (old2 76 rfl).trans x76
    have x77 : f19.eval (.tmp 77) = .pointer (some ⟨go, 0, none⟩) := new2
    replace hrr := HR.mono hrr hb
    replace hro := HR.mono hro hb
    replace hrc := HR.mono hrc hb
    replace bl := (bl.trans (Below.mono hb bl.size))
    replace sz := sz2.trans sz
    replace df := df2.trans df
    clear df2 sz2 old2 new2 hb
    refine wl_onew (.eq (.slice mA (M).length mC)) (want_of rfl rfl x76) 78 rfl (by rw [sz]; decide) (st_move (.tmp 1) rfl x1) ?_
    intro f20 w20 df2 sz2 old2 new2 hb
    replace bl0 := bl
    replace x0 := (old2 0 rfl).trans x0
    replace x1 := (old2 1 rfl).trans x1
    replace x4 := (old2 4 rfl).trans x4
    replace x19 := (old2 19 rfl).trans x19
    replace x5 := (old2 5 rfl).trans x5
    replace x29 := (old2 29 rfl).trans x29
    replace x6 := (old2 6 rfl).trans x6
    replace x8 := (old2 8 rfl).trans x8
    replace x59 := (old2 59 rfl).trans x59
    replace x9 := (old2 9 rfl).trans x9
    replace x63 := (old2 63 rfl).trans x63
    replace x64 := (old2 64 rfl).trans x64
    replace x65 := (old2 65 rfl).trans x65
    replace x76 := (old2 76 rfl).trans x76
    replace x77 := (old2 77 rfl).trans x77
    have x78 : f20.eval (.tmp 78) = .slice mA (M).length mC := new2
    replace hrr := HR.mono hrr hb
    replace hro := HR.mono hro hb
    replace hrc := HR.mono hrc hb
    replace bl := (bl.trans (Below.mono hb bl.size))
    replace sz := sz2.trans sz
    replace df := df2.trans df
    clear df2 sz2 old2 new2 hb
    have ltr := hrr.lt
    have ltc := hrc.lt
    have hbs := bl.size
    refine wl_callw 9 (.func 9) _ _ #[.pointer (some ⟨go, 0, none⟩), .slice mA (M).length mC] (want_of rfl rfl x76) 79 rfl (by rw [sz]; decide) rfl rfl (arg2 x77 x78) Tryd.enter9 (fun z W' => z = .int .i64 0 ∧ (∃ k', HR W' go k' (l.length + M.length) P2 ∧ (k' = ko ∨ w20.heap.size ≤ k')) ∧ Kp go ko w20 W') ((c_app_ok hro (Fk.mono _ _ _ _ hu bl) (by omega) (by omega) (hK.below bl) hg2 (hc_ap hu hbo.1 hbo.2) ⟨by have := hK.pos; omega, by have := hK.pos; omega⟩).mono (by rintro e w' ⟨rfl, h1, h2⟩; exact ⟨_, rfl, rfl, h1, h2⟩)) ?_
    intro f21 w21 df2 sz2 old2 hR2
    obtain ⟨x79, ⟨ko21, hr2, hk2⟩, hkp⟩ := hR2
    replace x0 := (old2 0 rfl).trans x0
    replace x1 := (old2 1 rfl).trans x1
    replace x4 := (old2 4 rfl).trans x4
    replace x19 := (old2 19 rfl).trans x19
    replace x5 := (old2 5 rfl).trans x5
    replace x29 := (old2 29 rfl).trans x29
    replace x6 := (old2 6 rfl).trans x6
    replace x8 := (old2 8 rfl).trans x8
    replace x59 := (old2 59 rfl).trans x59
    replace x9 := (old2 9 rfl).trans x9
    replace x63 := (old2 63 rfl).trans x63
    replace x64 := (old2 64 rfl).trans x64
    replace x65 := (old2 65 rfl).trans x65
    replace x76 := (old2 76 rfl).trans x76
    replace x77 := (old2 77 rfl).trans x77
    replace x78 := (old2 78 rfl).trans x78
    replace hrr := hrr.kp hkp ap_ro.1 ap_ro.2.1 ap_ro.2.2.1 ap_ro.2.2.2
    replace hrc := hrc.kp hkp ap_co.1 ap_co.2.1 ap_co.2.2.1 ap_co.2.2.2
    replace ap_ro : gr ≠ go ∧ gr ≠ ko21 ∧ kr16 ≠ go ∧ kr16 ≠ ko21 := by rcases hk2 with e | e <;> omega
    replace ap_co : gc ≠ go ∧ gc ≠ ko21 ∧ kc ≠ go ∧ kc ≠ ko21 := by rcases hk2 with e | e <;> omega
    have ap_or : go ≠ gr ∧ go ≠ kr16 ∧ ko21 ≠ gr ∧ ko21 ≠ kr16 := by rcases hk2 with e | e <;> omega
    have ap_oc : go ≠ gc ∧ go ≠ kc ∧ ko21 ≠ gc ∧ ko21 ≠ kc := by rcases hk2 with e | e <;> omega
    replace bl := bl.trans (hkp.below bl.size hbo.1 hbo.2)
    replace hbo : w.heap.size ≤ go ∧ w.heap.size ≤ ko21 := by rcases hk2 with e | e <;> omega
    clear hro
    have hro := hr2
    clear hr2 hkp hk2 hbs ltr ltc
    replace bl0 := bl
    replace sz := sz2.trans sz
    replace df := df2.trans df
    clear df2 sz2 old2
    clear x77
    clear x78
    refine wl_onew (.eq (.bool false)) (want_of rfl rfl x76) 80 rfl (by rw [sz]; decide) (st_neqi 27 (.tmp 79) (.const (.int .i64 0)) rfl .i64 (0) (0) x79 rfl _ (by rfl)) ?_
    intro f22 w22 df2 sz2 old2 new2 hb
    replace bl0 := bl
    replace x0 := (old2 0 rfl).trans x0
    replace x1 := (old2 1 rfl).trans x1
    replace x4 := (old2 4 rfl).trans x4
    replace x19 := (old2 19 rfl).trans x19
    replace x5 := (old2 5 rfl).trans x5
    replace x29 := (old2 29 rfl).trans x29
    replace x6 := (old2 6 rfl).trans x6
    replace x8 := (old2 8 rfl).trans x8
    replace x59 := (old2 59 rfl).trans x59
    replace x9 := (old2 9 rfl).trans x9
    replace x63 := (old2 63 rfl).trans x63
    replace x64 := (old2 64 rfl).trans x64
    replace x65 := (old2 65 rfl).trans x65
    replace x76 := (old2 76 rfl).trans x76
    replace x79 := (old2 79 rfl).trans x79
    have x80 : f22.eval (.tmp 80) = .bool false := new2
    replace hrr := HR.mono hrr hb
    replace hro := HR.mono hro hb
    replace hrc := HR.mono hrc hb
    replace bl := (bl.trans (Below.mono hb bl.size))
    replace sz := sz2.trans sz
    replace df := df2.trans df
    clear df2 sz2 old2 new2 hb
    clear x79
    refine wl_one (.eq (.bool false)) rfl 81 rfl (by rw [sz]; decide) (st_pick_f' (.tmp 76) (.const (.bool true)) (.tmp 80) rfl x76 x80) ?_
    intro f23 w23 df2 sz2 old2 new2 hb
    replace bl0 := bl
    replace x0 := (old2 0 rfl).trans x0
    replace x1 := (old2 1 rfl).trans x1
    replace x4 := (old2 4 rfl).trans x4
    replace x19 := (old2 19 rfl).trans x19
    replace x5 := (old2 5 rfl).trans x5
    replace x29 := (old2 29 rfl).trans x29
    replace x6 := (old2 6 rfl).trans x6
    replace x8 := (old2 8 rfl).trans x8
    replace x59 := (old2 59 rfl).trans x59
    replace x9 := (old2 9 rfl).trans x9
    replace x63 := (old2 63 rfl).trans x63
    replace x64 := (old2 64 rfl).trans x64
    replace x65 := (old2 65 rfl).trans x65
    replace x76 := (old2 76 rfl).trans x76
    replace x80 := (old2 80 rfl).trans x80
    have x81 : f23.eval (.tmp 81) = .bool false := new2
    replace hrr := HR.mono hrr hb
    replace hro := HR.mono hro hb
    replace hrc := HR.mono hrc hb
    replace bl := (bl.trans (Below.mono hb bl.size))
    replace sz := sz2.trans sz
    replace df := df2.trans df
    clear df2 sz2 old2 new2 hb
    refine wpList_nil ?_
    clear x76
    clear x80
    show Code.wp _ _ _ _ _
    refine wp_cond_false x81 ?_
    refine wp_skip ?_
    show Code.wp _ _ _ _ _
    refine wp_seq ?_
    have blw := bl
    replace hv := Fk.mono _ _ _ _ hv bl
    replace hvs := Fk.mono _ _ _ _ hvs bl
    replace hu := Fk.mono _ _ _ _ hu bl
    replace hus := Fk.mono _ _ _ _ hus bl
    replace hK := hK.below bl
    replace bl := Below.refl w23.heap.size w23
    replace bl0 := bl
    have hrr0 := hrr
    have hro0 := hro
    have hrc0 := hrc
    refine wp_region_seq [.ow w23.heap.size ([]), .eq (.slice lA (l).length lC)] (by kernel_rfl) (by kernel_rfl) (by rw [sz]; kernel_rfl) (by kernel_rfl) ⟨fun hw ac u K => ?_, fun hw ac u K => ?_, trivial⟩ ?_
    · exact st_build0 rfl _ (bl.trans (Below.mono K.grow bl.size)).size
    · exact st_move (.tmp 0) rfl ((K.old 0 rfl).trans x0)
    intro f24 w24 A hb
    replace bl0 := bl
    replace x0 := (A.old 0 rfl).trans x0
    replace x1 := (A.old 1 rfl).trans x1
    replace x4 := (A.old 4 rfl).trans x4
    replace x19 := (A.old 19 rfl).trans x19
    replace x5 := (A.old 5 rfl).trans x5
    replace x29 := (A.old 29 rfl).trans x29
    replace x6 := (A.old 6 rfl).trans x6
    replace x8 := (A.old 8 rfl).trans x8
    replace x59 := (A.old 59 rfl).trans x59
    replace x9 := (A.old 9 rfl).trans x9
    replace x63 := (A.old 63 rfl).trans x63
    replace x64 := (A.old 64 rfl).trans x64
    replace x65 := (A.old 65 rfl).trans x65
    replace x81 := (A.old 81 rfl).trans x81
    have x82 : Fk.f (.ow w23.heap.size ([])) (f24.eval (.tmp 82)) w24 := A.has 0 82 rfl
    have x83 : f24.eval (.tmp 83) = .slice lA (l).length lC := A.has 1 83 rfl
    replace hrr := HR.mono hrr hb
    replace hro := HR.mono hro hb
    replace hrc := HR.mono hrc hb
    replace bl := (bl.trans (Below.mono hb bl.size))
    replace sz := A.size.trans sz
    replace df := A.defs.trans df
    clear A hb
    refine wl_appendM rfl (.tmp 82) (.tmp 83) rfl 84 rfl (by rw [sz]; decide) x82 x83 (Fk.mono _ _ _ _ hv bl) hlA bl (by simp only [List.length_nil]; omega) ?_
    intro f25 w25 df2 sz2 old2 new2 bl2
    clear x82
    replace x0 := (old2 0 rfl).trans x0
    replace x1 := (old2 1 rfl).trans x1
    replace x4 := (old2 4 rfl).trans x4
    replace x19 := (old2 19 rfl).trans x19
    replace x5 := (old2 5 rfl).trans x5
    replace x29 := (old2 29 rfl).trans x29
    replace x6 := (old2 6 rfl).trans x6
    replace x8 := (old2 8 rfl).trans x8
    replace x59 := (old2 59 rfl).trans x59
    replace x9 := (old2 9 rfl).trans x9
    replace x63 := (old2 63 rfl).trans x63
    replace x64 := (old2 64 rfl).trans x64
    replace x65 := (old2 65 rfl).trans x65
    replace x81 := (old2 81 rfl).trans x81
    replace x83 := (old2 83 rfl).trans x83
    have x84 : Fk.f (.ow w23.heap.size ([] ++ l)) (f25.eval (.tmp 84)) w25 := new2
    replace hrr := hrr0.mono bl2
    replace hro := hro0.mono bl2
    replace hrc := hrc0.mono bl2
    replace bl := bl2
    replace bl0 := bl
    replace sz := sz2.trans sz
    replace df := df2.trans df
    clear df2 sz2 old2 new2 bl2
    clear x83
    refine wl_one (.eq (.slice mA (M).length mC)) rfl 85 rfl (by rw [sz]; decide) (st_move (.tmp 1) rfl x1) ?_
    intro f26 w26 df2 sz2 old2 new2 hb
    replace bl0 := bl
    replace x0 := (old2 0 rfl).trans x0
    replace x1 := (old2 1 rfl).trans x1
    replace x4 := (old2 4 rfl).trans x4
    replace x19 := (old2 19 rfl).trans x19
    replace x5 := (old2 5 rfl).trans x5
    replace x29 := (old2 29 rfl).trans x29
    replace x6 := (old2 6 rfl).trans x6
    replace x8 := (old2 8 rfl).trans x8
    replace x59 := (old2 59 rfl).trans x59
    replace x9 := (old2 9 rfl).trans x9
    replace x63 := (old2 63 rfl).trans x63
    replace x64 := (old2 64 rfl).trans x64
    replace x65 := (old2 65 rfl).trans x65
    replace x81 := (old2 81 rfl).trans x81
    replace x84 := f_at (old2 84 rfl) (Fk.mono _ _ _ _ x84 hb)
    have x85 : f26.eval (.tmp 85) = .slice mA (M).length mC := new2
    replace hrr := HR.mono hrr hb
    replace hro := HR.mono hro hb
    replace hrc := HR.mono hrc hb
    replace bl := (bl.trans (Below.mono hb bl.size))
    replace sz := sz2.trans sz
    replace df := df2.trans df
    clear df2 sz2 old2 new2 hb
    refine wl_appendM rfl (.tmp 84) (.tmp 85) rfl 86 rfl (by rw [sz]; decide) x84 x85 (Fk.mono _ _ _ _ hu bl) hmA bl (by simp only [List.length_append, List.length_nil]; omega) ?_
    intro f27 w27 df2 sz2 old2 new2 bl2
    clear x84
    replace x0 := (old2 0 rfl).trans x0
    replace x1 := (old2 1 rfl).trans x1
    replace x4 := (old2 4 rfl).trans x4
    replace x19 := (old2 19 rfl).trans x19
    replace x5 := (old2 5 rfl).trans x5
    replace x29 := (old2 29 rfl).trans x29
    replace x6 := (old2 6 rfl).trans x6
    replace x8 := (old2 8 rfl).trans x8
    replace x59 := (old2 59 rfl).trans x59
    replace x9 := (old2 9 rfl).trans x9
    replace x63 := (old2 63 rfl).trans x63
    replace x64 := (old2 64 rfl).trans x64
    replace x65 := (old2 65 rfl).trans x65
    replace x81 := (old2 81 rfl).trans x81
    replace x85 := (old2 85 rfl).trans x85
    have x86 : Fk.f (.ow w23.heap.size (([] ++ l) ++ M)) (f27.eval (.tmp 86)) w27 := new2
    replace hrr := hrr0.mono bl2
    replace hro := hro0.mono bl2
    replace hrc := hrc0.mono bl2
    replace bl := bl2
    replace bl0 := bl
    replace sz := sz2.trans sz
    replace df := df2.trans df
    clear df2 sz2 old2 new2 bl2
    clear x85
    refine wl_one (.ow w23.heap.size (([] ++ l) ++ M)) rfl 11 rfl (by rw [sz]; decide) (st_assign (.tmp 86) rfl x86) ?_
    intro f28 w28 df2 sz2 old2 new2 hb
    replace bl0 := bl
    replace x0 := (old2 0 rfl).trans x0
    replace x1 := (old2 1 rfl).trans x1
    replace x4 := (old2 4 rfl).trans x4
    replace x19 := (old2 19 rfl).trans x19
    replace x5 := (old2 5 rfl).trans x5
    replace x29 := (old2 29 rfl).trans x29
    replace x6 := (old2 6 rfl).trans x6
    replace x8 := (old2 8 rfl).trans x8
    replace x59 := (old2 59 rfl).trans x59
    replace x9 := (old2 9 rfl).trans x9
    replace x63 := (old2 63 rfl).trans x63
    replace x64 := (old2 64 rfl).trans x64
    replace x65 := (old2 65 rfl).trans x65
    replace x81 := (old2 81 rfl).trans x81
    replace x86 := f_at (old2 86 rfl) (Fk.mono _ _ _ _ x86 hb)
    have x11 : Fk.f (.ow w23.heap.size (([] ++ l) ++ M)) (f28.eval (.tmp 11)) w28 := new2
    replace hrr := HR.mono hrr hb
    replace hro := HR.mono hro hb
    replace hrc := HR.mono hrc hb
    replace bl := (bl.trans (Below.mono hb bl.size))
    replace sz := sz2.trans sz
    replace df := df2.trans df
    clear df2 sz2 old2 new2 hb
    refine wpList_nil ?_
    clear x86
    show Code.wp _ _ _ _ _
    refine wp_seq ?_
    rw [List.nil_append] at x11
    by_cases hM0 : M.length = 0
    rotate_left
    · skip
      refine wp_all_seq [.eq (.pointer (some ⟨go, 0, none⟩)), .eq (.pointer (some ⟨gr, 0, none⟩)), .eq (.bool true), .eq (.bool true), .eq (.pointer (some ⟨gr, 0, none⟩)), .eq (.agg ((y2).map V).toArray), .ow w23.heap.size (l ++ M), .eq (.agg ((y2).map V).toArray), .eq (.bool true), .eq (.bool true), .eq (.bool true), .eq (.pointer (some ⟨gc, 0, none⟩)), .eq (.int .i64 ((l.length : Nat) : Int)), .eq (.slice lA (l).length lC), .eq (.int .i64 (((l).length : Nat) : Int)), .eq (.bool true), .eq (.bool true), .eq (.bool true), .eq (.pointer (some ⟨gc, 0, none⟩)), .eq (.agg ((y1).map V).toArray), .eq (.slice lA (l).length lC), .eq (.agg ((y1).map V).toArray), .eq (.bool true), .eq (.bool true), .eq (.bool true), .eq (.pointer (some ⟨gc, 0, none⟩)), .eq (.pointer (some ⟨gr, 0, none⟩)), .eq (.bool false), .eq (.slice mA (M).length mC), .eq (.int .i64 (((M).length : Nat) : Int)), .eq (.bool false), .eq (.bool true), .eq (.bool true), .eq (.bool true), .eq (.bool true), .eq (.bool true), .eq (.bool true)] (by kernel_rfl) (by kernel_rfl) (by rw [sz]; kernel_rfl) (by kernel_rfl) ⟨fun hw ac u K => ?_, fun hw ac u K => ?_, fun hw ac u K => ?_, fun hw ac u K => ?_, fun hw ac u K => ?_, fun hw ac u K => ?_, fun hw ac u K => ?_, fun hw ac u K => ?_, fun hw ac u K => ?_, fun hw ac u K => ?_, fun hw ac u K => ?_, fun hw ac u K => ?_, fun hw ac u K => ?_, fun hw ac u K => ?_, fun hw ac u K => ?_, fun hw ac u K => ?_, fun hw ac u K => ?_, fun hw ac u K => ?_, fun hw ac u K => ?_, fun hw ac u K => ?_, fun hw ac u K => ?_, fun hw ac u K => ?_, fun hw ac u K => ?_, fun hw ac u K => ?_, fun hw ac u K => ?_, fun hw ac u K => ?_, fun hw ac u K => ?_, fun hw ac u K => ?_, fun hw ac u K => ?_, fun hw ac u K => ?_, fun hw ac u K => ?_, fun hw ac u K => ?_, fun hw ac u K => ?_, fun hw ac u K => ?_, fun hw ac u K => ?_, fun hw ac u K => ?_, fun hw ac u K => ?_, trivial⟩ ?_
      · exact st_move (.tmp 6) rfl ((K.old 6 rfl).trans x6)
      · exact st_move (.tmp 5) rfl ((K.old 5 rfl).trans x5)
      · exact st_call 21 (.func 21) _ _ #[.pointer (some ⟨go, 0, none⟩), .pointer (some ⟨gr, 0, none⟩)] rfl rfl (arg2 (K.dep 0 87 rfl) (K.dep 1 88 rfl)) Tryd.enter21 (fk_equal (hro.mono K.grow) (hrr.mono K.grow) (by simp))
      · exact st_move (.tmp 89) rfl (K.dep 2 89 rfl)
      · exact st_move (.tmp 5) rfl ((K.old 5 rfl).trans x5)
      · exact st_call 15 (.func 15) _ _ #[.pointer (some ⟨gr, 0, none⟩)] rfl rfl (one_arg (K.dep 4 91 rfl)) Tryd.enter15 (fk_rroot (hrr.mono K.grow) (hK.below (bl.trans (Below.mono K.grow bl.size))) er2)
      · exact st_move (.tmp 11) rfl (f_at (K.old 11 rfl) (Fk.mono _ _ _ _ x11 K.grow))
      · exact st_call 11 (.func 11) _ _ #[ac.eval (.tmp 93)] rfl rfl (one_arg rfl) Tryd.enter11 (fk_of (lroot_any (by rw [List.length_append]; omega) _ (ow_hc (K.dep 6 93 rfl)) (hK.below (bl.trans (Below.mono K.grow bl.size))) ey2))
      · exact st_eqh (.tmp 92) (.tmp 94) rfl (y2) (y2) hy2 hy2 (K.dep 5 92 rfl) (K.dep 7 94 rfl) _ (by simp)
      · exact st_pick_t (.tmp 90) (.tmp 95) (.const (.bool false)) rfl (K.dep 3 90 rfl) (K.dep 8 95 rfl)
      · exact st_move (.tmp 96) rfl (K.dep 9 96 rfl)
      · exact st_move (.tmp 8) rfl ((K.old 8 rfl).trans x8)
      · exact st_call 12 (.func 12) _ _ #[.pointer (some ⟨gc, 0, none⟩)] rfl rfl (one_arg (K.dep 11 98 rfl)) Tryd.enter12 (fk_size (hrc.mono K.grow))
      · exact st_move (.tmp 0) rfl ((K.old 0 rfl).trans x0)
      · exact st_lenc (.tmp 100) rfl ((l).length) rfl (fk_val (K.dep 13 100 rfl) (Fk.mono _ _ _ _ hv (bl.trans (Below.mono K.grow bl.size))))
      · exact st_eqi 3 (.tmp 99) (.tmp 101) rfl .i64 (((l.length : Nat) : Int)) ((((l).length : Nat) : Int)) (K.dep 12 99 rfl) (K.dep 14 101 rfl) _ (by simp)
      · exact st_pick_t (.tmp 97) (.tmp 102) (.const (.bool false)) rfl (K.dep 10 97 rfl) (K.dep 15 102 rfl)
      · exact st_move (.tmp 103) rfl (K.dep 16 103 rfl)
      · exact st_move (.tmp 8) rfl ((K.old 8 rfl).trans x8)
      · exact st_call 15 (.func 15) _ _ #[.pointer (some ⟨gc, 0, none⟩)] rfl rfl (one_arg (K.dep 18 105 rfl)) Tryd.enter15 (fk_rroot (hrc.mono K.grow) (hK.below (bl.trans (Below.mono K.grow bl.size))) er1)
      · exact st_move (.tmp 0) rfl ((K.old 0 rfl).trans x0)
      · exact st_call 11 (.func 11) _ _ #[.slice lA (l).length lC] rfl rfl (one_arg (K.dep 20 107 rfl)) Tryd.enter11 (fk_of (lroot_any (by omega) _ (Fk.mono _ _ _ _ hv (bl.trans (Below.mono K.grow bl.size))) (hK.below (bl.trans (Below.mono K.grow bl.size))) ey1))
      · exact st_eqh (.tmp 106) (.tmp 108) rfl (y1) (y1) hy1 hy1 (K.dep 19 106 rfl) (K.dep 21 108 rfl) _ (by simp)
      · exact st_pick_t (.tmp 104) (.tmp 109) (.const (.bool false)) rfl (K.dep 17 104 rfl) (K.dep 22 109 rfl)
      · exact st_move (.tmp 110) rfl (K.dep 23 110 rfl)
      · exact st_move (.tmp 8) rfl ((K.old 8 rfl).trans x8)
      · exact st_move (.tmp 5) rfl ((K.old 5 rfl).trans x5)
      · exact st_call 21 (.func 21) _ _ #[.pointer (some ⟨gc, 0, none⟩), .pointer (some ⟨gr, 0, none⟩)] rfl rfl (arg2 (K.dep 25 112 rfl) (K.dep 26 113 rfl)) Tryd.enter21 (fk_equal (hrc.mono K.grow) (hrr.mono K.grow) (by simp [hM0]))
      · exact st_move (.tmp 1) rfl ((K.old 1 rfl).trans x1)
      · exact st_lenc (.tmp 115) rfl ((M).length) rfl (fk_val (K.dep 28 115 rfl) (Fk.mono _ _ _ _ hu (bl.trans (Below.mono K.grow bl.size))))
      · exact st_eqi 3 (.tmp 116) (.const (.int .i64 0)) rfl .i64 ((((M).length : Nat) : Int)) (0) (K.dep 29 116 rfl) rfl _ (by rw [eq_comm, decide_eq_false_iff_not]; omega)
      · exact st_eqbb (.tmp 114) (.tmp 117) rfl _ _ (K.dep 27 114 rfl) (K.dep 30 117 rfl) true (by rfl)
      · exact st_pick_t (.tmp 111) (.tmp 118) (.const (.bool false)) rfl (K.dep 24 111 rfl) (K.dep 31 118 rfl)
      · exact st_move (.tmp 119) rfl (K.dep 32 119 rfl)
      · exact st_call 7 (.func 7) _ _ #[] rfl rfl rfl Tryd.enter7 (fk_of (awake_any _ (hK.below (bl.trans (Below.mono K.grow bl.size)))))
      · exact st_pick_t (.tmp 120) (.tmp 121) (.const (.bool false)) rfl (K.dep 33 120 rfl) (K.dep 34 121 rfl)
      · exact st_assign (.tmp 122) rfl (K.dep 35 122 rfl)
      intro f29 w29 A hb
      replace bl0 := bl
      replace x0 := (A.old 0 rfl).trans x0
      replace x1 := (A.old 1 rfl).trans x1
      clear x4
      replace x19 := (A.old 19 rfl).trans x19
      replace x5 := (A.old 5 rfl).trans x5
      replace x29 := (A.old 29 rfl).trans x29
      replace x6 := (A.old 6 rfl).trans x6
      replace x8 := (A.old 8 rfl).trans x8
      replace x59 := (A.old 59 rfl).trans x59
      replace x9 := (A.old 9 rfl).trans x9
      replace x63 := (A.old 63 rfl).trans x63
      replace x64 := (A.old 64 rfl).trans x64
      replace x65 := (A.old 65 rfl).trans x65
      replace x81 := (A.old 81 rfl).trans x81
      replace x11 := f_at (A.old 11 rfl) (Fk.mono _ _ _ _ x11 hb)
      have x4 : f29.eval (.tmp 4) = .bool true := A.has 36 4 rfl
      replace hrr := HR.mono hrr hb
      replace hro := HR.mono hro hb
      replace hrc := HR.mono hrc hb
      replace bl := (bl.trans (Below.mono hb bl.size))
      replace sz := A.size.trans sz
      replace df := A.defs.trans df
      clear A hb
      clear x11
      show Code.wp _ _ _ _ _
      refine wp_ret ?_
      repeat (first | with_reducible refine then_ret ?_ | with_reducible refine block_ret ?_)
      exact bodyPost_ret (v := .bool true) (ret_slot rfl f29 _ x4 _ _) df ⟨rfl, (blw.trans (Below.mono bl blw.size))⟩
    have hP12 : P1 = P2 := by
      have hMn := List.eq_nil_of_length_eq_zero hM0
      rw [hMn, grl_nil] at hg2
      exact (Prod.mk.inj hg2).2
    refine wp_all_seq [.eq (.pointer (some ⟨go, 0, none⟩)), .eq (.pointer (some ⟨gr, 0, none⟩)), .eq (.bool true), .eq (.bool true), .eq (.pointer (some ⟨gr, 0, none⟩)), .eq (.agg ((y2).map V).toArray), .ow w23.heap.size (l ++ M), .eq (.agg ((y2).map V).toArray), .eq (.bool true), .eq (.bool true), .eq (.bool true), .eq (.pointer (some ⟨gc, 0, none⟩)), .eq (.int .i64 ((l.length : Nat) : Int)), .eq (.slice lA (l).length lC), .eq (.int .i64 (((l).length : Nat) : Int)), .eq (.bool true), .eq (.bool true), .eq (.bool true), .eq (.pointer (some ⟨gc, 0, none⟩)), .eq (.agg ((y1).map V).toArray), .eq (.slice lA (l).length lC), .eq (.agg ((y1).map V).toArray), .eq (.bool true), .eq (.bool true), .eq (.bool true), .eq (.pointer (some ⟨gc, 0, none⟩)), .eq (.pointer (some ⟨gr, 0, none⟩)), .eq (.bool true), .eq (.slice mA (M).length mC), .eq (.int .i64 (((M).length : Nat) : Int)), .eq (.bool true), .eq (.bool true), .eq (.bool true), .eq (.bool true), .eq (.bool true), .eq (.bool true), .eq (.bool true)] (by kernel_rfl) (by kernel_rfl) (by rw [sz]; kernel_rfl) (by kernel_rfl) ⟨fun hw ac u K => ?_, fun hw ac u K => ?_, fun hw ac u K => ?_, fun hw ac u K => ?_, fun hw ac u K => ?_, fun hw ac u K => ?_, fun hw ac u K => ?_, fun hw ac u K => ?_, fun hw ac u K => ?_, fun hw ac u K => ?_, fun hw ac u K => ?_, fun hw ac u K => ?_, fun hw ac u K => ?_, fun hw ac u K => ?_, fun hw ac u K => ?_, fun hw ac u K => ?_, fun hw ac u K => ?_, fun hw ac u K => ?_, fun hw ac u K => ?_, fun hw ac u K => ?_, fun hw ac u K => ?_, fun hw ac u K => ?_, fun hw ac u K => ?_, fun hw ac u K => ?_, fun hw ac u K => ?_, fun hw ac u K => ?_, fun hw ac u K => ?_, fun hw ac u K => ?_, fun hw ac u K => ?_, fun hw ac u K => ?_, fun hw ac u K => ?_, fun hw ac u K => ?_, fun hw ac u K => ?_, fun hw ac u K => ?_, fun hw ac u K => ?_, fun hw ac u K => ?_, fun hw ac u K => ?_, trivial⟩ ?_
    · exact st_move (.tmp 6) rfl ((K.old 6 rfl).trans x6)
    · exact st_move (.tmp 5) rfl ((K.old 5 rfl).trans x5)
    · exact st_call 21 (.func 21) _ _ #[.pointer (some ⟨go, 0, none⟩), .pointer (some ⟨gr, 0, none⟩)] rfl rfl (arg2 (K.dep 0 87 rfl) (K.dep 1 88 rfl)) Tryd.enter21 (fk_equal (hro.mono K.grow) (hrr.mono K.grow) (by simp))
    · exact st_move (.tmp 89) rfl (K.dep 2 89 rfl)
    · exact st_move (.tmp 5) rfl ((K.old 5 rfl).trans x5)
    · exact st_call 15 (.func 15) _ _ #[.pointer (some ⟨gr, 0, none⟩)] rfl rfl (one_arg (K.dep 4 91 rfl)) Tryd.enter15 (fk_rroot (hrr.mono K.grow) (hK.below (bl.trans (Below.mono K.grow bl.size))) er2)
    · exact st_move (.tmp 11) rfl (f_at (K.old 11 rfl) (Fk.mono _ _ _ _ x11 K.grow))
    · exact st_call 11 (.func 11) _ _ #[ac.eval (.tmp 93)] rfl rfl (one_arg rfl) Tryd.enter11 (fk_of (lroot_any (by rw [List.length_append]; omega) _ (ow_hc (K.dep 6 93 rfl)) (hK.below (bl.trans (Below.mono K.grow bl.size))) ey2))
    · exact st_eqh (.tmp 92) (.tmp 94) rfl (y2) (y2) hy2 hy2 (K.dep 5 92 rfl) (K.dep 7 94 rfl) _ (by simp)
    · exact st_pick_t (.tmp 90) (.tmp 95) (.const (.bool false)) rfl (K.dep 3 90 rfl) (K.dep 8 95 rfl)
    · exact st_move (.tmp 96) rfl (K.dep 9 96 rfl)
    · exact st_move (.tmp 8) rfl ((K.old 8 rfl).trans x8)
    · exact st_call 12 (.func 12) _ _ #[.pointer (some ⟨gc, 0, none⟩)] rfl rfl (one_arg (K.dep 11 98 rfl)) Tryd.enter12 (fk_size (hrc.mono K.grow))
    · exact st_move (.tmp 0) rfl ((K.old 0 rfl).trans x0)
    · exact st_lenc (.tmp 100) rfl ((l).length) rfl (fk_val (K.dep 13 100 rfl) (Fk.mono _ _ _ _ hv (bl.trans (Below.mono K.grow bl.size))))
    · exact st_eqi 3 (.tmp 99) (.tmp 101) rfl .i64 (((l.length : Nat) : Int)) ((((l).length : Nat) : Int)) (K.dep 12 99 rfl) (K.dep 14 101 rfl) _ (by simp)
    · exact st_pick_t (.tmp 97) (.tmp 102) (.const (.bool false)) rfl (K.dep 10 97 rfl) (K.dep 15 102 rfl)
    · exact st_move (.tmp 103) rfl (K.dep 16 103 rfl)
    · exact st_move (.tmp 8) rfl ((K.old 8 rfl).trans x8)
    · exact st_call 15 (.func 15) _ _ #[.pointer (some ⟨gc, 0, none⟩)] rfl rfl (one_arg (K.dep 18 105 rfl)) Tryd.enter15 (fk_rroot (hrc.mono K.grow) (hK.below (bl.trans (Below.mono K.grow bl.size))) er1)
    · exact st_move (.tmp 0) rfl ((K.old 0 rfl).trans x0)
    · exact st_call 11 (.func 11) _ _ #[.slice lA (l).length lC] rfl rfl (one_arg (K.dep 20 107 rfl)) Tryd.enter11 (fk_of (lroot_any (by omega) _ (Fk.mono _ _ _ _ hv (bl.trans (Below.mono K.grow bl.size))) (hK.below (bl.trans (Below.mono K.grow bl.size))) ey1))
    · exact st_eqh (.tmp 106) (.tmp 108) rfl (y1) (y1) hy1 hy1 (K.dep 19 106 rfl) (K.dep 21 108 rfl) _ (by simp)
    · exact st_pick_t (.tmp 104) (.tmp 109) (.const (.bool false)) rfl (K.dep 17 104 rfl) (K.dep 22 109 rfl)
    · exact st_move (.tmp 110) rfl (K.dep 23 110 rfl)
    · exact st_move (.tmp 8) rfl ((K.old 8 rfl).trans x8)
    · exact st_move (.tmp 5) rfl ((K.old 5 rfl).trans x5)
    · exact st_call 21 (.func 21) _ _ #[.pointer (some ⟨gc, 0, none⟩), .pointer (some ⟨gr, 0, none⟩)] rfl rfl (arg2 (K.dep 25 112 rfl) (K.dep 26 113 rfl)) Tryd.enter21 (fk_equal (hrc.mono K.grow) (hrr.mono K.grow) (by simp [hP12, hM0]))
    · exact st_move (.tmp 1) rfl ((K.old 1 rfl).trans x1)
    · exact st_lenc (.tmp 115) rfl ((M).length) rfl (fk_val (K.dep 28 115 rfl) (Fk.mono _ _ _ _ hu (bl.trans (Below.mono K.grow bl.size))))
    · exact st_eqi 3 (.tmp 116) (.const (.int .i64 0)) rfl .i64 ((((M).length : Nat) : Int)) (0) (K.dep 29 116 rfl) rfl _ (by rw [eq_comm, decide_eq_true_iff]; omega)
    · exact st_eqbb (.tmp 114) (.tmp 117) rfl _ _ (K.dep 27 114 rfl) (K.dep 30 117 rfl) true (by rfl)
    · exact st_pick_t (.tmp 111) (.tmp 118) (.const (.bool false)) rfl (K.dep 24 111 rfl) (K.dep 31 118 rfl)
    · exact st_move (.tmp 119) rfl (K.dep 32 119 rfl)
    · exact st_call 7 (.func 7) _ _ #[] rfl rfl rfl Tryd.enter7 (fk_of (awake_any _ (hK.below (bl.trans (Below.mono K.grow bl.size)))))
    · exact st_pick_t (.tmp 120) (.tmp 121) (.const (.bool false)) rfl (K.dep 33 120 rfl) (K.dep 34 121 rfl)
    · exact st_assign (.tmp 122) rfl (K.dep 35 122 rfl)
    intro f29 w29 A hb
    replace bl0 := bl
    replace x0 := (A.old 0 rfl).trans x0
    replace x1 := (A.old 1 rfl).trans x1
    clear x4
    replace x19 := (A.old 19 rfl).trans x19
    replace x5 := (A.old 5 rfl).trans x5
    replace x29 := (A.old 29 rfl).trans x29
    replace x6 := (A.old 6 rfl).trans x6
    replace x8 := (A.old 8 rfl).trans x8
    replace x59 := (A.old 59 rfl).trans x59
    replace x9 := (A.old 9 rfl).trans x9
    replace x63 := (A.old 63 rfl).trans x63
    replace x64 := (A.old 64 rfl).trans x64
    replace x65 := (A.old 65 rfl).trans x65
    replace x81 := (A.old 81 rfl).trans x81
    replace x11 := f_at (A.old 11 rfl) (Fk.mono _ _ _ _ x11 hb)
    have x4 : f29.eval (.tmp 4) = .bool true := A.has 36 4 rfl
    replace hrr := HR.mono hrr hb
    replace hro := HR.mono hro hb
    replace hrc := HR.mono hrc hb
    replace bl := (bl.trans (Below.mono hb bl.size))
    replace sz := A.size.trans sz
    replace df := A.defs.trans df
    clear A hb
    clear x11
    show Code.wp _ _ _ _ _
    refine wp_ret ?_
    repeat (first | with_reducible refine then_ret ?_ | with_reducible refine block_ret ?_)
    exact bodyPost_ret (v := .bool true) (ret_slot rfl f29 _ x4 _ _) df ⟨rfl, (blw.trans (Below.mono bl blw.size))⟩
  refine wp_all_seq [.eq (.bool true)] (by kernel_rfl) (by kernel_rfl) (by rw [sz]; kernel_rfl) (by kernel_rfl) ⟨fun hw ac u K => ?_, trivial⟩ ?_
  · exact st_lss 3 (.tmp 64) (.tmp 63) rfl .i64 (((k : Nat) : Int)) (((P1.length : Nat) : Int)) ((K.old 64 rfl).trans x64) ((K.old 63 rfl).trans x63) _ (by rw [eq_comm, decide_eq_true_iff]; exact Int.ofNat_lt.2 hlt)
  intro f14 w14 A hb
  replace bl0 := bl
  replace x0 := (A.old 0 rfl).trans x0
  replace x1 := (A.old 1 rfl).trans x1
  replace x4 := (A.old 4 rfl).trans x4
  replace x19 := (A.old 19 rfl).trans x19
  replace x5 := (A.old 5 rfl).trans x5
  replace x29 := (A.old 29 rfl).trans x29
  replace x6 := (A.old 6 rfl).trans x6
  replace x8 := (A.old 8 rfl).trans x8
  replace x59 := (A.old 59 rfl).trans x59
  replace x9 := (A.old 9 rfl).trans x9
  replace x63 := (A.old 63 rfl).trans x63
  replace x64 := (A.old 64 rfl).trans x64
  have x65 : f14.eval (.tmp 65) = .bool true := A.has 0 65 rfl
  replace hrr := HR.mono hrr hb
  replace hro := HR.mono hro hb
  replace hrc := HR.mono hrc hb
  replace hP9 := OwnP.mono hP9 hb
  replace bl := (bl.trans (Below.mono hb bl.size))
  replace sz := A.size.trans sz
  replace df := A.defs.trans df
  clear A hb
  show Code.wp _ _ _ _ _
  refine wp_seq ?_
  refine wp_cond_true x65 ?_
  refine wp_skip ?_
  show Code.wp _ _ _ _ _
  refine wp_seq ?_
  refine wp_block ?_
  refine wp_seq ?_
  refine wp_all_seq [.eq (.int .i64 ((k : Nat) : Int)), .eq (.int .i64 ((k : Nat) : Int))] (by kernel_rfl) (by kernel_rfl) (by rw [sz]; kernel_rfl) (by kernel_rfl) ⟨fun hw ac u K => ?_, fun hw ac u K => ?_, trivial⟩ ?_
  · exact st_move (.tmp 64) rfl ((K.old 64 rfl).trans x64)
  · exact st_assign (.tmp 66) rfl (K.dep 0 66 rfl)
  intro f15 w15 A hb
  replace bl0 := bl
  replace x0 := (A.old 0 rfl).trans x0
  replace x1 := (A.old 1 rfl).trans x1
  replace x4 := (A.old 4 rfl).trans x4
  replace x19 := (A.old 19 rfl).trans x19
  replace x5 := (A.old 5 rfl).trans x5
  replace x29 := (A.old 29 rfl).trans x29
  replace x6 := (A.old 6 rfl).trans x6
  replace x8 := (A.old 8 rfl).trans x8
  replace x59 := (A.old 59 rfl).trans x59
  replace x9 := (A.old 9 rfl).trans x9
  replace x63 := (A.old 63 rfl).trans x63
  replace x64 := (A.old 64 rfl).trans x64
  replace x65 := (A.old 65 rfl).trans x65
  have x10 : f15.eval (.tmp 10) = .int .i64 ((k : Nat) : Int) := A.has 1 10 rfl
  replace hrr := HR.mono hrr hb
  replace hro := HR.mono hro hb
  replace hrc := HR.mono hrc hb
  replace hP9 := OwnP.mono hP9 hb
  replace bl := (bl.trans (Below.mono hb bl.size))
  replace sz := A.size.trans sz
  replace df := A.defs.trans df
  clear A hb
  show Code.wp _ _ _ _ _
  obtain ⟨g9, cap9, ys9, e9, hs9, hy9, hR9⟩ := hP9.2 (by omega)
  refine wp_region_seq [.eq (v9), .eq (.int .i64 ((k : Nat) : Int)), .eq (.agg ((h1 9).map V).toArray), .eq (.pointer (some ⟨g9, k * 32, none⟩))] (by kernel_rfl) (by kernel_rfl) (by rw [sz]; kernel_rfl) (by kernel_rfl) ⟨fun hw ac u K => ?_, fun hw ac u K => ?_, fun hw ac u K => ?_, fun hw ac u K => ?_, trivial⟩ ?_
  · exact st_move (.tmp 9) rfl ((K.old 9 rfl).trans x9)
  · exact st_move (.tmp 10) rfl ((K.old 10 rfl).trans x10)
  · exact st_build 33 _ rfl (by kernel_rfl)
  · exact st_idxO (.tmp 67) (.tmp 68) rfl ((K.dep 0 67 rfl).trans e9) k (K.dep 1 68 rfl) (by omega)
  intro f16 w16 A hb
  replace bl0 := bl
  replace x0 := (A.old 0 rfl).trans x0
  replace x1 := (A.old 1 rfl).trans x1
  replace x4 := (A.old 4 rfl).trans x4
  replace x19 := (A.old 19 rfl).trans x19
  replace x5 := (A.old 5 rfl).trans x5
  replace x29 := (A.old 29 rfl).trans x29
  replace x6 := (A.old 6 rfl).trans x6
  replace x8 := (A.old 8 rfl).trans x8
  replace x59 := (A.old 59 rfl).trans x59
  replace x9 := (A.old 9 rfl).trans x9
  replace x63 := (A.old 63 rfl).trans x63
  replace x64 := (A.old 64 rfl).trans x64
  replace x65 := (A.old 65 rfl).trans x65
  replace x10 := (A.old 10 rfl).trans x10
  have x69 : f16.eval (.tmp 69) = .agg ((h1 9).map V).toArray := A.has 2 69 rfl
  have x70 : f16.eval (.tmp 70) = .pointer (some ⟨g9, k * 32, none⟩) := A.has 3 70 rfl
  replace hrr := HR.mono hrr hb
  replace hro := HR.mono hro hb
  replace hrc := HR.mono hrc hb
  replace hP9 := OwnP.mono hP9 hb
  replace hR9 := Rw.below hR9 hb
  replace bl := (bl.trans (Below.mono hb bl.size))
  replace sz := A.size.trans sz
  replace df := A.defs.trans df
  clear A hb
  clear x10
  refine wl_storew rfl (.tmp 70) (.tmp 69) rfl rfl g9 k (h1 9) ys9 x70 x69 hR9 (by omega) (h1_len 9) ?_
  have hb9 : Below w10.heap.size w16 (w16.setCells g9 (k * 32) ((h1 9).map V)) := below_setCells hs9 _ _ _ (Below.refl _ _)
  replace hrr := hrr.keep (hb9.block gr (by omega)) (hb9.block kr5 (by omega))
  replace hro := hro.keep (hb9.block go (by omega)) (hb9.block ko (by omega))
  replace hrc := hrc.keep (hb9.block gc (by omega)) (hb9.block kc (by omega))
  have hP9b : OwnP w10.heap.size P1.length v9 (w16.setCells g9 (k * 32) ((h1 9).map V)) := ⟨hP9.1, fun _ => ⟨g9, cap9, ys9.set k (h1 9), e9, hs9, by rw [List.length_set]; exact hy9, Rw.store hR9 k (h1 9) (by omega) (h1_len 9)⟩⟩
  clear hP9
  have hP9 := hP9b
  clear hP9b hR9
  replace bl : Below w.heap.size w (w16.setCells g9 (k * 32) ((h1 9).map V)) := below_setCells (by omega) _ _ _ bl
  clear hb9
  generalize w16.setCells g9 (k * 32) ((h1 9).map V) = w17 at bl hrr hro hrc hP9 ⊢
  replace bl0 := bl
  refine wpList_nil ?_
  clear x69
  clear x70
  show Code.wp _ _ _ _ _
  refine wp_region_seq [.eq (.int .i64 ((k + 1 : Nat) : Int))] (by kernel_rfl) (by kernel_rfl) (by rw [sz]; kernel_rfl) (by kernel_rfl) ⟨fun hw ac u K => ?_, trivial⟩ ?_
  · exact st_add (.tmp 64) (.const (.int .i64 1)) rfl (k) (1) (k + 1) ((K.old 64 rfl).trans x64) rfl (by omega) (by omega)
  intro f18 w18 A hb
  replace bl0 := bl
  replace x0 := (A.old 0 rfl).trans x0
  replace x1 := (A.old 1 rfl).trans x1
  replace x4 := (A.old 4 rfl).trans x4
  replace x19 := (A.old 19 rfl).trans x19
  replace x5 := (A.old 5 rfl).trans x5
  replace x29 := (A.old 29 rfl).trans x29
  replace x6 := (A.old 6 rfl).trans x6
  replace x8 := (A.old 8 rfl).trans x8
  replace x59 := (A.old 59 rfl).trans x59
  replace x9 := (A.old 9 rfl).trans x9
  replace x63 := (A.old 63 rfl).trans x63
  replace x64 := (A.old 64 rfl).trans x64
  replace x65 := (A.old 65 rfl).trans x65
  have x71 : f18.eval (.tmp 71) = .int .i64 ((k + 1 : Nat) : Int) := A.has 0 71 rfl
  replace hrr := HR.mono hrr hb
  replace hro := HR.mono hro hb
  replace hrc := HR.mono hrc hb
  replace hP9 := OwnP.mono hP9 hb
  replace bl := (bl.trans (Below.mono hb bl.size))
  replace sz := A.size.trans sz
  replace df := A.defs.trans df
  clear A hb
  refine wl_one (.eq (.int .i64 ((k + 1 : Nat) : Int))) rfl 64 rfl (by rw [sz]; decide) (st_move (.tmp 71) rfl x71) ?_
  intro f19 w19 df2 sz2 old2 new2 hb
  replace bl0 := bl
  replace x0 := (old2 0 rfl).trans x0
  replace x1 := (old2 1 rfl).trans x1
  replace x4 := (old2 4 rfl).trans x4
  replace x19 := (old2 19 rfl).trans x19
  replace x5 := (old2 5 rfl).trans x5
  replace x29 := (old2 29 rfl).trans x29
  replace x6 := (old2 6 rfl).trans x6
  replace x8 := (old2 8 rfl).trans x8
  replace x59 := (old2 59 rfl).trans x59
  replace x9 := (old2 9 rfl).trans x9
  replace x63 := (old2 63 rfl).trans x63
  clear x64
  replace x65 := (old2 65 rfl).trans x65
  replace x71 := (old2 71 rfl).trans x71
  have x64 : f19.eval (.tmp 64) = .int .i64 ((k + 1 : Nat) : Int) := new2
  replace hrr := HR.mono hrr hb
  replace hro := HR.mono hro hb
  replace hrc := HR.mono hrc hb
  replace hP9 := OwnP.mono hP9 hb
  replace bl := (bl.trans (Below.mono hb bl.size))
  replace sz := sz2.trans sz
  replace df := df2.trans df
  clear df2 sz2 old2 new2 hb
  refine wpList_nil ?_
  clear x71
  show (∃ _, _) ∧ _
  refine ⟨⟨k + 1, by omega, sz, df, x0, x1, x4, x19, x5, x29, x6, x8, x59, x9, x63, x64, hrr, hro, hrc, hP9, bl⟩, ?_⟩
  rw [show f19.eval (.tmp 64) = _ from x64, show _ = _ from hcnt]
  simp [intOf]
  omega
theorem goes_law {l M : List (List (BitVec 8))} {lA mA : Option Addr} {lC mC : Nat} (w : World) (hK : Tab w) (hv : (Fk.hc l).f (.slice lA (l).length lC) w) (hu : (Fk.hc M).f (.slice mA (M).length mC) w) (hlA : lA = none → lC = 0) (hmA : mA = none → mC = 0) :
    Calls Tryd.prog 5 #[.slice lA (l).length lC, .slice mA (M).length mC] w fun e w' => e = .returned (.bool true) ∧ Below w.heap.size w w' := by
  by_cases h : 60 < l.length ∨ 60 < M.length
  · exact goes_pass w hK hv hu h
  · exact goes_main w hK hv hu (by omega) (by omega) hlA hmA
end Go.Proofs.YtnppjlpnfijobaaDoor
namespace Go.Proofs.YtnppjlpnfijobaaDoor
set_option maxRecDepth 100000
open Go.ChangeShapes Go.WideShapes Go.ChangeAt Go.RowKit

theorem own : ownKnob Tryd.prog.godebug = none := by kernel_rfl
theorem laidOut : laidOutB Tryd.prog = true := by kernel_rfl
theorem gK : Tryd.prog.globalNamed "syngraph/sha.roundNumbers" = some 2 := by kernel_rfl
theorem tK : (Tryd.prog.globals[2]?).map (·.type) = some 99 := by kernel_rfl
theorem cells88 : Tryd.prog.cellsOf 88 = 1 := by kernel_rfl
theorem cells99 : Tryd.prog.cellsOf 99 = 64 := by kernel_rfl
theorem cells5 : Tryd.prog.cellsOf 5 = 1 := by kernel_rfl
theorem cells33 : Tryd.prog.cellsOf 33 = 32 := by kernel_rfl
theorem under88 : Tryd.prog.underlying 88 = some (.int .u32) := by kernel_rfl
end Go.Proofs.YtnppjlpnfijobaaDoor
namespace Go.Proofs.YtnppjlpnfijobaaDoor
set_option maxRecDepth 100000
open Go.ChangeShapes Go.WideShapes Go.ChangeAt Go.RowKit
theorem bv_ofInt (z : Int) (h0 : 0 ≤ z) (h1 : z < 256) : bv (BitVec.ofInt 8 z) = z := by
  unfold bv
  rw [BitVec.toNat_ofInt]
  omega
end Go.Proofs.YtnppjlpnfijobaaDoor
namespace Go.Proofs.YtnppjlpnfijobaaDoor
set_option maxRecDepth 100000
open Go.ChangeShapes Go.WideShapes Go.ChangeAt Go.RowKit
theorem add_plain {w : World} {x : Addr} {v : Value} (h : w.cell? x = some v) : ∀ i, x.add i = ⟨x.block, x.off + i, none⟩ := by
  have hspot : x.spot = none := by
    unfold World.cell? at h
    split at h
    · split at h
      · cases h
      · rename_i h2; simpa using h2
    · cases h
  intro i
  unfold Addr.add
  split
  · rename_i h2; subst h2; rw [Nat.add_zero, ← hspot]
  · rfl
theorem Tryd.under22 : Tryd.prog.underlying 22 = some (.slice 33) := by kernel_rfl
theorem hl_of {H : Type} {enc : TypeId × Value → H} {W : World} {A : Option Addr} {N C : Nat} {d : DataW H} {p : List MemPlace}
    (h : DataW.Trod enc Tryd.prog W 0 (fun _ => true) true 22 (.slice A N C) d p) : ∃ lb lo hs, Hl W A lb lo hs ∧ N = hs.length ∧ N ≤ maxLen := by
  obtain ⟨fuel, hf⟩ := h
  rcases Deep.open_slice Tryd.under22 hf with ⟨hcs, _⟩ | ⟨a, len, cap, m, n, D, Pl, hcs, _, hl, hm, hmm, _, hel⟩
  · simp [Value.cells] at hcs
    obtain ⟨rfl, rfl, rfl⟩ := hcs
    exact ⟨0, 0, [], ⟨fun h => absurd h (by simp), fun h => absurd h (by simp), fun i x hi => by simp at hi⟩, rfl, by unfold maxLen; omega⟩
  · simp [Value.cells] at hcs
    obtain ⟨rfl, rfl, rfl⟩ := hcs
    have hmc : m = C := by simpa using hmm
    subst hmc
    rw [cells33] at hel
    obtain ⟨F, hF⟩ := Deep.choose_lt (α := List (BitVec 8)) (n := N) (p := fun i x => x.length = 32 ∧ ∀ j, j < 32 → W.cell? (a.add (i * 32 + j)) = some (.int .u8 (bv (x.getD j 0)))) (fun i hi => by
      obtain ⟨cs', h1, h2⟩ := hel i (by omega)
      obtain ⟨_, hlen, hcell⟩ := World.cells?_some h1
      obtain ⟨ys, m', _, _, hl', hn, hel'⟩ := DataW.trod_array Tryd.under33 h2
      have hz : ∀ j, j < 32 → ∃ z : Int, cs'[j]? = some (.int .u8 z) ∧ 0 ≤ z ∧ z < 256 := fun j hj => by
        have h3 := hel' j hj
        rw [cells5, List.getElem?_eq_getElem (by omega)] at h3
        obtain ⟨z, hc, _, hw⟩ := DataW.trod_int Tryd.under5 h3
        refine ⟨z, ?_, ?_⟩
        · have := congrArg (·[0]?) hc
          simpa [List.getElem?_take, List.getElem?_drop, Value.cells] using this
        · have := bounds_u8 hw
          omega
      refine ⟨cs'.map fun v => match v with | .int _ z => BitVec.ofInt 8 z | _ => 0, by rw [List.length_map]; exact hlen, fun j hj => ?_⟩
      obtain ⟨z, hz1, h0, h256⟩ := hz j hj
      rw [← Deep.add_add, hcell j hj, hz1]
      have : bv (BitVec.ofInt 8 z) = z := bv_ofInt z h0 h256
      simp [hz1, this])
    have hbase : 0 < N → ∀ i, a.add i = ⟨a.block, a.off + i, none⟩ := fun hp => by
      have h0 := (hF 0 hp).2 0 (by omega)
      have e0 : a.add (0 * 32 + 0) = a := by simp [Addr.add]
      rw [e0] at h0
      exact add_plain h0
    refine ⟨a.block, a.off, (List.range N).map F, ⟨fun hp => ?_, fun hp => ?_, fun i x hi => ?_⟩, by simp, by unfold maxLen at *; omega⟩
    · rw [List.length_map, List.length_range] at hp
      have := hbase hp 0
      have e0 : a.add 0 = a := by simp [Addr.add]
      rw [e0, Nat.add_zero] at this
      rw [← this]
    · rw [List.length_map, List.length_range] at hp
      have h0 := (hF 0 hp).2 0 (by omega)
      have e0 : a.add (0 * 32 + 0) = a := by simp [Addr.add]
      rw [e0] at h0
      exact block_lt_of_cell h0
    · obtain ⟨h1, h2⟩ := List.getElem?_eq_some_iff.1 hi
      have hiN : i < N := by simpa using h1
      have e : x = F i := by rw [← h2]; simp
      subst e
      refine ⟨(hF i hiN).1, fun j hj => ?_⟩
      have hj' : j < 32 := by rw [(hF i hiN).1] at hj; exact hj
      have := (hF i hiN).2 j hj'
      rw [hbase (by omega), ← Nat.add_assoc] at this
      exact this
end Go.Proofs.YtnppjlpnfijobaaDoor
namespace Go.Proofs.YtnppjlpnfijobaaDoor
set_option maxRecDepth 100000
open Go.ChangeShapes Go.WideShapes Go.ChangeAt Go.RowKit
section
variable {H : Type} {enc : TypeId × Value → H} {W : World}
end
end Go.Proofs.YtnppjlpnfijobaaDoor
namespace Go.Proofs.YtnppjlpnfijobaaDoor
set_option maxRecDepth 100000
set_option maxRecDepth 100000
open Go.ChangeShapes Go.WideShapes Go.ChangeAt Go.RowKit
variable {H : Type} {enc : TypeId × Value → H} {W : World}
theorem open_hc {r : Reach} {b0 : Nat} {v : Value} {d : DataW H} {p : List MemPlace} (hv : Value.okWide Tryd.prog W r b0 22 v) (h : DataW.Trod enc Tryd.prog W 0 (fun _ => true) true 22 v d p) : ∃ l, (Fk.hc l).f v W ∧ l.length ≤ maxLen := by
  obtain ⟨A, N, C, rfl⟩ := okWide_slice Tryd.under22 hv
  have hcap : N ≤ C := by
    obtain ⟨m, hm⟩ := h
    rcases Deep.open_slice Tryd.under22 hm with ⟨hcs, _⟩ | ⟨a, len, cap, m, n, D, Pl, hcs, _, hl, _⟩
    · simp [Value.cells] at hcs
      omega
    · simp [Value.cells] at hcs
      obtain ⟨_, rfl, rfl⟩ := hcs
      exact hl
  obtain ⟨lb, lo, hs, hl, hn, hm⟩ := hl_of h
  subst hn
  exact ⟨hs, ⟨A, C, lb, lo, rfl, hcap, hl⟩, hm⟩
end Go.Proofs.YtnppjlpnfijobaaDoor
