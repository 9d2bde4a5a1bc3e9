/- Clone and Equal of lists of hashes. The short contracts of package compact. A range's bytes, plainly: what is written is read back, what is read was so written (any bound on the hashes). Copy and Bytes of package compact. Hashes of an In once more: what is told lies in a block of its own, all of it hashes. -/
import Derived.Test.YtnppjlpnfijobaaDoorM5
import Derived.Test.YtnppjlpnfijobaaDoorM4
import Derived.Test.YtnppjlpnfijobaaDoorM3
namespace Go.Proofs.YtnppjlpnfijobaaDoor
set_option maxRecDepth 100000
open Go.RowKit
theorem own_h0 (w : World) (base : Nat) (h : base ≤ w.heap.size) : (Fk.ow base []).f (.slice (some ⟨w.heap.size, 0, none⟩) 0 0) (w.alloc (.cells #[] 33)) :=
  ⟨⟨rfl, .inr ⟨w.heap.size, 0, #[], rfl, h, heap_alloc_new _ _, Nat.le_refl _, by unfold maxLen; omega, rfl, rfl⟩⟩, fun i x hi => by simp at hi⟩
theorem st_bo0 {Q : Exit → Act → World → Prop} {o : Oper} {a : Act} {w : World} (ho : o.op = .buildSlice 22 0 #[]) (g0 : Nat) (hg : g0 ≤ w.heap.size) : o.wp Tryd.prog a w (Ends a o.dst w (Fk.ow g0 []).f) Q := by
  refine st_run (v := .slice (some ⟨w.heap.size, 0, none⟩) 0 0) (w' := w.alloc (.cells #[] 33)) ?_ ((Below.refl _ _).alloc (Nat.le_refl _) _) (own_h0 w g0 hg)
  have h : (Instr.buildSlice 22 0 #[]).run Tryd.prog w = .ok (.slice (some ⟨w.heap.size, 0, none⟩) 0 0) (w.alloc (.cells #[] 33)) := by kernel_rfl
  unfold execOp
  rw [ho]
  simp [h]
theorem flat_len32 : ∀ (l : List (List (BitVec 8))), (∀ (i : Nat) (x : List (BitVec 8)), l[i]? = some x → x.length = 32) → l.flatten.length = l.length * 32
  | [], _ => rfl
  | y :: r, h => by
    have h0 := h 0 y rfl
    have h1 := flat_len32 r (fun i x hi => h (i + 1) x (by simpa using hi))
    rw [List.flatten_cons, List.length_append, h0, h1, List.length_cons]
    omega
theorem wl_appl {Q : Exit → Act → World → Prop} {o : Oper} {a : Act} {w : World} {ops : Array Oper} {rest : List Oper} (hgd : o.guard = none) (s x : Operand) (ho : o.op = .call { callee := .builtin .append, args := #[s, x], argTypes := #[22, 22] }) (d : Nat) (hd : o.dst = some d) (hsz : d < a.tmps.size)
    {wL : World} {l : List (List (BitVec 8))} {ad : Addr} {C : Nat} (hs1 : (Fk.ow wL.heap.size []).f (a.eval s) w) (hx : a.eval x = .slice (some ad) l.length C) (hl0 : (Fk.hs l).f (.slice (some ad) l.length C) w) (hL : Below wL.heap.size wL w) (hN : l.length ≤ 1000)
    (h : ∀ a2 w2, a2.defers = a.defers → a2.tmps.size = a.tmps.size → (∀ t, (t == d) = false → a2.eval (.tmp t) = a.eval (.tmp t)) → (Fk.ow wL.heap.size l).f (a2.eval (.tmp d)) w2 → Below wL.heap.size wL w2 → wpList Tryd.prog ops Q rest a2 w2) : wpList Tryd.prog ops Q (o :: rest) a w := by
  obtain ⟨i0, hi, hz0, hz1, hz2⟩ := info_parts Tryd.info33
  obtain ⟨A', C', lb, lo, e, hl⟩ := hl0
  cases e
  have h32 : ∀ (i : Nat) (y : List (BitVec 8)), l[i]? = some y → y.length = 32 := fun i y hi => (hl.all i y hi).1
  have hfl := flat_len32 l h32
  obtain ⟨hown, _⟩ := hs1
  refine wpList_append_own w hgd s x 22 ho wL.heap.size 33 i0 _ 32 32 Tryd.under22' hi hz0 hz1 hz2 (by simp [Value.cells, hz_len]) (by decide) _ 0 [] rfl (by simpa using hown) ad l.length C (l.flatten.map V) hx (by rw [List.length_map, hfl]) ?_ (V_one _) (by unfold maxLen; omega) (by omega) hL.size ?_
  · intro j u hj
    have hjl : j < l.length * 32 := by
      have := (List.getElem?_eq_some_iff.1 hj).1
      rw [List.length_map, hfl] at this
      exact this
    have hp := hl.ptr (by omega)
    obtain rfl := Option.some.inj hp
    have hil : j / 32 < l.length := by omega
    have hxi : l[j / 32]? = some l[j / 32] := List.getElem?_eq_getElem hil
    have hlen := h32 _ _ hxi
    have hat := flat_at l h32 _ _ hxi (j % 32) (by omega)
    rw [show j / 32 * 32 + j % 32 = j by omega] at hat
    have hr : j % 32 < (l[j / 32]).length := by rw [hlen]; omega
    rw [List.getElem?_map, hat, List.getElem?_eq_getElem hr, Option.map_some] at hj
    obtain rfl := Option.some.inj hj
    have hc := (hl.all _ _ hxi).2 (j % 32) hr
    rw [Addr.add_mid, show lo + j = lo + j / 32 * 32 + j % 32 by omega, hc]
    simp [V, hr]
  · intro v' w' h1 h2 _
    refine h _ _ (put_def _ _ _) (put_size _ _ _) (fun t ht => ?_) ?_ (hL.grown h2 hL.size (fun k e => (World.ownsRow.lt hown k e).1))
    · rw [hd]
      exact put_eval_other _ _ _ _ (fun e => by subst e; simp at ht)
    · rw [hd, put_eval_same _ _ _ hsz]
      exact ⟨by simpa using h1, h32⟩
theorem nil_no (ad : Addr) (n C : Nat) (w : World) {x y : Operand} : (do eqGuard .eql 22 x y (.slice (some ad) n C) (.slice none 0 0); binOp .eql 22 (.slice (some ad) n C) (.slice none 0 0) : Sem Value).run Tryd.prog w = .ok (.bool false) w := by
  have h := Lib.run_eql_slice_nil (P := Tryd.prog) w 22 33 (some ad) n C 0 0 Tryd.under22'
  simp only [eqGuard, Sem.run_bind]
  exact h
theorem clone_nil (w : World) :
    Calls Tryd.prog 26 #[.slice none 0 0] w fun e w' => e = .returned (.slice none 0 0) ∧ Below w.heap.size w w' := by
  go_enter Tryd.func26, Tryd.ntmps26
  refine code_both (fun f w1 => f.tmps.size = 8 ∧ f.defers = [] ∧ f.eval (.tmp 0) = .slice none 0 0 ∧ Below w.heap.size w (w1)) ⟨rfl, rfl, rfl, Below.refl _ _⟩ ?_
  rintro f0 w0 ⟨sz, df, x0, bl⟩
  have bl0 := bl
  refine wp_seq ?_
  refine wp_all_seq [.eq (.slice none 0 0)] (by kernel_rfl) (by kernel_rfl) (by rw [sz]; kernel_rfl) (by kernel_rfl) ⟨fun hw ac u K => ?_, trivial⟩ ?_
  · exact st_assign (.const (.slice none 0 0)) rfl rfl
  intro f1 w1 A hb
  replace bl0 := bl
  replace x0 := (A.old 0 rfl).trans x0
  have x2 : f1.eval (.tmp 2) = .slice none 0 0 := A.has 0 2 rfl
  replace bl := (bl.trans (Below.mono hb bl.size))
  replace sz := A.size.trans sz
  replace df := A.defs.trans df
  clear A hb
  show Code.wp _ _ _ _ _
  refine wp_seq ?_
  refine wp_seq ?_
  refine wp_all_seq [.eq (.slice none 0 0), .eq (.bool true)] (by kernel_rfl) (by kernel_rfl) (by rw [sz]; kernel_rfl) (by kernel_rfl) ⟨fun hw ac u K => ?_, fun hw ac u K => ?_, trivial⟩ ?_
  · exact st_move (.tmp 0) rfl ((K.old 0 rfl).trans x0)
  · exact st_bin .eql 22 22 (.tmp 3) _ rfl (K.dep 0 3 rfl) rfl (by kernel_rfl)
  intro f2 w2 A hb
  replace bl0 := bl
  replace x0 := (A.old 0 rfl).trans x0
  replace x2 := (A.old 2 rfl).trans x2
  have x4 : f2.eval (.tmp 4) = .bool true := A.has 1 4 rfl
  replace bl := (bl.trans (Below.mono hb bl.size))
  replace sz := A.size.trans sz
  replace df := A.defs.trans df
  clear A hb
  show Code.wp _ _ _ _ _
  refine wp_cond_true x4 ?_
  refine wp_seq ?_
  refine wp_all_seq [.eq (.slice none 0 0)] (by kernel_rfl) (by kernel_rfl) (by rw [sz]; kernel_rfl) (by kernel_rfl) ⟨fun hw ac u K => ?_, trivial⟩ ?_
  · exact st_assign (.const (.slice none 0 0)) rfl rfl
  intro f3 w3 A hb
  replace bl0 := bl
  replace x0 := (A.old 0 rfl).trans x0
  clear x2
  replace x4 := (A.old 4 rfl).trans x4
  have x2 : f3.eval (.tmp 2) = .slice none 0 0 := A.has 0 2 rfl
  replace bl := (bl.trans (Below.mono hb bl.size))
  replace sz := A.size.trans sz
  replace df := A.defs.trans df
  clear A hb
  show Code.wp _ _ _ _ _
  refine wp_ret ?_
  repeat (first | with_reducible refine then_ret ?_ | with_reducible refine block_ret ?_)
  exact bodyPost_ret (v := .slice none 0 0) (ret_slot rfl f3 _ x2 _ _) df ⟨rfl, bl⟩
theorem clone_some {l : List (List (BitVec 8))} {ad : Addr} {C : Nat} (hl : l.length ≤ 1000) (w : World) (hv : (Fk.hs l).f (.slice (some ad) l.length C) w) :
    Calls Tryd.prog 26 #[.slice (some ad) l.length C] w fun e w' => ∃ u, e = .returned u ∧ (Fk.ow w.heap.size l).f u w' ∧ Below w.heap.size w w' := by
  go_enter Tryd.func26, Tryd.ntmps26
  refine code_both (fun f w1 => f.tmps.size = 8 ∧ f.defers = [] ∧ f.eval (.tmp 0) = .slice (some ad) l.length C ∧ Below w.heap.size w (w1)) ⟨rfl, rfl, rfl, Below.refl _ _⟩ ?_
  rintro f0 w0 ⟨sz, df, x0, bl⟩
  have bl0 := bl
  refine wp_seq ?_
  refine wp_all_seq [.eq (.slice none 0 0)] (by kernel_rfl) (by kernel_rfl) (by rw [sz]; kernel_rfl) (by kernel_rfl) ⟨fun hw ac u K => ?_, trivial⟩ ?_
  · exact st_assign (.const (.slice none 0 0)) rfl rfl
  intro f1 w1 A hb
  replace bl0 := bl
  replace x0 := (A.old 0 rfl).trans x0
  have x2 : f1.eval (.tmp 2) = .slice none 0 0 := A.has 0 2 rfl
  replace bl := (bl.trans (Below.mono hb bl.size))
  replace sz := A.size.trans sz
  replace df := A.defs.trans df
  clear A hb
  show Code.wp _ _ _ _ _
  refine wp_seq ?_
  refine wp_seq ?_
  refine wp_all_seq [.eq (.slice (some ad) l.length C), .eq (.bool false)] (by kernel_rfl) (by kernel_rfl) (by rw [sz]; kernel_rfl) (by kernel_rfl) ⟨fun hw ac u K => ?_, fun hw ac u K => ?_, trivial⟩ ?_
  · exact st_move (.tmp 0) rfl ((K.old 0 rfl).trans x0)
  · exact st_bin .eql 22 22 (.tmp 3) _ rfl (K.dep 0 3 rfl) rfl (nil_no _ _ _ _)
  intro f2 w2 A hb
  replace bl0 := bl
  replace x0 := (A.old 0 rfl).trans x0
  replace x2 := (A.old 2 rfl).trans x2
  have x4 : f2.eval (.tmp 4) = .bool false := A.has 1 4 rfl
  replace bl := (bl.trans (Below.mono hb bl.size))
  replace sz := A.size.trans sz
  replace df := A.defs.trans df
  clear A hb
  show Code.wp _ _ _ _ _
  refine wp_cond_false x4 ?_
  refine wp_skip ?_
  show Code.wp _ _ _ _ _
  refine wp_seq ?_
  refine wp_region_seq [.ow w.heap.size ([]), .eq (.slice (some ad) l.length C)] (by kernel_rfl) (by kernel_rfl) (by rw [sz]; kernel_rfl) (by kernel_rfl) ⟨fun hw ac u K => ?_, fun hw ac u K => ?_, trivial⟩ ?_
  · exact st_bo0 rfl _ (bl.trans (Below.mono K.grow bl.size)).size
  · exact st_move (.tmp 0) rfl ((K.old 0 rfl).trans x0)
  intro f3 w3 A hb
  replace bl0 := bl
  replace x0 := (A.old 0 rfl).trans x0
  replace x2 := (A.old 2 rfl).trans x2
  replace x4 := (A.old 4 rfl).trans x4
  have x5 : Fk.f (.ow w.heap.size ([])) (f3.eval (.tmp 5)) w3 := A.has 0 5 rfl
  have x6 : f3.eval (.tmp 6) = .slice (some ad) l.length C := A.has 1 6 rfl
  replace bl := (bl.trans (Below.mono hb bl.size))
  replace sz := A.size.trans sz
  replace df := A.defs.trans df
  clear A hb
  refine wl_appl rfl (.tmp 5) (.tmp 6) rfl 7 rfl (by rw [sz]; decide) x5 x6 (Fk.mono _ _ _ _ hv bl) bl hl ?_
  intro f4 w4 df2 sz2 old2 new2 bl2
  clear x5
  replace x0 := (old2 0 rfl).trans x0
  replace x2 := (old2 2 rfl).trans x2
  replace x4 := (old2 4 rfl).trans x4
  replace x6 := (old2 6 rfl).trans x6
  have x7 : Fk.f (.ow w.heap.size (l)) (f4.eval (.tmp 7)) w4 := new2
  replace bl := bl2
  replace bl0 := bl
  replace sz := sz2.trans sz
  replace df := df2.trans df
  clear df2 sz2 old2 new2 bl2
  clear x6
  refine wl_one (.ow w.heap.size (l)) rfl 2 rfl (by rw [sz]; decide) (st_assign (.tmp 7) rfl x7) ?_
  intro f5 w5 df2 sz2 old2 new2 hb
  replace bl0 := bl
  replace x0 := (old2 0 rfl).trans x0
  clear x2
  replace x4 := (old2 4 rfl).trans x4
  replace x7 := f_at (old2 7 rfl) (Fk.mono _ _ _ _ x7 hb)
  have x2 : Fk.f (.ow w.heap.size (l)) (f5.eval (.tmp 2)) w5 := new2
  replace bl := (bl.trans (Below.mono hb bl.size))
  replace sz := sz2.trans sz
  replace df := df2.trans df
  clear df2 sz2 old2 new2 hb
  refine wpList_nil ?_
  clear x7
  show Code.wp _ _ _ _ _
  refine wp_ret ?_
  repeat (first | with_reducible refine then_ret ?_ | with_reducible refine block_ret ?_)
  exact bodyPost_ret (v := f5.eval (.tmp 2)) (ret_slot rfl f5 _ rfl _ _) df ⟨_, rfl, x2, bl⟩
theorem fk_clone {l : List (List (BitVec 8))} (hl : l.length ≤ 1000) {w : World} {v : Value} (hv : (Fk.hc l).f v w) (hn : v = .slice none 0 0 ∨ ∃ ad n C, v = .slice (some ad) n C) : Calls Tryd.prog 26 #[v] w fun e w' => ∃ u, e = .returned u ∧ (Fk.ow w.heap.size l).f u w' ∧ Below w.heap.size w w' := by
  rcases hn with rfl | ⟨ad, n, C, rfl⟩
  · refine (clone_nil w).mono ?_
    rintro e w' ⟨rfl, hb⟩
    have h0 : l = [] := by
      obtain ⟨A', C', lb, lo, e, _⟩ := hv
      injection e with _ e2 _
      exact List.eq_nil_of_length_eq_zero e2.symm
    subst h0
    exact ⟨_, rfl, ow_nil _ _, hb⟩
  · obtain ⟨A', C', lb, lo, e, hc, hq⟩ := hv
    cases e
    exact clone_some hl w ⟨_, _, lb, lo, rfl, hq⟩
theorem eqs_any {A0 B0 : List (List (BitVec 8))} {va vb : Value} (hA0 : A0.length ≤ 100000) (w : World) (hA : (Fk.hs A0).f va w) (hB : (Fk.hs B0).f vb w) (r : Bool) (hr : r = decide (A0 = B0)) :
    Calls Tryd.prog 39 #[va, vb] w fun e w' => e = .returned (.bool r) ∧ Below w.heap.size w w' := by
  go_enter Tryd.func39, Tryd.ntmps39
  refine code_both (fun f w1 => f.tmps.size = 26 ∧ f.defers = [] ∧ f.eval (.tmp 0) = va ∧ f.eval (.tmp 1) = vb ∧ Below w.heap.size w (w1)) ⟨rfl, rfl, rfl, rfl, Below.refl _ _⟩ ?_
  rintro f0 w0 ⟨sz, df, x0, x1, bl⟩
  have bl0 := bl
  refine wp_seq ?_
  refine wp_all_seq [.eq (.bool false)] (by kernel_rfl) (by kernel_rfl) (by rw [sz]; kernel_rfl) (by kernel_rfl) ⟨fun hw ac u K => ?_, trivial⟩ ?_
  · exact st_assign (.const (.bool false)) rfl rfl
  intro f1 w1 A hb
  replace bl0 := bl
  replace x0 := (A.old 0 rfl).trans x0
  replace x1 := (A.old 1 rfl).trans x1
  have x4 : f1.eval (.tmp 4) = .bool false := A.has 0 4 rfl
  replace bl := (bl.trans (Below.mono hb bl.size))
  replace sz := A.size.trans sz
  replace df := A.defs.trans df
  clear A hb
  show Code.wp _ _ _ _ _
  refine wp_seq ?_
  refine wp_seq ?_
  by_cases hl : A0.length = B0.length
  rotate_left
  · skip
    obtain rfl : r = false := by rw [hr]; exact decide_eq_false (fun e => hl (by rw [e]))
    refine wp_all_seq [.eq (va), .eq (.int .i64 (((A0).length : Nat) : Int)), .eq (vb), .eq (.int .i64 (((B0).length : Nat) : Int)), .eq (.bool true)] (by kernel_rfl) (by kernel_rfl) (by rw [sz]; kernel_rfl) (by kernel_rfl) ⟨fun hw ac u K => ?_, fun hw ac u K => ?_, fun hw ac u K => ?_, fun hw ac u K => ?_, fun hw ac u K => ?_, trivial⟩ ?_
    · exact st_move (.tmp 0) rfl ((K.old 0 rfl).trans x0)
    · exact st_lenh (.tmp 6) rfl (fk_val (K.dep 0 6 rfl) (Fk.mono _ _ _ _ hA (bl.trans (Below.mono K.grow bl.size))))
    · exact st_move (.tmp 1) rfl ((K.old 1 rfl).trans x1)
    · exact st_lenh (.tmp 8) rfl (fk_val (K.dep 2 8 rfl) (Fk.mono _ _ _ _ hB (bl.trans (Below.mono K.grow bl.size))))
    · exact st_neqi 3 (.tmp 7) (.tmp 9) rfl .i64 ((((A0).length : Nat) : Int)) ((((B0).length : Nat) : Int)) (K.dep 1 7 rfl) (K.dep 3 9 rfl) _ (by rw [eq_comm, decide_eq_true_iff]; omega)
    intro f2 w2 A hb
    replace bl0 := bl
    replace x0 := (A.old 0 rfl).trans x0
    replace x1 := (A.old 1 rfl).trans x1
    replace x4 := (A.old 4 rfl).trans x4
    have x10 : f2.eval (.tmp 10) = .bool true := A.has 4 10 rfl
    replace bl := (bl.trans (Below.mono hb bl.size))
    replace sz := A.size.trans sz
    replace df := A.defs.trans df
    clear A hb
    show Code.wp _ _ _ _ _
    refine wp_cond_true x10 ?_
    refine wp_seq ?_
    refine wp_all_seq [.eq (.bool false)] (by kernel_rfl) (by kernel_rfl) (by rw [sz]; kernel_rfl) (by kernel_rfl) ⟨fun hw ac u K => ?_, trivial⟩ ?_
    · exact st_assign (.const (.bool false)) rfl rfl
    intro f3 w3 A hb
    replace bl0 := bl
    replace x0 := (A.old 0 rfl).trans x0
    replace x1 := (A.old 1 rfl).trans x1
    clear x4
    replace x10 := (A.old 10 rfl).trans x10
    have x4 : f3.eval (.tmp 4) = .bool false := A.has 0 4 rfl
    replace bl := (bl.trans (Below.mono hb bl.size))
    replace sz := A.size.trans sz
    replace df := A.defs.trans df
    clear A hb
    show Code.wp _ _ _ _ _
    refine wp_ret ?_
    repeat (first | with_reducible refine then_ret ?_ | with_reducible refine block_ret ?_)
    exact bodyPost_ret (v := .bool false) (ret_slot rfl f3 _ x4 _ _) df ⟨rfl, bl⟩
  refine wp_all_seq [.eq (va), .eq (.int .i64 (((A0).length : Nat) : Int)), .eq (vb), .eq (.int .i64 (((B0).length : Nat) : Int)), .eq (.bool false)] (by kernel_rfl) (by kernel_rfl) (by rw [sz]; kernel_rfl) (by kernel_rfl) ⟨fun hw ac u K => ?_, fun hw ac u K => ?_, fun hw ac u K => ?_, fun hw ac u K => ?_, fun hw ac u K => ?_, trivial⟩ ?_
  · exact st_move (.tmp 0) rfl ((K.old 0 rfl).trans x0)
  · exact st_lenh (.tmp 6) rfl (fk_val (K.dep 0 6 rfl) (Fk.mono _ _ _ _ hA (bl.trans (Below.mono K.grow bl.size))))
  · exact st_move (.tmp 1) rfl ((K.old 1 rfl).trans x1)
  · exact st_lenh (.tmp 8) rfl (fk_val (K.dep 2 8 rfl) (Fk.mono _ _ _ _ hB (bl.trans (Below.mono K.grow bl.size))))
  · exact st_neqi 3 (.tmp 7) (.tmp 9) rfl .i64 ((((A0).length : Nat) : Int)) ((((B0).length : Nat) : Int)) (K.dep 1 7 rfl) (K.dep 3 9 rfl) _ (by simp [hl])
  intro f2 w2 A hb
  replace bl0 := bl
  replace x0 := (A.old 0 rfl).trans x0
  replace x1 := (A.old 1 rfl).trans x1
  replace x4 := (A.old 4 rfl).trans x4
  have x10 : f2.eval (.tmp 10) = .bool false := A.has 4 10 rfl
  replace bl := (bl.trans (Below.mono hb bl.size))
  replace sz := A.size.trans sz
  replace df := A.defs.trans df
  clear A hb
  show Code.wp _ _ _ _ _
  refine wp_cond_false x10 ?_
  refine wp_skip ?_
  show Code.wp _ _ _ _ _
  refine wp_seq ?_
  refine wp_seq ?_
  refine wp_all_seq [.eq (va), .eq (.int .i64 (((A0).length : Nat) : Int)), .eq (.int .i64 0)] (by kernel_rfl) (by kernel_rfl) (by rw [sz]; kernel_rfl) (by kernel_rfl) ⟨fun hw ac u K => ?_, fun hw ac u K => ?_, fun hw ac u K => ?_, trivial⟩ ?_
  · exact st_move (.tmp 0) rfl ((K.old 0 rfl).trans x0)
  · exact st_lenh (.tmp 11) rfl (fk_val (K.dep 0 11 rfl) (Fk.mono _ _ _ _ hA (bl.trans (Below.mono K.grow bl.size))))
  · exact st_move (.const (.int .i64 0)) rfl rfl
  intro f3 w3 A hb
  replace bl0 := bl
  replace x0 := (A.old 0 rfl).trans x0
  replace x1 := (A.old 1 rfl).trans x1
  replace x4 := (A.old 4 rfl).trans x4
  replace x10 := (A.old 10 rfl).trans x10
  have x12 : f3.eval (.tmp 12) = .int .i64 (((A0).length : Nat) : Int) := A.has 1 12 rfl
  have x13 : f3.eval (.tmp 13) = .int .i64 0 := A.has 2 13 rfl
  replace bl := (bl.trans (Below.mono hb bl.size))
  replace sz := A.size.trans sz
  replace df := A.defs.trans df
  clear A hb
  show Code.wp _ _ _ _ _
  refine wp_block ?_
  refine wp_loop (fun f v1 => ∃ k : Nat, k ≤ A0.length ∧ A0.take k = B0.take k ∧ f.tmps.size = 26 ∧ f.defers = [] ∧ f.eval (.tmp 0) = va ∧ f.eval (.tmp 1) = vb ∧ f.eval (.tmp 4) = .bool false ∧ f.eval (.tmp 10) = .bool false ∧ f.eval (.tmp 12) = .int .i64 (((A0).length : Nat) : Int) ∧ f.eval (.tmp 13) = .int .i64 ((k : Nat) : Int) ∧ Below w.heap.size w (v1)) (fun f _ => A0.length - (intOf (f.eval (.tmp 13))).toNat) ⟨0, Nat.zero_le _, rfl, sz, df, x0, x1, x4, x10, x12, x13, bl⟩ ?_
  intro f4 w4 hI
  clear sz df bl bl0 x0 x1 x4 x10 x12 x13
  obtain ⟨k, hk, heq, sz, df, x0, x1, x4, x10, x12, x13, bl⟩ := hI
  have bl0 := bl
  have hcnt := x13
  refine wp_seq ?_
  by_cases hlt : k < A0.length
  rotate_left
  · skip
    obtain rfl : r = true := by
      rw [hr]
      apply decide_eq_true
      rw [List.take_of_length_le (by omega), List.take_of_length_le (by omega)] at heq
      exact heq
    refine wp_all_seq [.eq (.bool false)] (by kernel_rfl) (by kernel_rfl) (by rw [sz]; kernel_rfl) (by kernel_rfl) ⟨fun hw ac u K => ?_, trivial⟩ ?_
    · exact st_lss 3 (.tmp 13) (.tmp 12) rfl .i64 (((k : Nat) : Int)) ((((A0).length : Nat) : Int)) ((K.old 13 rfl).trans x13) ((K.old 12 rfl).trans x12) _ (by first | (simp; done) | (simp; omega))
    intro f5 w5 A hb
    replace bl0 := bl
    replace x0 := (A.old 0 rfl).trans x0
    replace x1 := (A.old 1 rfl).trans x1
    replace x4 := (A.old 4 rfl).trans x4
    replace x10 := (A.old 10 rfl).trans x10
    replace x12 := (A.old 12 rfl).trans x12
    replace x13 := (A.old 13 rfl).trans x13
    have x14 : f5.eval (.tmp 14) = .bool false := A.has 0 14 rfl
    replace bl := (bl.trans (Below.mono hb bl.size))
    replace sz := A.size.trans sz
    replace df := A.defs.trans df
    clear A hb
    show Code.wp _ _ _ _ _
    refine wp_seq ?_
    refine wp_cond_false x14 ?_
    refine wp_exit ?_
    show Code.wp _ _ _ _ _
    refine wp_seq ?_
    refine wp_all_seq [.eq (.bool true)] (by kernel_rfl) (by kernel_rfl) (by rw [sz]; kernel_rfl) (by kernel_rfl) ⟨fun hw ac u K => ?_, trivial⟩ ?_
    · exact st_assign (.const (.bool true)) rfl rfl
    intro f6 w6 A hb
    replace bl0 := bl
    replace x0 := (A.old 0 rfl).trans x0
    replace x1 := (A.old 1 rfl).trans x1
    clear x4
    replace x10 := (A.old 10 rfl).trans x10
    replace x12 := (A.old 12 rfl).trans x12
    replace x13 := (A.old 13 rfl).trans x13
    replace x14 := (A.old 14 rfl).trans x14
    have x4 : f6.eval (.tmp 4) = .bool true := A.has 0 4 rfl
    replace bl := (bl.trans (Below.mono hb bl.size))
    replace sz := A.size.trans sz
    replace df := A.defs.trans df
    clear A hb
    show Code.wp _ _ _ _ _
    refine wp_ret ?_
    repeat (first | with_reducible refine then_ret ?_ | with_reducible refine block_ret ?_)
    exact bodyPost_ret (v := .bool true) (ret_slot rfl f6 _ x4 _ _) df ⟨rfl, bl⟩
  obtain ⟨x, hxk⟩ : ∃ p, A0[k]? = some p := ⟨_, List.getElem?_eq_getElem hlt⟩
  obtain ⟨y, hyk⟩ : ∃ p, B0[k]? = some p := ⟨_, List.getElem?_eq_getElem (by omega)⟩
  have hx : x.length = 32 := hs_len hA hxk
  have hy : y.length = 32 := hs_len hB hyk
  refine wp_all_seq [.eq (.bool true)] (by kernel_rfl) (by kernel_rfl) (by rw [sz]; kernel_rfl) (by kernel_rfl) ⟨fun hw ac u K => ?_, trivial⟩ ?_
  · exact st_lss 3 (.tmp 13) (.tmp 12) rfl .i64 (((k : Nat) : Int)) ((((A0).length : Nat) : Int)) ((K.old 13 rfl).trans x13) ((K.old 12 rfl).trans x12) _ (by first | (simp; done) | (simp; omega))
  intro f5 w5 A hb
  replace bl0 := bl
  replace x0 := (A.old 0 rfl).trans x0
  replace x1 := (A.old 1 rfl).trans x1
  replace x4 := (A.old 4 rfl).trans x4
  replace x10 := (A.old 10 rfl).trans x10
  replace x12 := (A.old 12 rfl).trans x12
  replace x13 := (A.old 13 rfl).trans x13
  have x14 : f5.eval (.tmp 14) = .bool true := A.has 0 14 rfl
  replace bl := (bl.trans (Below.mono hb bl.size))
  replace sz := A.size.trans sz
  replace df := A.defs.trans df
  clear A hb
  show Code.wp _ _ _ _ _
  refine wp_seq ?_
  refine wp_cond_true x14 ?_
  refine wp_skip ?_
  show Code.wp _ _ _ _ _
  refine wp_seq ?_
  refine wp_block ?_
  refine wp_seq ?_
  refine wp_all_seq [.eq (.int .i64 ((k : Nat) : Int)), .eq (.int .i64 ((k : Nat) : Int))] (by kernel_rfl) (by kernel_rfl) (by rw [sz]; kernel_rfl) (by kernel_rfl) ⟨fun hw ac u K => ?_, fun hw ac u K => ?_, trivial⟩ ?_
  · exact st_move (.tmp 13) rfl ((K.old 13 rfl).trans x13)
  · exact st_assign (.tmp 15) rfl (K.dep 0 15 rfl)
  intro f6 w6 A hb
  replace bl0 := bl
  replace x0 := (A.old 0 rfl).trans x0
  replace x1 := (A.old 1 rfl).trans x1
  replace x4 := (A.old 4 rfl).trans x4
  replace x10 := (A.old 10 rfl).trans x10
  replace x12 := (A.old 12 rfl).trans x12
  replace x13 := (A.old 13 rfl).trans x13
  replace x14 := (A.old 14 rfl).trans x14
  have x5 : f6.eval (.tmp 5) = .int .i64 ((k : Nat) : Int) := A.has 1 5 rfl
  replace bl := (bl.trans (Below.mono hb bl.size))
  replace sz := A.size.trans sz
  replace df := A.defs.trans df
  clear A hb
  show Code.wp _ _ _ _ _
  refine wp_seq ?_
  by_cases hxy : x = y
  rotate_left
  · skip
    obtain rfl : r = false := by rw [hr]; exact decide_eq_false (neq_at hxk hyk hxy)
    refine wp_all [.eq (va), .eq (.int .i64 ((k : Nat) : Int)), .ph (x), .eq (.agg ((x).map V).toArray), .eq (vb), .eq (.int .i64 ((k : Nat) : Int)), .ph (y), .eq (.agg ((y).map V).toArray), .eq (.bool true)] Tryd.mixed (by kernel_rfl) (by kernel_rfl) (by rw [sz]; kernel_rfl) (by kernel_rfl) ⟨fun hw ac u K => ?_, fun hw ac u K => ?_, fun hw ac u K => ?_, fun hw ac u K => ?_, fun hw ac u K => ?_, fun hw ac u K => ?_, fun hw ac u K => ?_, fun hw ac u K => ?_, fun hw ac u K => ?_, trivial⟩ ?_
    · exact st_move (.tmp 0) rfl ((K.old 0 rfl).trans x0)
    · exact st_move (.tmp 5) rfl ((K.old 5 rfl).trans x5)
    · exact st_idxh (.tmp 16) (.tmp 17) rfl (fk_val (K.dep 0 16 rfl) (Fk.mono _ _ _ _ hA (bl.trans (Below.mono K.grow bl.size)))) (k) (x) (K.dep 1 17 rfl) hxk
    · exact st_loadh (.tmp 18) rfl (K.dep 2 18 rfl)
    · exact st_move (.tmp 1) rfl ((K.old 1 rfl).trans x1)
    · exact st_move (.tmp 5) rfl ((K.old 5 rfl).trans x5)
    · exact st_idxh (.tmp 20) (.tmp 21) rfl (fk_val (K.dep 4 20 rfl) (Fk.mono _ _ _ _ hB (bl.trans (Below.mono K.grow bl.size)))) (k) (y) (K.dep 5 21 rfl) hyk
    · exact st_loadh (.tmp 22) rfl (K.dep 6 22 rfl)
    · exact st_neqh (.tmp 19) (.tmp 23) rfl (x) (y) hx hy (K.dep 3 19 rfl) (K.dep 7 23 rfl) _ (by simp [hxy])
    intro f7 w7 A hb
    replace bl0 := bl
    replace x0 := (A.old 0 rfl).trans x0
    replace x1 := (A.old 1 rfl).trans x1
    replace x4 := (A.old 4 rfl).trans x4
    replace x10 := (A.old 10 rfl).trans x10
    replace x12 := (A.old 12 rfl).trans x12
    replace x13 := (A.old 13 rfl).trans x13
    replace x14 := (A.old 14 rfl).trans x14
    replace x5 := (A.old 5 rfl).trans x5
    have x24 : f7.eval (.tmp 24) = .bool true := A.has 8 24 rfl
    replace bl := (bl.trans (Below.mono hb bl.size))
    replace sz := A.size.trans sz
    replace df := A.defs.trans df
    clear A hb
    clear x5
    show Code.wp _ _ _ _ _
    refine wp_cond_true x24 ?_
    refine wp_seq ?_
    refine wp_all_seq [.eq (.bool false)] (by kernel_rfl) (by kernel_rfl) (by rw [sz]; kernel_rfl) (by kernel_rfl) ⟨fun hw ac u K => ?_, trivial⟩ ?_
    · exact st_assign (.const (.bool false)) rfl rfl
    intro f8 w8 A hb
    replace bl0 := bl
    replace x0 := (A.old 0 rfl).trans x0
    replace x1 := (A.old 1 rfl).trans x1
    clear x4
    replace x10 := (A.old 10 rfl).trans x10
    replace x12 := (A.old 12 rfl).trans x12
    replace x13 := (A.old 13 rfl).trans x13
    replace x14 := (A.old 14 rfl).trans x14
    replace x24 := (A.old 24 rfl).trans x24
    have x4 : f8.eval (.tmp 4) = .bool false := A.has 0 4 rfl
    replace bl := (bl.trans (Below.mono hb bl.size))
    replace sz := A.size.trans sz
    replace df := A.defs.trans df
    clear A hb
    show Code.wp _ _ _ _ _
    refine wp_ret ?_
    repeat (first | with_reducible refine then_ret ?_ | with_reducible refine block_ret ?_)
    exact bodyPost_ret (v := .bool false) (ret_slot rfl f8 _ x4 _ _) df ⟨rfl, bl⟩
  refine wp_all [.eq (va), .eq (.int .i64 ((k : Nat) : Int)), .ph (x), .eq (.agg ((x).map V).toArray), .eq (vb), .eq (.int .i64 ((k : Nat) : Int)), .ph (y), .eq (.agg ((y).map V).toArray), .eq (.bool false)] Tryd.mixed (by kernel_rfl) (by kernel_rfl) (by rw [sz]; kernel_rfl) (by kernel_rfl) ⟨fun hw ac u K => ?_, fun hw ac u K => ?_, fun hw ac u K => ?_, fun hw ac u K => ?_, fun hw ac u K => ?_, fun hw ac u K => ?_, fun hw ac u K => ?_, fun hw ac u K => ?_, fun hw ac u K => ?_, trivial⟩ ?_
  · exact st_move (.tmp 0) rfl ((K.old 0 rfl).trans x0)
  · exact st_move (.tmp 5) rfl ((K.old 5 rfl).trans x5)
  · exact st_idxh (.tmp 16) (.tmp 17) rfl (fk_val (K.dep 0 16 rfl) (Fk.mono _ _ _ _ hA (bl.trans (Below.mono K.grow bl.size)))) (k) (x) (K.dep 1 17 rfl) hxk
  · exact st_loadh (.tmp 18) rfl (K.dep 2 18 rfl)
  · exact st_move (.tmp 1) rfl ((K.old 1 rfl).trans x1)
  · exact st_move (.tmp 5) rfl ((K.old 5 rfl).trans x5)
  · exact st_idxh (.tmp 20) (.tmp 21) rfl (fk_val (K.dep 4 20 rfl) (Fk.mono _ _ _ _ hB (bl.trans (Below.mono K.grow bl.size)))) (k) (y) (K.dep 5 21 rfl) hyk
  · exact st_loadh (.tmp 22) rfl (K.dep 6 22 rfl)
  · exact st_neqh (.tmp 19) (.tmp 23) rfl (x) (y) hx hy (K.dep 3 19 rfl) (K.dep 7 23 rfl) _ (by simp [hxy])
  intro f7 w7 A hb
  replace bl0 := bl
  replace x0 := (A.old 0 rfl).trans x0
  replace x1 := (A.old 1 rfl).trans x1
  replace x4 := (A.old 4 rfl).trans x4
  replace x10 := (A.old 10 rfl).trans x10
  replace x12 := (A.old 12 rfl).trans x12
  replace x13 := (A.old 13 rfl).trans x13
  replace x14 := (A.old 14 rfl).trans x14
  replace x5 := (A.old 5 rfl).trans x5
  have x24 : f7.eval (.tmp 24) = .bool false := A.has 8 24 rfl
  replace bl := (bl.trans (Below.mono hb bl.size))
  replace sz := A.size.trans sz
  replace df := A.defs.trans df
  clear A hb
  clear x5
  show Code.wp _ _ _ _ _
  refine wp_cond_false x24 ?_
  refine wp_skip ?_
  show Code.wp _ _ _ _ _
  refine wp_region_seq [.eq (.int .i64 ((k + 1 : Nat) : Int))] (by kernel_rfl) (by kernel_rfl) (by rw [sz]; kernel_rfl) (by kernel_rfl) ⟨fun hw ac u K => ?_, trivial⟩ ?_
  · exact st_add (.tmp 13) (.const (.int .i64 1)) rfl (k) (1) (k + 1) ((K.old 13 rfl).trans x13) rfl (by omega) (by omega)
  intro f8 w8 A hb
  replace bl0 := bl
  replace x0 := (A.old 0 rfl).trans x0
  replace x1 := (A.old 1 rfl).trans x1
  replace x4 := (A.old 4 rfl).trans x4
  replace x10 := (A.old 10 rfl).trans x10
  replace x12 := (A.old 12 rfl).trans x12
  replace x13 := (A.old 13 rfl).trans x13
  replace x14 := (A.old 14 rfl).trans x14
  replace x24 := (A.old 24 rfl).trans x24
  have x25 : f8.eval (.tmp 25) = .int .i64 ((k + 1 : Nat) : Int) := A.has 0 25 rfl
  replace bl := (bl.trans (Below.mono hb bl.size))
  replace sz := A.size.trans sz
  replace df := A.defs.trans df
  clear A hb
  refine wl_one (.eq (.int .i64 ((k + 1 : Nat) : Int))) rfl 13 rfl (by rw [sz]; decide) (st_move (.tmp 25) rfl x25) ?_
  intro f9 w9 df2 sz2 old2 new2 hb
  replace bl0 := bl
  replace x0 := (old2 0 rfl).trans x0
  replace x1 := (old2 1 rfl).trans x1
  replace x4 := (old2 4 rfl).trans x4
  replace x10 := (old2 10 rfl).trans x10
  replace x12 := (old2 12 rfl).trans x12
  clear x13
  replace x14 := (old2 14 rfl).trans x14
  replace x24 := (old2 24 rfl).trans x24
  replace x25 := (old2 25 rfl).trans x25
  have x13 : f9.eval (.tmp 13) = .int .i64 ((k + 1 : Nat) : Int) := new2
  replace bl := (bl.trans (Below.mono hb bl.size))
  replace sz := sz2.trans sz
  replace df := df2.trans df
  clear df2 sz2 old2 new2 hb
  refine wpList_nil ?_
  clear x25
  show (∃ _, _) ∧ _
  refine ⟨⟨k + 1, by omega, take_succ_eq heq hxk (by rw [hxy]; exact hyk), sz, df, x0, x1, x4, x10, x12, x13, bl⟩, ?_⟩
  rw [show f9.eval (.tmp 13) = _ from x13, show _ = _ from hcnt]
  simp [intOf]
  omega
end Go.Proofs.YtnppjlpnfijobaaDoor
namespace Go.Proofs.YtnppjlpnfijobaaDoor
set_option maxRecDepth 100000
open Go.RowKit
theorem HR.row {w : World} {g k n : Nat} {P : List (List (BitVec 8))} (h : HR w g k n P) : ∃ v, Ob w g 51 [.int .i64 ((n : Nat) : Int), v] ∧ (Fk.ow 0 P).f v w := by
  obtain ⟨_, _, h32, v, hob, h | ⟨cap, cur, e, _, hk, hc, hm, hs, ht⟩⟩ := h
  · obtain ⟨rfl, rfl, _⟩ := h
    exact ⟨_, hob, ow_nil _ _⟩
  · have hfl := flat_len32 P (fun i x hx => h32 x (List.mem_of_getElem? hx))
    exact ⟨v, hob, ⟨by rw [List.length_map, hfl], .inr ⟨k, cap, cur, e, Nat.zero_le _, hk, hc, hm, hs, ht⟩⟩, fun i x hx => h32 x (List.mem_of_getElem? hx)⟩
theorem hr_make {w : World} {g g0 n : Nat} {P : List (List (BitVec 8))} {v : Value} (hn : n ≤ 1048576) (hP : P.length = pcn n) (m : Ob w g 51 [.int .i64 ((n : Nat) : Int), v]) (ho : (Fk.ow g0 P).f v w) : ∃ k, HR w g k n P ∧ (k = g ∨ g0 ≤ k) := by
  obtain ⟨⟨_, h2⟩, h32⟩ := ho
  have h32' : ∀ x ∈ P, x.length = 32 := fun x hx => by
    obtain ⟨i, hi⟩ := List.getElem?_of_mem hx
    exact h32 i x hi
  rcases h2 with ⟨rfl, h0⟩ | ⟨k, cap, cur, rfl, hk, hg, h3, h4, h5, h6⟩
  · exact ⟨g, ⟨hn, hP, h32', _, m, .inl ⟨rfl, List.eq_nil_of_length_eq_zero h0, rfl⟩⟩, .inl rfl⟩
  · refine ⟨k, ⟨hn, hP, h32', _, m, .inr ⟨cap, cur, rfl, ?_, hg, h3, h4, h5, h6⟩⟩, .inr hk⟩
    intro e
    rw [e] at hg
    unfold Ob at m
    rw [m] at hg
    cases hg
/-- A slice that is nil, or points to something. -/
theorem ow_nn {g0 : Nat} {P : List (List (BitVec 8))} {v : Value} {w : World} (h : (Fk.ow g0 P).f v w) : v = .slice none 0 0 ∨ ∃ ad n C, v = .slice (some ad) n C := by
  obtain ⟨⟨_, h2⟩, _⟩ := h
  rcases h2 with ⟨rfl, _⟩ | ⟨k, cap, cur, rfl, _⟩
  · exact .inl rfl
  · exact .inr ⟨_, _, _, rfl⟩
theorem fk_new (w : World) :
    Calls Tryd.prog 8 #[] w fun e w' => ∃ u, e = .returned u ∧ (Fk.rn w.heap.size 0 []).f u w' ∧ Below w.heap.size w w' := by
  go_enter Tryd.func8, Tryd.ntmps8
  refine code_both (fun f w1 => f.tmps.size = 3 ∧ f.defers = [] ∧ Below w.heap.size w (w1)) ⟨rfl, rfl, Below.refl _ _⟩ ?_
  rintro f0 w0 ⟨sz, df, bl⟩
  have bl0 := bl
  refine wp_seq ?_
  refine wp_all_seq [.eq (.pointer none)] (by kernel_rfl) (by kernel_rfl) (by rw [sz]; kernel_rfl) (by kernel_rfl) ⟨fun hw ac u K => ?_, trivial⟩ ?_
  · exact st_assign (.const (.pointer none)) rfl rfl
  intro f1 w1 A hb
  replace bl0 := bl
  have x0 : f1.eval (.tmp 0) = .pointer none := A.has 0 0 rfl
  replace bl := (bl.trans (Below.mono hb bl.size))
  replace sz := A.size.trans sz
  replace df := A.defs.trans df
  clear A hb
  show Code.wp _ _ _ _ _
  refine wp_seq ?_
  refine wp_all_seq [.eq (.agg ([.int .i64 0, .slice none 0 0] : List Value).toArray), .nw w1.heap.size 51 ([.int .i64 0, .slice none 0 0] : List Value), .nw w1.heap.size 51 ([.int .i64 0, .slice none 0 0] : List Value)] (by kernel_rfl) (by kernel_rfl) (by rw [sz]; kernel_rfl) (by kernel_rfl) ⟨fun hw ac u K => ?_, fun hw ac u K => ?_, fun hw ac u K => ?_, trivial⟩ ?_
  · exact st_build 51 _ rfl (by kernel_rfl)
  · exact st_box 51 (.tmp 1) rfl _ _ (by rw [show _ = _ from (K.dep 0 1 rfl)]; kernel_rfl) K.grow.size
  · exact st_assign (.tmp 2) rfl (K.dep 1 2 rfl)
  intro f2 w2 A hb
  replace bl0 := bl
  clear x0
  have x0 : Fk.f (.nw w1.heap.size 51 ([.int .i64 0, .slice none 0 0] : List Value)) (f2.eval (.tmp 0)) w2 := A.has 2 0 rfl
  replace bl := (bl.trans (Below.mono hb bl.size))
  replace sz := A.size.trans sz
  replace df := A.defs.trans df
  clear A hb
  obtain ⟨g0, hg0, e0, m0⟩ := x0
  have x0 := e0
  clear e0
  have hw0 : w.heap.size ≤ g0 := Nat.le_trans bl0.size hg0
  show Code.wp _ _ _ _ _
  refine wp_ret ?_
  repeat (first | with_reducible refine then_ret ?_ | with_reducible refine block_ret ?_)
  obtain ⟨k, hR, hk⟩ := hr_make (g0 := w.heap.size) (P := []) (n := 0) (by omega) (by rw [pcn_zero]; rfl) m0 (ow_nil _ _)
  exact bodyPost_ret (v := .pointer (some ⟨g0, 0, none⟩)) (ret_slot rfl f2 _ x0 _ _) df ⟨_, rfl, ⟨_, k, rfl, hw0, by rcases hk with rfl | hk <;> omega, hR⟩, bl⟩
theorem fk_size {w : World} {g k n : Nat} {P : List (List (BitVec 8))} (hr : HR w g k n P) :
    Calls Tryd.prog 12 #[.pointer (some ⟨g, 0, none⟩)] w fun e w' => ∃ u, e = .returned u ∧ (Fk.eq (.int .i64 ((n : Nat) : Int))).f u w' ∧ Below w.heap.size w w' := by
  obtain ⟨v, m0, hv⟩ := hr.row
  have hvc := ow_hc hv
  have hvs := ow_hs hv
  have hl21 := hr.len
  go_enter Tryd.func12, Tryd.ntmps12
  refine code_both (fun f w1 => f.tmps.size = 7 ∧ f.defers = [] ∧ f.eval (.tmp 0) = .pointer (some ⟨g, 0, none⟩) ∧ Below w.heap.size w (w1)) ⟨rfl, rfl, rfl, Below.refl _ _⟩ ?_
  rintro f0 w0 ⟨sz, df, x0, bl⟩
  have bl0 := bl
  refine wp_seq ?_
  refine wp_all_seq [.eq (.int .i64 0)] (by kernel_rfl) (by kernel_rfl) (by rw [sz]; kernel_rfl) (by kernel_rfl) ⟨fun hw ac u K => ?_, trivial⟩ ?_
  · exact st_assign (.const (.int .i64 0)) rfl rfl
  intro f1 w1 A hb
  replace bl0 := bl
  replace x0 := (A.old 0 rfl).trans x0
  have x2 : f1.eval (.tmp 2) = .int .i64 0 := A.has 0 2 rfl
  replace bl := (bl.trans (Below.mono hb bl.size))
  replace sz := A.size.trans sz
  replace df := A.defs.trans df
  clear A hb
  show Code.wp _ _ _ _ _
  refine wp_seq ?_
  refine wp_all_seq [.eq (.pointer (some ⟨g, 0, none⟩)), .eq (.pointer (some ⟨g, 0, none⟩)), .eq (.pointer (some ⟨g, 0, none⟩)), .eq (.int .i64 ((n : Nat) : Int)), .eq (.int .i64 ((n : Nat) : Int))] (by kernel_rfl) (by kernel_rfl) (by rw [sz]; kernel_rfl) (by kernel_rfl) ⟨fun hw ac u K => ?_, fun hw ac u K => ?_, fun hw ac u K => ?_, fun hw ac u K => ?_, fun hw ac u K => ?_, trivial⟩ ?_
  · exact st_move (.tmp 0) rfl ((K.old 0 rfl).trans x0)
  · exact st_nil (.tmp 3) rfl (K.dep 0 3 rfl)
  · exact st_field 51 0 (.tmp 4) rfl (K.dep 1 4 rfl) (by kernel_rfl)
  · exact st_loadc 3 (.tmp 5) rfl (by kernel_rfl) (K.dep 2 5 rfl) (Ob.cell (Ob.below m0 (bl.trans (Below.mono K.grow bl.size))) 0 rfl)
  · exact st_assign (.tmp 6) rfl (K.dep 3 6 rfl)
  intro f2 w2 A hb
  replace bl0 := bl
  replace x0 := (A.old 0 rfl).trans x0
  clear x2
  have x2 : f2.eval (.tmp 2) = .int .i64 ((n : Nat) : Int) := A.has 4 2 rfl
  replace bl := (bl.trans (Below.mono hb bl.size))
  replace sz := A.size.trans sz
  replace df := A.defs.trans df
  clear A hb
  clear x0
  show Code.wp _ _ _ _ _
  refine wp_ret ?_
  repeat (first | with_reducible refine then_ret ?_ | with_reducible refine block_ret ?_)
  exact bodyPost_ret (v := .int .i64 ((n : Nat) : Int)) (ret_slot rfl f2 _ x2 _ _) df ⟨_, rfl, rfl, bl⟩
theorem fk_peaks {w : World} {g k n : Nat} {P : List (List (BitVec 8))} (hr : HR w g k n P) :
    Calls Tryd.prog 14 #[.pointer (some ⟨g, 0, none⟩)] w fun e w' => ∃ u, e = .returned u ∧ (Fk.ow w.heap.size P).f u w' ∧ Below w.heap.size w w' := by
  obtain ⟨v, m0, hv⟩ := hr.row
  have hvc := ow_hc hv
  have hvs := ow_hs hv
  have hl21 := hr.len
  go_enter Tryd.func14, Tryd.ntmps14
  refine code_both (fun f w1 => f.tmps.size = 8 ∧ f.defers = [] ∧ f.eval (.tmp 0) = .pointer (some ⟨g, 0, none⟩) ∧ Below w.heap.size w (w1)) ⟨rfl, rfl, rfl, Below.refl _ _⟩ ?_
  rintro f0 w0 ⟨sz, df, x0, bl⟩
  have bl0 := bl
  refine wp_seq ?_
  refine wp_all_seq [.eq (.slice none 0 0)] (by kernel_rfl) (by kernel_rfl) (by rw [sz]; kernel_rfl) (by kernel_rfl) ⟨fun hw ac u K => ?_, trivial⟩ ?_
  · exact st_assign (.const (.slice none 0 0)) rfl rfl
  intro f1 w1 A hb
  replace bl0 := bl
  replace x0 := (A.old 0 rfl).trans x0
  have x2 : f1.eval (.tmp 2) = .slice none 0 0 := A.has 0 2 rfl
  replace bl := (bl.trans (Below.mono hb bl.size))
  replace sz := A.size.trans sz
  replace df := A.defs.trans df
  clear A hb
  show Code.wp _ _ _ _ _
  refine wp_seq ?_
  refine wp_all_seq [.eq (.pointer (some ⟨g, 0, none⟩)), .eq (.pointer (some ⟨g, 0, none⟩)), .eq (.pointer (some ⟨g, 1, none⟩)), .eq (v), .ow w.heap.size (P), .ow w.heap.size (P)] (by kernel_rfl) (by kernel_rfl) (by rw [sz]; kernel_rfl) (by kernel_rfl) ⟨fun hw ac u K => ?_, fun hw ac u K => ?_, fun hw ac u K => ?_, fun hw ac u K => ?_, fun hw ac u K => ?_, fun hw ac u K => ?_, trivial⟩ ?_
  · exact st_move (.tmp 0) rfl ((K.old 0 rfl).trans x0)
  · exact st_nil (.tmp 3) rfl (K.dep 0 3 rfl)
  · exact st_field 51 1 (.tmp 4) rfl (K.dep 1 4 rfl) (by kernel_rfl)
  · exact st_loadc 22 (.tmp 5) rfl (by kernel_rfl) (K.dep 2 5 rfl) (Ob.cell (Ob.below m0 (bl.trans (Below.mono K.grow bl.size))) 1 rfl)
  · exact st_call 26 (.func 26) _ _ #[v] rfl rfl (one_arg (K.dep 3 6 rfl)) Tryd.enter26 (fk_ow (bl.trans (Below.mono K.grow bl.size)).size (fk_clone (by omega) (Fk.mono _ _ _ _ hvc (bl.trans (Below.mono K.grow bl.size))) (ow_nn hv)))
  · exact st_assign (.tmp 7) rfl (K.dep 4 7 rfl)
  intro f2 w2 A hb
  replace bl0 := bl
  replace x0 := (A.old 0 rfl).trans x0
  clear x2
  have x2 : Fk.f (.ow w.heap.size (P)) (f2.eval (.tmp 2)) w2 := A.has 5 2 rfl
  replace bl := (bl.trans (Below.mono hb bl.size))
  replace sz := A.size.trans sz
  replace df := A.defs.trans df
  clear A hb
  clear x0
  show Code.wp _ _ _ _ _
  refine wp_ret ?_
  repeat (first | with_reducible refine then_ret ?_ | with_reducible refine block_ret ?_)
  exact bodyPost_ret (v := f2.eval (.tmp 2)) (ret_slot rfl f2 _ rfl _ _) df ⟨_, rfl, x2, bl⟩
theorem fk_equal {w : World} {g k n : Nat} {P : List (List (BitVec 8))} (hr : HR w g k n P) {g2 k2 n2 : Nat} {P2 : List (List (BitVec 8))} (hr2 : HR w g2 k2 n2 P2) {b : Bool} (hb : b = decide (n = n2 ∧ P = P2)) :
    Calls Tryd.prog 21 #[.pointer (some ⟨g, 0, none⟩), .pointer (some ⟨g2, 0, none⟩)] w fun e w' => ∃ u, e = .returned u ∧ (Fk.eq (.bool b)).f u w' ∧ Below w.heap.size w w' := by
  obtain ⟨v, m0, hv⟩ := hr.row
  have hvc := ow_hc hv
  have hvs := ow_hs hv
  have hl21 := hr.len
  obtain ⟨v2, m2, hv2⟩ := hr2.row
  have hv2c := ow_hc hv2
  have hv2s := ow_hs hv2
  go_enter Tryd.func21, Tryd.ntmps21
  refine code_both (fun f w1 => f.tmps.size = 25 ∧ f.defers = [] ∧ f.eval (.tmp 0) = .pointer (some ⟨g, 0, none⟩) ∧ f.eval (.tmp 1) = .pointer (some ⟨g2, 0, none⟩) ∧ Below w.heap.size w (w1)) ⟨rfl, rfl, rfl, rfl, Below.refl _ _⟩ ?_
  rintro f0 w0 ⟨sz, df, x0, x1, bl⟩
  have bl0 := bl
  refine wp_seq ?_
  refine wp_all_seq [.eq (.bool false)] (by kernel_rfl) (by kernel_rfl) (by rw [sz]; kernel_rfl) (by kernel_rfl) ⟨fun hw ac u K => ?_, trivial⟩ ?_
  · exact st_assign (.const (.bool false)) rfl rfl
  intro f1 w1 A hb
  replace bl0 := bl
  replace x0 := (A.old 0 rfl).trans x0
  replace x1 := (A.old 1 rfl).trans x1
  have x4 : f1.eval (.tmp 4) = .bool false := A.has 0 4 rfl
  replace bl := (bl.trans (Below.mono hb bl.size))
  replace sz := A.size.trans sz
  replace df := A.defs.trans df
  clear A hb
  show Code.wp _ _ _ _ _
  refine wp_seq ?_
  by_cases hnn : n = n2
  rotate_left
  · skip
    obtain rfl : b = false := by rw [hb]; simp [hnn]
    refine wp_all [.eq (.pointer (some ⟨g, 0, none⟩)), .eq (.pointer (some ⟨g, 0, none⟩)), .eq (.pointer (some ⟨g, 0, none⟩)), .eq (.int .i64 ((n : Nat) : Int)), .eq (.pointer (some ⟨g2, 0, none⟩)), .eq (.pointer (some ⟨g2, 0, none⟩)), .eq (.pointer (some ⟨g2, 0, none⟩)), .eq (.int .i64 ((n2 : Nat) : Int)), .eq (.bool false), .eq (.bool false), .any, .any, .any, .any, .any, .any, .any, .any, .any, .eq (.bool false), .eq (.bool false)] Tryd.mixed (by kernel_rfl) (by kernel_rfl) (by rw [sz]; kernel_rfl) (by kernel_rfl) ⟨fun hw ac u K => ?_, fun hw ac u K => ?_, fun hw ac u K => ?_, fun hw ac u K => ?_, fun hw ac u K => ?_, fun hw ac u K => ?_, fun hw ac u K => ?_, fun hw ac u K => ?_, fun hw ac u K => ?_, fun hw ac u K => ?_, fun hw ac u K => ?_, fun hw ac u K => ?_, fun hw ac u K => ?_, fun hw ac u K => ?_, fun hw ac u K => ?_, fun hw ac u K => ?_, fun hw ac u K => ?_, fun hw ac u K => ?_, fun hw ac u K => ?_, fun hw ac u K => ?_, fun hw ac u K => ?_, trivial⟩ ?_
    · exact st_move (.tmp 0) rfl ((K.old 0 rfl).trans x0)
    · exact st_nil (.tmp 5) rfl (K.dep 0 5 rfl)
    · exact st_field 51 0 (.tmp 6) rfl (K.dep 1 6 rfl) (by kernel_rfl)
    · exact st_loadc 3 (.tmp 7) rfl (by kernel_rfl) (K.dep 2 7 rfl) (Ob.cell (Ob.below m0 (bl.trans (Below.mono K.grow bl.size))) 0 rfl)
    · exact st_move (.tmp 1) rfl ((K.old 1 rfl).trans x1)
    · exact st_nil (.tmp 9) rfl (K.dep 4 9 rfl)
    · exact st_field 51 0 (.tmp 10) rfl (K.dep 5 10 rfl) (by kernel_rfl)
    · exact st_loadc 3 (.tmp 11) rfl (by kernel_rfl) (K.dep 6 11 rfl) (Ob.cell (Ob.below m2 (bl.trans (Below.mono K.grow bl.size))) 0 rfl)
    · exact st_eqi 3 (.tmp 8) (.tmp 12) rfl .i64 (((n : Nat) : Int)) (((n2 : Nat) : Int)) (K.dep 3 8 rfl) (K.dep 7 12 rfl) _ (by rw [eq_comm, decide_eq_false_iff_not]; omega)
    · exact st_move (.tmp 13) rfl (K.dep 8 13 rfl)
    · exact (Bool.false_ne_true hw).elim
    · exact (Bool.false_ne_true hw).elim
    · exact (Bool.false_ne_true hw).elim
    · exact (Bool.false_ne_true hw).elim
    · exact (Bool.false_ne_true hw).elim
    · exact (Bool.false_ne_true hw).elim
    · exact (Bool.false_ne_true hw).elim
    · exact (Bool.false_ne_true hw).elim
    · exact (Bool.false_ne_true hw).elim
    · exact st_pick_f' (.tmp 14) (.tmp 23) (.const (.bool false)) rfl (K.dep 9 14 rfl) rfl
    · exact st_assign (.tmp 24) rfl (K.dep 19 24 rfl)
    intro f2 w2 A hb
    replace bl0 := bl
    replace x0 := (A.old 0 rfl).trans x0
    replace x1 := (A.old 1 rfl).trans x1
    clear x4
    have x4 : f2.eval (.tmp 4) = .bool false := A.has 20 4 rfl
    replace bl := (bl.trans (Below.mono hb bl.size))
    replace sz := A.size.trans sz
    replace df := A.defs.trans df
    clear A hb
    clear x0
    clear x1
    show Code.wp _ _ _ _ _
    refine wp_ret ?_
    repeat (first | with_reducible refine then_ret ?_ | with_reducible refine block_ret ?_)
    exact bodyPost_ret (v := .bool false) (ret_slot rfl f2 _ x4 _ _) df ⟨_, rfl, rfl, bl⟩
  refine wp_all [.eq (.pointer (some ⟨g, 0, none⟩)), .eq (.pointer (some ⟨g, 0, none⟩)), .eq (.pointer (some ⟨g, 0, none⟩)), .eq (.int .i64 ((n : Nat) : Int)), .eq (.pointer (some ⟨g2, 0, none⟩)), .eq (.pointer (some ⟨g2, 0, none⟩)), .eq (.pointer (some ⟨g2, 0, none⟩)), .eq (.int .i64 ((n2 : Nat) : Int)), .eq (.bool true), .eq (.bool true), .eq (.pointer (some ⟨g, 0, none⟩)), .eq (.pointer (some ⟨g, 0, none⟩)), .eq (.pointer (some ⟨g, 1, none⟩)), .eq (v), .eq (.pointer (some ⟨g2, 0, none⟩)), .eq (.pointer (some ⟨g2, 0, none⟩)), .eq (.pointer (some ⟨g2, 1, none⟩)), .eq (v2), .eq (.bool b), .eq (.bool b), .eq (.bool b)] Tryd.mixed (by kernel_rfl) (by kernel_rfl) (by rw [sz]; kernel_rfl) (by kernel_rfl) ⟨fun hw ac u K => ?_, fun hw ac u K => ?_, fun hw ac u K => ?_, fun hw ac u K => ?_, fun hw ac u K => ?_, fun hw ac u K => ?_, fun hw ac u K => ?_, fun hw ac u K => ?_, fun hw ac u K => ?_, fun hw ac u K => ?_, fun hw ac u K => ?_, fun hw ac u K => ?_, fun hw ac u K => ?_, fun hw ac u K => ?_, fun hw ac u K => ?_, fun hw ac u K => ?_, fun hw ac u K => ?_, fun hw ac u K => ?_, fun hw ac u K => ?_, fun hw ac u K => ?_, fun hw ac u K => ?_, trivial⟩ ?_
  · exact st_move (.tmp 0) rfl ((K.old 0 rfl).trans x0)
  · exact st_nil (.tmp 5) rfl (K.dep 0 5 rfl)
  · exact st_field 51 0 (.tmp 6) rfl (K.dep 1 6 rfl) (by kernel_rfl)
  · exact st_loadc 3 (.tmp 7) rfl (by kernel_rfl) (K.dep 2 7 rfl) (Ob.cell (Ob.below m0 (bl.trans (Below.mono K.grow bl.size))) 0 rfl)
  · exact st_move (.tmp 1) rfl ((K.old 1 rfl).trans x1)
  · exact st_nil (.tmp 9) rfl (K.dep 4 9 rfl)
  · exact st_field 51 0 (.tmp 10) rfl (K.dep 5 10 rfl) (by kernel_rfl)
  · exact st_loadc 3 (.tmp 11) rfl (by kernel_rfl) (K.dep 6 11 rfl) (Ob.cell (Ob.below m2 (bl.trans (Below.mono K.grow bl.size))) 0 rfl)
  · exact st_eqi 3 (.tmp 8) (.tmp 12) rfl .i64 (((n : Nat) : Int)) (((n2 : Nat) : Int)) (K.dep 3 8 rfl) (K.dep 7 12 rfl) _ (by simp [hnn])
  · exact st_move (.tmp 13) rfl (K.dep 8 13 rfl)
  · exact st_move (.tmp 0) rfl ((K.old 0 rfl).trans x0)
  · exact st_nil (.tmp 15) rfl (K.dep 10 15 rfl)
  · exact st_field 51 1 (.tmp 16) rfl (K.dep 11 16 rfl) (by kernel_rfl)
  · exact st_loadc 22 (.tmp 17) rfl (by kernel_rfl) (K.dep 12 17 rfl) (Ob.cell (Ob.below m0 (bl.trans (Below.mono K.grow bl.size))) 1 rfl)
  · exact st_move (.tmp 1) rfl ((K.old 1 rfl).trans x1)
  · exact st_nil (.tmp 19) rfl (K.dep 14 19 rfl)
  · exact st_field 51 1 (.tmp 20) rfl (K.dep 15 20 rfl) (by kernel_rfl)
  · exact st_loadc 22 (.tmp 21) rfl (by kernel_rfl) (K.dep 16 21 rfl) (Ob.cell (Ob.below m2 (bl.trans (Below.mono K.grow bl.size))) 1 rfl)
  · exact st_call 39 (.func 39) _ _ #[v, v2] rfl rfl (arg2 (K.dep 13 18 rfl) (K.dep 17 22 rfl)) Tryd.enter39 (fk_of (eqs_any (by omega) _ (Fk.mono _ _ _ _ hvs (bl.trans (Below.mono K.grow bl.size))) (Fk.mono _ _ _ _ hv2s (bl.trans (Below.mono K.grow bl.size))) b (by rw [hb]; simp [hnn])))
  · exact st_pick_t (.tmp 14) (.tmp 23) (.const (.bool false)) rfl (K.dep 9 14 rfl) (K.dep 18 23 rfl)
  · exact st_assign (.tmp 24) rfl (K.dep 19 24 rfl)
  intro f2 w2 A hb
  replace bl0 := bl
  replace x0 := (A.old 0 rfl).trans x0
  replace x1 := (A.old 1 rfl).trans x1
  clear x4
  have x4 : f2.eval (.tmp 4) = .bool b := A.has 20 4 rfl
  replace bl := (bl.trans (Below.mono hb bl.size))
  replace sz := A.size.trans sz
  replace df := A.defs.trans df
  clear A hb
  clear x0
  clear x1
  show Code.wp _ _ _ _ _
  refine wp_ret ?_
  repeat (first | with_reducible refine then_ret ?_ | with_reducible refine block_ret ?_)
  exact bodyPost_ret (v := .bool b) (ret_slot rfl f2 _ x4 _ _) df ⟨_, rfl, rfl, bl⟩
end Go.Proofs.YtnppjlpnfijobaaDoor
namespace Go.Proofs.YtnppjlpnfijobaaDoor
set_option maxRecDepth 100000
open Go.RowKit
/-- What is left behind the number, behind the hashes; is it bad; the number; the hashes. -/
def d1 (bs : List (BitVec 8)) := cR 0 1048576 bs
def s1 (bs : List (BitVec 8)) := cX 0 1048576 bs false
def d2 (bs : List (BitVec 8)) (m : Nat) := (hsD (d1 bs) m).drop (32 * hsN (d1 bs) m)
def s2 (bs : List (BitVec 8)) (m : Nat) := hsX (d1 bs) (s1 bs) m
def rN (bs : List (BitVec 8)) : Nat := (cV 0 1048576 bs).toNat
def rP (bs : List (BitVec 8)) (m : Nat) := chk (hsN (d1 bs) m) (hsD (d1 bs) m)
theorem cV_nat (bs : List (BitVec 8)) : cV 0 1048576 bs = ((rN bs : Nat) : Int) ∧ rN bs ≤ 1048576 := by
  have h : 0 ≤ cV 0 1048576 bs ∧ cV 0 1048576 bs ≤ 1048576 := by
    unfold cV
    split <;> omega
  unfold rN
  omega
theorem d1_len (bs : List (BitVec 8)) : (d1 bs).length ≤ bs.length := cR_len _ _ _
theorem done_range {bs : List (BitVec 8)} {m n : Nat} {P : List (List (BitVec 8))} (hm : m ≤ 1000) (hb : be8 n ++ hsb P = bs) (hn : n ≤ 1048576) (hP : P.length ≤ m) (h32 : ∀ x ∈ P, x.length = 32) : s2 bs m = false ∧ d2 bs m = [] ∧ rN bs = n ∧ rP bs m = P := by
  have h32' : ∀ (i : Nat) (x : List (BitVec 8)), P[i]? = some x → x.length = 32 := fun i x hx => h32 x (List.mem_of_getElem? hx)
  obtain ⟨x1, x2, x3⟩ := c_be8 0 1048576 n (hsb P) (by omega) (by omega) (by omega) (by omega)
  rw [hb] at x1 x2 x3
  have q1 : d1 bs = beN P.length 4 ++ P.flatten ++ [] := by rw [List.append_nil]; exact x2
  obtain ⟨u1, u2, u3⟩ := hs_whole P.length P.flatten [] m hm (flat_len2 P h32') hP
  rw [← q1] at u1 u2 u3
  have r1 : s1 bs = false := x3
  refine ⟨by unfold s2; rw [r1]; exact u3, ?_, by unfold rN; rw [x1]; rfl, ?_⟩
  · unfold d2
    rw [u1, u2, List.drop_left' (flat_len2 P h32')]
  · unfold rP
    rw [u1, u2]
    exact chk_of P h32' _
theorem run_nilc {P : Program} {S : World → Prop} {o : Oper} {a : Act} {x : Operand} (ho : o.op = .nilCheck x) {p : Addr} (hx : a.eval x = .pointer (some p)) : ∀ w, S w → (execOp a.eval o).run P w = .ok (.value (.pointer (some p))) w := by
  intro w _
  unfold execOp
  rw [ho]
  simp [hx]
end Go.Proofs.YtnppjlpnfijobaaDoor
namespace Go.Proofs.YtnppjlpnfijobaaDoor
set_option maxRecDepth 100000
open Go.RowKit
theorem fk_copy {w : World} {g k n : Nat} {P : List (List (BitVec 8))} (hr : HR w g k n P) :
    Calls Tryd.prog 20 #[.pointer (some ⟨g, 0, none⟩)] w fun e w' => ∃ u, e = .returned u ∧ (Fk.rn w.heap.size n P).f u w' ∧ Below w.heap.size w w' := by
  obtain ⟨v, m0, hv⟩ := hr.row
  have hvc := ow_hc hv
  have hvs := ow_hs hv
  have hl21 := hr.len
  go_enter Tryd.func20, Tryd.ntmps20
  refine code_both (fun f w1 => f.tmps.size = 11 ∧ f.defers = [] ∧ f.eval (.tmp 0) = .pointer (some ⟨g, 0, none⟩) ∧ Below w.heap.size w (w1)) ⟨rfl, rfl, rfl, Below.refl _ _⟩ ?_
  rintro f0 w0 ⟨sz, df, x0, bl⟩
  have bl0 := bl
  refine wp_seq ?_
  refine wp_all_seq [.eq (.pointer none)] (by kernel_rfl) (by kernel_rfl) (by rw [sz]; kernel_rfl) (by kernel_rfl) ⟨fun hw ac u K => ?_, trivial⟩ ?_
  · exact st_assign (.const (.pointer none)) rfl rfl
  intro f1 w1 A hb
  replace bl0 := bl
  replace x0 := (A.old 0 rfl).trans x0
  have x2 : f1.eval (.tmp 2) = .pointer none := A.has 0 2 rfl
  replace bl := (bl.trans (Below.mono hb bl.size))
  replace sz := A.size.trans sz
  replace df := A.defs.trans df
  clear A hb
  show Code.wp _ _ _ _ _
  refine wp_seq ?_
  refine wp_region_tail [.eq (.pointer (some ⟨g, 0, none⟩)), .eq (.pointer (some ⟨g, 0, none⟩)), .eq (.pointer (some ⟨g, 0, none⟩)), .eq (.int .i64 ((n : Nat) : Int)), .eq (.pointer (some ⟨g, 0, none⟩)), .ow w.heap.size (P)] [6, 7, 8] Tryd.mixed (by kernel_rfl) (by kernel_rfl) (by kernel_rfl) (by kernel_rfl) (by rw [sz]; kernel_rfl) (by kernel_rfl) ⟨fun hw ac u K => ?_, fun hw ac u K => ?_, fun hw ac u K => ?_, fun hw ac u K => ?_, fun hw ac u K => ?_, fun hw ac u K => ?_, trivial⟩ ?_
  · exact st_move (.tmp 0) rfl ((K.old 0 rfl).trans x0)
  · exact st_nil (.tmp 3) rfl (K.dep 0 3 rfl)
  · exact st_field 51 0 (.tmp 4) rfl (K.dep 1 4 rfl) (by kernel_rfl)
  · exact st_loadc 3 (.tmp 5) rfl (by kernel_rfl) (K.dep 2 5 rfl) (Ob.cell (Ob.below m0 (bl.trans (Below.mono K.grow bl.size))) 0 rfl)
  · exact st_move (.tmp 0) rfl ((K.old 0 rfl).trans x0)
  · exact st_call 14 (.func 14) _ _ #[.pointer (some ⟨g, 0, none⟩)] rfl rfl (one_arg (K.dep 4 7 rfl)) Tryd.enter14 (fk_ow (bl.trans (Below.mono K.grow bl.size)).size (fk_peaks (hr.mono (bl.trans (Below.mono K.grow bl.size)))))
  intro f2 w2 A hb
  replace bl0 := bl
  replace x0 := (A.old 0 rfl).trans x0
  replace x2 := (A.old 2 rfl).trans x2
  have x6 : f2.eval (.tmp 6) = .int .i64 ((n : Nat) : Int) := A.has 3 6 rfl
  have x8 : Fk.f (.ow w.heap.size (P)) (f2.eval (.tmp 8)) w2 := A.has 5 8 rfl
  replace bl := (bl.trans (Below.mono hb bl.size))
  replace sz := A.size.trans sz
  replace df := A.defs.trans df
  clear A hb
  clear x0
  obtain ⟨A8, C8, lb8, lo8, e8, _, _⟩ := ow_hc x8
  have h8 := x8
  rw [e8] at h8
  replace x8 := e8
  clear e8
  refine wl_one (.eq (.agg ([.int .i64 ((n : Nat) : Int), .slice A8 (P).length C8] : List Value).toArray)) rfl 9 rfl (by rw [sz]; decide) (st_build 51 _ rfl (by simp only [List.map_toArray, List.map_cons, List.map_nil, show f2.eval (.tmp 6) = _ from x6, show f2.eval (.tmp 8) = _ from x8]; kernel_rfl)) ?_
  intro f3 w3 df2 sz2 old2 new2 hb
  replace bl0 := bl
  replace x2 := (old2 2 rfl).trans x2
  replace x6 := (old2 6 rfl).trans x6
  replace x8 := (old2 8 rfl).trans x8
  have x9 : f3.eval (.tmp 9) = .agg ([.int .i64 ((n : Nat) : Int), .slice A8 (P).length C8] : List Value).toArray := new2
  replace h8 := Fk.mono _ _ _ _ h8 hb
  replace bl := (bl.trans (Below.mono hb bl.size))
  replace sz := sz2.trans sz
  replace df := df2.trans df
  clear df2 sz2 old2 new2 hb
  clear x6
  clear x8
  refine wl_one (.nw w3.heap.size 51 ([.int .i64 ((n : Nat) : Int), .slice A8 (P).length C8] : List Value)) rfl 10 rfl (by rw [sz]; decide) (st_box 51 (.tmp 9) rfl _ _ (by rw [show _ = _ from x9]; kernel_rfl) (Nat.le_refl _)) ?_
  intro f4 w4 df2 sz2 old2 new2 hb
  replace bl0 := bl
  replace x2 := (old2 2 rfl).trans x2
  replace x9 := (old2 9 rfl).trans x9
  have x10 : Fk.f (.nw w3.heap.size 51 ([.int .i64 ((n : Nat) : Int), .slice A8 (P).length C8] : List Value)) (f4.eval (.tmp 10)) w4 := new2
  replace h8 := Fk.mono _ _ _ _ h8 hb
  replace bl := (bl.trans (Below.mono hb bl.size))
  replace sz := sz2.trans sz
  replace df := df2.trans df
  clear df2 sz2 old2 new2 hb
  obtain ⟨g10, hg10, e10, m10⟩ := x10
  have x10 := e10
  clear e10
  have nm0_10 : g ≠ g10 := Nat.ne_of_lt (Nat.lt_of_lt_of_le (Ob.lt m0) (Nat.le_trans bl0.size hg10))
  have hw10 : w.heap.size ≤ g10 := Nat.le_trans bl0.size hg10
  clear x9
  refine wl_one (.eq (.pointer (some ⟨g10, 0, none⟩))) rfl 2 rfl (by rw [sz]; decide) (st_assign (.tmp 10) rfl x10) ?_
  intro f5 w5 df2 sz2 old2 new2 hb
  replace bl0 := bl
  clear x2
  replace x10 := (old2 10 rfl).trans x10
  have x2 : f5.eval (.tmp 2) = .pointer (some ⟨g10, 0, none⟩) := new2
  have lt_m10 := Ob.lt m10
  replace m10 := Ob.below m10 hb
  replace h8 := Fk.mono _ _ _ _ h8 hb
  replace bl := (bl.trans (Below.mono hb bl.size))
  replace sz := sz2.trans sz
  replace df := df2.trans df
  clear df2 sz2 old2 new2 hb
  refine wpList_nil ?_
  clear x10
  show Code.wp _ _ _ _ _
  refine wp_ret ?_
  repeat (first | with_reducible refine then_ret ?_ | with_reducible refine block_ret ?_)
  obtain ⟨k9, hR9, hk9⟩ := hr_make (g0 := w.heap.size) hr.n hr.pcn m10 h8
  exact bodyPost_ret (v := .pointer (some ⟨g10, 0, none⟩)) (ret_slot rfl f5 _ x2 _ _) df ⟨_, rfl, ⟨_, k9, rfl, hw10, by rcases hk9 with rfl | hk9 <;> omega, hR9⟩, bl⟩
theorem fk_rbytes {w : World} {g k n : Nat} {P : List (List (BitVec 8))} (hr : HR w g k n P) :
    Calls Tryd.prog 16 #[.pointer (some ⟨g, 0, none⟩)] w fun e w' => ∃ u, e = .returned u ∧ (Fk.sl (be8 n ++ hsb P)).f u w' ∧ Below w.heap.size w w' := by
  obtain ⟨v, m0, hv⟩ := hr.row
  obtain ⟨A, C, lb, lo, rfl, _, hl⟩ := ow_hc hv
  have hvs : (Fk.hs P).f (.slice A P.length C) w := ⟨A, C, lb, lo, rfl, hl⟩
  have hl21 := hr.len
  obtain ⟨lP, oP, fP⟩ := hs_fl hvs
  go_enter Tryd.func16, Tryd.ntmps16
  refine code_both (fun f w1 => f.tmps.size = 15 ∧ f.defers = [] ∧ f.eval (.tmp 0) = .pointer (some ⟨g, 0, none⟩) ∧ Below w.heap.size w (w1)) ⟨rfl, rfl, rfl, Below.refl _ _⟩ ?_
  rintro f0 w0 ⟨sz, df, x0, bl⟩
  have bl0 := bl
  refine wp_seq ?_
  refine wp_all_seq [.eq (.slice none 0 0)] (by kernel_rfl) (by kernel_rfl) (by rw [sz]; kernel_rfl) (by kernel_rfl) ⟨fun hw ac u K => ?_, trivial⟩ ?_
  · exact st_assign (.const (.slice none 0 0)) rfl rfl
  intro f1 w1 A hb
  replace bl0 := bl
  replace x0 := (A.old 0 rfl).trans x0
  have x2 : f1.eval (.tmp 2) = .slice none 0 0 := A.has 0 2 rfl
  replace bl := (bl.trans (Below.mono hb bl.size))
  replace sz := A.size.trans sz
  replace df := A.defs.trans df
  clear A hb
  show Code.wp _ _ _ _ _
  refine wp_seq ?_
  refine wp_all_seq [.nw w1.heap.size 58 [.slice none 0 0]] (by kernel_rfl) (by kernel_rfl) (by rw [sz]; kernel_rfl) (by kernel_rfl) ⟨fun hw ac u K => ?_, trivial⟩ ?_
  · exact st_alloc 58 rfl _ _ (by kernel_rfl) K.grow.size
  intro f2 w2 A hb
  replace bl0 := bl
  replace x0 := (A.old 0 rfl).trans x0
  replace x2 := (A.old 2 rfl).trans x2
  have x3 : Fk.f (.nw w1.heap.size 58 [.slice none 0 0]) (f2.eval (.tmp 3)) w2 := A.has 0 3 rfl
  replace bl := (bl.trans (Below.mono hb bl.size))
  replace sz := A.size.trans sz
  replace df := A.defs.trans df
  clear A hb
  obtain ⟨g3, hg3, e3, m3⟩ := x3
  have x3 := e3
  clear e3
  have nm0_3 : g ≠ g3 := Nat.ne_of_lt (Nat.lt_of_lt_of_le (Ob.lt m0) (Nat.le_trans bl0.size hg3))
  have hw3 : w.heap.size ≤ g3 := Nat.le_trans bl0.size hg3
  show Code.wp _ _ _ _ _
  refine wp_seq ?_
  have hO : HasOut w2.drew g3 (.slice none 0 0) [] := out_nil m3
  have blW : Below w.heap.size w w2 := bl
  clear m3
  refine wp_region_held_drew (S := fun W => Below g3 w2 W) Tryd.mixed ((Below.refl _ _).drew) (fun hS => ?_)
  refine wh_take 0 4 (v := .pointer (some ⟨g, 0, none⟩)) rfl rfl (by rw [sz]; decide) rfl (by kernel_rfl) (by kernel_rfl) (by kernel_rfl) (fun _ _ _ h => h) (run_mv rfl x0) hS ?_
  intro f4 df2 sz2 old2 new2
  replace x0 : f4.eval (.tmp 0) = .pointer (some ⟨g, 0, none⟩) := (old2 0 rfl).trans x0
  replace x2 : f4.eval (.tmp 2) = .slice none 0 0 := (old2 2 rfl).trans x2
  replace x3 : f4.eval (.tmp 3) = .pointer (some ⟨g3, 0, none⟩) := (old2 3 rfl).trans x3
  have x4 : f4.eval (.tmp 4) = .pointer (some ⟨g, 0, none⟩) := new2
  replace sz := sz2.trans sz
  replace df := df2.trans df
  clear df2 sz2 old2 new2
  refine wh_take 1 5 (v := .pointer (some ⟨g, 0, none⟩)) rfl rfl (by rw [sz]; decide) rfl (by kernel_rfl) (by kernel_rfl) (by kernel_rfl) (fun _ _ _ h => h) (run_nilc rfl x4) hS ?_
  intro f5 df2 sz2 old2 new2
  replace x0 : f5.eval (.tmp 0) = .pointer (some ⟨g, 0, none⟩) := (old2 0 rfl).trans x0
  replace x2 : f5.eval (.tmp 2) = .slice none 0 0 := (old2 2 rfl).trans x2
  replace x3 : f5.eval (.tmp 3) = .pointer (some ⟨g3, 0, none⟩) := (old2 3 rfl).trans x3
  replace x4 : f5.eval (.tmp 4) = .pointer (some ⟨g, 0, none⟩) := (old2 4 rfl).trans x4
  have x5 : f5.eval (.tmp 5) = .pointer (some ⟨g, 0, none⟩) := new2
  replace sz := sz2.trans sz
  replace df := df2.trans df
  clear df2 sz2 old2 new2
  refine wh_take 2 6 (v := .pointer (some ⟨g, 0, none⟩)) rfl rfl (by rw [sz]; decide) rfl (by kernel_rfl) (by kernel_rfl) (by kernel_rfl) (fun _ _ _ h => h) (run_field rfl x5 (fun w => by kernel_rfl)) hS ?_
  intro f6 df2 sz2 old2 new2
  replace x0 : f6.eval (.tmp 0) = .pointer (some ⟨g, 0, none⟩) := (old2 0 rfl).trans x0
  replace x2 : f6.eval (.tmp 2) = .slice none 0 0 := (old2 2 rfl).trans x2
  replace x3 : f6.eval (.tmp 3) = .pointer (some ⟨g3, 0, none⟩) := (old2 3 rfl).trans x3
  replace x4 : f6.eval (.tmp 4) = .pointer (some ⟨g, 0, none⟩) := (old2 4 rfl).trans x4
  replace x5 : f6.eval (.tmp 5) = .pointer (some ⟨g, 0, none⟩) := (old2 5 rfl).trans x5
  have x6 : f6.eval (.tmp 6) = .pointer (some ⟨g, 0, none⟩) := new2
  replace sz := sz2.trans sz
  replace df := df2.trans df
  clear df2 sz2 old2 new2
  refine wh_take 3 7 (v := .int .i64 ((n : Nat) : Int)) rfl rfl (by rw [sz]; decide) rfl (by kernel_rfl) (by kernel_rfl) (by kernel_rfl) (fun _ _ _ h => h) (run_loadc rfl (fun w => by kernel_rfl) x6 (fun W hW => Ob.cell ((Ob.below m0 (blW.trans (Below.mono hW hw3)))) 0 rfl)) hS ?_
  intro f7 df2 sz2 old2 new2
  replace x0 : f7.eval (.tmp 0) = .pointer (some ⟨g, 0, none⟩) := (old2 0 rfl).trans x0
  replace x2 : f7.eval (.tmp 2) = .slice none 0 0 := (old2 2 rfl).trans x2
  replace x3 : f7.eval (.tmp 3) = .pointer (some ⟨g3, 0, none⟩) := (old2 3 rfl).trans x3
  replace x4 : f7.eval (.tmp 4) = .pointer (some ⟨g, 0, none⟩) := (old2 4 rfl).trans x4
  replace x5 : f7.eval (.tmp 5) = .pointer (some ⟨g, 0, none⟩) := (old2 5 rfl).trans x5
  replace x6 : f7.eval (.tmp 6) = .pointer (some ⟨g, 0, none⟩) := (old2 6 rfl).trans x6
  have x7 : f7.eval (.tmp 7) = .int .i64 ((n : Nat) : Int) := new2
  replace sz := sz2.trans sz
  replace df := df2.trans df
  clear df2 sz2 old2 new2
  refine wh_take 5 9 (v := .pointer (some ⟨g, 0, none⟩)) rfl rfl (by rw [sz]; decide) rfl (by kernel_rfl) (by kernel_rfl) (by kernel_rfl) (fun _ _ _ h => h) (run_mv rfl x0) hS ?_
  intro f8 df2 sz2 old2 new2
  replace x0 : f8.eval (.tmp 0) = .pointer (some ⟨g, 0, none⟩) := (old2 0 rfl).trans x0
  replace x2 : f8.eval (.tmp 2) = .slice none 0 0 := (old2 2 rfl).trans x2
  replace x3 : f8.eval (.tmp 3) = .pointer (some ⟨g3, 0, none⟩) := (old2 3 rfl).trans x3
  replace x4 : f8.eval (.tmp 4) = .pointer (some ⟨g, 0, none⟩) := (old2 4 rfl).trans x4
  replace x5 : f8.eval (.tmp 5) = .pointer (some ⟨g, 0, none⟩) := (old2 5 rfl).trans x5
  replace x6 : f8.eval (.tmp 6) = .pointer (some ⟨g, 0, none⟩) := (old2 6 rfl).trans x6
  replace x7 : f8.eval (.tmp 7) = .int .i64 ((n : Nat) : Int) := (old2 7 rfl).trans x7
  have x9 : f8.eval (.tmp 9) = .pointer (some ⟨g, 0, none⟩) := new2
  replace sz := sz2.trans sz
  replace df := df2.trans df
  clear df2 sz2 old2 new2
  refine wh_take 6 10 (v := .pointer (some ⟨g, 0, none⟩)) rfl rfl (by rw [sz]; decide) rfl (by kernel_rfl) (by kernel_rfl) (by kernel_rfl) (fun _ _ _ h => h) (run_nilc rfl x9) hS ?_
  intro f9 df2 sz2 old2 new2
  replace x0 : f9.eval (.tmp 0) = .pointer (some ⟨g, 0, none⟩) := (old2 0 rfl).trans x0
  replace x2 : f9.eval (.tmp 2) = .slice none 0 0 := (old2 2 rfl).trans x2
  replace x3 : f9.eval (.tmp 3) = .pointer (some ⟨g3, 0, none⟩) := (old2 3 rfl).trans x3
  replace x4 : f9.eval (.tmp 4) = .pointer (some ⟨g, 0, none⟩) := (old2 4 rfl).trans x4
  replace x5 : f9.eval (.tmp 5) = .pointer (some ⟨g, 0, none⟩) := (old2 5 rfl).trans x5
  replace x6 : f9.eval (.tmp 6) = .pointer (some ⟨g, 0, none⟩) := (old2 6 rfl).trans x6
  replace x7 : f9.eval (.tmp 7) = .int .i64 ((n : Nat) : Int) := (old2 7 rfl).trans x7
  replace x9 : f9.eval (.tmp 9) = .pointer (some ⟨g, 0, none⟩) := (old2 9 rfl).trans x9
  have x10 : f9.eval (.tmp 10) = .pointer (some ⟨g, 0, none⟩) := new2
  replace sz := sz2.trans sz
  replace df := df2.trans df
  clear df2 sz2 old2 new2
  refine wh_take 7 11 (v := .pointer (some ⟨g, 1, none⟩)) rfl rfl (by rw [sz]; decide) rfl (by kernel_rfl) (by kernel_rfl) (by kernel_rfl) (fun _ _ _ h => h) (run_field rfl x10 (fun w => by kernel_rfl)) hS ?_
  intro f10 df2 sz2 old2 new2
  replace x0 : f10.eval (.tmp 0) = .pointer (some ⟨g, 0, none⟩) := (old2 0 rfl).trans x0
  replace x2 : f10.eval (.tmp 2) = .slice none 0 0 := (old2 2 rfl).trans x2
  replace x3 : f10.eval (.tmp 3) = .pointer (some ⟨g3, 0, none⟩) := (old2 3 rfl).trans x3
  replace x4 : f10.eval (.tmp 4) = .pointer (some ⟨g, 0, none⟩) := (old2 4 rfl).trans x4
  replace x5 : f10.eval (.tmp 5) = .pointer (some ⟨g, 0, none⟩) := (old2 5 rfl).trans x5
  replace x6 : f10.eval (.tmp 6) = .pointer (some ⟨g, 0, none⟩) := (old2 6 rfl).trans x6
  replace x7 : f10.eval (.tmp 7) = .int .i64 ((n : Nat) : Int) := (old2 7 rfl).trans x7
  replace x9 : f10.eval (.tmp 9) = .pointer (some ⟨g, 0, none⟩) := (old2 9 rfl).trans x9
  replace x10 : f10.eval (.tmp 10) = .pointer (some ⟨g, 0, none⟩) := (old2 10 rfl).trans x10
  have x11 : f10.eval (.tmp 11) = .pointer (some ⟨g, 1, none⟩) := new2
  replace sz := sz2.trans sz
  replace df := df2.trans df
  clear df2 sz2 old2 new2
  refine wh_take 8 12 (v := .slice A (P).length C) rfl rfl (by rw [sz]; decide) rfl (by kernel_rfl) (by kernel_rfl) (by kernel_rfl) (fun _ _ _ h => h) (run_loadc rfl (fun w => by kernel_rfl) x11 (fun W hW => Ob.cell ((Ob.below m0 (blW.trans (Below.mono hW hw3)))) 1 rfl)) hS ?_
  intro f11 df2 sz2 old2 new2
  replace x0 : f11.eval (.tmp 0) = .pointer (some ⟨g, 0, none⟩) := (old2 0 rfl).trans x0
  replace x2 : f11.eval (.tmp 2) = .slice none 0 0 := (old2 2 rfl).trans x2
  replace x3 : f11.eval (.tmp 3) = .pointer (some ⟨g3, 0, none⟩) := (old2 3 rfl).trans x3
  replace x4 : f11.eval (.tmp 4) = .pointer (some ⟨g, 0, none⟩) := (old2 4 rfl).trans x4
  replace x5 : f11.eval (.tmp 5) = .pointer (some ⟨g, 0, none⟩) := (old2 5 rfl).trans x5
  replace x6 : f11.eval (.tmp 6) = .pointer (some ⟨g, 0, none⟩) := (old2 6 rfl).trans x6
  replace x7 : f11.eval (.tmp 7) = .int .i64 ((n : Nat) : Int) := (old2 7 rfl).trans x7
  replace x9 : f11.eval (.tmp 9) = .pointer (some ⟨g, 0, none⟩) := (old2 9 rfl).trans x9
  replace x10 : f11.eval (.tmp 10) = .pointer (some ⟨g, 0, none⟩) := (old2 10 rfl).trans x10
  replace x11 : f11.eval (.tmp 11) = .pointer (some ⟨g, 1, none⟩) := (old2 11 rfl).trans x11
  have x12 : f11.eval (.tmp 12) = .slice A (P).length C := new2
  replace sz := sz2.trans sz
  replace df := df2.trans df
  clear df2 sz2 old2 new2
  refine wh_call 4 8 rfl rfl (by rw [sz]; decide) rfl (by kernel_rfl) 28 (.func 28) _ _ #[.pointer (some ⟨g3, 0, none⟩), .int .i64 ((n : Nat) : Int)] rfl rfl (arg2 x3 x7) Tryd.enter28 (fun v W => v = .pointer (some ⟨g3, 0, none⟩) ∧ ∃ v', HasOut W g3 v' ([] ++ be8 n) ∧ Put g3 (.slice none 0 0) v' w2.drew W) (by refine (oint_any g3 n (.slice none 0 0) ([]) w2.drew hO (by simp)).mono ?_; rintro e w' ⟨rfl, h⟩; exact ⟨_, rfl, rfl, h⟩) ?_
  rintro f12 w12 df2 sz2 old2 ⟨new2, u8, hO8, hP8⟩
  replace hS : Below g3 w2 w12 := hS.trans (Put.below hP8 hO _ (Nat.le_refl _))
  refine ⟨hS, ?_⟩
  replace x0 : f12.eval (.tmp 0) = .pointer (some ⟨g, 0, none⟩) := (old2 0 rfl).trans x0
  replace x2 : f12.eval (.tmp 2) = .slice none 0 0 := (old2 2 rfl).trans x2
  replace x3 : f12.eval (.tmp 3) = .pointer (some ⟨g3, 0, none⟩) := (old2 3 rfl).trans x3
  replace x4 : f12.eval (.tmp 4) = .pointer (some ⟨g, 0, none⟩) := (old2 4 rfl).trans x4
  replace x5 : f12.eval (.tmp 5) = .pointer (some ⟨g, 0, none⟩) := (old2 5 rfl).trans x5
  replace x6 : f12.eval (.tmp 6) = .pointer (some ⟨g, 0, none⟩) := (old2 6 rfl).trans x6
  replace x7 : f12.eval (.tmp 7) = .int .i64 ((n : Nat) : Int) := (old2 7 rfl).trans x7
  replace x9 : f12.eval (.tmp 9) = .pointer (some ⟨g, 0, none⟩) := (old2 9 rfl).trans x9
  replace x10 : f12.eval (.tmp 10) = .pointer (some ⟨g, 0, none⟩) := (old2 10 rfl).trans x10
  replace x11 : f12.eval (.tmp 11) = .pointer (some ⟨g, 1, none⟩) := (old2 11 rfl).trans x11
  replace x12 : f12.eval (.tmp 12) = .slice A (P).length C := (old2 12 rfl).trans x12
  have x8 : f12.eval (.tmp 8) = .pointer (some ⟨g3, 0, none⟩) := new2
  replace sz := sz2.trans sz
  replace df := df2.trans df
  clear df2 sz2 old2
  clear new2
  refine wh_call 9 13 rfl rfl (by rw [sz]; decide) rfl (by kernel_rfl) 29 (.func 29) _ _ #[.pointer (some ⟨g3, 0, none⟩), .slice A (P).length C] rfl rfl (arg2 x8 x12) Tryd.enter29 (fun v W => v = .pointer (some ⟨g3, 0, none⟩) ∧ ∃ v', HasOut W g3 v' ([] ++ be8 n ++ beN P.length 4 ++ P.flatten) ∧ Put g3 u8 v' w12 W) (by refine (ohashes_any g3 _ _ P.length C A P.flatten u8 ([] ++ be8 n) w12 hO8 (Fl.below fP (blW.trans (Below.mono hS hw3)) (fun h => (fP.src h).2.1)) (fun h => Nat.lt_of_lt_of_le (fP.src h).2.1 hw3) (by omega) (by simp [be8_len])).mono ?_; rintro e w' ⟨rfl, h⟩; exact ⟨_, rfl, rfl, h⟩) ?_
  rintro f13 w13 df2 sz2 old2 ⟨new2, u13, hO13, hP13⟩
  replace hS : Below g3 w2 w13 := hS.trans (Put.below hP13 hO8 _ (Nat.le_refl _))
  refine ⟨hS, ?_⟩
  replace x0 : f13.eval (.tmp 0) = .pointer (some ⟨g, 0, none⟩) := (old2 0 rfl).trans x0
  replace x2 : f13.eval (.tmp 2) = .slice none 0 0 := (old2 2 rfl).trans x2
  replace x3 : f13.eval (.tmp 3) = .pointer (some ⟨g3, 0, none⟩) := (old2 3 rfl).trans x3
  replace x4 : f13.eval (.tmp 4) = .pointer (some ⟨g, 0, none⟩) := (old2 4 rfl).trans x4
  replace x5 : f13.eval (.tmp 5) = .pointer (some ⟨g, 0, none⟩) := (old2 5 rfl).trans x5
  replace x6 : f13.eval (.tmp 6) = .pointer (some ⟨g, 0, none⟩) := (old2 6 rfl).trans x6
  replace x7 : f13.eval (.tmp 7) = .int .i64 ((n : Nat) : Int) := (old2 7 rfl).trans x7
  replace x9 : f13.eval (.tmp 9) = .pointer (some ⟨g, 0, none⟩) := (old2 9 rfl).trans x9
  replace x10 : f13.eval (.tmp 10) = .pointer (some ⟨g, 0, none⟩) := (old2 10 rfl).trans x10
  replace x11 : f13.eval (.tmp 11) = .pointer (some ⟨g, 1, none⟩) := (old2 11 rfl).trans x11
  replace x12 : f13.eval (.tmp 12) = .slice A (P).length C := (old2 12 rfl).trans x12
  replace x8 : f13.eval (.tmp 8) = .pointer (some ⟨g3, 0, none⟩) := (old2 8 rfl).trans x8
  have x13 : f13.eval (.tmp 13) = .pointer (some ⟨g3, 0, none⟩) := new2
  replace sz := sz2.trans sz
  replace df := df2.trans df
  clear df2 sz2 old2
  clear new2
  refine wh_call 10 14 rfl rfl (by rw [sz]; decide) rfl (by kernel_rfl) 30 (.func 30) _ _ #[.pointer (some ⟨g3, 0, none⟩)] rfl rfl (one_arg x13) Tryd.enter30 (fun u W => (Fk.sl ([] ++ be8 n ++ beN P.length 4 ++ P.flatten)).f u W ∧ Below w13.heap.size w13 W) (by obtain ⟨gb, hrv⟩ := out_rv hO13; refine (all_any g3 u13 gb _ _ hO13.1 hrv (by simp only [List.length_append, be8_len, beN_len, fP.len, List.length_nil]; omega)).mono ?_; rintro e w' ⟨v, rfl, h1, h2⟩; exact ⟨_, rfl, own_sl h1, h2⟩) ?_
  rintro f14 w14 df2 sz2 old2 ⟨x14, hb14⟩
  replace hS : Below g3 w2 w14 := hS.trans (Below.mono hb14 (Nat.le_of_lt hO13.lt))
  refine ⟨hS, ?_⟩
  replace x0 : f14.eval (.tmp 0) = .pointer (some ⟨g, 0, none⟩) := (old2 0 rfl).trans x0
  replace x2 : f14.eval (.tmp 2) = .slice none 0 0 := (old2 2 rfl).trans x2
  replace x3 : f14.eval (.tmp 3) = .pointer (some ⟨g3, 0, none⟩) := (old2 3 rfl).trans x3
  replace x4 : f14.eval (.tmp 4) = .pointer (some ⟨g, 0, none⟩) := (old2 4 rfl).trans x4
  replace x5 : f14.eval (.tmp 5) = .pointer (some ⟨g, 0, none⟩) := (old2 5 rfl).trans x5
  replace x6 : f14.eval (.tmp 6) = .pointer (some ⟨g, 0, none⟩) := (old2 6 rfl).trans x6
  replace x7 : f14.eval (.tmp 7) = .int .i64 ((n : Nat) : Int) := (old2 7 rfl).trans x7
  replace x9 : f14.eval (.tmp 9) = .pointer (some ⟨g, 0, none⟩) := (old2 9 rfl).trans x9
  replace x10 : f14.eval (.tmp 10) = .pointer (some ⟨g, 0, none⟩) := (old2 10 rfl).trans x10
  replace x11 : f14.eval (.tmp 11) = .pointer (some ⟨g, 1, none⟩) := (old2 11 rfl).trans x11
  replace x12 : f14.eval (.tmp 12) = .slice A (P).length C := (old2 12 rfl).trans x12
  replace x8 : f14.eval (.tmp 8) = .pointer (some ⟨g3, 0, none⟩) := (old2 8 rfl).trans x8
  replace x13 : f14.eval (.tmp 13) = .pointer (some ⟨g3, 0, none⟩) := (old2 13 rfl).trans x13
  replace sz := sz2.trans sz
  replace df := df2.trans df
  clear df2 sz2 old2
  refine wh_assign 11 2 rfl rfl (by rw [sz]; decide) rfl (by kernel_rfl) (.tmp 14) rfl hS ?_
  intro f15 df2 sz2 old2 new2
  clear x2
  replace x0 : f15.eval (.tmp 0) = .pointer (some ⟨g, 0, none⟩) := (old2 0 rfl).trans x0
  replace x3 : f15.eval (.tmp 3) = .pointer (some ⟨g3, 0, none⟩) := (old2 3 rfl).trans x3
  replace x4 : f15.eval (.tmp 4) = .pointer (some ⟨g, 0, none⟩) := (old2 4 rfl).trans x4
  replace x5 : f15.eval (.tmp 5) = .pointer (some ⟨g, 0, none⟩) := (old2 5 rfl).trans x5
  replace x6 : f15.eval (.tmp 6) = .pointer (some ⟨g, 0, none⟩) := (old2 6 rfl).trans x6
  replace x7 : f15.eval (.tmp 7) = .int .i64 ((n : Nat) : Int) := (old2 7 rfl).trans x7
  replace x9 : f15.eval (.tmp 9) = .pointer (some ⟨g, 0, none⟩) := (old2 9 rfl).trans x9
  replace x10 : f15.eval (.tmp 10) = .pointer (some ⟨g, 0, none⟩) := (old2 10 rfl).trans x10
  replace x11 : f15.eval (.tmp 11) = .pointer (some ⟨g, 1, none⟩) := (old2 11 rfl).trans x11
  replace x12 : f15.eval (.tmp 12) = .slice A (P).length C := (old2 12 rfl).trans x12
  replace x8 : f15.eval (.tmp 8) = .pointer (some ⟨g3, 0, none⟩) := (old2 8 rfl).trans x8
  replace x13 : f15.eval (.tmp 13) = .pointer (some ⟨g3, 0, none⟩) := (old2 13 rfl).trans x13
  replace sz := sz2.trans sz
  replace df := df2.trans df
  clear df2 sz2 old2
  have x2 : (Fk.sl ([] ++ be8 n ++ beN P.length 4 ++ P.flatten)).f (f15.eval (.tmp 2)) w14 := by rw [new2]; exact x14
  clear x14 new2
  refine wpAnyH_done (by kernel_rfl) ?_ _
  replace bl : Below w.heap.size w w14 := blW.trans (Below.mono hS hw3)
  have bl0 := bl
  have hOO := hO13
  show Code.wp _ _ _ _ _
  refine wp_ret ?_
  repeat (first | with_reducible refine then_ret ?_ | with_reducible refine block_ret ?_)
  exact bodyPost_ret (v := f15.eval (.tmp 2)) (ret_slot rfl f15 _ rfl _ _) df ⟨_, rfl, by rw [show be8 n ++ hsb P = [] ++ be8 n ++ beN P.length 4 ++ P.flatten from by simp [hsb]]; exact x2, bl⟩
end Go.Proofs.YtnppjlpnfijobaaDoor
namespace Go.Proofs.YtnppjlpnfijobaaDoor
set_option maxRecDepth 100000
open Go.RowKit
/-- The block is a row of so many hashes. -/
def RowAt (w : World) (L n : Nat) : Prop := ∃ cs, Ob w L 33 cs ∧ cs.length = n * 32
theorem RowAt.only {w w' : World} {L n g : Nat} (h : RowAt w L n) (ho : Only g w w') (hL : L < w.heap.size) (hne : L ≠ g) : RowAt w' L n := by
  obtain ⟨cs, h1, h2⟩ := h
  refine ⟨cs, ?_, h2⟩
  unfold Ob at *
  rw [ho.block L hL hne]
  exact h1
theorem RowAt.below {w w' : World} {L n : Nat} (h : RowAt w L n) (hb : Below w.heap.size w w') : RowAt w' L n := by
  obtain ⟨cs, h1, h2⟩ := h
  exact ⟨cs, h1.below hb, h2⟩
theorem RowAt.cells {L n : Nat} : ∀ (vs : List Value) (o : Nat) {w : World}, RowAt w L n → RowAt (w.setCells L o vs) L n
  | [], _, _, h => h
  | v :: r, o, w, h => RowAt.cells r (o + 1) (by
    obtain ⟨cs, h1, h2⟩ := h
    exact ⟨_, Ob.set h1 o v, by rw [List.length_set]; exact h2⟩)
set_option maxHeartbeats 400000 in
theorem inHashes_sh (ib : Nat) (bs : List (BitVec 8)) (bad : Bool) (most : Int) (w : World) (h : HasI w ib bs bad) (hbs : bs.length ≤ 900000) :
    Calls Tryd.prog 37 #[.pointer (some ⟨ib, 0, none⟩), .int .i64 most] w fun e w' => ∃ L, e = .returned (.slice (some ⟨L, 0, none⟩) (hsN bs most) (hsN bs most)) ∧ w.heap.size ≤ L ∧ RowAt w' L (hsN bs most) ∧ L < w'.heap.size ∧ HasB w' L 0 ((hsD bs most).take (32 * hsN bs most)) ∧ HasI w' ib ((hsD bs most).drop (32 * hsN bs most)) (hsX bs bad most) ∧ Only ib w w' := by
  have hib := h.lt
  obtain ⟨gb, h', hgb⟩ := h.pick
  have hT := Box.mk (length_h ib gb bs bad most w h' (by omega))
  have hle := hs_le bs most
  have hDl := hsD_len bs most
  have hnil : w.heap.size + 9 ≤ gb → hsN bs most = 0 := by
    intro hg
    obtain ⟨v, _, hr, _⟩ := h'
    rcases hr with ⟨_, rfl⟩ | ⟨_, _, _, _, hlt, _⟩
    · simp at hDl
      rw [hDl] at hle
      simp at hle
      omega
    · omega
  clear h h'
  have hT2 : Box (Calls Tryd.prog 54 #[.pointer (some ⟨ib, 0, none⟩), .int .i64 most, .int .i64 32] w fun e w1 => e = .returned (.int .i64 (hsN bs most : Int)) ∧ Only ib w w1 ∧ ∃ w2, (Instr.makeSlice 22 (.int .i64 (hsN bs most : Int)) (.int .i64 (hsN bs most : Int))).run Tryd.prog w1 = .ok (.slice (some ⟨w1.heap.size, 0, none⟩) (hsN bs most) (hsN bs most)) w2 ∧ Box (w2.there w1.heap.size 0 (32 * hsN bs most)) ∧ Box (HasIn w2 ib (hsD bs most) (hsX bs bad most) gb) ∧ Box (Only ib w w2) ∧ Box (RowAt w2 w1.heap.size (hsN bs most)) ∧ w1.heap.size < w2.heap.size) := ⟨by
    refine hT.out.mono ?_
    rintro e w1 ⟨rfl, h1, h2⟩
    obtain ⟨cs, hcs, hmk⟩ := Tryd.makeH (hsN bs most) (by omega) w1
    refine ⟨rfl, h2, _, hmk, ⟨?_⟩, ⟨h1.below ((Below.refl _ _).alloc (Nat.le_refl _) _)⟩, ⟨h2.trans (Only.of_below ((Below.refl _ _).alloc (Nat.le_refl _) _))⟩, ⟨⟨cs.toList, by unfold Ob; exact heap_alloc_new _ _, by rw [Array.length_toList, hcs]⟩⟩, by simp⟩
    have := there_new w1 cs 33
    rw [hcs, Nat.mul_comm] at this
    exact this⟩
  clear hT
  generalize hsX bs bad most = X at hT2 ⊢
  generalize hsD bs most = D at hT2 hle hDl ⊢
  generalize hsN bs most = n at hT2 hle hnil ⊢
  have hn : n ≤ 100000 := by omega
  have hnil := Box.mk hnil
  have hDl := Nat.le_trans hDl hbs
  go_enter Tryd.func37, Tryd.ntmps37
  go_wp2_with (refine hT2.out.mono ?_; rintro e w1 ⟨rfl, h2, w2, hmk, t2, i2, o2, r2, s2⟩; have hz1 := h2.size; clear h2)
  clear hmk
  generalize w1.heap.size = L at *
  go_loopw [14] (fun i wr => ∃ k : Nat, k ≤ n ∧ i = .int .i64 k ∧ Box (HasB wr L 0 (D.take (32 * k))) ∧ Box (wr.there L 0 (32 * n)) ∧ Box (HasIn wr ib (D.drop (32 * k)) X gb) ∧ Box (Only ib w wr) ∧ Box (RowAt wr L n) ∧ L < wr.heap.size) (fun i _ => n - (intOf i).toNat)
  case atStart => exact ⟨0, by omega, rfl, ⟨fun i hi => by simp at hi⟩, t2, by simpa using i2, o2, r2, s2⟩
  case round =>
    clear t2 i2 o2 r2 s2
    obtain ⟨k, hk, rfl, hB, ht, hI, hO, hRA, hL⟩ := hrel
    by_cases hlt : k < n
    · have hgl : gb < w.heap.size := by
        rcases hgb with hgb | hgb
        · exact hgb
        · have := hnil.out hgb; omega
      have hwz := hO.out.size
      have hDk : (D.drop (32 * k)).length = D.length - 32 * k := List.length_drop
      have hH : hOf (D.drop (32 * k)) = (D.drop (32 * k)).take 32 := by unfold hOf; rw [if_pos (by omega)]
      have hd : dropB (D.drop (32 * k)) 32 = D.drop (32 * (k + 1)) := by unfold dropB; rw [if_pos (by omega), List.drop_drop, show 32 * k + 32 = 32 * (k + 1) by omega]
      have hx : badB (D.drop (32 * k)) X 32 = X := by unfold badB; rw [if_pos (by omega)]
      have hC : Box (Calls Tryd.prog 55 #[.pointer (some ⟨ib, 0, none⟩)] wr fun e w3 => e = .returned (.agg (((D.drop (32 * k)).take 32).map V).toArray) ∧ Box (HasIn w3 ib (D.drop (32 * (k + 1))) X gb) ∧ Box (Only ib wr w3)) := ⟨by
        refine (hash_at ib gb _ X wr hI.out (by omega) (by omega)).mono ?_
        rintro e w3 ⟨rfl, h1, h2⟩
        rw [hH]
        rw [hd, hx] at h1
        exact ⟨rfl, ⟨h1⟩, ⟨h2⟩⟩⟩
      clear hd hx hH hI
      have hl32 : Box (((D.drop (32 * k)).take 32).length = 32) := ⟨by simp; omega⟩
      obtain ⟨H, hH⟩ : ∃ H, Box ((D.drop (32 * k)).take 32 = H) := ⟨_, ⟨rfl⟩⟩
      rw [hH.out] at hC hl32
      have hsz : Box ((H.map V).toArray.size = 32) := ⟨by simp [hl32.out]⟩
      have hne : L ≠ ib := by omega
      go_wp2_with (first | (refine hC.out.mono ?_; rintro e w3 ⟨rfl, h1, h2⟩; have ht3 : Box (w3.there L 0 (32 * n)) := ⟨there_only ht.out h2.out hL hne⟩; have hm3 : Box (w3.there L (k * 32) (H.map V).toArray.size) := ⟨fun j hj => by have := ht3.out (k * 32 + j) (by rw [hsz.out] at hj; omega); rwa [Nat.zero_add] at this⟩) | (refine wpList_store_mid rfl 33 (.tmp 21) (.tmp 20) rfl L (k * 32) (H.map V).toArray rfl rfl hm3.out (by rw [hsz.out]; exact Tryd.size33) (V_all _) ?_))
      have k1 : Box (HasB (w3.setCells L (k * 32) (H.map V).toArray.toList) L 0 (D.take (32 * (k + 1)))) := ⟨by
        have := put_h (w := w3) (hB.out.only h2.out hL hne) ht3.out hlt hle hH.out.symm
        rw [Nat.mul_comm k 32]
        exact this⟩
      have k2 : Box ((w3.setCells L (k * 32) (H.map V).toArray.toList).there L 0 (32 * n)) := ⟨World.there_setCells ht3.out _ _ _⟩
      have k3 : Box (HasIn (w3.setCells L (k * 32) (H.map V).toArray.toList) ib (D.drop (32 * (k + 1))) X gb) := ⟨h1.out.setCells _ _ (by omega) (by omega)⟩
      have k4 : Box (Only ib w (w3.setCells L (k * 32) (H.map V).toArray.toList)) := ⟨by
        have o1 := hO.out.trans h2.out
        have o2 := Only.setCells (g := L) (a := w3) (H.map V).toArray.toList (k * 32) w3 (Only.refl _ _)
        have := h2.out.size
        exact ⟨o2.os.trans o1.os, o2.tape.trans o1.tape, o2.output.trans o1.output, Nat.le_trans o1.size o2.size, fun q hq hne2 => by rw [o2.block q (by omega) (by omega)]; exact o1.block q hq hne2⟩⟩
      have k6 : Box (RowAt (w3.setCells L (k * 32) (H.map V).toArray.toList) L n) := ⟨RowAt.cells _ _ (RowAt.only hRA.out h2.out hL hne)⟩
      have k5 : L < (w3.setCells L (k * 32) (H.map V).toArray.toList).heap.size := by
        have o2 := (Only.setCells (g := L) (a := w3) (H.map V).toArray.toList (k * 32) w3 (Only.refl _ _)).size
        have := h2.out.size
        omega
      clear h1 h2 ht3 hm3 ht hB hO hRA hC
      generalize w3.setCells L (k * 32) (H.map V).toArray.toList = w4 at *
      go_wp2
      go_roundw
      case rel => exact ⟨k + 1, by omega, by go_num, k1, k2, k3, k4, k6, k5⟩
      case measure => simp [intOf]; omega
    · have hkn : Box (k = n) := ⟨by omega⟩
      go_wp2
      go_ret
      rw [hkn.out] at hB hI
      exact ⟨L, rfl, hz1, hRA.out, hL, hB.out, ⟨gb, hI.out⟩, hO.out⟩
theorem in_hashes9 {ib : Nat} {bs : List (BitVec 8)} {bad : Bool} (most : Nat) (w : World) (h : HasI w ib bs bad) (hbs : bs.length ≤ 900000) {S : List (List (BitVec 8))} (eS : Box (chk (hsN bs most) (hsD bs most) = S)) :
    Calls Tryd.prog 37 #[.pointer (some ⟨ib, 0, none⟩), .int .i64 ((most : Nat) : Int)] w fun e w' => ∃ u, e = .returned u ∧ ∃ L, u = .slice (some ⟨L, 0, none⟩) S.length S.length ∧ w.heap.size ≤ L ∧ (Hl w' (some ⟨L, 0, none⟩) L 0 S ∧ RowAt w' L S.length) ∧ HasI w' ib ((hsD bs most).drop (32 * hsN bs most)) (hsX bs bad most) ∧ Only ib w w' := by
  refine (inHashes_sh ib bs bad most w h hbs).mono ?_
  rintro e w' ⟨L, rfl, h1, hr, h2, h3, h4, h5⟩
  have hl : hsN bs most = S.length := by rw [← eS.out, chk_len]
  refine ⟨_, rfl, L, by rw [hl], h1, ⟨?_, by rw [← hl]; exact hr⟩, h4, h5⟩
  rw [← eS.out]
  exact hl_chk h3 h2 (hs_le bs most)
/-- A row of hashes that is read as this list is an own slice of it. -/
theorem row_ow {w : World} {L : Nat} {S : List (List (BitVec 8))} (hr : RowAt w L S.length) (hh : Hl w (some ⟨L, 0, none⟩) L 0 S) (hm : S.length ≤ maxLen) : (Fk.ow L S).f (.slice (some ⟨L, 0, none⟩) S.length S.length) w := by
  obtain ⟨cs, h1, h2⟩ := hr
  have h32 : ∀ (i : Nat) (x : List (BitVec 8)), S[i]? = some x → x.length = 32 := fun i x hi => (hh.all i x hi).1
  have hfl := flat_len2 S h32
  refine ⟨⟨by rw [List.length_map, hfl, Nat.mul_comm], .inr ⟨L, S.length, cs.toArray, rfl, Nat.le_refl _, h1, Nat.le_refl _, hm, by simp [h2], ?_⟩⟩, h32⟩
  rw [← h2, show cs.toArray.toList = cs from rfl, List.take_of_length_le (Nat.le_refl _)]
  apply List.ext_getElem?
  intro j
  rw [List.getElem?_map]
  by_cases hj : j < S.length * 32
  · have hil : j / 32 < S.length := by omega
    have hxi : S[j / 32]? = some S[j / 32] := List.getElem?_eq_getElem hil
    have hlen := h32 _ _ hxi
    have hat := flat_at S h32 _ _ hxi (j % 32) (by omega)
    rw [show j / 32 * 32 + j % 32 = j by omega] at hat
    have hrj : j % 32 < (S[j / 32]).length := by rw [hlen]; omega
    have hc := (hh.all _ _ hxi).2 (j % 32) hrj
    rw [show 0 + j / 32 * 32 + j % 32 = j by omega, cell_of_row _ _ _ _ _ _ h1] at hc
    rw [hat, List.getElem?_eq_getElem hrj, Option.map_some]
    have : cs[j]? = some (.int .u8 (bv ((S[j / 32]).getD (j % 32) 0))) := by simpa using hc
    rw [this]
    simp [V, hrj]
  · rw [List.getElem?_eq_none (by omega), List.getElem?_eq_none (by omega)]
    rfl
end Go.Proofs.YtnppjlpnfijobaaDoor
