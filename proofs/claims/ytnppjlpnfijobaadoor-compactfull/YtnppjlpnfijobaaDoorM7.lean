/- A range over a function that has memory of its own, which it writes between two rounds: the caller's law. Regions in which a yield is called; regions of steps alone, in a round. compact.fromEnd: what it gives. What is told in a round: variables that lie below, the loop's record turned, the frame of a round. compact.joined. One leaf more. -/
import Derived.Test.YtnppjlpnfijobaaDoorM3
import Derived.RangeFuncNested
import Derived.Test.YtnppjlpnfijobaaDoorM6
namespace Go.Proofs.YtnppjlpnfijobaaDoor
set_option maxRecDepth 100000
open Go.RowKit
/-- What lies at B or behind it lies as it lay. -/
def Kept (B : Nat) (W W' : World) : Prop := W.heap.size ≤ W'.heap.size ∧ ∀ k, B ≤ k → k < W.heap.size → W'.heap[k]? = W.heap[k]?
theorem Kept.refl (B : Nat) (W : World) : Kept B W W := ⟨Nat.le_refl _, fun _ _ _ => rfl⟩
theorem Kept.trans {B : Nat} {X Y Z : World} (h : Kept B X Y) (k : Kept B Y Z) : Kept B X Z := ⟨Nat.le_trans h.1 k.1, fun i hB hi => (k.2 i hB (Nat.lt_of_lt_of_le hi h.1)).trans (h.2 i hB hi)⟩
theorem Kept.mono {B C : Nat} {X Y : World} (h : Kept B X Y) (hc : B ≤ C) : Kept C X Y := ⟨h.1, fun i hB hi => h.2 i (Nat.le_trans hc hB) hi⟩
theorem Kept.at {B : Nat} {X Y : World} (h : Kept B X Y) {k : Nat} {o : Obj} (hB : B ≤ k) (hk : X.heap[k]? = some o) : Y.heap[k]? = some o := (h.2 k hB (Array.getElem?_eq_some_iff.1 hk).1).trans hk
theorem Kept.of_below {B : Nat} {X Y : World} (h : Below X.heap.size X Y) : Kept B X Y := ⟨h.size, fun i _ hi => h.block i hi⟩
theorem Kept.of_only {B g : Nat} {X Y : World} (h : Only g X Y) (hg : g < B) : Kept B X Y := ⟨h.size, fun i hB hi => h.block i hi (by omega)⟩
theorem kept_put {B l : Nat} {X : World} (o : Obj) (hl : l < B) : Kept B X (X.putObj l o) := ⟨by simp, fun i hB _ => World.putObj_heap_other (by omega)⟩
theorem below_put {B l : Nat} {X : World} (o : Obj) (hB : B ≤ l) (hl : l < X.heap.size) : Below B X (X.putObj l o) := by
  have hg := grownBy_putObj' X l o
  exact (Below.refl B X).grown hg (by omega) (fun k e => by cases e; exact hB)
/-- The iterator's word: round k, for k below N, gets enc k; between two rounds it turns what it has laid itself alone; what it reads besides (R) the rounds keep. -/
def Gives (m gf : Nat) (lb : Array Value) (enc : Nat → Array Value) (N : Nat) (R : World → Prop) (w : World) : Prop :=
  ∀ (l : Nat) (J Jx : Nat → World → Prop) (W : World), Below w.heap.size w W → (∀ k A B, J k A → Below W.heap.size A B → J k B) → (∀ k A, J k A → R A) →
    (∀ k W1, k < N → J k W1 → YieldAt Fence.wide (m - 1) Tryd.prog l (enc k) W1 fun e W' => (e = .returned (.bool true) ∧ J (k + 1) W' ∧ Kept W.heap.size W1 W') ∨ (e = .returned (.bool false) ∧ Jx k W')) →
    J 0 W → CallsIn Fence.wide m Tryd.prog gf (#[.func (.yield l) #[] #[]] ++ lb) W fun e W' => (∃ v, e = .returned v) ∧ (J N W' ∨ ∃ k, k < N ∧ Jx k W')
/-- How a round's body may be left. -/
def rpost (B : Nat) (I : Nat → World → Prop) (Ix : Code → Nat → World → Prop) (k : Nat) (V : World) : Exit → Act → World → Prop
  | .normal, _, W => Kept B V W ∧ I (k + 1) W
  | .ret, _, W => Kept B V W ∧ Ix .ret k W
  | .exit id, _, W => Kept B V W ∧ Ix (.exit id) k W
  | _, _, _ => False
theorem range_gives {n : Nat} {g : Operand} {ps : Array Tmp} {assign body : Code} {Q : Exit → Act → World → Prop} {a : Act} {w : World} (h1 : 1 ≤ n) {gf : Nat} {lb : Array Value} (hg : a.eval g = .func (.func gf) #[] lb) (eg : ∀ args w, (callFunc gf args).run Tryd.prog w = .ok (.enter gf args) w)
    {enc : Nat → Array Value} {N : Nat} {R : World → Prop} (hseq : Gives (n - 1) gf lb enc N R w) (hps : ∀ k, (enc k).size = ps.size)
    (I : Nat → World → Prop) (Ix : Code → Nat → World → Prop) (hI : ∀ k A B, I k A → Below w.heap.size A B → I k B) (hIx : ∀ c k A B, Ix c k A → Below w.heap.size A B → Ix c k B) (hIR : ∀ k A, I k A → R A) (h0 : I 0 w)
    (hround : ∀ (k : Nat) (W : World), k < N → I k W → (∃ r, W.heap[w.heap.size + 1]? = some (.loop r)) →
      assign.wpIn (Fence.wide.inRound (w.heap.size + 1)) (n - 1 - 1) Tryd.prog (Exit.then (fun a₁ w₁ => Kept w.heap.size W w₁ ∧ ∀ o, body.wpIn (Fence.wide.inRound (w.heap.size + 1)) (n - 1 - 1) Tryd.prog (rpost w.heap.size I Ix k (w₁.putObj (w.heap.size + 1) o)) a₁ (w₁.putObj (w.heap.size + 1) o)) (fun _ _ _ => False))
        { tmps := (ps.zip (enc k)).foldl (fun t (p, v) => t.setIfInBounds p v) a.tmps, defers := [] } W)
    (hdone : ∀ W, I N W → W.heap[w.heap.size]? = some (.deferred (some [])) → Q .normal { a with defers := { target := .collected w.heap.size, args := #[] } :: a.defers } W)
    (hstop : ∀ c k W, k < N → Ix c k W → W.heap[w.heap.size]? = some (.deferred (some [])) → c.wpIn Fence.wide n Tryd.prog Q { a with defers := { target := .collected w.heap.size, args := #[] } :: a.defers } W) :
    (Code.rangeFunc g ps assign body).wpIn Fence.wide n Tryd.prog Q a w := by
  apply wpIn_rangeFunc
  intro fn hfn
  obtain ⟨L, hL⟩ : ∃ L, w.heap.size + 1 = L := ⟨_, rfl⟩
  obtain ⟨r0, hr0⟩ : ∃ r : Loop, r = { state := .ready, pending := none, fn, tmps := a.tmps, params := ps, assign, body, defers := w.heap.size } := ⟨_, rfl⟩
  have hst : r0.state = .ready := by rw [hr0]
  have hpd : r0.pending = none := by rw [hr0]
  obtain ⟨W0, hW0⟩ : ∃ W0, (w.alloc (.deferred (some []))).alloc (.loop r0) = W0 := ⟨_, rfl⟩
  have z0 : W0.heap.size = w.heap.size + 2 := by rw [← hW0]; simp
  have b0 : Below w.heap.size w W0 := by rw [← hW0]; exact ((Below.refl _ w).alloc (Nat.le_refl _) _).alloc (by simp) _
  have l0 : W0.heap[L]? = some (.loop r0) := by
    have := World.alloc_heap_new (w.alloc (.deferred (some []))) (.loop r0)
    rw [World.size_alloc, hW0, hL] at this
    exact this
  have d0 : W0.heap[w.heap.size]? = some (.deferred (some [])) := by
    rw [← hW0]
    exact (Below.heap_alloc _ _ _ (by simp)).trans (World.alloc_heap_new w _)
  refine ⟨L, [{ target := .collected w.heap.size, args := #[] }], W0, { target := .fn (.func gf) lb, args := #[.func (.yield L) #[] #[]] }, W0, gf, #[.func (.yield L) #[] #[]] ++ lb, W0, ?_, ?_, fun _ _ => trivial, ?_, fun _ => h1, ?_⟩
  · have := run_enterLoop_outer (P := Tryd.prog) (w := w) fn a.tmps ps assign body
    rw [← hr0, hW0, hL] at this
    exact this
  · simp only [resolve, hg]
    simp [go_sem]
  · simp [invoke, go_sem, eg]
  have book : ∀ {A B : World}, Below W0.heap.size A B → ∀ {o o' : Obj}, A.heap[L]? = some o → A.heap[w.heap.size]? = some o' → B.heap[L]? = some o ∧ B.heap[w.heap.size]? = some o' := by
    intro A B hb o o' ho ho'
    exact ⟨(hb.block L (by omega)).trans ho, (hb.block _ (by omega)).trans ho'⟩
  refine CallsIn.mono (hseq L (fun k W => I k W ∧ W.heap[L]? = some (.loop r0) ∧ W.heap[w.heap.size]? = some (.deferred (some []))) (fun k W => ∃ c, Ix c k W ∧ W.heap[L]? = some (.loop { r0 with state := .done, pending := some c }) ∧ W.heap[w.heap.size]? = some (.deferred (some []))) W0 b0 ?_ (fun k A h => hIR k A h.1) ?_ ⟨hI _ _ _ h0 b0, l0, d0⟩) ?_
  · rintro k A B ⟨h1, h2, h3⟩ hb
    obtain ⟨h4, h5⟩ := book hb h2 h3
    exact ⟨hI _ _ _ h1 (Below.mono hb (by omega)), h4, h5⟩
  · rintro k W1 hk ⟨hi, hl, hd⟩
    have hlt : L < W1.heap.size := (Array.getElem?_eq_some_iff.1 hl).1
    have hy := run_yield (P := Tryd.prog) (args := enc k) hl (by rw [hr0]; exact hps k)
    rw [hr0] at hy
    refine ⟨fn, _, assign, body, hy, roundIn_of_wpIn hfn ?_⟩
    have hw := hround k W1 hk hi ⟨r0, by rw [hL]; exact hl⟩
    rw [hL] at hw
    refine wpIn_mono hw ?_
    intro e a1 w1 hp
    cases e with
    | normal =>
      obtain ⟨hkp, hbody⟩ := hp
      have hl1 := hkp.at (by omega) hl
      have hd1 := hkp.at (Nat.le_refl _) hd
      refine ⟨_, run_beginRound hl1 hst, wpIn_mono (hbody _) ?_⟩
      have hlt1 : L < w1.heap.size := (Array.getElem?_eq_some_iff.1 hl1).1
      generalize hV : w1.putObj L (.loop { r0 with state := .busy }) = V
      have hlV : V.heap[L]? = some (.loop { r0 with state := .busy }) := by rw [← hV]; exact World.putObj_heap_same hlt1
      have hdV : V.heap[w.heap.size]? = some (.deferred (some [])) := by rw [← hV]; exact (World.putObj_heap_other (by omega)).trans hd1
      have hKV : Kept W0.heap.size W1 V := by rw [← hV]; exact (hkp.mono (by omega)).trans (kept_put _ (by omega))
      have last : ∀ (j : Option Code) (W3 : World), Kept w.heap.size V W3 → (Instr.endRound L j).run Tryd.prog W3 = .ok (.bool j.isNone) (W3.putObj L (.loop { r0 with state := if j.isNone then .ready else .done, pending := j })) ∧ L < W3.heap.size ∧ (W3.putObj L (.loop { r0 with state := if j.isNone then .ready else .done, pending := j })).heap[L]? = some (.loop { r0 with state := if j.isNone then .ready else .done, pending := j }) ∧ (W3.putObj L (.loop { r0 with state := if j.isNone then .ready else .done, pending := j })).heap[w.heap.size]? = some (.deferred (some [])) := by
        intro j W3 hk3
        have hl3 := hk3.at (by omega) hlV
        have hlt3 := (Array.getElem?_eq_some_iff.1 hl3).1
        have hrun := run_endRound (P := Tryd.prog) j hl3
        exact ⟨hrun, hlt3, World.putObj_heap_same hlt3, (World.putObj_heap_other (by omega)).trans (hk3.at (Nat.le_refl _) hdV)⟩
      intro e a3 W3 hq
      cases e with
      | normal =>
        obtain ⟨hk3, hi3⟩ := hq
        obtain ⟨hr, hlt3, hl4, hd4⟩ := last none W3 hk3
        refine ⟨_, _, hr, .inl ⟨rfl, ⟨hI _ _ _ hi3 (below_put _ (by omega) hlt3), ?_, hd4⟩, hKV.trans ((hk3.mono (by omega)).trans (kept_put _ (by omega)))⟩⟩
        rw [hl4]
        simp only [Option.isNone_none, if_true]
        rw [show ({ r0 with state := .ready, pending := none } : Loop) = r0 by rw [hr0]]
      | ret =>
        obtain ⟨hk3, hi3⟩ := hq
        obtain ⟨hr, hlt3, hl4, hd4⟩ := last (some .ret) W3 hk3
        exact ⟨_, _, hr, .inr ⟨rfl, .ret, hIx _ _ _ _ hi3 (below_put _ (by omega) hlt3), hl4, hd4⟩⟩
      | exit id =>
        obtain ⟨hk3, hi3⟩ := hq
        obtain ⟨hr, hlt3, hl4, hd4⟩ := last (some (.exit id)) W3 hk3
        exact ⟨_, _, hr, .inr ⟨rfl, .exit id, hIx _ _ _ _ hi3 (below_put _ (by omega) hlt3), hl4, hd4⟩⟩
      | goto t => exact hq.elim
      | panic ch => exact hq.elim
      | outgrown => exact hq.elim
    | _ => exact hp.elim
  · rintro e W2 ⟨⟨v, rfl⟩, ⟨hi, hl, hd⟩ | ⟨k, hk, c, hi, hl, hd⟩⟩
    · have hlt : L < W2.heap.size := (Array.getElem?_eq_some_iff.1 hl).1
      refine ⟨none, _, (run_endLoop (P := Tryd.prog) hl (by rw [hst]; simp)).trans (by rw [hpd]), hdone _ (hI _ _ _ hi (below_put _ (by omega) hlt)) ((World.putObj_heap_other (by omega)).trans hd)⟩
    · have hlt : L < W2.heap.size := (Array.getElem?_eq_some_iff.1 hl).1
      exact ⟨some c, _, run_endLoop (P := Tryd.prog) hl (by simp), hstop c k _ hk (hIx _ _ _ _ hi (below_put _ (by omega) hlt)) ((World.putObj_heap_other (by omega)).trans hd)⟩
end Go.Proofs.YtnppjlpnfijobaaDoor
namespace Go.Proofs.YtnppjlpnfijobaaDoor
set_option maxRecDepth 100000
open Go.RowKit
section
variable {P : Program} {Q : Exit → Act → World → Prop} {m : Nat} {ops : Array Oper} {rest : List Oper} {o : Oper} {a : Act} {w : World}
theorem wide_oper {K : Act → World → Prop} (h : o.wp P a w K Q) : o.wpIn Fence.wide m P a w K Q := by
  refine ⟨fun _ _ => trivial, ?_⟩
  rw [show Fence.wide.round = none from rfl, Oper.semAt_none]
  unfold Oper.wp at h
  generalize (execOp a.eval o).run P w = r at *
  cases r with
  | ok x w' =>
    cases x <;> simp only [Oper.upon, Oper.uponIn] at h ⊢ <;>
      first
        | exact h
        | exact h.elim
        | exact ⟨fun h => (by cases h), callsIn_wide.2 (Calls.mono h (fun e w'' he => by cases e <;> exact he))⟩
        | exact ⟨fun h => (by cases h), fun c cs _ => by obtain ⟨v, w', hr, hs⟩ := h c cs; exact ⟨v, w', hr, stepsIn_wide.2 hs⟩⟩
  | halt x w' => cases x <;> simp only [Oper.upon, Oper.uponIn] at h ⊢ <;> exact h
theorem wp_region_li (m : Nat) {id : Nat} (h : wpListIn Fence.wide m P ops Q ops.toList a w) : (Code.region id ops false).wp P Q a w := wpIn_wide.1 (wpIn_region_list h)
theorem wli_nil (h : Q .normal a w) : wpListIn Fence.wide m P ops Q [] a w := h
theorem wli_one (q : Fk) (hgd : o.guard = none) (d : Nat) (hd : o.dst = some d) (hsz : d < a.tmps.size) (hs : o.wp P a w (Ends a o.dst w q.f) Q)
    (h : ∀ a2 w2, a2.defers = a.defers → a2.tmps.size = a.tmps.size → (∀ t, (t == d) = false → a2.eval (.tmp t) = a.eval (.tmp t)) → q.f (a2.eval (.tmp d)) w2 → Below w.heap.size w w2 → wpListIn Fence.wide m P ops Q rest a2 w2) : wpListIn Fence.wide m P ops Q (o :: rest) a w := by
  unfold wpListIn
  rw [if_pos (by unfold Region.wanted; rw [hgd])]
  refine wide_oper (Oper.wp_mono ?_ hs)
  rintro a' w' ⟨v, rfl, hb, hf⟩
  rw [hd]
  refine h _ _ (put_def _ _ _) (put_size _ _ _) (fun t ht => put_eval_other _ _ _ _ (fun e => by subst e; simp at ht)) ?_ hb
  rw [put_eval_same _ _ _ hsz]
  exact hf
theorem wli_not {o : Oper} {rest : List Oper} (hgd : o.guard = none) (x : Operand) (ho : o.op = .unOp .not 4 x) (d : Nat) (hd : o.dst = some d) (hsz : d < a.tmps.size) (s : Bool) (hx : a.eval x = .bool s)
    (h : ∀ a2, a2.defers = a.defers → a2.tmps.size = a.tmps.size → (∀ t, (t == d) = false → a2.eval (.tmp t) = a.eval (.tmp t)) → a2.eval (.tmp d) = .bool !s → wpListIn Fence.wide m P ops Q rest a2 w) : wpListIn Fence.wide m P ops Q (o :: rest) a w := by
  unfold wpListIn
  rw [if_pos (by unfold Region.wanted; rw [hgd])]
  refine wide_oper ?_
  have hr : (execOp a.eval o).run P w = .ok (.value (.bool !s)) w := by
    unfold execOp
    rw [ho]
    simp [hx, Op.unary]
  unfold Oper.wp
  rw [hr]
  show wpListIn _ _ _ _ _ _ _ _
  rw [hd]
  refine h _ (put_def _ _ _) (put_size _ _ _) (fun t ht => put_eval_other _ _ _ _ (fun e => by subst e; simp at ht)) ?_
  rw [put_eval_same _ _ _ hsz]
theorem then_exit {K : Act → World → Prop} {id : Nat} (h : Q (.exit id) a w) : Exit.then K Q (.exit id) a w := h
theorem block_exit {id : Nat} (h : Q .normal a w) : Exit.inBlock id Q (.exit id) a w := by
  show (if id = id then Q .normal a w else Q (.exit id) a w)
  rw [if_pos rfl]
  exact h
/-- A yield. -/
theorem wli_yield (x : Operand) (xs : Array Operand) (ts : Array TypeId) (vs : Array Value) (hgd : o.guard = none) (d : Nat) (hd : o.dst = some d) (hsz : d < a.tmps.size) (ho : o.op = .call { callee := .value x, args := xs, argTypes := ts }) (l : Nat) (hx : a.eval x = .func (.yield l) #[] #[]) (hv : (xs.toList.map a.eval).toArray = vs)
    {k : Nat} {X Y : World → Prop} (hy : YieldAt Fence.wide k P l vs w fun e W' => (e = .returned (.bool true) ∧ X W') ∨ (e = .returned (.bool false) ∧ Y W'))
    (ht : ∀ a2 w2, a2.defers = a.defers → a2.tmps.size = a.tmps.size → (∀ t, (t == d) = false → a2.eval (.tmp t) = a.eval (.tmp t)) → a2.eval (.tmp d) = .bool true → X w2 → wpListIn Fence.wide m P ops Q rest a2 w2)
    (hf : ∀ a2 w2, a2.defers = a.defers → a2.tmps.size = a.tmps.size → (∀ t, (t == d) = false → a2.eval (.tmp t) = a.eval (.tmp t)) → a2.eval (.tmp d) = .bool false → Y w2 → wpListIn Fence.wide m P ops Q rest a2 w2) : wpListIn Fence.wide m P ops Q (o :: rest) a w := by
  obtain ⟨fn, tmps, assign, body, hrun, hR⟩ := hy
  have hv' : xs.map a.eval = vs := by rw [← hv]; apply Array.toList_inj.1; simp
  have hr : (execOp a.eval o).run P w = .ok (.round l fn tmps assign body) w := by
    unfold execOp; rw [ho]
    simp [resolve, hx, Deferred.ofValue, invoke, hv', hrun]
  unfold wpListIn
  rw [if_pos (by unfold Region.wanted; rw [hgd])]
  refine ⟨fun _ _ => trivial, ?_⟩
  rw [show Fence.wide.round = none from rfl, Oper.semAt_none, hr]
  refine ⟨fun h => (by cases h), RoundIn.mono ⟨trivial, fun c cs _ => hR.2 c cs (room_wide _)⟩ ?_⟩
  rintro e w' (⟨rfl, hX⟩ | ⟨rfl, hY⟩)
  · rw [hd]
    refine ht _ _ (put_def _ _ _) (put_size _ _ _) (fun t ht => put_eval_other _ _ _ _ (fun e => by subst e; simp at ht)) ?_ hX
    rw [put_eval_same _ _ _ hsz]
  · rw [hd]
    refine hf _ _ (put_def _ _ _) (put_size _ _ _) (fun t ht => put_eval_other _ _ _ _ (fun e => by subst e; simp at ht)) ?_ hY
    rw [put_eval_same _ _ _ hsz]
end
section
variable {P : Program} {Q : Exit → Act → World → Prop} {l n : Nat} {ops : Array Oper}
end
end Go.Proofs.YtnppjlpnfijobaaDoor
namespace Go.Proofs.YtnppjlpnfijobaaDoor
set_option maxRecDepth 100000
open Go.RowKit
/-- A function that has caught one variable, which lies in new memory. -/
def Fk.cl (g0 gf T : Nat) (u : Value) : Fk := .inr (.inl ⟨fun v w => ∃ g, g0 ≤ g ∧ v = .func (.func gf) #[] #[.pointer (some ⟨g, 0, none⟩)] ∧ Ob w g T [u], by
  rintro v w w' ⟨g, h, e, ho⟩ hb
  exact ⟨g, h, e, ho.below hb⟩⟩)
theorem backward_any (A : Option Addr) (n C : Nat) (w : World) (g0 : Nat) (hg : g0 ≤ w.heap.size) : Calls Tryd.prog 46 #[.slice A n C] w fun e w' => ∃ u, e = .returned u ∧ (Fk.cl g0 63 22 (.slice A n C)).f u w' ∧ Below w.heap.size w w' := by
  have : Calls Tryd.prog 46 #[.slice A n C] w fun e w' => e = .returned (.func (.func 63) #[] #[.pointer (some ⟨w.heap.size, 0, none⟩)]) ∧ w' = w.alloc (.cells #[.slice A n C] 22) := by
    go_enter Tryd.func46, Tryd.ntmps46
    go_wp2
    go_ret
    exact ⟨rfl, rfl⟩
  refine this.mono ?_
  rintro e w' ⟨rfl, rfl⟩
  exact ⟨_, rfl, ⟨_, hg, rfl, heap_alloc_new _ _⟩, (Below.refl _ _).alloc (Nat.le_refl _) _⟩
/-- What round k gets, from the last one back. -/
def encB (P : List (List (BitVec 8))) (k : Nat) : Array Value := #[.agg ((P.getD (P.length - 1 - k) []).map V).toArray]
/-- What it reads. -/
def RB (gb : Nat) (v : Value) (P : List (List (BitVec 8))) (A : World) : Prop := Ob A gb 22 [v] ∧ (Fk.hs P).f v A
theorem back_gives {P : List (List (BitVec 8))} (hPl : P.length ≤ 1000) (gb : Nat) (v : Value) (w0 : World) : Gives 6 63 #[.pointer (some ⟨gb, 0, none⟩)] (encB P) P.length (RB gb v P) w0 := by
  intro l J Jx w hW hJ hR hY h0
  refine callsIn_wide.2 ?_
  show Calls Tryd.prog 63 #[.func (.yield l) #[] #[], .pointer (some ⟨gb, 0, none⟩)] w _
  have hJk := h0
  have hzz := Nat.le_refl w.heap.size
  obtain ⟨hob, hvP⟩ := hR _ _ h0
  go_enter Tryd.func63, Tryd.ntmps63
  refine code_both (fun f w1 => f.tmps.size = 18 ∧ f.defers = [] ∧ f.eval (.tmp 0) = .func (.yield l) #[] #[] ∧ f.eval (.tmp 1) = .pointer (some ⟨gb, 0, none⟩) ∧ Ob w1 (gb) 22 ([v]) ∧ Fk.f (.hs (P)) (v) w1 ∧ J 0 w1 ∧ w.heap.size ≤ w1.heap.size ∧ True) ⟨rfl, rfl, rfl, rfl, hob, hvP, hJk, hzz, trivial⟩ ?_
  clear hob hvP hJk hzz
  rintro f0 w0 ⟨sz, df, x0, x1, hob, hvP, hJk, hzz, bl⟩
  have bl0 := bl
  refine wp_seq ?_
  refine wp_all_seq [.eq (v), .eq (.int .i64 (((P).length : Nat) : Int)), .eq (.int .i64 ((P.length : Int) - 1)), .eq (.int .i64 ((P.length : Int) - 1))] (by kernel_rfl) (by kernel_rfl) (by rw [sz]; kernel_rfl) (by kernel_rfl) ⟨fun hw ac u K => ?_, fun hw ac u K => ?_, fun hw ac u K => ?_, fun hw ac u K => ?_, trivial⟩ ?_
  · exact st_loadc 22 (.tmp 1) rfl (by kernel_rfl) ((K.old 1 rfl).trans x1) (Ob.cell (Ob.below hob K.grow) 0 rfl)
  · exact st_lenh (.tmp 4) rfl (fk_val (K.dep 0 4 rfl) (Fk.mono _ _ _ _ hvP K.grow))
  · exact st_subz (.tmp 5) (.const (.int .i64 1)) rfl _ 1 _ (K.dep 1 5 rfl) rfl rfl (by omega) (by omega)
  · exact st_assign (.tmp 6) rfl (K.dep 2 6 rfl)
  intro f1 w1 A hb
  replace bl0 := bl
  replace x0 := (A.old 0 rfl).trans x0
  replace x1 := (A.old 1 rfl).trans x1
  have x3 : f1.eval (.tmp 3) = .int .i64 ((P.length : Int) - 1) := A.has 3 3 rfl
  have lt_hob := Ob.lt hob
  replace hob := Ob.below hob hb
  replace hvP := Fk.mono _ _ _ _ hvP hb
  replace hJk := hJ _ _ _ hJk (Below.mono hb hzz)
  replace hzz := Nat.le_trans hzz hb.size
  replace bl := trivial
  replace sz := A.size.trans sz
  replace df := A.defs.trans df
  clear A hb
  show Code.wp _ _ _ _ _
  refine wp_block ?_
  refine wp_loop (fun f v1 => ∃ k : Nat, k ≤ (P).length ∧ f.tmps.size = 18 ∧ f.defers = [] ∧ f.eval (.tmp 0) = .func (.yield l) #[] #[] ∧ f.eval (.tmp 1) = .pointer (some ⟨gb, 0, none⟩) ∧ f.eval (.tmp 3) = .int .i64 ((P.length : Int) - 1 - ((k : Nat) : Int)) ∧ Ob v1 (gb) 22 ([v]) ∧ Fk.f (.hs (P)) (v) v1 ∧ J k v1 ∧ w.heap.size ≤ v1.heap.size ∧ True) (fun f _ => ((intOf (f.eval (.tmp 3))) + 1).toNat) ⟨0, Nat.zero_le _, sz, df, x0, x1, (by rw [show _ = _ from x3]; simp), hob, hvP, hJk, hzz, bl⟩ ?_
  intro f2 w2 hI
  clear sz df bl bl0 x0 x1 x3 hob hvP hJk hzz
  obtain ⟨k, hk, sz, df, x0, x1, x3, hob, hvP, hJk, hzz, bl⟩ := hI
  have bl0 := bl
  refine wp_seq ?_
  refine wp_seq ?_
  have hcnt := x3
  by_cases hlt : k < (P).length
  rotate_left
  · skip
    refine wp_all_seq [.eq (.int .i64 ((P.length : Int) - 1 - ((k : Nat) : Int))), .eq (.bool false)] (by kernel_rfl) (by kernel_rfl) (by rw [sz]; kernel_rfl) (by kernel_rfl) ⟨fun hw ac u K => ?_, fun hw ac u K => ?_, trivial⟩ ?_
    · exact st_move (.tmp 3) rfl ((K.old 3 rfl).trans x3)
    · exact st_geq 3 (.tmp 7) (.const (.int .i64 0)) rfl .i64 (((P.length : Int) - 1 - ((k : Nat) : Int))) (0) (K.dep 0 7 rfl) rfl _ (by rw [eq_comm, decide_eq_false_iff_not]; omega)
    intro f3 w3 A hb
    replace bl0 := bl
    replace x0 := (A.old 0 rfl).trans x0
    replace x1 := (A.old 1 rfl).trans x1
    replace x3 := (A.old 3 rfl).trans x3
    have x8 : f3.eval (.tmp 8) = .bool false := A.has 1 8 rfl
    have lt_hob := Ob.lt hob
    replace hob := Ob.below hob hb
    replace hvP := Fk.mono _ _ _ _ hvP hb
    replace hJk := hJ _ _ _ hJk (Below.mono hb hzz)
    replace hzz := Nat.le_trans hzz hb.size
    replace bl := trivial
    replace sz := A.size.trans sz
    replace df := A.defs.trans df
    clear A hb
    show Code.wp _ _ _ _ _
    refine wp_cond_false x8 ?_
    refine wp_exit ?_
    repeat (first | with_reducible refine then_exit ?_ | with_reducible refine block_exit ?_)
    show bodyPost _ _ _ _ _ _
    obtain rfl : k = (P).length := by omega
    exact bodyPost_end (results_none rfl _ _ _) df ⟨⟨_, rfl⟩, .inl hJk⟩
  obtain ⟨q, hq⟩ : ∃ q, P.length - 1 - k = q := ⟨_, rfl⟩
  obtain ⟨y, hyk⟩ : ∃ y, P[q]? = some y := ⟨_, List.getElem?_eq_getElem (by omega)⟩
  have hy : y.length = 32 := hs_len hvP hyk
  have hyd : P.getD q [] = y := by rw [List.getD_eq_getElem?_getD, hyk]; rfl
  rw [show ((P.length : Int) - 1 - ((k : Nat) : Int)) = ((q : Nat) : Int) by omega] at x3 hcnt
  have hYk := hY k
  unfold encB at hYk
  rw [hq, hyd] at hYk
  refine wp_all_seq [.eq (.int .i64 ((q : Nat) : Int)), .eq (.bool true)] (by kernel_rfl) (by kernel_rfl) (by rw [sz]; kernel_rfl) (by kernel_rfl) ⟨fun hw ac u K => ?_, fun hw ac u K => ?_, trivial⟩ ?_
  · exact st_move (.tmp 3) rfl ((K.old 3 rfl).trans x3)
  · exact st_geq 3 (.tmp 7) (.const (.int .i64 0)) rfl .i64 (((q : Nat) : Int)) (0) (K.dep 0 7 rfl) rfl _ (by rw [eq_comm, decide_eq_true_iff]; omega)
  intro f3 w3 A hb
  replace bl0 := bl
  replace x0 := (A.old 0 rfl).trans x0
  replace x1 := (A.old 1 rfl).trans x1
  replace x3 := (A.old 3 rfl).trans x3
  have x8 : f3.eval (.tmp 8) = .bool true := A.has 1 8 rfl
  have lt_hob := Ob.lt hob
  replace hob := Ob.below hob hb
  replace hvP := Fk.mono _ _ _ _ hvP hb
  replace hJk := hJ _ _ _ hJk (Below.mono hb hzz)
  replace hzz := Nat.le_trans hzz hb.size
  replace bl := trivial
  replace sz := A.size.trans sz
  replace df := A.defs.trans df
  clear A hb
  show Code.wp _ _ _ _ _
  refine wp_cond_true x8 ?_
  refine wp_skip ?_
  show Code.wp _ _ _ _ _
  refine wp_seq ?_
  refine wp_block ?_
  refine wp_seq ?_
  refine wp_region_li 6 ?_
  refine wli_one (.eq (.func (.yield l) #[] #[])) rfl 11 rfl (by rw [sz]; decide) (st_move (.tmp 0) rfl x0) ?_
  intro f4 w4 df2 sz2 old2 new2 hb
  replace bl0 := bl
  replace x0 := (old2 0 rfl).trans x0
  replace x1 := (old2 1 rfl).trans x1
  replace x3 := (old2 3 rfl).trans x3
  replace x8 := (old2 8 rfl).trans x8
  have x11 : f4.eval (.tmp 11) = .func (.yield l) #[] #[] := new2
  have lt_hob := Ob.lt hob
  replace hob := Ob.below hob hb
  replace hvP := Fk.mono _ _ _ _ hvP hb
  replace hJk := hJ _ _ _ hJk (Below.mono hb hzz)
  replace hzz := Nat.le_trans hzz hb.size
  replace bl := trivial
  replace sz := sz2.trans sz
  replace df := df2.trans df
  clear df2 sz2 old2 new2 hb
  refine wli_one (.eq (v)) rfl 12 rfl (by rw [sz]; decide) (st_loadc 22 (.tmp 1) rfl (by kernel_rfl) x1 (Ob.cell hob 0 rfl)) ?_
  intro f5 w5 df2 sz2 old2 new2 hb
  replace bl0 := bl
  replace x0 := (old2 0 rfl).trans x0
  replace x1 := (old2 1 rfl).trans x1
  replace x3 := (old2 3 rfl).trans x3
  replace x8 := (old2 8 rfl).trans x8
  replace x11 := (old2 11 rfl).trans x11
  have x12 : f5.eval (.tmp 12) = v := new2
  have lt_hob := Ob.lt hob
  replace hob := Ob.below hob hb
  replace hvP := Fk.mono _ _ _ _ hvP hb
  replace hJk := hJ _ _ _ hJk (Below.mono hb hzz)
  replace hzz := Nat.le_trans hzz hb.size
  replace bl := trivial
  replace sz := sz2.trans sz
  replace df := df2.trans df
  clear df2 sz2 old2 new2 hb
  refine wli_one (.eq (.int .i64 ((q : Nat) : Int))) rfl 13 rfl (by rw [sz]; decide) (st_move (.tmp 3) rfl x3) ?_
  intro f6 w6 df2 sz2 old2 new2 hb
  replace bl0 := bl
  replace x0 := (old2 0 rfl).trans x0
  replace x1 := (old2 1 rfl).trans x1
  replace x3 := (old2 3 rfl).trans x3
  replace x8 := (old2 8 rfl).trans x8
  replace x11 := (old2 11 rfl).trans x11
  replace x12 := (old2 12 rfl).trans x12
  have x13 : f6.eval (.tmp 13) = .int .i64 ((q : Nat) : Int) := new2
  have lt_hob := Ob.lt hob
  replace hob := Ob.below hob hb
  replace hvP := Fk.mono _ _ _ _ hvP hb
  replace hJk := hJ _ _ _ hJk (Below.mono hb hzz)
  replace hzz := Nat.le_trans hzz hb.size
  replace bl := trivial
  replace sz := sz2.trans sz
  replace df := df2.trans df
  clear df2 sz2 old2 new2 hb
  refine wli_one (.ph (y)) rfl 14 rfl (by rw [sz]; decide) (st_idxh (.tmp 12) (.tmp 13) rfl (fk_val x12 hvP) (q) (y) x13 hyk) ?_
  intro f7 w7 df2 sz2 old2 new2 hb
  replace bl0 := bl
  replace x0 := (old2 0 rfl).trans x0
  replace x1 := (old2 1 rfl).trans x1
  replace x3 := (old2 3 rfl).trans x3
  replace x8 := (old2 8 rfl).trans x8
  replace x11 := (old2 11 rfl).trans x11
  replace x12 := (old2 12 rfl).trans x12
  replace x13 := (old2 13 rfl).trans x13
  have x14 : Fk.f (.ph (y)) (f7.eval (.tmp 14)) w7 := new2
  have lt_hob := Ob.lt hob
  replace hob := Ob.below hob hb
  replace hvP := Fk.mono _ _ _ _ hvP hb
  replace hJk := hJ _ _ _ hJk (Below.mono hb hzz)
  replace hzz := Nat.le_trans hzz hb.size
  replace bl := trivial
  replace sz := sz2.trans sz
  replace df := df2.trans df
  clear df2 sz2 old2 new2 hb
  refine wli_one (.eq (.agg ((y).map V).toArray)) rfl 15 rfl (by rw [sz]; decide) (st_loadh (.tmp 14) rfl x14) ?_
  intro f8 w8 df2 sz2 old2 new2 hb
  replace bl0 := bl
  replace x0 := (old2 0 rfl).trans x0
  replace x1 := (old2 1 rfl).trans x1
  replace x3 := (old2 3 rfl).trans x3
  replace x8 := (old2 8 rfl).trans x8
  replace x11 := (old2 11 rfl).trans x11
  replace x12 := (old2 12 rfl).trans x12
  replace x13 := (old2 13 rfl).trans x13
  replace x14 := f_at (old2 14 rfl) (Fk.mono _ _ _ _ x14 hb)
  have x15 : f8.eval (.tmp 15) = .agg ((y).map V).toArray := new2
  have lt_hob := Ob.lt hob
  replace hob := Ob.below hob hb
  replace hvP := Fk.mono _ _ _ _ hvP hb
  replace hJk := hJ _ _ _ hJk (Below.mono hb hzz)
  replace hzz := Nat.le_trans hzz hb.size
  replace bl := trivial
  replace sz := sz2.trans sz
  replace df := df2.trans df
  clear df2 sz2 old2 new2 hb
  refine wli_yield (.tmp 11) _ _ #[.agg ((y).map V).toArray] rfl 16 rfl (by rw [sz]; decide) rfl l x11 (one_arg x15) (hYk _ hlt hJk) ?_ ?_
  rotate_left
  · intro f9 w9 df2 sz2 old2 new2 hX
    clear hob
    clear hvP
    replace x0 := (old2 0 rfl).trans x0
    replace x1 := (old2 1 rfl).trans x1
    replace x3 := (old2 3 rfl).trans x3
    replace x8 := (old2 8 rfl).trans x8
    replace x11 := (old2 11 rfl).trans x11
    replace x12 := (old2 12 rfl).trans x12
    replace x13 := (old2 13 rfl).trans x13
    clear x14
    replace x15 := (old2 15 rfl).trans x15
    have x16 : f9.eval (.tmp 16) = .bool false := new2
    
    replace sz := sz2.trans sz
    replace df := df2.trans df
    clear df2 sz2 old2 new2
    refine wli_not rfl (.tmp 16) rfl 17 rfl (by rw [sz]; decide) false x16 ?_
    intro f10 df2 sz2 old2 new2
    replace x0 := (old2 0 rfl).trans x0
    replace x1 := (old2 1 rfl).trans x1
    replace x3 := (old2 3 rfl).trans x3
    replace x8 := (old2 8 rfl).trans x8
    replace x11 := (old2 11 rfl).trans x11
    replace x12 := (old2 12 rfl).trans x12
    replace x13 := (old2 13 rfl).trans x13
    replace x15 := (old2 15 rfl).trans x15
    replace x16 := (old2 16 rfl).trans x16
    have x17 : f10.eval (.tmp 17) = .bool true := new2
    replace sz := sz2.trans sz
    replace df := df2.trans df
    clear df2 sz2 old2 new2
    refine wli_nil ?_
    clear x11
    clear x12
    clear x13
    clear x15
    clear x16
    show Code.wp _ _ _ _ _
    refine wp_cond_true x17 ?_
    refine wp_ret ?_
    repeat (first | with_reducible refine then_ret ?_ | with_reducible refine block_ret ?_)
    exact bodyPost_ret (results_none rfl _ _ _) df ⟨⟨_, rfl⟩, .inr ⟨k, hlt, hX⟩⟩
  intro f9 w9 df2 sz2 old2 new2 hX
  clear hob
  clear hvP
  replace x0 := (old2 0 rfl).trans x0
  replace x1 := (old2 1 rfl).trans x1
  replace x3 := (old2 3 rfl).trans x3
  replace x8 := (old2 8 rfl).trans x8
  replace x11 := (old2 11 rfl).trans x11
  replace x12 := (old2 12 rfl).trans x12
  replace x13 := (old2 13 rfl).trans x13
  clear x14
  replace x15 := (old2 15 rfl).trans x15
  have x16 : f9.eval (.tmp 16) = .bool true := new2
  replace hJk := hX.1
  replace hzz := Nat.le_trans hzz hX.2.1
  have hob := (hR _ _ hJk).1
  have hvP := (hR _ _ hJk).2
  replace sz := sz2.trans sz
  replace df := df2.trans df
  clear df2 sz2 old2 new2 hX
  refine wli_not rfl (.tmp 16) rfl 17 rfl (by rw [sz]; decide) true x16 ?_
  intro f10 df2 sz2 old2 new2
  replace x0 := (old2 0 rfl).trans x0
  replace x1 := (old2 1 rfl).trans x1
  replace x3 := (old2 3 rfl).trans x3
  replace x8 := (old2 8 rfl).trans x8
  replace x11 := (old2 11 rfl).trans x11
  replace x12 := (old2 12 rfl).trans x12
  replace x13 := (old2 13 rfl).trans x13
  replace x15 := (old2 15 rfl).trans x15
  replace x16 := (old2 16 rfl).trans x16
  have x17 : f10.eval (.tmp 17) = .bool false := new2
  replace sz := sz2.trans sz
  replace df := df2.trans df
  clear df2 sz2 old2 new2
  refine wli_nil ?_
  clear x11
  clear x12
  clear x13
  clear x15
  clear x16
  show Code.wp _ _ _ _ _
  refine wp_cond_false x17 ?_
  refine wp_skip ?_
  show Code.wp _ _ _ _ _
  refine wp_region_seq [.eq (.int .i64 ((q : Nat) : Int)), .eq (.int .i64 ((P.length : Int) - 1 - ((k + 1 : Nat) : Int)))] (by kernel_rfl) (by kernel_rfl) (by rw [sz]; kernel_rfl) (by kernel_rfl) ⟨fun hw ac u K => ?_, fun hw ac u K => ?_, trivial⟩ ?_
  · exact st_move (.tmp 3) rfl ((K.old 3 rfl).trans x3)
  · exact st_subz (.tmp 9) (.const (.int .i64 1)) rfl _ 1 _ (K.dep 0 9 rfl) rfl (by omega) (by omega) (by omega)
  intro f11 w11 A hb
  replace bl0 := bl
  replace x0 := (A.old 0 rfl).trans x0
  replace x1 := (A.old 1 rfl).trans x1
  replace x3 := (A.old 3 rfl).trans x3
  replace x8 := (A.old 8 rfl).trans x8
  replace x17 := (A.old 17 rfl).trans x17
  have x10 : f11.eval (.tmp 10) = .int .i64 ((P.length : Int) - 1 - ((k + 1 : Nat) : Int)) := A.has 1 10 rfl
  have lt_hob := Ob.lt hob
  replace hob := Ob.below hob hb
  replace hvP := Fk.mono _ _ _ _ hvP hb
  replace hJk := hJ _ _ _ hJk (Below.mono hb hzz)
  replace hzz := Nat.le_trans hzz hb.size
  replace bl := trivial
  replace sz := A.size.trans sz
  replace df := A.defs.trans df
  clear A hb
  refine wl_one (.eq (.int .i64 ((P.length : Int) - 1 - ((k + 1 : Nat) : Int)))) rfl 3 rfl (by rw [sz]; decide) (st_assign (.tmp 10) rfl x10) ?_
  intro f12 w12 df2 sz2 old2 new2 hb
  replace bl0 := bl
  replace x0 := (old2 0 rfl).trans x0
  replace x1 := (old2 1 rfl).trans x1
  clear x3
  replace x8 := (old2 8 rfl).trans x8
  replace x17 := (old2 17 rfl).trans x17
  replace x10 := (old2 10 rfl).trans x10
  have x3 : f12.eval (.tmp 3) = .int .i64 ((P.length : Int) - 1 - ((k + 1 : Nat) : Int)) := new2
  have lt_hob := Ob.lt hob
  replace hob := Ob.below hob hb
  replace hvP := Fk.mono _ _ _ _ hvP hb
  replace hJk := hJ _ _ _ hJk (Below.mono hb hzz)
  replace hzz := Nat.le_trans hzz hb.size
  replace bl := trivial
  replace sz := sz2.trans sz
  replace df := df2.trans df
  clear df2 sz2 old2 new2 hb
  refine wpList_nil ?_
  clear x10
  show (∃ _, _) ∧ _
  refine ⟨⟨k + 1, by omega, sz, df, x0, x1, x3, hob, hvP, hJk, hzz, bl⟩, ?_⟩
  rw [show f12.eval (.tmp 3) = _ from x3, show _ = _ from hcnt]
  simp only [intOf]
  omega
end Go.Proofs.YtnppjlpnfijobaaDoor
namespace Go.Proofs.YtnppjlpnfijobaaDoor
set_option maxRecDepth 100000
open Go.RowKit
theorem ob_lo {A A' : World} {B g : Nat} {T : TypeId} {cs : List Value} (h : Ob A g T cs) (hb : Below B A A') (hg : g < B) : Ob A' g T cs := by
  have := hb.block g hg
  unfold Ob at *
  rw [this]; exact h
theorem ob_put {A : World} {l g : Nat} {T : TypeId} {cs : List Value} (o : Obj) (h : Ob A g T cs) (hne : g ≠ l) : Ob (A.putObj l o) g T cs := by
  unfold Ob at *
  rw [World.putObj_heap_other hne]; exact h
theorem code_in {F : Fence} {n : Nat} {P : Program} {c : Code} {Q : Exit → Act → World → Prop} {a : Act} {w : World} (I : Act → World → Prop) (h0 : I a w) (h : ∀ f w, I f w → Code.wpIn F n P c Q f w) : Code.wpIn F n P c Q a w := h a w h0
end Go.Proofs.YtnppjlpnfijobaaDoor
namespace Go.Proofs.YtnppjlpnfijobaaDoor
set_option maxRecDepth 100000
open Go.RowKit
theorem getD_at {P : List (List (BitVec 8))} {q : Nat} {p : List (BitVec 8)} (h : P[q]? = some p) : P.getD q [] = p := by rw [List.getD_eq_getElem?_getD, h]; rfl
theorem def_setRow {w : World} {D g : Nat} {T : TypeId} {cs : List Value} {d : Option (List Deferred)} (hD : w.heap[D]? = some (.deferred d)) (m : Ob w g T cs) (ds : Array Value) : (w.setRow g ds).heap[D]? = some (.deferred d) := by
  have hne : D ≠ g := by
    rintro rfl
    unfold Ob at m
    rw [hD] at m
    cases m
  rw [((Only.refl g w).setRow ds).block D (Array.getElem?_eq_some_iff.1 hD).1 hne]
  exact hD
theorem def_ne {w : World} {D g : Nat} {T : TypeId} {cs : List Value} {d : Option (List Deferred)} (hD : w.heap[D]? = some (.deferred d)) (m : Ob w g T cs) : g ≠ D := by
  rintro rfl
  unfold Ob at m
  rw [hD] at m
  cases m
/-- The frame of a round with one variable. -/
def rfr1 (t : Array Value) (p : Nat) (u : Value) : Act := { tmps := t.setIfInBounds p u, defers := [] }
theorem rfr1_eq (t : Array Value) (p : Nat) (u : Value) : ({ tmps := (#[p].zip #[u]).foldl (fun t (p, v) => t.setIfInBounds p v) t, defers := [] } : Act) = rfr1 t p u := by
  unfold rfr1
  simp
theorem rfr1_size (t : Array Value) (p : Nat) (u : Value) : (rfr1 t p u).tmps.size = t.size := by simp [rfr1]
theorem rfr1_old (a : Act) (p : Nat) (u : Value) {j : Nat} (hp : (j == p) = false) : (rfr1 a.tmps p u).eval (.tmp j) = a.eval (.tmp j) := by
  have h1 : p ≠ j := fun e => by subst e; simp at hp
  show (a.tmps.setIfInBounds p u).getD j undef = a.tmps.getD j undef
  rw [Array.getD_eq_getD_getElem?, Array.getD_eq_getD_getElem?, Array.getElem?_setIfInBounds_ne h1]
theorem rfr1_p (t : Array Value) (p : Nat) (u : Value) (hp : p < t.size) : (rfr1 t p u).eval (.tmp p) = u := by
  show (t.setIfInBounds p u).getD p undef = u
  rw [Array.getD_eq_getD_getElem?, Array.getElem?_setIfInBounds_self_of_lt hp]
  rfl
set_option maxHeartbeats 1000000 in
theorem joined_any {P : List (List (BitVec 8))} (hl : P.length ≤ 1000) {pA : Option Addr} {pC : Nat} (w : World) (hvs : (Fk.hs P).f (.slice pA P.length pC) w) (hK : Tab w) {y0 y : List (BitVec 8)} (hy0 : y0.length = 32) (ey : Box (gw P y0 P.length = y)) :
    Calls Tryd.prog 27 #[.slice pA P.length pC, .agg ((y0).map V).toArray] w fun e w' => e = .returned (.agg ((y).map V).toArray) ∧ Below w.heap.size w w' := by
  have hy : y.length = 32 := by rw [← ey.out]; exact gw_len P hy0 _
  refine (callsIn_wide (n := 7)).1 ?_
  refine callsIn_of_wp_marks Tryd.func27 rfl trivial ?_ rfl
  simp only [Tryd.ntmps27, List.size_toArray, List.length_cons, List.length_nil, Nat.reduceAdd, Nat.reduceSub, Array.replicate_succ, Array.replicate_zero, List.push_toArray, List.append_toArray, List.nil_append, List.cons_append]
  refine wpIn_wide.2 ?_
  refine code_both (fun f w1 => f.tmps.size = 15 ∧ f.defers = [] ∧ f.eval (.tmp 0) = .slice pA P.length pC ∧ f.eval (.tmp 1) = .agg ((y0).map V).toArray ∧ Below w.heap.size w (w1)) ⟨rfl, rfl, rfl, rfl, Below.refl _ _⟩ ?_
  rintro f0 w0 ⟨sz, df, x0, x1, bl⟩
  have bl0 := bl
  refine wp_seq ?_
  refine wp_region_seq [] (by kernel_rfl) (by kernel_rfl) (by rw [sz]; kernel_rfl) (by kernel_rfl) trivial ?_
  intro f1 w1 A hb
  replace bl0 := bl
  replace x0 := (A.old 0 rfl).trans x0
  replace x1 := (A.old 1 rfl).trans x1
  replace bl := (bl.trans (Below.mono hb bl.size))
  replace sz := A.size.trans sz
  replace df := A.defs.trans df
  clear A hb
  refine wl_one (.nw w1.heap.size 33 ((y0).map V)) rfl 3 rfl (by rw [sz]; decide) (st_box 33 (.tmp 1) rfl _ _ (by rw [show _ = _ from x1]; kernel_rfl) (Nat.le_refl _)) ?_
  intro f2 w2 df2 sz2 old2 new2 hb
  replace bl0 := bl
  replace x0 := (old2 0 rfl).trans x0
  replace x1 := (old2 1 rfl).trans x1
  have x3 : Fk.f (.nw w1.heap.size 33 ((y0).map V)) (f2.eval (.tmp 3)) w2 := new2
  replace bl := (bl.trans (Below.mono hb bl.size))
  replace sz := sz2.trans sz
  replace df := df2.trans df
  clear df2 sz2 old2 new2 hb
  obtain ⟨g3, hg3, e3, m3⟩ := x3
  have x3 := e3
  clear e3
  have hw3 : w.heap.size ≤ g3 := Nat.le_trans bl0.size hg3
  clear x1
  refine wl_one (.nw w2.heap.size 33 ((hz).map V)) rfl 4 rfl (by rw [sz]; decide) (st_alloc33 rfl _ (Nat.le_refl _)) ?_
  intro f3 w3 df2 sz2 old2 new2 hb
  replace bl0 := bl
  replace x0 := (old2 0 rfl).trans x0
  replace x3 := (old2 3 rfl).trans x3
  have x4 : Fk.f (.nw w2.heap.size 33 ((hz).map V)) (f3.eval (.tmp 4)) w3 := new2
  have lt_m3 := Ob.lt m3
  replace m3 := Ob.below m3 hb
  replace bl := (bl.trans (Below.mono hb bl.size))
  replace sz := sz2.trans sz
  replace df := df2.trans df
  clear df2 sz2 old2 new2 hb
  obtain ⟨g4, hg4, e4, m4⟩ := x4
  have x4 := e4
  clear e4
  have nm3_4 : g3 ≠ g4 := Nat.ne_of_lt (Nat.lt_of_lt_of_le lt_m3 hg4)
  have hw4 : w.heap.size ≤ g4 := Nat.le_trans bl0.size hg4
  refine wpList_nil ?_
  show Code.wp _ _ _ _ _
  refine wp_seq ?_
  refine wp_region_seq [.eq (.agg ((y0).map V).toArray)] (by kernel_rfl) (by kernel_rfl) (by rw [sz]; kernel_rfl) (by kernel_rfl) ⟨fun hw ac u K => ?_, trivial⟩ ?_
  · exact st_load33 (.tmp 3) rfl (g3) (y0) ((K.old 3 rfl).trans x3) hy0 (Ob.below m3 K.grow)
  intro f4 w4 A hb
  replace bl0 := bl
  replace x0 := (A.old 0 rfl).trans x0
  replace x3 := (A.old 3 rfl).trans x3
  replace x4 := (A.old 4 rfl).trans x4
  have x7 : f4.eval (.tmp 7) = .agg ((y0).map V).toArray := A.has 0 7 rfl
  have lt_m3 := Ob.lt m3
  replace m3 := Ob.below m3 hb
  have lt_m4 := Ob.lt m4
  replace m4 := Ob.below m4 hb
  replace bl := (bl.trans (Below.mono hb bl.size))
  replace sz := A.size.trans sz
  replace df := A.defs.trans df
  clear A hb
  clear x3
  refine wl_one (.nw w4.heap.size 33 ((hz).map V)) rfl 5 rfl (by rw [sz]; decide) (st_alloc33 rfl _ (Nat.le_refl _)) ?_
  intro f5 w5 df2 sz2 old2 new2 hb
  replace bl0 := bl
  replace x0 := (old2 0 rfl).trans x0
  replace x4 := (old2 4 rfl).trans x4
  replace x7 := (old2 7 rfl).trans x7
  have x5 : Fk.f (.nw w4.heap.size 33 ((hz).map V)) (f5.eval (.tmp 5)) w5 := new2
  have lt_m3 := Ob.lt m3
  replace m3 := Ob.below m3 hb
  have lt_m4 := Ob.lt m4
  replace m4 := Ob.below m4 hb
  replace bl := (bl.trans (Below.mono hb bl.size))
  replace sz := sz2.trans sz
  replace df := df2.trans df
  clear df2 sz2 old2 new2 hb
  obtain ⟨g5, hg5, e5, m5⟩ := x5
  have x5 := e5
  clear e5
  have nm3_5 : g3 ≠ g5 := Nat.ne_of_lt (Nat.lt_of_lt_of_le lt_m3 hg5)
  have nm4_5 : g4 ≠ g5 := Nat.ne_of_lt (Nat.lt_of_lt_of_le lt_m4 hg5)
  have hw5 : w.heap.size ≤ g5 := Nat.le_trans bl0.size hg5
  refine wl_store rfl (.tmp 5) (.tmp 7) rfl rfl (g5) (y0) (hz) x5 x7 m5 hz_len hy0 ?_
  replace m3 : Ob (w5.setRow g5 ((y0).map V : List Value).toArray) (g3) 33 ((y0).map V) := Ob.setRow_other m3 _ nm3_5
  replace m4 : Ob (w5.setRow g5 ((y0).map V : List Value).toArray) (g4) 33 ((hz).map V) := Ob.setRow_other m4 _ nm4_5
  replace m5 : Ob (w5.setRow g5 ((y0).map V : List Value).toArray) (g5) 33 ((y0).map V) := Ob.setRow m5 ((y0).map V)
  replace bl : Below w.heap.size w (w5.setRow g5 ((y0).map V : List Value).toArray) := bl.trans (below_setRow _ _ _ _ hw5)
  generalize w5.setRow g5 ((y0).map V : List Value).toArray = w6b at bl m3 m4 m5 ⊢
  refine wpList_nil ?_
  clear x7
  show Code.wp _ _ _ _ _
  refine wp_seq ?_
  refine wp_seq ?_
  refine wp_all_seq [.eq (.slice pA P.length pC), .cl w6b.heap.size 63 22 (.slice pA P.length pC)] (by kernel_rfl) (by kernel_rfl) (by rw [sz]; kernel_rfl) (by kernel_rfl) ⟨fun hw ac u K => ?_, fun hw ac u K => ?_, trivial⟩ ?_
  · exact st_move (.tmp 0) rfl ((K.old 0 rfl).trans x0)
  · exact st_call 46 (.func 46) _ _ #[.slice pA P.length pC] rfl rfl (one_arg (K.dep 0 8 rfl)) Tryd.enter46 (backward_any _ _ _ _ _ K.grow.size)
  intro f7 w7 A hb
  replace bl0 := bl
  replace x0 := (A.old 0 rfl).trans x0
  replace x4 := (A.old 4 rfl).trans x4
  replace x5 := (A.old 5 rfl).trans x5
  have x9 : Fk.f (.cl w6b.heap.size 63 22 (.slice pA P.length pC)) (f7.eval (.tmp 9)) w7 := A.has 1 9 rfl
  have lt_m3 := Ob.lt m3
  replace m3 := Ob.below m3 hb
  have lt_m4 := Ob.lt m4
  replace m4 := Ob.below m4 hb
  have lt_m5 := Ob.lt m5
  replace m5 := Ob.below m5 hb
  replace bl := (bl.trans (Below.mono hb bl.size))
  replace sz := A.size.trans sz
  replace df := A.defs.trans df
  clear A hb
  clear x0
  obtain ⟨g9, hg9, e9, m9⟩ := x9
  have x9 := e9
  clear e9
  have hw9 : w.heap.size ≤ g9 := Nat.le_trans bl0.size hg9
  show Code.wp _ _ _ _ _
  refine wp_block ?_
  have lt4 := Ob.lt m4
  have lt5 := Ob.lt m5
  have lt9 := Ob.lt m9
  have hsw := bl.size
  have n9_5 : g9 ≠ g5 := by have := lt_m5; omega
  refine (wpIn_wide (n := 7)).1 ?_
  refine range_gives (by decide) x9 Tryd.enter63 (back_gives (P := P) (by omega) g9 (.slice pA P.length pC) w7) (fun _ => rfl)
    (fun k W => Ob W g5 33 ((gw P y0 k).map V) ∧ Ob W g4 33 ((hz).map V) ∧ Ob W g9 22 [.slice pA P.length pC] ∧ Below w.heap.size w W) (fun _ _ _ => False) ?_ (fun _ _ _ _ h _ => h) ?_ ⟨by rw [show gw P y0 0 = y0 from rfl]; exact m5, m4, m9, bl⟩ ?_ ?_ (fun _ _ _ _ h _ => h.elim)
  · rintro k A B ⟨h1, h2, h3, h4⟩ hb
    exact ⟨ob_lo h1 hb lt5, ob_lo h2 hb lt4, ob_lo h3 hb lt9, h4.trans (Below.mono hb hsw)⟩
  · rintro k A ⟨_, _, h3, h4⟩
    exact ⟨h3, Fk.mono _ _ _ _ hvs h4⟩
  · rintro k W hk ⟨m5, m4, m9, blw0⟩ ⟨r, hl⟩
    clear bl bl0
    obtain ⟨q, hq⟩ : ∃ q, P.length - 1 - k = q := ⟨_, rfl⟩
    obtain ⟨p, hpk⟩ : ∃ p, P[q]? = some p := ⟨_, List.getElem?_eq_getElem (by omega)⟩
    have hp : p.length = 32 := hs_len hvs hpk
    have hpd : P.getD q [] = p := getD_at hpk
    have henc : encB P k = #[.agg ((p).map V).toArray] := by
      unfold encB
      rw [hq, hpd]
    obtain ⟨j, hjk⟩ : ∃ j, gw P y0 k = j := ⟨_, rfl⟩
    obtain ⟨z, ez⟩ : ∃ z, Box (nd p j = z) := ⟨_, ⟨rfl⟩⟩
    have hj1 : j.length = 32 := by rw [← hjk]; exact gw_len P hy0 k
    have hz1 : z.length = 32 := by rw [← ez.out]; exact nd_len _ _
    have hzk : gw P y0 (k + 1) = z := by rw [← gw_succ y0 (p := p) (by rw [show P.length - k - 1 = q by omega]; exact hpk), hjk]; exact ez.out
    rw [hjk] at m5
    have hlW := (Array.getElem?_eq_some_iff.1 hl).1
    rw [show ({ tmps := (#[10].zip (encB P k)).foldl (fun t (p, v) => t.setIfInBounds p v) f7.tmps, defers := [] } : Act) = rfr1 f7.tmps 10 (.agg ((p).map V).toArray) from by rw [henc]; exact rfr1_eq _ _ _]
    refine code_in (fun f w1 => f.tmps.size = 15 ∧ f.defers = [] ∧ f.eval (.tmp 5) = .pointer (some ⟨g5, 0, none⟩) ∧ f.eval (.tmp 10) = .agg ((p).map V).toArray ∧ Below W.heap.size W w1) ⟨(rfr1_size _ _ _).trans sz, rfl, (rfr1_old _ _ _ rfl).trans x5, rfr1_p _ _ _ (by rw [sz]; decide), Below.refl _ _⟩ ?_
    clear sz df x4 x5
    rintro f0 w0 ⟨sz, df, x5, x10, bl⟩
    have bl0 := bl
    refine in_region_seq [] (by rintro ⟨_, _, h⟩; exact h) (by kernel_rfl) (by kernel_rfl) (by kernel_rfl) (by rw [sz]; kernel_rfl) (by kernel_rfl) trivial ?_
    intro f101 w101 A hb
    replace bl0 := bl
    replace x5 := (A.old 5 rfl).trans x5
    replace x10 := (A.old 10 rfl).trans x10
    replace bl := (bl.trans (Below.mono hb bl.size))
    replace sz := A.size.trans sz
    replace df := A.defs.trans df
    clear A hb
    refine wl_one (.nw w101.heap.size 33 ((hz).map V)) rfl 6 rfl (by rw [sz]; decide) (st_alloc33 rfl _ (Nat.le_refl _)) ?_
    intro f102 w102 df2 sz2 old2 new2 hb
    replace bl0 := bl
    replace x5 := (old2 5 rfl).trans x5
    replace x10 := (old2 10 rfl).trans x10
    have x6 : Fk.f (.nw w101.heap.size 33 ((hz).map V)) (f102.eval (.tmp 6)) w102 := new2
    replace bl := (bl.trans (Below.mono hb bl.size))
    replace sz := sz2.trans sz
    replace df := df2.trans df
    clear df2 sz2 old2 new2 hb
    obtain ⟨g6, hg6, e6, m6⟩ := x6
    have x6 := e6
    clear e6
    have nm5_6 : g5 ≠ g6 := Nat.ne_of_lt (Nat.lt_of_lt_of_le (Ob.lt m5) (Nat.le_trans bl0.size hg6))
    have hw6 : W.heap.size ≤ g6 := Nat.le_trans bl0.size hg6
    refine wl_store rfl (.tmp 6) (.tmp 10) rfl rfl (g6) (p) (hz) x6 x10 m6 hz_len hp ?_
    replace m6 : Ob (w102.setRow g6 ((p).map V : List Value).toArray) (g6) 33 ((p).map V) := Ob.setRow m6 ((p).map V)
    replace bl : Below W.heap.size W (w102.setRow g6 ((p).map V : List Value).toArray) := bl.trans (below_setRow _ _ _ _ hw6)
    generalize w102.setRow g6 ((p).map V : List Value).toArray = w103b at bl m6 ⊢
    refine wpList_nil ?_
    clear x10
    refine ⟨Kept.of_below bl, fun o => ?_⟩
    have ltn := bl.size
    replace m5 := ob_put o (Ob.below m5 bl) (show g5 ≠ w7.heap.size + 1 by omega)
    replace m4 := ob_put o (Ob.below m4 bl) (show g4 ≠ w7.heap.size + 1 by omega)
    replace m9 := ob_put o (Ob.below m9 bl) (show g9 ≠ w7.heap.size + 1 by omega)
    replace m6 := ob_put o m6 (show g6 ≠ w7.heap.size + 1 by omega)
    have blV := (blw0.trans (Below.mono bl blw0.size)).trans (below_put (B := w.heap.size) (l := w7.heap.size + 1) o (by omega) (by omega))
    clear bl bl0
    generalize w103b.putObj (w7.heap.size + 1) o = U at m5 m4 m9 m6 blV ⊢
    have bl := Only.refl g5 U
    have bl0 := bl
    have hKo : ∀ {X : World}, Only g5 U X → Tab X := fun O => hK.below (blV.trans (O.below w.heap.size (by omega) blV.size))
    refine wpIn_block ?_
    refine in_region_seq [.eq (.agg ((p).map V).toArray), .eq (.agg ((j).map V).toArray), .eq (.agg ((z).map V).toArray)] (by rintro ⟨_, _, h⟩; exact h) (by kernel_rfl) (by kernel_rfl) (by kernel_rfl) (by rw [sz]; kernel_rfl) (by kernel_rfl) ⟨fun hw ac u K => ?_, fun hw ac u K => ?_, fun hw ac u K => ?_, trivial⟩ ?_
    · exact st_load33 (.tmp 6) rfl (g6) (p) ((K.old 6 rfl).trans x6) hp (Ob.below m6 K.grow)
    · exact st_load33 (.tmp 5) rfl (g5) (j) ((K.old 5 rfl).trans x5) hj1 (Ob.below m5 K.grow)
    · exact st_call 22 (.func 22) _ _ #[.agg ((p).map V).toArray, .agg ((j).map V).toArray] rfl rfl (arg2 (K.dep 0 11 rfl) (K.dep 1 12 rfl)) Tryd.enter22 (fk_node hp hj1 (hKo (only_below bl (Below.mono K.grow bl.size))) ez)
    intro f201 w201 A hb
    replace bl0 := bl
    replace x5 := (A.old 5 rfl).trans x5
    replace x6 := (A.old 6 rfl).trans x6
    have x13 : f201.eval (.tmp 13) = .agg ((z).map V).toArray := A.has 2 13 rfl
    have lt_m5 := Ob.lt m5
    replace m5 := Ob.below m5 hb
    have lt_m6 := Ob.lt m6
    replace m6 := Ob.below m6 hb
    replace bl := (only_below bl (Below.mono hb bl.size))
    replace sz := A.size.trans sz
    replace df := A.defs.trans df
    clear A hb
    refine wl_store rfl (.tmp 5) (.tmp 13) rfl rfl (g5) (z) (j) x5 x13 m5 hj1 hz1 ?_
    replace m5 : Ob (w201.setRow g5 ((z).map V : List Value).toArray) (g5) 33 ((z).map V) := Ob.setRow m5 ((z).map V)
    replace m6 : Ob (w201.setRow g5 ((z).map V : List Value).toArray) (g6) 33 ((p).map V) := Ob.setRow_other m6 _ nm5_6.symm
    replace bl : Only g5 U (w201.setRow g5 ((z).map V : List Value).toArray) := bl.setRow _
    generalize w201.setRow g5 ((z).map V : List Value).toArray = w202b at bl m5 m6 ⊢
    refine wpList_nil ?_
    clear x13
    show Kept _ _ _ ∧ _
    refine ⟨Kept.of_only bl (by omega), by rw [hzk]; exact m5, Ob.only m4 bl (by omega), Ob.only m9 bl (by omega), blV.trans (bl.below w.heap.size (by omega) blV.size)⟩
  rintro W ⟨m5, m4, _, bl⟩ hD
  show Code.wp _ _ _ _ _
  rw [ey.out] at m5
  refine code_both (fun f w1 => f.tmps.size = 15 ∧ f.defers = [{ target := .collected w7.heap.size, args := #[] }] ∧ f.eval (.tmp 4) = .pointer (some ⟨g4, 0, none⟩) ∧ f.eval (.tmp 5) = .pointer (some ⟨g5, 0, none⟩) ∧ Ob w1 g4 33 ((hz).map V) ∧ Ob w1 g5 33 ((y).map V) ∧ w1.heap[w7.heap.size]? = some (.deferred (some [])) ∧ Below w.heap.size w w1) ⟨sz, by rw [← df], x4, x5, m4, m5, hD, bl⟩ ?_
  clear sz df x4 x5 m4 m5 bl hD
  rintro fB wB ⟨sz, df, x4, x5, m4, m5, hD, bl⟩
  have bl0 := bl
  show Code.wp _ _ _ _ _
  refine wp_seq ?_
  refine wp_region_seq [.eq (.agg ((y).map V).toArray)] (by kernel_rfl) (by kernel_rfl) (by rw [sz]; kernel_rfl) (by kernel_rfl) ⟨fun hw ac u K => ?_, trivial⟩ ?_
  · exact st_load33 (.tmp 5) rfl (g5) (y) ((K.old 5 rfl).trans x5) hy (Ob.below m5 K.grow)
  intro f8 w8 A hb
  replace bl0 := bl
  replace x4 := (A.old 4 rfl).trans x4
  replace x5 := (A.old 5 rfl).trans x5
  have x14 : f8.eval (.tmp 14) = .agg ((y).map V).toArray := A.has 0 14 rfl
  have lt_m4 := Ob.lt m4
  replace m4 := Ob.below m4 hb
  have lt_m5 := Ob.lt m5
  replace m5 := Ob.below m5 hb
  replace hD := (hb.block _ (Array.getElem?_eq_some_iff.1 hD).1).trans hD
  replace bl := (bl.trans (Below.mono hb bl.size))
  replace sz := A.size.trans sz
  replace df := A.defs.trans df
  clear A hb
  refine wl_store rfl (.tmp 4) (.tmp 14) rfl rfl (g4) (y) (hz) x4 x14 m4 hz_len hy ?_
  replace hD := def_setRow hD m4 ((y).map V : List Value).toArray
  replace m4 : Ob (w8.setRow g4 ((y).map V : List Value).toArray) (g4) 33 ((y).map V) := Ob.setRow m4 ((y).map V)
  replace m5 : Ob (w8.setRow g4 ((y).map V : List Value).toArray) (g5) 33 ((y).map V) := Ob.setRow_other m5 _ nm4_5.symm
  replace bl : Below w.heap.size w (w8.setRow g4 ((y).map V : List Value).toArray) := bl.trans (below_setRow _ _ _ _ hw4)
  generalize w8.setRow g4 ((y).map V : List Value).toArray = w9b at bl m4 m5 hD ⊢
  refine wpList_nil ?_
  clear x14
  show Code.wp _ _ _ _ _
  refine wp_ret ?_
  repeat (first | with_reducible refine then_ret ?_ | with_reducible refine block_ret ?_)
  show LeavesInM _ _ _ _ _ _ _ _ _
  rw [df]
  have hDn := def_ne hD m4
  refine ⟨by simp, .inl ⟨_, _, rfl, run_takeDeferred hD, ?_⟩⟩
  exact ⟨_, ret_hash rfl f8 _ g4 (y) hy x4 (ob_put _ m4 hDn), rfl, bl.trans (below_put _ (by omega) (Array.getElem?_eq_some_iff.1 hD).1)⟩
theorem fk_joined {P : List (List (BitVec 8))} (hl : P.length ≤ 1000) {w : World} {v : Value} (hv : (Fk.hs P).f v w) (hK : Tab w) {y0 y : List (BitVec 8)} (hy0 : y0.length = 32) (ey : Box (gw P y0 P.length = y)) :
    Calls Tryd.prog 27 #[v, .agg ((y0).map V).toArray] w fun e w' => ∃ u, e = .returned u ∧ (Fk.eq (.agg ((y).map V).toArray)).f u w' ∧ Below w.heap.size w w' := by
  have hv2 := hv
  obtain ⟨A, C, lb, lo, rfl, _⟩ := hv
  exact fk_of (joined_any hl w hv2 hK hy0 ey)
end Go.Proofs.YtnppjlpnfijobaaDoor
namespace Go.Proofs.YtnppjlpnfijobaaDoor
set_option maxRecDepth 100000
open Go.RowKit
/-- An own slice whose block is named. -/
def Fk.ok (b : Option Nat) (P : List (List (BitVec 8))) : Fk := .inr (.inl ⟨fun v w => v.ownBlock = b ∧ (Fk.ow 0 P).f v w, by
  rintro v w w' ⟨h, ho⟩ hb
  exact ⟨h, Fk.mono _ _ _ _ ho hb⟩⟩)
theorem st_cutK {Q : Exit → Act → World → Prop} {o : Oper} {a : Act} {w : World} (x y : Operand) (ho : o.op = .slice 22 x none (some y) none) {b : Option Nat} {hs : List (List (BitVec 8))} (h : (Fk.ok b hs).f (a.eval x) w) (n : Nat) (hy : a.eval y = .int .i64 (n : Int)) (hn : n ≤ hs.length) : o.wp Tryd.prog a w (Ends a o.dst w (Fk.ok b (hs.take n)).f) Q := by
  obtain ⟨hb, h⟩ := h
  have h0 := h
  obtain ⟨A, C, lb, lo, e, hc, hl⟩ := ow_hc h
  rw [e] at h0 hb
  have h3 := ow_take h0 n hn
  refine st_pure (v := sliced A 0 n C 32) ?_ ?_
  · have h1 := run_slice_h (P := Tryd.prog) (w := w) 22 A hs.length C (by rw [Tryd.elem22]; exact Tryd.under22') .i64 (n : Int) (by omega) (by omega)
    rw [Tryd.elem22, Tryd.sizeOf33] at h1
    simp only [Result.andThen_ok, Int.toNat_natCast] at h1
    have h2 := run_sliceAt_slice (P := Tryd.prog) (w := w) 22 (.slice A hs.length C) none (some (.int .i64 (n : Int))) none (by rw [Tryd.elem22]; exact Tryd.under22')
    unfold execOp
    rw [ho]
    simp [e, hy, h2, h1]
  · have : sliced A 0 n C 32 = .slice A n C := by
      unfold sliced
      by_cases h0 : C = 0
      · simp [h0]
      · cases A with
        | none => simp
        | some p => simp [Addr.add]
    rw [this]
    refine ⟨?_, h3⟩
    rw [← hb]
    cases A <;> rfl
theorem HR.row3 {w : World} {g k n : Nat} {P : List (List (BitVec 8))} (h : HR w g k n P) : ∃ v b, Ob w g 51 [.int .i64 ((n : Nat) : Int), v] ∧ (Fk.ok b P).f v w ∧ ((b = none ∧ k = g) ∨ (b = some k ∧ k ≠ g)) := by
  obtain ⟨_, _, h32, v, hob, h | ⟨cap, cur, e, hkg, hk, hc, hm, hs, ht⟩⟩ := h
  · obtain ⟨rfl, rfl, hk⟩ := h
    exact ⟨_, none, hob, ⟨rfl, ow_nil _ _⟩, .inl ⟨rfl, hk⟩⟩
  · have hfl := flat_len32 P (fun i x hx => h32 x (List.mem_of_getElem? hx))
    exact ⟨v, some k, hob, ⟨by rw [e]; rfl, ⟨by rw [List.length_map, hfl], .inr ⟨k, cap, cur, e, Nat.zero_le _, hk, hc, hm, hs, ht⟩⟩, fun i x hx => h32 x (List.mem_of_getElem? hx)⟩, .inr ⟨rfl, hkg⟩⟩
theorem hr_make3 {w : World} {g k n : Nat} {P : List (List (BitVec 8))} {v : Value} (hn : n ≤ 1048576) (hP : P.length = pcn n) (m : Ob w g 51 [.int .i64 ((n : Nat) : Int), v]) (ho : (Fk.ow 0 P).f v w) (hb : v.ownBlock = some k) : HR w g k n P := by
  obtain ⟨⟨_, h2⟩, h32⟩ := ho
  have h32' : ∀ x ∈ P, x.length = 32 := fun x hx => by
    obtain ⟨i, hi⟩ := List.getElem?_of_mem hx
    exact h32 i x hi
  rcases h2 with ⟨rfl, h0⟩ | ⟨k', cap, cur, rfl, hk, hg, h3, h4, h5, h6⟩
  · cases hb
  · obtain rfl : k' = k := Option.some.inj hb
    refine ⟨hn, hP, h32', _, m, .inr ⟨cap, cur, rfl, ?_, hg, h3, h4, h5, h6⟩⟩
    intro e
    rw [e] at hg
    unfold Ob at m
    rw [m] at hg
    cases hg
theorem Ob.grown {w w' : World} {b : Nat} {T : TypeId} {cs : List Value} {r : Option Nat} (h : Ob w b T cs) (hg : w.grownBy w' r) (hne : some b ≠ r) : Ob w' b T cs := by
  have := hg.block b (Ob.lt h) hne
  unfold Ob at *
  rw [this]
  exact h
theorem ow_only {w w' : World} {base g : Nat} {P : List (List (BitVec 8))} {v : Value} (h : (Fk.ow base P).f v w) (O : Only g w w') (hne : v.ownBlock ≠ some g) : (Fk.ow base P).f v w' := by
  obtain ⟨⟨h1, h2⟩, h3⟩ := h
  refine ⟨⟨h1, ?_⟩, h3⟩
  rcases h2 with h2 | ⟨k, cap, cur, e, hb, hk, r⟩
  · exact .inl h2
  · exact .inr ⟨k, cap, cur, e, hb, by rw [O.block k (Array.getElem?_eq_some_iff.1 hk).1 (fun e2 => hne (by rw [e, e2]; rfl))]; exact hk, r⟩
theorem ow_some {w : World} {base : Nat} {P : List (List (BitVec 8))} {v : Value} (h : (Fk.ow base P).f v w) (hp : 0 < P.length) : ∃ k, v.ownBlock = some k := by
  obtain ⟨⟨_, h2⟩, _⟩ := h
  rcases h2 with ⟨_, h0⟩ | ⟨k, cap, cur, rfl, _⟩
  · omega
  · exact ⟨k, rfl⟩
theorem gw_drop (P : List (List (BitVec 8))) (y : List (BitVec 8)) {t : Nat} (ht : t ≤ P.length) (j : Nat) : j ≤ t → gw (P.drop (P.length - t)) y j = gw P y j := by
  induction j with
  | zero => intro _; rfl
  | succ j ih =>
    intro hj
    show nd ((P.drop (P.length - t)).getD ((P.drop (P.length - t)).length - j - 1) []) (gw (P.drop (P.length - t)) y j) = nd (P.getD (P.length - j - 1) []) (gw P y j)
    rw [ih (by omega), List.getD_eq_getElem?_getD, List.getD_eq_getElem?_getD, List.getElem?_drop, List.length_drop, show P.length - t + (P.length - (P.length - t) - j - 1) = P.length - j - 1 by omega]
set_option maxHeartbeats 1000000 in
theorem grow_any {w : World} {g k n : Nat} {P : List (List (BitVec 8))} (hr : HR w g k n P) {y : List (BitVec 8)} (hy : y.length = 32) (hn1 : n + 1 ≤ 1048576) (hK : Tab w) (hg2 : 2 < g) :
    Calls Tryd.prog 23 #[.pointer (some ⟨g, 0, none⟩), .agg ((y).map V).toArray] w fun e w' => e = .returned (.tuple #[]) ∧ (∃ k', HR w' g k' (n + 1) (gr1 (n, P) y).2 ∧ (k' = k ∨ w.heap.size ≤ k')) ∧ Kp g k w w' := by
  obtain ⟨v, bk, m0, hok, hbk⟩ := hr.row3
  have hl21 := hr.len
  have htl := tro_le n
  have hPn := hr.pcn
  have hgb : some g ≠ bk := by
    rcases hbk with ⟨e, _⟩ | ⟨e, e2⟩
    · rw [e]; simp
    · rw [e]; exact fun e3 => e2 (Option.some.inj e3).symm
  have hokF : ∀ {W : World}, Only g w W → (Fk.ok bk P).f v W := fun h => ⟨hok.1, ow_only hok.2 h (by rw [hok.1]; exact fun e => hgb e.symm)⟩
  have hvF : ∀ {W : World}, Only g w W → (Fk.hc P).f v W := fun h => ow_hc (hokF h).2
  have hvsF : ∀ {W : World}, Only g w W → (Fk.hs P).f v W := fun h => ow_hs (hokF h).2
  have hKo : ∀ {W : World}, Only g w W → Tab W := fun h => tab_kp hK (k := g) ⟨hg2, hg2⟩ ⟨h.os, h.tape, h.output, h.size, fun j hj h1 _ => h.block j hj h1⟩
  go_enter Tryd.func23, Tryd.ntmps23
  refine code_both (fun f w1 => f.tmps.size = 43 ∧ f.defers = [] ∧ f.eval (.tmp 0) = .pointer (some ⟨g, 0, none⟩) ∧ f.eval (.tmp 1) = .agg ((y).map V).toArray ∧ Ob w1 (g) 51 ([.int .i64 ((n : Nat) : Int), v]) ∧ Only g w (w1)) ⟨rfl, rfl, rfl, rfl, m0, Only.refl _ _⟩ ?_
  clear m0
  rintro f0 w0 ⟨sz, df, x0, x1, m0, bl⟩
  have bl0 := bl
  refine wp_seq ?_
  refine wp_all_seq [.nw w0.heap.size 33 ((y).map V)] (by kernel_rfl) (by kernel_rfl) (by rw [sz]; kernel_rfl) (by kernel_rfl) ⟨fun hw ac u K => ?_, trivial⟩ ?_
  · exact st_box 33 (.tmp 1) rfl _ _ (by rw [show _ = _ from ((K.old 1 rfl).trans x1)]; kernel_rfl) K.grow.size
  intro f1 w1 A hb
  replace bl0 := bl
  replace x0 := (A.old 0 rfl).trans x0
  replace x1 := (A.old 1 rfl).trans x1
  have x3 : Fk.f (.nw w0.heap.size 33 ((y).map V)) (f1.eval (.tmp 3)) w1 := A.has 0 3 rfl
  have lt_m0 := Ob.lt m0
  replace m0 := Ob.below m0 hb
  replace bl := (only_below bl (Below.mono hb bl.size))
  replace sz := A.size.trans sz
  replace df := A.defs.trans df
  clear A hb
  clear x1
  obtain ⟨g3, hg3, e3, m3⟩ := x3
  have x3 := e3
  clear e3
  have nm0_3 : g ≠ g3 := Nat.ne_of_lt (Nat.lt_of_lt_of_le lt_m0 hg3)
  have hw3 : w.heap.size ≤ g3 := Nat.le_trans bl0.size hg3
  show Code.wp _ _ _ _ _
  refine wp_seq ?_
  refine wp_region_seq [.eq (.pointer (some ⟨g, 0, none⟩)), .eq (.pointer (some ⟨g, 0, none⟩)), .eq (.pointer (some ⟨g, 0, none⟩)), .eq (.int .i64 ((n : Nat) : Int)), .eq (.int .i64 ((n + 1 : Nat) : Int)), .eq (.pointer (some ⟨g, 0, none⟩)), .eq (.pointer (some ⟨g, 0, none⟩))] (by kernel_rfl) (by kernel_rfl) (by rw [sz]; kernel_rfl) (by kernel_rfl) ⟨fun hw ac u K => ?_, fun hw ac u K => ?_, fun hw ac u K => ?_, fun hw ac u K => ?_, fun hw ac u K => ?_, fun hw ac u K => ?_, fun hw ac u K => ?_, trivial⟩ ?_
  · exact st_move (.tmp 0) rfl ((K.old 0 rfl).trans x0)
  · exact st_nil (.tmp 5) rfl (K.dep 0 5 rfl)
  · exact st_field 51 0 (.tmp 6) rfl (K.dep 1 6 rfl) (by kernel_rfl)
  · exact st_loadc 3 (.tmp 7) rfl (by kernel_rfl) (K.dep 2 7 rfl) (Ob.cell (Ob.below m0 K.grow) 0 rfl)
  · exact st_addz (.tmp 8) (.const (.int .i64 1)) rfl _ _ _ (K.dep 3 8 rfl) rfl (by omega) (by omega) (by omega)
  · exact st_nil (.tmp 5) rfl (K.dep 0 5 rfl)
  · exact st_field 51 0 (.tmp 10) rfl (K.dep 5 10 rfl) (by kernel_rfl)
  intro f2 w2 A hb
  replace bl0 := bl
  replace x0 := (A.old 0 rfl).trans x0
  replace x3 := (A.old 3 rfl).trans x3
  have x9 : f2.eval (.tmp 9) = .int .i64 ((n + 1 : Nat) : Int) := A.has 4 9 rfl
  have x11 : f2.eval (.tmp 11) = .pointer (some ⟨g, 0, none⟩) := A.has 6 11 rfl
  have lt_m0 := Ob.lt m0
  replace m0 := Ob.below m0 hb
  have lt_m3 := Ob.lt m3
  replace m3 := Ob.below m3 hb
  replace bl := (only_below bl (Below.mono hb bl.size))
  replace sz := A.size.trans sz
  replace df := A.defs.trans df
  clear A hb
  refine wl_stc 3 rfl (.tmp 11) (.tmp 9) rfl rfl (by kernel_rfl) (g) 0 (.int .i64 ((n + 1 : Nat) : Int)) x11 x9 rfl rfl (Ob.there m0 0 (by simp)) ?_
  replace m0 : Ob (w2.setCell ⟨g, 0, none⟩ (.int .i64 ((n + 1 : Nat) : Int))) (g) 51 ([.int .i64 ((n + 1 : Nat) : Int), v]) := Ob.set m0 0 (.int .i64 ((n + 1 : Nat) : Int))
  replace m3 : Ob (w2.setCell ⟨g, 0, none⟩ (.int .i64 ((n + 1 : Nat) : Int))) (g3) 33 ((y).map V) := Ob.setCell_other m3 _ _ nm0_3.symm
  replace bl : Only g w (w2.setCell ⟨g, 0, none⟩ (.int .i64 ((n + 1 : Nat) : Int))) := bl.setCell _ _
  generalize w2.setCell ⟨g, 0, none⟩ (.int .i64 ((n + 1 : Nat) : Int)) = w3b at bl m0 m3 ⊢
  refine wpList_nil ?_
  clear x9
  clear x11
  show Code.wp _ _ _ _ _
  refine wp_seq ?_
  refine wp_all [.eq (.pointer (some ⟨g, 0, none⟩)), .eq (.pointer (some ⟨g, 0, none⟩)), .eq (.pointer (some ⟨g, 1, none⟩)), .eq (v), .eq (.int .i64 (((P).length : Nat) : Int)), .eq (.pointer (some ⟨g, 0, none⟩)), .eq (.pointer (some ⟨g, 0, none⟩)), .eq (.pointer (some ⟨g, 0, none⟩)), .eq (.int .i64 ((n + 1 : Nat) : Int)), .eq (.int .u64 ((n + 1 : Nat) : Int)), .eq (.int .i64 ((tro n : Nat) : Int)), .eq (.int .i64 ((P.length - tro n : Nat) : Int)), .eq (.int .i64 ((P.length - tro n : Nat) : Int))] Tryd.mixed (by kernel_rfl) (by kernel_rfl) (by rw [sz]; kernel_rfl) (by kernel_rfl) ⟨fun hw ac u K => ?_, fun hw ac u K => ?_, fun hw ac u K => ?_, fun hw ac u K => ?_, fun hw ac u K => ?_, fun hw ac u K => ?_, fun hw ac u K => ?_, fun hw ac u K => ?_, fun hw ac u K => ?_, fun hw ac u K => ?_, fun hw ac u K => ?_, fun hw ac u K => ?_, fun hw ac u K => ?_, trivial⟩ ?_
  · exact st_move (.tmp 0) rfl ((K.old 0 rfl).trans x0)
  · exact st_nil (.tmp 12) rfl (K.dep 0 12 rfl)
  · exact st_field 51 1 (.tmp 13) rfl (K.dep 1 13 rfl) (by kernel_rfl)
  · exact st_loadc 22 (.tmp 14) rfl (by kernel_rfl) (K.dep 2 14 rfl) (Ob.cell (Ob.below m0 K.grow) 1 rfl)
  · exact st_lenc (.tmp 15) rfl ((P).length) rfl (fk_val (K.dep 3 15 rfl) (hvF (only_below bl (Below.mono K.grow bl.size))))
  · exact st_move (.tmp 0) rfl ((K.old 0 rfl).trans x0)
  · exact st_nil (.tmp 17) rfl (K.dep 5 17 rfl)
  · exact st_field 51 0 (.tmp 18) rfl (K.dep 6 18 rfl) (by kernel_rfl)
  · exact st_loadc 3 (.tmp 19) rfl (by kernel_rfl) (K.dep 7 19 rfl) (Ob.cell (Ob.below m0 K.grow) 0 rfl)
  · exact st_conv 3 72 (.tmp 20) rfl .i64 .u64 _ _ (K.dep 8 20 rfl) Tryd.under3 Tryd.under72 (by rw [IntKind.wrap_u64]; omega)
  · exact st_call 41 (.func 41) _ _ #[.int .u64 ((n + 1 : Nat) : Int)] rfl rfl (one_arg (K.dep 9 21 rfl)) Tryd.enter41 (fk_of (tz_any n (by omega) rfl _ (hKo (only_below bl (Below.mono K.grow bl.size)))))
  · exact st_sub (.tmp 16) (.tmp 22) rfl ((P).length) (tro n) (P.length - tro n) (K.dep 4 16 rfl) (K.dep 10 22 rfl) (by omega) (by omega)
  · exact st_assign (.tmp 23) rfl (K.dep 11 23 rfl)
  intro f4 w4 A hb
  replace bl0 := bl
  replace x0 := (A.old 0 rfl).trans x0
  replace x3 := (A.old 3 rfl).trans x3
  have x4 : f4.eval (.tmp 4) = .int .i64 ((P.length - tro n : Nat) : Int) := A.has 12 4 rfl
  have lt_m0 := Ob.lt m0
  replace m0 := Ob.below m0 hb
  have lt_m3 := Ob.lt m3
  replace m3 := Ob.below m3 hb
  replace bl := (only_below bl (Below.mono hb bl.size))
  replace sz := A.size.trans sz
  replace df := A.defs.trans df
  clear A hb
  show Code.wp _ _ _ _ _
  obtain ⟨Y, eY⟩ : ∃ Y, Box (gw (P.drop (P.length - tro n)) y (P.drop (P.length - tro n)).length = Y) := ⟨_, ⟨rfl⟩⟩
  have hY : Y.length = 32 := by rw [← eY.out]; exact gw_len _ hy _
  have hdl : (P.drop (P.length - tro n)).length = tro n := by rw [List.length_drop]; omega
  have hYg : gw P y (tro n) = Y := by rw [← eY.out, hdl]; exact (gw_drop P y (by omega) _ (Nat.le_refl _)).symm
  refine wp_region_early [.eq (.pointer (some ⟨g, 0, none⟩)), .eq (.pointer (some ⟨g, 0, none⟩)), .eq (.pointer (some ⟨g, 0, none⟩)), .eq (.pointer (some ⟨g, 1, none⟩)), .eq (v), .eq (.int .i64 ((P.length - tro n : Nat) : Int)), .ok bk (P.take (P.length - tro n)), .eq (.pointer (some ⟨g, 0, none⟩)), .eq (.pointer (some ⟨g, 0, none⟩)), .eq (.pointer (some ⟨g, 1, none⟩)), .eq (v), .eq (.int .i64 ((P.length - tro n : Nat) : Int)), .hc (P.drop (P.length - tro n)), .eq (.agg ((y).map V).toArray), .eq (.agg ((Y).map V).toArray), .hs ([Y])] 0 24 _ [16, 17, 18, 19] Tryd.mixed (by kernel_rfl) (by kernel_rfl) (by kernel_rfl) (by kernel_rfl) rfl rfl (by kernel_rfl) rfl (by kernel_rfl) (by kernel_rfl) (by kernel_rfl) (by kernel_rfl) (fun _ _ _ h => h) (fun w => run_mv (S := fun _ => True) rfl x0 w trivial) (fun _ => rfl) (by rw [sz]; kernel_rfl) (by kernel_rfl) ⟨fun hw ac u K => ?_, fun hw ac u K => ?_, fun hw ac u K => ?_, fun hw ac u K => ?_, fun hw ac u K => ?_, fun hw ac u K => ?_, fun hw ac u K => ?_, fun hw ac u K => ?_, fun hw ac u K => ?_, fun hw ac u K => ?_, fun hw ac u K => ?_, fun hw ac u K => ?_, fun hw ac u K => ?_, fun hw ac u K => ?_, fun hw ac u K => ?_, fun hw ac u K => ?_, trivial⟩ ?_
  · exact st_move (.tmp 0) rfl ((K.old 0 rfl).trans x0)
  · exact st_move (.tmp 0) rfl ((K.old 0 rfl).trans x0)
  · exact st_nil (.tmp 25) rfl (K.dep 1 25 rfl)
  · exact st_field 51 1 (.tmp 26) rfl (K.dep 2 26 rfl) (by kernel_rfl)
  · exact st_loadc 22 (.tmp 27) rfl (by kernel_rfl) (K.dep 3 27 rfl) (Ob.cell (Ob.below m0 K.grow) 1 rfl)
  · exact st_move (.tmp 4) rfl ((K.old 4 rfl).trans x4)
  · exact st_cutK (.tmp 28) (.tmp 29) rfl (fk_val (K.dep 4 28 rfl) (hokF (only_below bl (Below.mono K.grow bl.size)))) (P.length - tro n) (K.dep 5 29 rfl) (by omega)
  · exact st_move (.tmp 0) rfl ((K.old 0 rfl).trans x0)
  · exact st_nil (.tmp 31) rfl (K.dep 7 31 rfl)
  · exact st_field 51 1 (.tmp 32) rfl (K.dep 8 32 rfl) (by kernel_rfl)
  · exact st_loadc 22 (.tmp 33) rfl (by kernel_rfl) (K.dep 9 33 rfl) (Ob.cell (Ob.below m0 K.grow) 1 rfl)
  · exact st_move (.tmp 4) rfl ((K.old 4 rfl).trans x4)
  · exact st_restc (.tmp 34) (.tmp 35) rfl (fk_val (K.dep 10 34 rfl) (hvF (only_below bl (Below.mono K.grow bl.size)))) (P.length - tro n) (K.dep 11 35 rfl) (by omega)
  · exact st_load33 (.tmp 3) rfl (g3) (y) ((K.old 3 rfl).trans x3) hy (Ob.below m3 K.grow)
  · exact st_call 27 (.func 27) _ _ #[ac.eval (.tmp 36), .agg ((y).map V).toArray] rfl rfl (arg2 rfl (K.dep 13 37 rfl)) Tryd.enter27 (fk_joined (by omega) (hc_hs (K.dep 12 36 rfl)) (hKo (only_below bl (Below.mono K.grow bl.size))) hy eY)
  · exact st_bh1 (.tmp 38) rfl hY (K.dep 14 38 rfl)
  intro f5 w5 A hb
  replace bl0 := bl
  replace x0 := (A.old 0 rfl).trans x0
  replace x3 := (A.old 3 rfl).trans x3
  replace x4 := (A.old 4 rfl).trans x4
  have x24 : f5.eval (.tmp 24) = .pointer (some ⟨g, 0, none⟩) := A.has 0 24 rfl
  have x30 : Fk.f (.ok bk (P.take (P.length - tro n))) (f5.eval (.tmp 30)) w5 := A.has 6 30 rfl
  have x39 : Fk.f (.hs ([Y])) (f5.eval (.tmp 39)) w5 := A.has 15 39 rfl
  have lt_m0 := Ob.lt m0
  replace m0 := Ob.below m0 hb
  have lt_m3 := Ob.lt m3
  replace m3 := Ob.below m3 hb
  replace bl := (only_below bl (Below.mono hb bl.size))
  replace sz := A.size.trans sz
  replace df := A.defs.trans df
  clear A hb
  clear x3
  clear x4
  obtain ⟨v30, e30⟩ : ∃ v, f5.eval (.tmp 30) = v := ⟨_, rfl⟩
  obtain ⟨hb30, h30⟩ := x30
  rw [e30] at hb30 h30
  refine wl_appK rfl (.tmp 30) (.tmp 39) rfl 40 rfl (by rw [sz]; decide) e30 h30 x39 (by rw [List.length_take]; omega) ?_
  intro f6 w6 v40 df2 sz2 old2 e40 h40 hgrA hwh
  clear x39 e30
  replace x0 := (old2 0 rfl).trans x0
  replace x24 := (old2 24 rfl).trans x24
  obtain ⟨A40, C40, _, _, e48, _, _⟩ := ow_hc h40
  subst e48
  have x40 := e40
  clear e40
  have blA := bl
  have m0b := Ob.grown m0 hgrA (by rw [hb30]; exact hgb)
  clear m0 m3
  have m0 := m0b
  clear m0b bl bl0
  have bl := Only.refl g w6
  have bl0 := bl
  replace sz := sz2.trans sz
  replace df := df2.trans df
  clear df2 sz2 old2
  refine wl_one (.eq (.pointer (some ⟨g, 0, none⟩))) rfl 41 rfl (by rw [sz]; decide) (st_nil (.tmp 24) rfl x24) ?_
  intro f7 w7 df2 sz2 old2 new2 hb
  replace bl0 := bl
  replace x0 := (old2 0 rfl).trans x0
  replace x24 := (old2 24 rfl).trans x24
  replace x40 := (old2 40 rfl).trans x40
  have x41 : f7.eval (.tmp 41) = .pointer (some ⟨g, 0, none⟩) := new2
  have lt_m0 := Ob.lt m0
  replace m0 := Ob.below m0 hb
  replace bl := (only_below bl (Below.mono hb bl.size))
  replace sz := sz2.trans sz
  replace df := df2.trans df
  clear df2 sz2 old2 new2 hb
  clear x24
  refine wl_one (.eq (.pointer (some ⟨g, 1, none⟩))) rfl 42 rfl (by rw [sz]; decide) (st_field 51 1 (.tmp 41) rfl x41 (by kernel_rfl)) ?_
  intro f8 w8 df2 sz2 old2 new2 hb
  replace bl0 := bl
  replace x0 := (old2 0 rfl).trans x0
  replace x40 := (old2 40 rfl).trans x40
  replace x41 := (old2 41 rfl).trans x41
  have x42 : f8.eval (.tmp 42) = .pointer (some ⟨g, 1, none⟩) := new2
  have lt_m0 := Ob.lt m0
  replace m0 := Ob.below m0 hb
  replace bl := (only_below bl (Below.mono hb bl.size))
  replace sz := sz2.trans sz
  replace df := df2.trans df
  clear df2 sz2 old2 new2 hb
  clear x41
  refine wl_stc 22 rfl (.tmp 42) (.tmp 40) rfl rfl (by kernel_rfl) (g) 1 (.slice A40 (P.take (P.length - tro n) ++ [Y]).length C40) x42 x40 rfl rfl (Ob.there m0 1 (by simp)) ?_
  replace m0 : Ob (w8.setCell ⟨g, 1, none⟩ (.slice A40 (P.take (P.length - tro n) ++ [Y]).length C40)) (g) 51 ([.int .i64 ((n + 1 : Nat) : Int), .slice A40 (P.take (P.length - tro n) ++ [Y]).length C40]) := Ob.set m0 1 (.slice A40 (P.take (P.length - tro n) ++ [Y]).length C40)
  replace bl : Only g w6 (w8.setCell ⟨g, 1, none⟩ (.slice A40 (P.take (P.length - tro n) ++ [Y]).length C40)) := bl.setCell _ _
  generalize w8.setCell ⟨g, 1, none⟩ (.slice A40 (P.take (P.length - tro n) ++ [Y]).length C40) = w9b at bl m0 ⊢
  refine wpList_nil ?_
  clear x40
  clear x42
  obtain ⟨k2, hk2⟩ := ow_some h40 (by simp)
  have hkk : k2 = k ∨ w.heap.size ≤ k2 := by
    rcases hwh with e | e
    · rw [hb30, hk2] at e
      rcases hbk with ⟨e2, _⟩ | ⟨e2, _⟩
      · rw [e2] at e; cases e
      · rw [e2] at e; exact .inl (Option.some.inj e)
    · rw [hk2] at e
      right
      have := blA.size
      rw [Option.some.inj e]
      exact this
  have hkg : (Value.slice A40 (P.take (P.length - tro n) ++ [Y]).length C40).ownBlock ≠ some g := by
    rcases hwh with e | e
    · rw [e, hb30]; exact fun e2 => hgb e2.symm
    · rw [e]
      intro e2
      have e3 := Option.some.inj e2
      have := blA.size
      have := hr.lt
      omega
  have hF := hr_make3 (by omega) (by rw [gr1_pcn (s := (n, P)) hr.pcn y]; rfl) m0 (P := (gr1 (n, P) y).2) (by rw [show (gr1 (n, P) y).2 = P.take (P.length - tro n) ++ [gw P y (tro n)] from rfl, hYg]; exact ow_only h40 bl hkg) hk2
  refine bodyPost_end (results_none rfl _ _ _) df ⟨rfl, ⟨k2, hF, hkk⟩, bl.os.trans (hgrA.os.trans blA.os), bl.tape.trans (hgrA.tape.trans blA.tape), bl.output.trans (hgrA.output.trans blA.output), Nat.le_trans blA.size (Nat.le_trans hgrA.size bl.size), fun q hq h1 h2 => ?_⟩
  have q1 := blA.size
  have q2 := hgrA.size
  rw [bl.block q (by omega) h1, hgrA.block q (by omega) (by rw [hb30]; rcases hbk with ⟨e2, _⟩ | ⟨e2, _⟩ <;> rw [e2] <;> simp [h2]), blA.block q hq h1]
end Go.Proofs.YtnppjlpnfijobaaDoor
