/- Steps of a drawn region: what an operation needs, and what is told of its slot behind it. -/
import Derived.Test.YtfhhlkbcoofemaaDoorPv
import Derived.Test.YtfhhlkbcoofemaaDoorTc
import Derived.Test.YtfhhlkbcoofemaaDoorPp
namespace Go.Proofs.YtfhhlkbcoofemaaDoor
open Go.RowKit
/-- What is told of a slot: its value; something that stays true while the memory grows; or nothing. -/
abbrev Fk : Type := Value ⊕ ({ p : Value → World → Prop // ∀ v w w', p v w → Below w.heap.size w w' → p v w' } ⊕ Unit)
def Fk.eq (x : Value) : Fk := .inl x
def Fk.sl (bs : List (BitVec 8)) : Fk := .inr (.inl ⟨fun v w => ∃ sp m c b o, v = .slice sp m c ∧ Sl w sp m c bs b o, fun _ _ _ ⟨sp, m, c, b, o, e, h⟩ hb => ⟨sp, m, c, b, o, e, h.below hb (fun hm => (h.src hm).2.1)⟩⟩)
def Fk.ls (n : Nat) (bs : List (BitVec 8)) : Fk := .inr (.inl ⟨fun v w => ∃ A C lb lo ps, v = .slice A n C ∧ (0 < n → A = some ⟨lb, lo, none⟩) ∧ n = ps.length ∧ Ls w lb lo ps ∧ cat ps = bs, by
  rintro v w w' ⟨A, C, lb, lo, ps, e, h1, h2, h3, h4⟩ hb
  exact ⟨A, C, lb, lo, ps, e, h1, h2, h3.below hb, h4⟩⟩)
def Fk.any : Fk := .inr (.inr ())
def Fk.f : Fk → Value → World → Prop
  | .inl x, v, _ => v = x
  | .inr (.inl p), v, w => p.1 v w
  | .inr (.inr _), _, _ => True
theorem Fk.mono : ∀ (q : Fk) (v : Value) (w w' : World), Fk.f q v w → Below w.heap.size w w' → Fk.f q v w'
  | .inl _, _, _, _, h, _ => h
  | .inr (.inl p), v, w, w', h, hb => p.2 v w w' h hb
  | .inr (.inr _), _, _, _, _, _ => trivial
def Fk.isBool (b : Bool) : Fk → Bool
  | .inl (.bool c) => b == c
  | _ => false
theorem Fk.isBool_eq {b : Bool} {q : Fk} (h : Fk.isBool b q = true) : q = Fk.eq (.bool b) := by
  unfold Fk.isBool at h
  split at h
  · have := eq_of_beq h
    rw [this]; rfl
  · cases h
theorem Fk.isBool_spec {b : Bool} {q : Fk} (h : Fk.isBool b q = true) : ∀ v w, Fk.f q v w → v = .bool b := by
  have e := Fk.isBool_eq h
  subst e
  exact fun v w hf => hf
theorem Fk.isBool_self {b : Bool} {q : Fk} (h : Fk.isBool b q = true) (w : World) : Fk.f q (.bool b) w := by
  have e := Fk.isBool_eq h
  subst e
  exact rfl
def Fk.isAny : Fk → Bool
  | .inr (.inr _) => true
  | _ => false
theorem Fk.isAny_spec : ∀ {q : Fk}, Fk.isAny q = true → ∀ v w, Fk.f q v w
  | .inl _, h, _, _ => by simp [Fk.isAny] at h
  | .inr (.inl _), h, _, _ => by simp [Fk.isAny] at h
  | .inr (.inr _), _, _, _ => trivial
/-- Is the operation wanted, by what is told of its guard? -/
def wantedBy (qs : List Fk) (o : Oper) : Bool := match o.guard with
  | none => true
  | some (j, b) => (qs.getD j .any).isBool b
/-- Number j's. -/
def fkAt (qs : List Fk) (j : Nat) : Value → World → Prop := (qs.getD j .any).f
/-- Each operation that is guarded is wanted, by what is told of its guard. -/
def guardsOk (ops : List Oper) (k : Nat) (qs : List Fk) : List Oper → List Fk → Bool
  | o :: os, q :: r => (match o.guard with
    | none => true
    | some (j, b) => depOk ops k o j ((((ops[j]?).bind (·.dst))).getD 0) && ((qs.getD j .any).isBool b || ((qs.getD j .any).isBool (!b) && q.isAny))) && guardsOk ops k qs os r
  | _, _ => true
/-- Each operation by itself. -/
def Steps (P : Program) (Q : Exit → Act → World → Prop) (ops : List Oper) (k : Nat) (all : List Fk) (a0 : Act) (w0 : World) : List Oper → List Fk → Prop
  | o :: os, q :: qs => (wantedBy all o = true → ∀ a w, Known ops k (fkAt all) a0 w0 o a w → o.wp P a w (Ends a o.dst w q.f) Q) ∧ Steps P Q ops k all a0 w0 os qs
  | _, _ => True
theorem Steps.get {P : Program} {Q : Exit → Act → World → Prop} {ops : List Oper} {k : Nat} {all : List Fk} {a0 : Act} {w0 : World} : ∀ {l : List Oper} {qs : List Fk}, Steps P Q ops k all a0 w0 l qs → ∀ (i : Nat) (o : Oper), i < qs.length → l[i]? = some o → wantedBy all o = true →
    ∀ a w, Known ops k (fkAt all) a0 w0 o a w → o.wp P a w (Ends a o.dst w (fkAt qs i)) Q
  | [], _, _, i, o, _, h => by simp at h
  | _ :: _, [], _, i, o, h, _ => by simp at h
  | q :: l, f :: qs, h, 0, o, _, hi => by
    obtain rfl : q = o := by simpa using hi
    exact h.1
  | q :: l, f :: qs, h, i + 1, o, hl, hi => by
    have := Steps.get h.2 i o (by simpa using hl) (by simpa using hi)
    simpa [fkAt] using this
theorem guardsOk_spec {ops : List Oper} {k : Nat} {qs : List Fk} : ∀ {l : List Oper} {r : List Fk}, guardsOk ops k qs l r = true → ∀ (i : Nat) (o : Oper) (j : Nat) (b : Bool), i < r.length → l[i]? = some o → o.guard = some (j, b) → (∃ d, depOk ops k o j d = true) ∧ ((qs.getD j .any).isBool b = true ∨ ((qs.getD j .any).isBool (!b) = true ∧ (r.getD i .any).isAny = true))
  | [], _, _, i, o, _, _, _, h, _ => by simp at h
  | _ :: _, [], _, i, o, _, _, h, _, _ => by simp at h
  | q :: l, f :: r, h, 0, o, j, b, _, hi, hg => by
    obtain rfl : q = o := by simpa using hi
    unfold guardsOk at h
    rw [Bool.and_eq_true, hg] at h
    have h1 := h.1
    simp only [Bool.and_eq_true, Bool.or_eq_true] at h1
    exact ⟨⟨_, h1.1⟩, h1.2⟩
  | q :: l, f :: r, h, i + 1, o, j, b, hl, hi, hg => by
    unfold guardsOk at h
    rw [Bool.and_eq_true] at h
    have := guardsOk_spec h.2 i o j b (by simpa using hl) (by simpa using hi) hg
    simpa using this
/-- The moves of a region, whatever order is picked. -/
theorem wp_any_steps {P : Program} {Q : Exit → Act → World → Prop} {ops : Array Oper} {a0 : Act} {w w1 : World} (qs : List Fk) (hw : Below w.heap.size w w1) (hk : decide (qs.length ≤ ops.size) = true) (hE : edgesOk ops.toList qs.length = true)
    (hD : dstsOk a0.tmps.size (ops.toList.take qs.length) = true) (hG : guardsOk ops.toList qs.length qs ops.toList qs = true)
    (hS : Steps P Q ops.toList qs.length qs a0 w ops.toList qs)
    (hF : ∀ vs w', (∀ i, i < qs.length → fkAt qs i (vs i) w') → Below w.heap.size w w' → wpList P ops Q (ops.toList.drop qs.length) (putAll vs 0 (ops.toList.take qs.length) a0) w') :
    wpAny P .any ops Q ops.size (Array.replicate ops.size false) a0 w1 := by
  have hk' : qs.length ≤ ops.size := of_decide_eq_true hk
  refine wp_mids (φ := fkAt qs) (k := qs.length) (a0 := a0) (w0 := w) hk' hE hD ?_ (fun i => Fk.mono _) ?_ hF ops.size _ a0 _ ?_ ?_
  · intro i o j b hi ho hg
    obtain ⟨h1, h2⟩ := guardsOk_spec hG i o j b hi (by rw [Array.getElem?_toList]; exact ho) hg
    refine ⟨h1, h2.imp (fun h => Fk.isBool_spec h) (fun h => ⟨Fk.isBool_spec h.1, fun v w => Fk.isAny_spec h.2 v w⟩)⟩
  · intro i o hi ho hb
    refine hS.get i o hi (by rw [Array.getElem?_toList]; exact ho) ?_
    unfold wantedBy
    cases hg : o.guard with
    | none => rfl
    | some jb =>
      obtain ⟨j, b⟩ := jb
      obtain ⟨_, h2⟩ := guardsOk_spec hG i o j b hi (by rw [Array.getElem?_toList]; exact ho) hg
      rcases h2 with h2 | h2
      · exact h2
      · exfalso
        have h3 := hb j b hg
        have hv := h3 _ _ (Fk.isBool_self h2.1 w)
        cases b <;> simp at hv
  · unfold unl
    exact Nat.le_trans (Array.countP_le_size) (by simp)
  · refine ⟨rfl, rfl, by simp, fun _ _ => rfl, fun i o d _ ho _ hl => ?_, fun i _ hi => ?_, hw⟩
    · have : i < ops.size := (Array.getElem?_eq_some_iff.1 ho).1
      simp [this] at hl
    · simp [hi]
/-- What is told of the frame behind a drawn region. -/
structure Final (ops : List Oper) (qs : List Fk) (a0 af : Act) (w : World) : Prop where
  defs : af.defers = a0.defers
  size : af.tmps.size = a0.tmps.size
  old : ∀ t, freeOf (ops.take qs.length) t = true → af.eval (.tmp t) = a0.eval (.tmp t)
  has : ∀ i d, (decide (i < qs.length) && (((ops[i]?).bind (·.dst)) == some d)) = true → fkAt qs i (af.eval (.tmp d)) w
theorem wp_any_end {P : Program} {Q : Exit → Act → World → Prop} {ops : Array Oper} {a0 : Act} {w w1 : World} (qs : List Fk) (hw : Below w.heap.size w w1) (hk : decide (qs.length ≤ ops.size) = true) (hE : edgesOk ops.toList qs.length = true)
    (hD : dstsOk a0.tmps.size (ops.toList.take qs.length) = true) (hG : guardsOk ops.toList qs.length qs ops.toList qs = true)
    (hS : Steps P Q ops.toList qs.length qs a0 w ops.toList qs)
    (hF : ∀ af w', Final ops.toList qs a0 af w' → Below w.heap.size w w' → wpList P ops Q (ops.toList.drop qs.length) af w') :
    wpAny P .any ops Q ops.size (Array.replicate ops.size false) a0 w1 := by
  refine wp_any_steps qs hw hk hE hD hG hS ?_
  intro vs w' hφ hb
  refine hF _ _ ⟨putAll_def _ _ _ _, putAll_size _ _ _ _, fun t ht => eval_of_get (putAll_other vs t _ _ _ (fun j o hj => freeOf_spec ht hj)), fun i d h => ?_⟩ hb
  simp only [Bool.and_eq_true, decide_eq_true_eq, beq_iff_eq] at h
  obtain ⟨hi, hd⟩ := h
  cases ho : ops.toList[i]? with
  | none => rw [ho] at hd; simp at hd
  | some o =>
    rw [ho] at hd
    have hd' : o.dst = some d := by simpa using hd
    have ht : (ops.toList.take qs.length)[i]? = some o := by rw [List.getElem?_take, if_pos hi]; exact ho
    obtain ⟨d2, hd2, hlt, hall⟩ := dstsOk_spec hD i o ht
    obtain rfl : d = d2 := Option.some.inj (hd'.symm.trans hd2)
    have := putAll_at vs d _ 0 a0 i o ht hd' hlt hall
    rw [Nat.zero_add] at this
    have e : (putAll vs 0 (ops.toList.take qs.length) a0).eval (.tmp d) = vs i := by simp [Act.eval, this]
    rw [e]
    exact hφ i hi
/-- A drawn region, whatever order is picked; of the frame behind it what is known alone. -/
theorem wp_region_end {P : Program} {Q : Exit → Act → World → Prop} {ops : Array Oper} {id : Nat} {a0 : Act} {w : World} (qs : List Fk) (hm : P.follows .mixedOrders = true) (hk : decide (qs.length ≤ ops.size) = true) (hE : edgesOk ops.toList qs.length = true)
    (hD : dstsOk a0.tmps.size (ops.toList.take qs.length) = true) (hG : guardsOk ops.toList qs.length qs ops.toList qs = true)
    (hS : Steps P Q ops.toList qs.length qs a0 w ops.toList qs)
    (hF : ∀ af w', Final ops.toList qs a0 af w' → Below w.heap.size w w' → wpList P ops Q (ops.toList.drop qs.length) af w') :
    (Code.region id ops true).wp P Q a0 w :=
  wp_region_any hm (wp_any_end qs (Below.refl _ _).drew hk hE hD hG hS hF)
/-- A region in the text's order, likewise. -/
theorem wp_region_text {P : Program} {Q : Exit → Act → World → Prop} {ops : Array Oper} {id : Nat} {a0 : Act} {w : World} (qs : List Fk) (hl : Region.linearise .any ops 0 = List.range ops.size) (hk : decide (qs.length ≤ ops.size) = true) (hE : edgesOk ops.toList qs.length = true)
    (hD : dstsOk a0.tmps.size (ops.toList.take qs.length) = true) (hG : guardsOk ops.toList qs.length qs ops.toList qs = true)
    (hS : Steps P Q ops.toList qs.length qs a0 w ops.toList qs)
    (hF : ∀ af w', Final ops.toList qs a0 af w' → Below w.heap.size w w' → wpList P ops Q (ops.toList.drop qs.length) af w') :
    (Code.region id ops false).wp P Q a0 w := by
  refine wp_region ?_
  rw [← hl]
  exact wpAny_sound ops.size 0 _ a0 w (wp_any_end qs (Below.refl _ _) hk hE hD hG hS hF)
/-- Each waits for ones ahead of it alone. -/
def backOk (ops : List Oper) : Bool := (List.range ops.length).all (fun i => ((ops[i]?).map fun o => o.after.toList.all fun e => !Region.binds .any e || decide (e.on < i)).getD true)
/-- The state in a region in the text's order, i operations done. -/
structure Sq (ops : Array Oper) (qs : List Fk) (a0 : Act) (w0 : World) (i : Nat) (a : Act) (w : World) : Prop where
  size : a.tmps.size = a0.tmps.size
  defs : a.defers = a0.defers
  old : ∀ t, freeOf (ops.toList.take qs.length) t = true → a.tmps[t]? = a0.tmps[t]?
  has : ∀ (j : Nat) (o : Oper) (d : Nat), j < i → ops[j]? = some o → o.dst = some d → fkAt qs j (a.eval (.tmp d)) w
  grow : Below w0.heap.size w0 w
theorem wp_list_seq {P : Program} {Q : Exit → Act → World → Prop} {ops : Array Oper} {a0 : Act} {w0 : World} (qs : List Fk) (hk : qs.length ≤ ops.size) (hE : backOk ops.toList = true)
    (hD : dstsOk a0.tmps.size (ops.toList.take qs.length) = true) (hG : guardsOk ops.toList qs.length qs ops.toList qs = true)
    (hS : Steps P Q ops.toList qs.length qs a0 w0 ops.toList qs)
    (hF : ∀ af w', Final ops.toList qs a0 af w' → Below w0.heap.size w0 w' → wpList P ops Q (ops.toList.drop qs.length) af w') :
    ∀ (m i : Nat) (a : Act) (w : World), i + m = qs.length → Sq ops qs a0 w0 i a w → wpList P ops Q (ops.toList.drop i) a w := by
  intro m
  induction m with
  | zero =>
    intro i a w hi hm
    obtain rfl : i = qs.length := by omega
    refine hF a w ⟨hm.defs, hm.size, fun t ht => eval_of_get (hm.old t ht), fun j d h => ?_⟩ hm.grow
    simp only [Bool.and_eq_true, decide_eq_true_eq, beq_iff_eq] at h
    obtain ⟨hj, hd⟩ := h
    cases ho : ops.toList[j]? with
    | none => rw [ho] at hd; simp at hd
    | some o =>
      rw [ho] at hd
      exact hm.has j o d hj (by rw [← Array.getElem?_toList]; exact ho) (by simpa using hd)
  | succ m ih =>
    intro i a w hi hm
    have hik : i < qs.length := by omega
    have hio : i < ops.size := by omega
    have hdrop : ops.toList.drop i = ops[i] :: ops.toList.drop (i + 1) := by
      rw [List.drop_eq_getElem_cons (by simpa using hio)]
      simp
    have ho : ops[i]? = some ops[i] := Array.getElem?_eq_getElem hio
    generalize ops[i] = o at hdrop ho
    have hto : (ops.toList.take qs.length)[i]? = some o := by rw [List.getElem?_take, if_pos hik, Array.getElem?_toList]; exact ho
    obtain ⟨d, hd, hlt, hall⟩ := dstsOk_spec hD i o hto
    have hK : Known ops.toList qs.length (fkAt qs) a0 w0 o a w := by
      refine ⟨fun t ht => eval_of_get (hm.old t ht), fun j d hj => ?_, hm.grow⟩
      unfold depOk at hj
      simp only [Bool.and_eq_true, decide_eq_true_eq, beq_iff_eq, Array.getElem?_toList] at hj
      obtain ⟨⟨hjk, hany⟩, hd⟩ := hj
      obtain ⟨e, he, hb⟩ := List.any_eq_true.1 hany
      simp only [Bool.and_eq_true, beq_iff_eq] at hb
      have hji : j < i := by
        unfold backOk at hE
        have h1 := List.all_eq_true.1 hE i (by simpa using hio)
        simp only [Array.getElem?_toList, ho, Option.map_some, Option.getD_some] at h1
        have h2 := List.all_eq_true.1 h1 e he
        rw [hb.1, hb.2] at h2
        simpa using h2
      cases hoj : ops[j]? with
      | none => rw [hoj] at hd; simp at hd
      | some oj =>
        rw [hoj] at hd
        exact hm.has j oj d hji hoj (by simpa using hd)
    have hnext : ∀ v w', Below w.heap.size w w' → fkAt qs i v w' → wpList P ops Q (ops.toList.drop (i + 1)) (a.put o.dst v) w' := by
      intro v w' hb hf
      refine ih (i + 1) _ _ (by omega) ⟨by rw [put_size]; exact hm.size, by rw [put_def]; exact hm.defs, fun t ht => ?_, fun j oj dj hj hoj hdj => ?_, hm.grow.trans (hb.mono hm.grow.size)⟩
      · rw [put_other _ _ _ _ (freeOf_spec ht hto)]; exact hm.old t ht
      · by_cases e : j = i
        · subst e
          obtain rfl : oj = o := Option.some.inj (hoj.symm.trans ho)
          obtain rfl : dj = d := Option.some.inj (hdj.symm.trans hd)
          have hev : (a.put oj.dst v).eval (.tmp dj) = v := by
            have := put_same a dj v (by rw [hm.size]; exact hlt)
            rw [← hd] at this
            simp [Act.eval, this]
          rw [hev]; exact hf
        · have htj : (ops.toList.take qs.length)[j]? = some oj := by rw [List.getElem?_take, if_pos (by omega), Array.getElem?_toList]; exact hoj
          have hne : o.dst ≠ some dj := fun h => by
            have : d = dj := Option.some.inj (hd.symm.trans h)
            exact hall j oj htj e (by rw [this]; exact hdj)
          rw [eval_of_get (put_other a o.dst v dj hne)]
          exact Fk.mono _ _ w w' (hm.has j oj dj (by omega) hoj hdj) hb
    have hyield : ∀ (j : Nat) (b c : Bool), o.guard = some (j, b) → (∃ d, depOk ops.toList qs.length o j d = true) → (∀ v w, fkAt qs j v w → v = .bool c) → yielded ops a.tmps j = some c := by
      rintro j b c hg ⟨d, hd⟩ hbool
      have hv := hbool _ _ (hK.dep j d hd)
      have hd2 : (ops[j]?).bind (·.dst) = some d := by
        unfold depOk at hd
        simp only [Bool.and_eq_true, decide_eq_true_eq, beq_iff_eq, Array.getElem?_toList] at hd
        exact hd.2
      have hget : a.tmps[d]? = some (.bool c) := by
        simp only [Act.eval, Array.getD_eq_getD_getElem?] at hv
        cases hq : a.tmps[d]? with
        | none => rw [hq] at hv; simp [undef] at hv
        | some u => rw [hq] at hv; simp at hv; rw [hv]
      unfold yielded
      rw [hd2]
      simp only [Option.bind_some, hget]
    rw [hdrop]
    have hgo : wantedBy qs o = true → Region.wanted o (yielded ops a.tmps) = true → wpList P ops Q (o :: ops.toList.drop (i + 1)) a w := by
      intro hwb hwant
      unfold wpList
      rw [if_pos hwant]
      refine .inl (Oper.wp_mono ?_ (hS.get i o hik (by rw [Array.getElem?_toList]; exact ho) hwb a w hK))
      rintro a' w' ⟨v, rfl, hb, hf⟩
      exact hnext v w' hb hf
    cases hg : o.guard with
    | none => exact hgo (by unfold wantedBy; rw [hg]) (by unfold Region.wanted; rw [hg])
    | some jb =>
      obtain ⟨j, b⟩ := jb
      obtain ⟨hdp, h2⟩ := guardsOk_spec hG i o j b hik (by rw [Array.getElem?_toList]; exact ho) hg
      rcases h2 with h2 | h2
      · refine hgo (by unfold wantedBy; rw [hg]; exact h2) ?_
        unfold Region.wanted
        rw [hg]
        show (yielded ops a.tmps j == some b) = true
        rw [hyield j b b hg hdp (Fk.isBool_spec h2)]; simp
      · have hno : Region.wanted o (yielded ops a.tmps) = false := by
          unfold Region.wanted
          rw [hg]
          show (yielded ops a.tmps j == some b) = false
          rw [hyield j b (!b) hg hdp (Fk.isBool_spec h2.1)]; cases b <;> rfl
        unfold wpList
        rw [if_neg (by rw [hno]; simp)]
        exact hnext undef w (Below.refl _ _) (Fk.isAny_spec h2.2 _ _)
/-- A region in the text's order: its first operations by steps; the rest, whatever it is, behind them. -/
theorem wp_region_seq {P : Program} {Q : Exit → Act → World → Prop} {ops : Array Oper} {id : Nat} {a0 : Act} {w : World} (qs : List Fk) (hk : decide (qs.length ≤ ops.size) = true) (hE : backOk ops.toList = true)
    (hD : dstsOk a0.tmps.size (ops.toList.take qs.length) = true) (hG : guardsOk ops.toList qs.length qs ops.toList qs = true)
    (hS : Steps P Q ops.toList qs.length qs a0 w ops.toList qs)
    (hF : ∀ af w', Final ops.toList qs a0 af w' → Below w.heap.size w w' → wpList P ops Q (ops.toList.drop qs.length) af w') :
    (Code.region id ops false).wp P Q a0 w :=
  wp_region_list (wp_list_seq qs (of_decide_eq_true hk) hE hD hG hS hF qs.length 0 a0 w (by omega) ⟨rfl, rfl, fun _ _ => rfl, fun j _ _ hj => absurd hj (by omega), Below.refl _ _⟩)
theorem end_assign {P : Program} {Q : Exit → Act → World → Prop} {ops : Array Oper} {o : Oper} {a : Act} {w : World} (x : Operand) (ho : o.op = .assign x) (hg : o.guard = none) (h : Q .normal (a.put o.dst (a.eval x)) w) : wpList P ops Q [o] a w := by
  unfold wpList
  rw [if_pos (by unfold Region.wanted; rw [hg])]
  refine .inl ?_
  unfold Oper.wp execOp
  rw [ho]
  exact h
theorem ret_tmp {fn : Func} {t : Tmp} (h : fn.results = #[.tmp t]) (a : Act) (v : Value) (ht : t < a.tmps.size) (P : Program) (w : World) : (results fn (a.put (some t) v).tmps).run P w = .ok v w := by
  rw [results_tmp h]
  simp [Act.put, ht]
section
variable {P : Program} {Q : Exit → Act → World → Prop} {o : Oper} {a : Act} {w : World} {q : Fk}
theorem st_run {v : Value} {w' : World} (hr : (execOp a.eval o).run P w = .ok (.value v) w') (hb : Below w.heap.size w w') (h : q.f v w') : o.wp P a w (Ends a o.dst w q.f) Q := by
  unfold Oper.wp; rw [hr]; exact ⟨v, rfl, hb, h⟩
theorem st_pure {v : Value} (hr : (execOp a.eval o).run P w = .ok (.value v) w) (h : q.f v w) : o.wp P a w (Ends a o.dst w q.f) Q := st_run hr (Below.refl _ _) h
theorem st_move (x : Operand) (ho : o.op = .move x) (h : q.f (a.eval x) w) : o.wp P a w (Ends a o.dst w q.f) Q :=
  st_pure (v := a.eval x) (by unfold execOp; rw [ho]; rfl) h
theorem st_assign (x : Operand) (ho : o.op = .assign x) (h : q.f (a.eval x) w) : o.wp P a w (Ends a o.dst w q.f) Q :=
  st_pure (v := a.eval x) (by unfold execOp; rw [ho]; rfl) h
theorem st_pick_t (c x y : Operand) (ho : o.op = .pick c x y) (hc : a.eval c = .bool true) (h : q.f (a.eval x) w) : o.wp P a w (Ends a o.dst w q.f) Q :=
  st_pure (v := a.eval x) (by unfold execOp; rw [ho]; simp [hc, asBool]) h
theorem st_call (f : FuncId) (x : Operand) (xs : Array Operand) (ts : Array TypeId) (vs : Array Value) (ho : o.op = .call { callee := .value x, args := xs, argTypes := ts }) (hx : a.eval x = .func (.func f) #[] #[]) (hv : (xs.toList.map a.eval).toArray = vs)
    (hf : ∀ args w, (callFunc f args).run P w = .ok (.enter f args) w) (hc : Calls P f vs w fun e w' => ∃ v, e = .returned v ∧ q.f v w' ∧ Below w.heap.size w w') : o.wp P a w (Ends a o.dst w q.f) Q := by
  have hr : (execOp a.eval o).run P w = .ok (.enter f vs) w := by
    have hv' : xs.map a.eval = vs := by rw [← hv]; apply Array.toList_inj.1; simp
    unfold execOp; rw [ho]
    simp [resolve, hx, Deferred.ofValue, invoke, hv', hf]
  unfold Oper.wp; rw [hr]
  refine Calls.mono hc ?_
  rintro e w' ⟨v, rfl, h1, h2⟩
  exact ⟨v, rfl, h2, h1⟩
end
theorem Tryd.noGuard23 (x y : Operand) (a b : Array Value) (w : World) : (eqGuard .eql 23 x y (.agg a) (.agg b)).run Tryd.prog w = .ok () w := by kernel_rfl
section
variable {Q : Exit → Act → World → Prop} {o : Oper} {a : Act} {w : World} {q : Fk}
theorem st_eq23 (x y : Operand) (ho : o.op = .binOp .eql 23 x y 23) (hh : List (BitVec 8)) (hl : hh.length = 32) (hx : a.eval x = .agg (hh.map V).toArray) (hy : a.eval y = .agg (hh.map V).toArray) : o.wp Tryd.prog a w (Ends a o.dst w (Fk.eq (.bool true)).f) Q := by
  refine st_pure (v := .bool true) ?_ rfl
  have h1 := Tryd.noGuard23 x y (hh.map V).toArray (hh.map V).toArray w
  have h2 := run_equal25_same w hh hl
  unfold execOp
  rw [ho]
  simp [hx, hy, h1, binOp, Op.equal, Op.maxDepth, h2]
theorem Tryd.build1 (sp : Option Addr) (m c : Nat) (w : World) : (Instr.buildSlice 46 1 #[(0, .slice sp m c)]).run Tryd.prog w = .ok (.slice (some ⟨w.heap.size, 0, none⟩) 1 1) (w.alloc (.cells #[.slice sp m c] 47)) := by kernel_rfl
theorem Tryd.build2 (sp sp2 : Option Addr) (m c m2 c2 : Nat) (w : World) : (Instr.buildSlice 46 2 #[(0, .slice sp m c), (1, .slice sp2 m2 c2)]).run Tryd.prog w = .ok (.slice (some ⟨w.heap.size, 0, none⟩) 2 2) (w.alloc (.cells #[.slice sp m c, .slice sp2 m2 c2] 47)) := by kernel_rfl
theorem Tryd.build3 (sp sp2 sp3 : Option Addr) (m c m2 c2 m3 c3 : Nat) (w : World) : (Instr.buildSlice 46 3 #[(0, .slice sp m c), (1, .slice sp2 m2 c2), (2, .slice sp3 m3 c3)]).run Tryd.prog w = .ok (.slice (some ⟨w.heap.size, 0, none⟩) 3 3) (w.alloc (.cells #[.slice sp m c, .slice sp2 m2 c2, .slice sp3 m3 c3] 47)) := by kernel_rfl
theorem st_build1 (x : Operand) (ho : o.op = .buildSlice 46 1 #[(0, x)]) {bs : List (BitVec 8)} (h : (Fk.sl bs).f (a.eval x) w) : o.wp Tryd.prog a w (Ends a o.dst w (Fk.ls 1 bs).f) Q := by
  obtain ⟨sp, m, c, b, so, e, hs⟩ := h
  refine st_run (v := .slice (some ⟨w.heap.size, 0, none⟩) 1 1) (w' := w.alloc (.cells #[.slice sp m c] 47)) ?_ ((Below.refl _ _).alloc (Nat.le_refl _) _) ⟨_, _, w.heap.size, 0, [⟨sp, m, c, bs, b, so⟩], rfl, fun _ => rfl, rfl, ls_new w 47 [⟨sp, m, c, bs, b, so⟩] (.cons hs .nil), by simp [cat]⟩
  unfold execOp
  rw [ho]
  simp [e, Tryd.build1]
theorem st_build2 (x y : Operand) (ho : o.op = .buildSlice 46 2 #[(0, x), (1, y)]) {bs bs2 : List (BitVec 8)} (h : (Fk.sl bs).f (a.eval x) w) (h2 : (Fk.sl bs2).f (a.eval y) w) : o.wp Tryd.prog a w (Ends a o.dst w (Fk.ls 2 (bs ++ bs2)).f) Q := by
  obtain ⟨sp, m, c, b, so, e, hs⟩ := h
  obtain ⟨sp2, m2, c2, b2, so2, e2, hs2⟩ := h2
  refine st_run (v := .slice (some ⟨w.heap.size, 0, none⟩) 2 2) (w' := w.alloc (.cells #[.slice sp m c, .slice sp2 m2 c2] 47)) ?_ ((Below.refl _ _).alloc (Nat.le_refl _) _) ⟨_, _, w.heap.size, 0, [⟨sp, m, c, bs, b, so⟩, ⟨sp2, m2, c2, bs2, b2, so2⟩], rfl, fun _ => rfl, rfl, ls_new w 47 [⟨sp, m, c, bs, b, so⟩, ⟨sp2, m2, c2, bs2, b2, so2⟩] (.cons hs (.cons hs2 .nil)), by simp [cat]⟩
  unfold execOp
  rw [ho]
  simp [e, e2, Tryd.build2]
theorem st_build3 (x y z : Operand) (ho : o.op = .buildSlice 46 3 #[(0, x), (1, y), (2, z)]) {bs bs2 bs3 : List (BitVec 8)} (h : (Fk.sl bs).f (a.eval x) w) (h2 : (Fk.sl bs2).f (a.eval y) w) (h3 : (Fk.sl bs3).f (a.eval z) w) : o.wp Tryd.prog a w (Ends a o.dst w (Fk.ls 3 (bs ++ (bs2 ++ bs3))).f) Q := by
  obtain ⟨sp, m, c, b, so, e, hs⟩ := h
  obtain ⟨sp2, m2, c2, b2, so2, e2, hs2⟩ := h2
  obtain ⟨sp3, m3, c3, b3, so3, e3, hs3⟩ := h3
  refine st_run (v := .slice (some ⟨w.heap.size, 0, none⟩) 3 3) (w' := w.alloc (.cells #[.slice sp m c, .slice sp2 m2 c2, .slice sp3 m3 c3] 47)) ?_ ((Below.refl _ _).alloc (Nat.le_refl _) _) ⟨_, _, w.heap.size, 0, [⟨sp, m, c, bs, b, so⟩, ⟨sp2, m2, c2, bs2, b2, so2⟩, ⟨sp3, m3, c3, bs3, b3, so3⟩], rfl, fun _ => rfl, rfl, ls_new w 47 [⟨sp, m, c, bs, b, so⟩, ⟨sp2, m2, c2, bs2, b2, so2⟩, ⟨sp3, m3, c3, bs3, b3, so3⟩] (.cons hs (.cons hs2 (.cons hs3 .nil))), by simp [cat]⟩
  unfold execOp
  rw [ho]
  simp [e, e2, e3, Tryd.build3]
theorem Tryd.len23 : Tryd.prog.arrayLen 23 = 32 := by kernel_rfl
theorem Tryd.elem23 : Tryd.prog.elem 23 = 5 := by kernel_rfl
theorem Tryd.slice23 (b so : Nat) (w : World) : (Instr.sliceAt 23 (.pointer (some ⟨b, so, none⟩)) none none none).run Tryd.prog w = .ok (.slice (some ⟨b, so, none⟩) 32 32) w := by
  rw [run_sliceAt_array_all w 23 ⟨b, so, none⟩ (by rw [Tryd.len23, Tryd.elem23]; exact Tryd.under23), Tryd.len23, Tryd.elem23, Tryd.sizeOf5]
  have hadd : (⟨b, so, none⟩ : Addr).add (0 * 1) = ⟨b, so, none⟩ := by unfold Addr.add; split <;> simp_all
  simp only [Result.andThen, slicedAt]
  rw [if_neg (by omega), hadd]
theorem st_slice23 (x : Operand) (ho : o.op = .slice 23 x none none none) (b so : Nat) (bs : List (BitVec 8)) (hx : a.eval x = .pointer (some ⟨b, so, none⟩)) (hl : bs.length = 32) (hb : b < w.heap.size) (hB : HasB w b so bs) : o.wp Tryd.prog a w (Ends a o.dst w (Fk.sl bs).f) Q := by
  refine st_pure (v := .slice (some ⟨b, so, none⟩) 32 32) ?_ ⟨_, _, _, b, so, rfl, hl.symm, Nat.le_refl _, fun h => by (cases h), fun _ => ⟨rfl, hb, hB⟩⟩
  unfold execOp
  rw [ho]
  simp [hx, Tryd.slice23]
theorem st_load23 (x : Operand) (ho : o.op = .load 23 x) (g : Nat) (xs : List (BitVec 8)) (hx : a.eval x = .pointer (some ⟨g, 0, none⟩)) (hl : xs.length = 32) (hg : HasV w g 23 xs) : o.wp Tryd.prog a w (Ends a o.dst w (Fk.eq (.agg (xs.map V).toArray)).f) Q :=
  wp_load_row 23 x ho g hx 23 (xs.map V).toArray (0, 0) _ hg Tryd.under23 rfl (by rw [List.size_toArray, List.length_map, hl]; exact Tryd.size23) ⟨_, rfl, Below.refl _ _, rfl⟩
end
/-- The bounds and the table that the sums want. -/
structure Tab (w : World) : Prop where
  K : HasK w 0
  pos : 0 < w.heap.size
theorem Tab.below {w w' : World} (h : Tab w) (hb : Below w.heap.size w w') : Tab w' := ⟨h.K.below hb h.pos, Nat.lt_of_lt_of_le h.pos hb.size⟩
theorem fk_input (kind : Int) {n : Nat} {bs : List (BitVec 8)} {v : Value} {w : World} (hT : bs.length ≤ 900000) (hN : n ≤ 1000) (h : (Fk.ls n bs).f v w) :
    Calls Tryd.prog 25 #[.int .i64 kind, v] w fun e w' => ∃ u, e = .returned u ∧ (Fk.sl (kb kind :: bs)).f u w' ∧ Below w.heap.size w w' := by
  obtain ⟨A, C, lb, lo, ps, rfl, hA, rfl, hL, rfl⟩ := h
  refine (input_any kind A C lb lo ps w hA hL hT hN).mono ?_
  rintro e w' ⟨sp, c, g, rfl, hs, _, hb⟩
  exact ⟨_, rfl, ⟨_, _, _, _, _, rfl, hs⟩, hb⟩
theorem fk_tsum (kind : Int) {n : Nat} {bs : List (BitVec 8)} {v : Value} {w : World} (hT : bs.length ≤ 900000) (hN : n ≤ 1000) (hK : Tab w) (h : (Fk.ls n bs).f v w) :
    Calls Tryd.prog 20 #[.int .i64 kind, v] w fun e w' => ∃ u, e = .returned u ∧ (Fk.eq (.agg ((shaOf (kb kind :: bs)).map V).toArray)).f u w' ∧ Below w.heap.size w w' := by
  obtain ⟨A, C, lb, lo, ps, rfl, hA, hn, hL, rfl⟩ := h
  refine (tsum_any kind A n C lb lo ps w hn hA hL hT hN hK.K hK.pos).mono ?_
  rintro e w' ⟨rfl, hb⟩
  exact ⟨_, rfl, rfl, hb⟩
theorem fk_sum {bs : List (BitVec 8)} {v : Value} {w : World} (hT : bs.length ≤ 1000000) (hK : Tab w) (h : (Fk.sl bs).f v w) :
    Calls Tryd.prog 24 #[v] w fun e w' => ∃ u, e = .returned u ∧ (Fk.eq (.agg ((shaOf bs).map V).toArray)).f u w' ∧ Below w.heap.size w w' := by
  obtain ⟨sp, m, c, b, o, rfl, hs⟩ := h
  refine (sum_any b o sp m c bs w hs.len hs.cap hs.src (by have := hs.len; omega) hK.K hK.pos).mono ?_
  rintro e w' ⟨rfl, hb⟩
  exact ⟨_, rfl, rfl, hb⟩
theorem fk_two (n : Int) (w : World) : Calls Tryd.prog 22 #[.int .i64 n] w fun e w' => ∃ u, e = .returned u ∧ (Fk.sl (two n)).f u w' ∧ Below w.heap.size w w' := by
  refine (two_any n w).mono ?_
  rintro e w' ⟨rfl, hs, hb⟩
  exact ⟨_, rfl, ⟨_, _, _, _, _, rfl, hs⟩, hb⟩
theorem fk_four (n : Int) (w : World) : Calls Tryd.prog 21 #[.int .i64 n] w fun e w' => ∃ u, e = .returned u ∧ (Fk.sl (four n)).f u w' ∧ Below w.heap.size w w' := by
  refine (four_any n w).mono ?_
  rintro e w' ⟨rfl, hs, hb⟩
  exact ⟨_, rfl, ⟨_, _, _, _, _, rfl, hs⟩, hb⟩
end Go.Proofs.YtfhhlkbcoofemaaDoor
