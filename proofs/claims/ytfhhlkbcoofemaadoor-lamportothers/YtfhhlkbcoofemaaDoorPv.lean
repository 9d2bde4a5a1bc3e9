/- Plain: a region that draws its order, whose operations yield what does not hang on the order and do no more to the memory than to make new blocks: whatever order is picked, behind it each slot has what its operation yields. No program is spoken of. -/
import Derived.Test.YtfhhlkbcoofemaaDoorPm
import Derived.Orders
namespace Go.Proofs.YtfhhlkbcoofemaaDoor
open Go.RowKit
/-- The slots of the operations are set, one behind the other. -/
def putAll (vs : Nat → Value) : Nat → List Oper → Act → Act
  | _, [], a => a
  | i, o :: r, a => putAll vs (i + 1) r (a.put o.dst (vs i))
/-- The slot t is set by none of them. -/
def freeOf (l : List Oper) (t : Nat) : Bool := l.all fun o => o.dst != some t
/-- Each sets a slot of its own, below n. -/
def dstsOk (n : Nat) : List Oper → Bool
  | [] => true
  | o :: r => (match o.dst with | some d => decide (d < n) && freeOf r d | none => false) && dstsOk n r
/-- Each waits for ones ahead of it alone; from number k on there is at most one, that waits for all. -/
def edgesOk (ops : List Oper) (k : Nat) : Bool :=
  (List.range ops.length).all (fun i => ((ops[i]?).map fun o => o.after.toList.all fun e => !Region.binds .any e || decide (e.on < i)).getD true) &&
  decide (ops.length ≤ k + 1) && (((ops[k]?).map fun o => (List.range k).all fun j => o.after.toList.any fun e => e.on == j && Region.binds .any e).getD true)
/-- The operation o waits for number j, whose slot is d. -/
def depOk (ops : List Oper) (k : Nat) (o : Oper) (j d : Nat) : Bool :=
  decide (j < k) && (o.after.toList.any fun e => e.on == j && Region.binds .any e) && (((ops[j]?).bind (·.dst)) == some d)
/-- What is told of the frame and of the world when the operation o comes up. -/
structure Known (ops : List Oper) (k : Nat) (φ : Nat → Value → World → Prop) (a0 : Act) (w0 : World) (o : Oper) (a : Act) (w : World) : Prop where
  old : ∀ t, freeOf (ops.take k) t = true → a.eval (.tmp t) = a0.eval (.tmp t)
  dep : ∀ j d, depOk ops k o j d = true → φ j (a.eval (.tmp d)) w
  grow : Below w0.heap.size w0 w
/-- The operation ends: its slot has a value of which f speaks, and no block that was there is other. -/
def Ends (a : Act) (dst : Option Tmp) (w : World) (f : Value → World → Prop) : Act → World → Prop :=
  fun a' w' => ∃ v, a' = a.put dst v ∧ Below w.heap.size w w' ∧ f v w'
theorem freeOf_spec {l : List Oper} {t : Nat} (h : freeOf l t = true) {i : Nat} {o : Oper} (hi : l[i]? = some o) : o.dst ≠ some t := by
  have := List.all_eq_true.1 h o (List.mem_of_getElem? hi)
  simpa using this
theorem dstsOk_spec {n : Nat} : ∀ {l : List Oper}, dstsOk n l = true → ∀ (i : Nat) (o : Oper), l[i]? = some o → ∃ d, o.dst = some d ∧ d < n ∧ ∀ (j : Nat) (o' : Oper), l[j]? = some o' → j ≠ i → o'.dst ≠ some d
  | [], _, i, o, hi => by simp at hi
  | q :: r, h, i, o, hi => by
    unfold dstsOk at h
    rw [Bool.and_eq_true] at h
    obtain ⟨h1, h2⟩ := h
    cases hq : q.dst with
    | none => rw [hq] at h1; simp at h1
    | some dq =>
      rw [hq] at h1
      simp only [Bool.and_eq_true, decide_eq_true_eq] at h1
      cases i with
      | zero =>
        obtain rfl : q = o := by simpa using hi
        refine ⟨dq, hq, h1.1, fun j o' hj hne => ?_⟩
        cases j with
        | zero => exact absurd rfl hne
        | succ j => exact freeOf_spec h1.2 (by simpa using hj)
      | succ i =>
        have hi' : r[i]? = some o := by simpa using hi
        obtain ⟨d, e, hd, hall⟩ := dstsOk_spec h2 i o hi'
        refine ⟨d, e, hd, fun j o' hj hne => ?_⟩
        cases j with
        | zero =>
          obtain rfl : q = o' := by simpa using hj
          rw [hq]
          intro hh
          obtain rfl := Option.some.inj hh
          exact freeOf_spec h1.2 hi' e
        | succ j => exact hall j o' (by simpa using hj) (by omega)
theorem put_size (a : Act) (d : Option Tmp) (v : Value) : (a.put d v).tmps.size = a.tmps.size := by cases d <;> simp [Act.put]
theorem put_def (a : Act) (d : Option Tmp) (v : Value) : (a.put d v).defers = a.defers := by cases d <;> rfl
theorem put_same (a : Act) (d : Nat) (v : Value) (h : d < a.tmps.size) : (a.put (some d) v).tmps[d]? = some v := by simp [Act.put, h]
theorem put_other (a : Act) (d : Option Tmp) (v : Value) (t : Nat) (h : d ≠ some t) : (a.put d v).tmps[t]? = a.tmps[t]? := by
  cases d with
  | none => rfl
  | some d =>
    have : d ≠ t := fun e => h (by rw [e])
    simp only [Act.put]
    rw [Array.getElem?_setIfInBounds]
    simp [this]
theorem putAll_size (vs : Nat → Value) : ∀ (l : List Oper) (i : Nat) (a : Act), (putAll vs i l a).tmps.size = a.tmps.size
  | [], _, _ => rfl
  | o :: r, i, a => by rw [putAll, putAll_size vs r, put_size]
theorem putAll_def (vs : Nat → Value) : ∀ (l : List Oper) (i : Nat) (a : Act), (putAll vs i l a).defers = a.defers
  | [], _, _ => rfl
  | o :: r, i, a => by rw [putAll, putAll_def vs r, put_def]
theorem putAll_other (vs : Nat → Value) (t : Nat) : ∀ (l : List Oper) (i : Nat) (a : Act), (∀ (j : Nat) (o : Oper), l[j]? = some o → o.dst ≠ some t) → (putAll vs i l a).tmps[t]? = a.tmps[t]?
  | [], _, _, _ => rfl
  | o :: r, i, a, h => by
    rw [putAll, putAll_other vs t r _ _ (fun j o' hj => h (j + 1) o' (by simpa using hj)), put_other _ _ _ _ (h 0 o rfl)]
theorem putAll_at (vs : Nat → Value) (d : Nat) : ∀ (l : List Oper) (i : Nat) (a : Act) (k : Nat) (o : Oper), l[k]? = some o → o.dst = some d → d < a.tmps.size → (∀ (j : Nat) (o' : Oper), l[j]? = some o' → j ≠ k → o'.dst ≠ some d) → (putAll vs i l a).tmps[d]? = some (vs (i + k))
  | [], _, _, k, o, hk, _, _, _ => by simp at hk
  | q :: r, i, a, 0, o, hk, ho, hd, hall => by
    obtain rfl : q = o := by simpa using hk
    rw [putAll, putAll_other vs d r _ _ (fun j o' hj => hall (j + 1) o' (by simpa using hj) (by omega)), ho, put_same _ _ _ hd, Nat.add_zero]
  | q :: r, i, a, k + 1, o, hk, ho, hd, hall => by
    rw [putAll, putAll_at vs d r (i + 1) _ k o (by simpa using hk) ho (by rw [put_size]; exact hd) (fun j o' hj hne => hall (j + 1) o' (by simpa using hj) (by omega))]
    congr 2
    omega
/-- How many have not come up yet. -/
def unl (listed : Array Bool) : Nat := listed.countP (fun b => !b)
theorem unl_set {listed : Array Bool} {i : Nat} (h : listed.getD i true = false) : unl (listed.setIfInBounds i true) + 1 = unl listed := by
  have hi : i < listed.size := by
    rcases Nat.lt_or_ge i listed.size with h' | h'
    · exact h'
    · simp [Array.getElem?_eq_none h'] at h
  have hv : listed[i] = false := by simpa [hi] using h
  have hc : 0 < listed.countP (fun b => !b) := by
    rw [Array.countP_pos_iff]
    exact ⟨false, by rw [← hv]; exact Array.getElem_mem hi, rfl⟩
  unfold unl
  rw [Array.setIfInBounds_def, dif_pos hi, Array.countP_set hi, hv]
  simp
  omega
theorem unl_zero {listed : Array Bool} (h : unl listed = 0) (i : Nat) (hi : i < listed.size) : listed.getD i true = true := by
  unfold unl at h
  rw [Array.countP_eq_zero] at h
  have := h listed[i] (Array.getElem_mem hi)
  simpa [hi] using this
section
variable {P : Program} {ops : Array Oper} {Q : Exit → Act → World → Prop} {φ : Nat → Value → World → Prop} {k : Nat} {a0 : Act} {w0 : World}
/-- The state in the midst. -/
structure Mids (ops : Array Oper) (k : Nat) (φ : Nat → Value → World → Prop) (a0 : Act) (w0 : World) (listed : Array Bool) (a : Act) (w : World) : Prop where
  size : a.tmps.size = a0.tmps.size
  defs : a.defers = a0.defers
  lsize : listed.size = ops.size
  old : ∀ t, freeOf (ops.toList.take k) t = true → a.tmps[t]? = a0.tmps[t]?
  has : ∀ (i : Nat) (o : Oper) (d : Nat), i < k → ops[i]? = some o → o.dst = some d → listed.getD i false = true → φ i (a.eval (.tmp d)) w
  last : ∀ i, k ≤ i → i < ops.size → listed.getD i true = false
  grow : Below w0.heap.size w0 w
theorem getD_tf {listed : Array Bool} {i : Nat} (hi : i < listed.size) : listed.getD i true = listed.getD i false := by simp [hi]
theorem all_listed_ready {listed : Array Bool} (hs : listed.size = ops.size) (h : unl listed = 0) : Region.ready .any ops listed = [] := by
  cases hr : Region.ready .any ops listed with
  | nil => rfl
  | cons i r =>
    have hi : i ∈ Region.ready .any ops listed := by rw [hr]; exact List.mem_cons_self
    obtain ⟨h1, o, ho, _⟩ := mem_ready.1 hi
    have hl : i < listed.size := by rw [hs]; exact (Array.getElem?_eq_some_iff.1 ho).1
    rw [unl_zero h i hl] at h1
    cases h1
theorem ready_listed (hE : edgesOk ops.toList k = true) {listed : Array Bool} (hs : listed.size = ops.size) (h : Region.ready .any ops listed = []) : unl listed = 0 := by
  unfold edgesOk at hE
  simp only [Bool.and_eq_true] at hE
  have hback := List.all_eq_true.1 hE.1.1
  have key : ∀ n i, i < n → i < listed.size → listed.getD i true = true := by
    intro n
    induction n with
    | zero => intro i h; omega
    | succ n ih =>
      intro i hi hl
      cases hc : listed.getD i true with
      | true => rfl
      | false =>
        exfalso
        have hio : i < ops.size := by omega
        have hm : i ∈ Region.ready .any ops listed := by
          refine mem_ready.2 ⟨hc, ops[i], Array.getElem?_eq_getElem hio, fun e he hbd => ?_⟩
          have hb := hback i (by simp; exact hio)
          simp only [Array.getElem?_toList, Array.getElem?_eq_getElem hio, Option.map_some, Option.getD_some] at hb
          have hb2 : e.on < i := by
            have := List.all_eq_true.1 hb e (by simpa using he)
            simpa [hbd] using this
          have := ih e.on (by omega) (by omega)
          rw [← getD_tf (by omega)]; exact this
        rw [h] at hm
        cases hm
  unfold unl
  rw [Array.countP_eq_zero]
  intro b hb
  obtain ⟨i, hi, rfl⟩ := Array.mem_iff_getElem.1 hb
  have := key (i + 1) i (by omega) hi
  simpa [hi] using this
theorem eval_of_get {a b : Act} {t : Nat} (h : a.tmps[t]? = b.tmps[t]?) : a.eval (.tmp t) = b.eval (.tmp t) := by
  simp [Act.eval, h]
theorem getD_set_same {listed : Array Bool} {i : Nat} (h : i < listed.size) : (listed.setIfInBounds i true).getD i false = true := by simp [h]
theorem frame_eq (hD : dstsOk a0.tmps.size (ops.toList.take k) = true) {listed : Array Bool} {a : Act} {w : World} (h : Mids ops k φ a0 w0 listed a w) (hl : ∀ i, i < k → i < ops.size → listed.getD i false = true) (hk : k ≤ ops.size) :
    ∃ vs : Nat → Value, (∀ i, i < k → φ i (vs i) w) ∧ a = putAll vs 0 (ops.toList.take k) a0 := by
  have hat : ∀ i, i < k → ∃ o, ops[i]? = some o ∧ (ops.toList.take k)[i]? = some o := fun i hi =>
    ⟨ops[i], Array.getElem?_eq_getElem (by omega), by rw [List.getElem?_take, if_pos hi, Array.getElem?_toList, Array.getElem?_eq_getElem (by omega)]⟩
  let vs : Nat → Value := fun i => match (ops[i]?).bind (·.dst) with | some d => a.eval (.tmp d) | none => undef
  have hvs : ∀ (i : Nat) (o : Oper) (d : Nat), ops[i]? = some o → o.dst = some d → vs i = a.eval (.tmp d) := fun i o d ho hd => by simp only [vs, ho, Option.bind_some, hd]
  refine ⟨vs, fun i hi => ?_, ?_⟩
  · obtain ⟨o, ho, ht⟩ := hat i hi
    obtain ⟨d, hd, _, _⟩ := dstsOk_spec hD i o ht
    rw [hvs i o d ho hd]
    exact h.has i o d hi ho hd (hl i hi (by omega))
  · have hdef := putAll_def vs (ops.toList.take k) 0 a0
    have hsz := putAll_size vs (ops.toList.take k) 0 a0
    have htm : a.tmps = (putAll vs 0 (ops.toList.take k) a0).tmps := by
      apply Array.ext_getElem?
      intro t
      cases hf : freeOf (ops.toList.take k) t with
      | true =>
        rw [h.old t hf, putAll_other vs t _ _ _ (fun j o hj => freeOf_spec hf hj)]
      | false =>
        have : ∃ (i : Nat) (o : Oper), (ops.toList.take k)[i]? = some o ∧ o.dst = some t := by
          unfold freeOf at hf
          rw [List.all_eq_false] at hf
          obtain ⟨o, hm, hne⟩ := hf
          obtain ⟨i, hi⟩ := List.getElem?_of_mem hm
          exact ⟨i, o, hi, by simpa using hne⟩
        obtain ⟨i, o, hi, hd⟩ := this
        obtain ⟨d, hd2, hlt, hall⟩ := dstsOk_spec hD i o hi
        obtain rfl : t = d := Option.some.inj (hd.symm.trans hd2)
        rw [putAll_at vs t _ 0 a0 i o hi hd hlt hall, Nat.zero_add]
        have hik : i < k := by
          have := (List.getElem?_eq_some_iff.1 hi).1
          simp at this; omega
        have hio : ops[i]? = some o := by
          rw [List.getElem?_take, if_pos hik, Array.getElem?_toList] at hi; exact hi
        rw [hvs i o t hio hd]
        have : t < a.tmps.size := by rw [h.size]; exact hlt
        simp [Act.eval, this]
    cases a
    cases hp : putAll vs 0 (ops.toList.take k) a0
    rw [hp] at htm hdef
    have := h.defs
    simp_all
theorem wpAny_nil {fuel : Nat} {listed : Array Bool} {a : Act} {w : World} (hr : Region.ready .any ops listed = []) (h : Q .normal a w) : wpAny P .any ops Q fuel listed a w := by
  cases fuel with
  | zero => exact ⟨hr, h⟩
  | succ n => exact ⟨fun _ => h, fun i hi => by rw [hr] at hi; cases hi⟩
theorem wp_mids (hk : k ≤ ops.size) (hE : edgesOk ops.toList k = true) (hD : dstsOk a0.tmps.size (ops.toList.take k) = true)
    (hG : ∀ (i : Nat) (o : Oper) (j : Nat) (b : Bool), i < k → ops[i]? = some o → o.guard = some (j, b) → (∃ d, depOk ops.toList k o j d = true) ∧ ((∀ v w, φ j v w → v = .bool b) ∨ ((∀ v w, φ j v w → v = .bool (!b)) ∧ ∀ v w, φ i v w)))
    (hM : ∀ i v w w', φ i v w → Below w.heap.size w w' → φ i v w')
    (hS : ∀ (i : Nat) (o : Oper), i < k → ops[i]? = some o → (∀ (j : Nat) (b : Bool), o.guard = some (j, b) → ∀ v w, φ j v w → v = .bool b) → ∀ a w, Known ops.toList k φ a0 w0 o a w → o.wp P a w (Ends a o.dst w (φ i)) Q)
    (hF : ∀ vs w, (∀ i, i < k → φ i (vs i) w) → Below w0.heap.size w0 w → wpList P ops Q (ops.toList.drop k) (putAll vs 0 (ops.toList.take k) a0) w) :
    ∀ (fuel : Nat) (listed : Array Bool) (a : Act) (w : World), unl listed ≤ fuel → Mids ops k φ a0 w0 listed a w → wpAny P .any ops Q fuel listed a w := by
  have hlen : ops.size ≤ k + 1 := by
    have h := hE
    unfold edgesOk at h
    simp only [Bool.and_eq_true, decide_eq_true_eq, Array.length_toList] at h
    exact h.1.2
  have hfull : ∀ (listed : Array Bool) (a : Act) (w : World), Mids ops k φ a0 w0 listed a w → Region.ready .any ops listed = [] → Q .normal a w := by
    intro listed a w hm hr
    have hu := ready_listed hE hm.lsize hr
    have hks : ops.size = k := by
      rcases Nat.lt_or_ge k ops.size with h | h
      · have h1 := unl_zero hu k (by rw [hm.lsize]; exact h)
        rw [hm.last k (Nat.le_refl _) h] at h1
        cases h1
      · omega
    obtain ⟨vs, hv, e⟩ := frame_eq hD hm (fun i _ hi => by rw [← getD_tf (by rw [hm.lsize]; exact hi)]; exact unl_zero hu i (by rw [hm.lsize]; exact hi)) hk
    have := hF vs w hv hm.grow
    rw [← e, List.drop_of_length_le (by simp; omega)] at this
    exact this
  intro fuel
  induction fuel with
  | zero =>
    intro listed a w hu hm
    have hr := all_listed_ready (ops := ops) hm.lsize (by omega)
    exact ⟨hr, hfull listed a w hm hr⟩
  | succ fuel ih =>
    intro listed a w hu hm
    refine ⟨hfull listed a w hm, fun i hi => ?_⟩
    obtain ⟨hun, o, ho, hdep⟩ := mem_ready.1 hi
    have hio : i < ops.size := (Array.getElem?_eq_some_iff.1 ho).1
    have hu' := unl_set hun
    rcases Nat.lt_or_ge i k with hik | hik
    · have hK : Known ops.toList k φ a0 w0 o a w := by
        refine ⟨fun t ht => eval_of_get (hm.old t ht), fun j d hj => ?_, hm.grow⟩
        unfold depOk at hj
        simp only [Bool.and_eq_true, decide_eq_true_eq, beq_iff_eq, Array.getElem?_toList] at hj
        obtain ⟨⟨hjk, hany⟩, hd⟩ := hj
        obtain ⟨e, he, hb⟩ := List.any_eq_true.1 hany
        simp only [Bool.and_eq_true, beq_iff_eq] at hb
        have hl := hdep e (by simpa using he) hb.2
        rw [hb.1] at hl
        cases hoj : ops[j]? with
        | none => rw [hoj] at hd; simp at hd
        | some oj =>
          rw [hoj] at hd
          exact hm.has j oj d hjk hoj (by simpa using hd) hl
      have hto : (ops.toList.take k)[i]? = some o := by rw [List.getElem?_take, if_pos hik, Array.getElem?_toList]; exact ho
      obtain ⟨d, hd, hlt, hall⟩ := dstsOk_spec hD i o hto
      have hnext : ∀ v w', Below w.heap.size w w' → φ i v w' → wpAny P .any ops Q fuel (listed.setIfInBounds i true) (a.put o.dst v) w' := by
        intro v w' hb hf
        refine ih _ _ _ (by omega) ⟨by rw [put_size]; exact hm.size, by rw [put_def]; exact hm.defs, by simp; exact hm.lsize, fun t ht => ?_, fun j oj dj hj hoj hdj hlj => ?_, fun j hj1 hj2 => ?_, hm.grow.trans (hb.mono hm.grow.size)⟩
        · rw [put_other _ _ _ _ (freeOf_spec ht hto)]; exact hm.old t ht
        · by_cases e : j = i
          · subst e
            obtain rfl : oj = o := Option.some.inj (hoj.symm.trans ho)
            obtain rfl : dj = d := Option.some.inj (hdj.symm.trans hd)
            have hev : (a.put oj.dst v).eval (.tmp dj) = v := by
              have := put_same a dj v (by rw [hm.size]; exact hlt)
              rw [← hd] at this
              simp [Act.eval, this]
            rw [hev]; exact hf
          · have htj : (ops.toList.take k)[j]? = some oj := by rw [List.getElem?_take, if_pos hj, Array.getElem?_toList]; exact hoj
            have hne : o.dst ≠ some dj := fun h => by
              have : d = dj := Option.some.inj (hd.symm.trans h)
              exact hall j oj htj e (by rw [this]; exact hdj)
            rw [eval_of_get (put_other a o.dst v dj hne)]
            refine hM j _ w w' (hm.has j oj dj hj hoj hdj ?_) hb
            have hne2 : i ≠ j := fun h => e h.symm
            simpa [Array.getElem?_setIfInBounds, hne2] using hlj
        · have hne : i ≠ j := by omega
          have := hm.last j hj1 hj2
          simpa [Array.getElem?_setIfInBounds, hne] using this
      have hyield : ∀ (j : Nat) (b c : Bool), o.guard = some (j, b) → (∃ d, depOk ops.toList k o j d = true) → (∀ v w, φ j v w → v = .bool c) → yielded ops a.tmps j = some c := by
        rintro j b c hg ⟨d, hd⟩ hbool
        have hv := hbool _ _ (hK.dep j d hd)
        have hd2 : (ops[j]?).bind (·.dst) = some d := by
          unfold depOk at hd
          simp only [Bool.and_eq_true, decide_eq_true_eq, beq_iff_eq, Array.getElem?_toList] at hd
          exact hd.2
        have hget : a.tmps[d]? = some (.bool c) := by
          simp only [Act.eval, Array.getD_eq_getD_getElem?] at hv
          cases hq : a.tmps[d]? with
          | none => rw [hq] at hv; simp [undef] at hv
          | some u => rw [hq] at hv; simp at hv; rw [hv]
        unfold yielded
        rw [hd2]
        simp only [Option.bind_some, hget]
      unfold wpOp
      rw [ho]
      show if Region.wanted o (yielded ops a.tmps) = true then _ else _
      have hyes : Region.wanted o (yielded ops a.tmps) = true → (∀ (j : Nat) (b : Bool), o.guard = some (j, b) → ∀ v w, φ j v w → v = .bool b) → (if Region.wanted o (yielded ops a.tmps) = true then o.wp P a w (wpAny P .any ops Q fuel (listed.setIfInBounds i true)) Q ∨ (o.asks P a w ∧ LetsOut Q) else wpAny P .any ops Q fuel (listed.setIfInBounds i true) (a.put o.dst undef) w) := by
        intro hwant hb
        rw [if_pos hwant]
        refine .inl (Oper.wp_mono ?_ (hS i o hik ho hb a w hK))
        rintro a' w' ⟨v, rfl, hb, hf⟩
        exact hnext v w' hb hf
      cases hg : o.guard with
      | none => exact hyes (by unfold Region.wanted; rw [hg]) (fun j b h => by rw [hg] at h; cases h)
      | some jb =>
        obtain ⟨j, b⟩ := jb
        obtain ⟨hd, hbool | ⟨hbool, hany⟩⟩ := hG i o j b hik ho hg
        · refine hyes ?_ (fun j' b' h => by rw [hg] at h; obtain ⟨rfl, rfl⟩ := Prod.mk.inj (Option.some.inj h); exact hbool)
          unfold Region.wanted
          rw [hg]
          show (yielded ops a.tmps j == some b) = true
          rw [hyield j b b hg hd hbool]; simp
        · have hno : Region.wanted o (yielded ops a.tmps) = false := by
            unfold Region.wanted
            rw [hg]
            show (yielded ops a.tmps j == some b) = false
            rw [hyield j b (!b) hg hd hbool]; cases b <;> rfl
          rw [if_neg (by rw [hno]; simp)]
          exact hnext undef w (Below.refl _ _) (hany _ _)
    · have hik' : i = k := by omega
      subst hik'
      have hsz : ops.size = i + 1 := by omega
      have hedges : ∀ j, j < i → listed.getD j false = true := by
        have h := hE
        unfold edgesOk at h
        simp only [Bool.and_eq_true, Array.getElem?_toList, ho, Option.map_some, Option.getD_some] at h
        intro j hj
        have h2 := List.all_eq_true.1 h.2 j (by simpa using hj)
        obtain ⟨e, he, hb⟩ := List.any_eq_true.1 h2
        simp only [Bool.and_eq_true, beq_iff_eq] at hb
        have := hdep e (by simpa using he) hb.2
        rw [hb.1] at this
        exact this
      obtain ⟨vs, hv, e⟩ := frame_eq hD hm (fun j hj _ => hedges j hj) hk
      have hW := hF vs w hv hm.grow
      have hdrop : ops.toList.drop i = [o] := by
        rw [List.drop_eq_getElem_cons (by simp; omega), List.drop_of_length_le (by simp; omega)]
        congr 1
        have := (Array.getElem?_eq_some_iff.1 ho).2
        simpa using this
      rw [← e, hdrop] at hW
      have hend : ∀ a' w', Q .normal a' w' → wpAny P .any ops Q fuel (listed.setIfInBounds i true) a' w' := by
        intro a' w' hq
        refine wpAny_nil (all_listed_ready (by simp; exact hm.lsize) ?_) hq
        unfold unl
        rw [Array.countP_eq_zero]
        intro b hb
        obtain ⟨j, hj, rfl⟩ := Array.mem_iff_getElem.1 hb
        have hj' : j < ops.size := by simp [hm.lsize] at hj; exact hj
        rw [Array.getElem_setIfInBounds (by simpa using hj)]
        by_cases e : i = j
        · simp [e]
        · have h1 := hedges j (by omega)
          have hj2 : j < listed.size := by rw [hm.lsize]; exact hj'
          simp [e]
          simpa [hj2] using h1
      unfold wpOp
      rw [ho]
      unfold wpList at hW
      show if Region.wanted o (yielded ops a.tmps) = true then _ else _
      split
      · rename_i hq; rw [if_pos hq] at hW
        exact hW.imp (Oper.wp_mono (fun a' w' h => hend a' w' h)) id
      · rename_i hq; rw [if_neg hq] at hW
        exact hend _ _ hW
end
end Go.Proofs.YtfhhlkbcoofemaaDoor
