/- append of bytes, and what NewIn, Bytes and Text do. -/
import Derived.Test.YtkgfcddjjghohaaWd
import Derived.Test.YtkgfcddjjghohaaPb
namespace Go.Proofs.Ytkgfcddjjghohaa
open Go.RowKit
theorem Try.under9 : Try.prog.underlying 9 = some .string := by kernel_rfl
/-- append of bytes onto a slice of the call's own. -/
theorem append25 {ops : Array Oper} {rest : List Oper} {o : Oper} {a : Act} {w : World} {Q : Exit → Act → World → Prop} (hgd : o.guard = none) (s x : Operand)
    (ho : o.op = .call { callee := .builtin .append, args := #[s, x], argTypes := #[25, 25] })
    (base : Nat) (v : Value) (n : Nat) (xs : List (BitVec 8)) (hs : a.eval s = v) (hown : w.ownsRow base 5 1 v n (xs.map V))
    (y : Value) (bs : List (BitVec 8)) (gb : Nat) (hx : a.eval x = y) (hr : Rv w y bs gb) (hb : n + bs.length ≤ 1000000) (hbase : base ≤ w.heap.size)
    (h : ∀ v' w', w'.ownsRow base 5 1 v' (n + bs.length) ((xs ++ bs).map V) → w.grownBy w' v.ownBlock → (v'.ownBlock = v.ownBlock ∨ v'.ownBlock = some w.heap.size) → wpList Try.prog ops Q rest (a.put o.dst v') w') : wpList Try.prog ops Q (o :: rest) a w := by
  obtain ⟨i0, hi, hz0, hz1, hz2⟩ := info_parts Try.info5
  rcases hr with ⟨rfl, rfl⟩ | ⟨go, c, rfl, hc, hlt, hB⟩
  · refine wpList_append_own_none hgd s x 25 ho base 5 i0 1 Try.under25 hi v n _ hs hown hx (h v w ?_ ⟨rfl, rfl, rfl, Nat.le_refl _, fun _ _ _ => rfl⟩ (.inl rfl))
    rw [List.append_nil]; exact hown
  · have hnews : ∀ (j : Nat) (u : Value), (bs.map V)[j]? = some u → w.cell? ((⟨gb, go, none⟩ : Addr).add j) = some u := by
      intro j u hj
      have := hB.src bs.length j u
      rw [List.take_of_length_le (Nat.le_refl _)] at this
      exact this hj
    obtain ⟨v', w', hr, h2, h3, _⟩ := run_append_own (P := Try.prog) w base 25 o.type 5 i0 (.int .u8 0) 1 1 Try.under25 hi hz0 hz1 hz2 rfl (by decide) v n (xs.map V) hown ⟨gb, go, none⟩ bs.length c (bs.map V) (by simp) hnews (V_one bs) (by unfold maxLen; omega) (by omega) hbase
    have h4 := append_where (P := Try.prog) w base 25 o.type 5 i0 (.int .u8 0) 1 1 Try.under25 hi hz0 hz1 hz2 v n (xs.map V) hown ⟨gb, go, none⟩ bs.length c (bs.map V) (by simp) hnews (V_one bs) (by unfold maxLen; omega) (by omega) v' w' hr
    refine wpList_plain hgd fun K hK => ?_
    unfold Oper.wp execOp
    simp only [ho, resolve, invoke, builtin, Sem.run_bind, Sem.run_pure, Result.andThen_ok, List.map_toArray, List.map_cons, List.map_nil, hs, hx, hr]
    rw [← List.map_append] at h2
    exact hK _ _ (h v' w' h2 h3 h4)
theorem own_rv {w : World} {base n : Nat} {v : Value} {xs : List (BitVec 8)} (h : w.ownsRow base 5 1 v n (xs.map V)) : (v = .slice none 0 0 ∧ xs = []) ∨ ∃ g, base ≤ g ∧ g < w.heap.size ∧ v.ownBlock = some g ∧ Rv w v xs g := by
  obtain ⟨hl, h⟩ := h
  have hn : n = xs.length := by simpa using hl.symm
  subst hn
  rcases h with ⟨rfl, h0⟩ | ⟨g, cap, cur, rfl, hbg, hg, hnc, _, hcs, ht⟩
  · exact .inl ⟨rfl, List.eq_nil_of_length_eq_zero h0⟩
  · have hgl := (Array.getElem?_eq_some_iff.1 hg).1
    refine .inr ⟨g, hbg, hgl, rfl, .inr ⟨0, cap, rfl, hnc, hgl, ?_⟩⟩
    intro i hi
    rw [Nat.zero_add, cell_of_row _ _ _ _ _ _ hg]
    have e2 := congrArg (·[i]?) ht
    simp [hi] at e2
    simp [e2, hi, V]
/-- The slice lies apart from what was. -/
theorem own_apart {w : World} {base n : Nat} {v : Value} {xs : List (BitVec 8)} (h : w.ownsRow base 5 1 v n (xs.map V)) (hb : base ≤ w.heap.size) : ∃ g a c, v = .slice a xs.length c ∧ base ≤ g ∧ g ≠ w.heap.size ∧ Rv w v xs g := by
  rcases own_rv h with ⟨rfl, rfl⟩ | ⟨g, h1, h2, _, h3⟩
  · exact ⟨w.heap.size + 1, none, 0, rfl, by omega, by omega, .inl ⟨rfl, rfl⟩⟩
  · obtain ⟨a, c, e, _⟩ := h3.shape
    exact ⟨g, a, c, e, h1, by omega, h3⟩
set_option maxHeartbeats 400000 in
theorem newIn_any (v : Value) (gb : Nat) (bs : List (BitVec 8)) (w : World) (hr : Rv w v bs gb) (hl : bs.length ≤ 900000) :
    Calls Try.prog 13 #[v] w fun e w' => ∃ ib g, e = .returned (.pointer (some ⟨ib, 0, none⟩)) ∧ w.heap.size ≤ ib ∧ w.heap.size ≤ g ∧ HasIn w' ib bs false g ∧ Below w.heap.size w w' := by
  have hr' := Box.mk hr
  obtain ⟨a, c, rfl, _⟩ := hr.shape
  clear hr
  go_enter Try.func13, Try.ntmps13
  go_wp2_with (at_builtin; refine append25 rfl _ _ rfl w.heap.size _ 0 [] rfl (World.ownsRow_nil _ _ _ _) _ bs gb rfl hr'.out (by omega) (Nat.le_refl _) ?_; intro v2 w2 own2 gr2 _; have gr2' := Box.mk gr2; obtain ⟨g, a2, c2, e2, hg1, hg2, hg3⟩ := own_apart own2 gr2.size; subst e2; have hg3' := Box.mk hg3; clear own2 gr2 hg3)
  go_ret
  have hb : Below w.heap.size w w2 := (Below.refl _ _).grown gr2'.out (Nat.le_refl _) (fun k e => by cases e)
  exact ⟨w2.heap.size, g, rfl, hb.size, hg1, ⟨_, heap_alloc_new _ _, hg3'.out.below ((Below.refl _ _).alloc (Nat.le_refl _) _), hg2⟩, hb.alloc hb.size _⟩
set_option maxHeartbeats 400000 in
theorem all_any (ob : Nat) (v : Value) (gb : Nat) (bs : List (BitVec 8)) (w : World) (ho : w.heap[ob]? = some (.cells #[v] 27 (0, 0))) (hr : Rv w v bs gb) (hl : bs.length ≤ 900000) :
    Calls Try.prog 12 #[.pointer (some ⟨ob, 0, none⟩)] w fun e w' => ∃ v', e = .returned v' ∧ w'.ownsRow w.heap.size 5 1 v' bs.length (bs.map V) ∧ Below w.heap.size w w' := by
  have hr' := Box.mk hr
  obtain ⟨a, c, rfl, _⟩ := hr.shape
  have c0 : w.cell? ⟨ob, 0, none⟩ = some (.slice a bs.length c) := by simp [World.cell?, ho]
  clear hr ho
  go_enter Try.func12, Try.ntmps12
  go_wp2_with (at_builtin; refine append25 rfl _ _ rfl w.heap.size _ 0 [] rfl (World.ownsRow_nil _ _ _ _) _ bs gb rfl hr'.out (by omega) (Nat.le_refl _) ?_; intro v2 w2 own2 gr2 _; have gr2' := Box.mk gr2; have own2' := Box.mk own2; clear own2 gr2)
  go_ret
  have hb : Below w.heap.size w w2 := (Below.refl _ _).grown gr2'.out (Nat.le_refl _) (fun k e => by cases e)
  refine ⟨_, rfl, ?_, hb⟩
  have := own2'.out
  rw [Nat.zero_add, List.nil_append] at this
  exact this
/-- The text of bytes. -/
def str (xs : List (BitVec 8)) : ByteArray := strOfNums (xs.map bv)
theorem run_str (w : World) (v : Value) (bs : List (BitVec 8)) (gb : Nat) (h : Rv w v bs gb) : (convert 25 9 v).run Try.prog w = .ok (.string (str bs)) w := by
  rcases h with ⟨rfl, rfl⟩ | ⟨go, c, rfl, hc, hlt, hB⟩
  · exact run_convert_bytes_nil (P := Try.prog) w 25 5 Try.under25 Try.under5 0 0 9 Try.under9
  · exact run_convert_bytes_arg (P := Try.prog) w 25 5 Try.under25 Try.under5 gb go bs.length c (bs.map bv) (by simp) (fun i hi => by
      rw [hB i hi]
      simp [hi]) 9 Try.under9
/-- How many come next: are they no more than most, and are they there? -/
def lenB (bs : List (BitVec 8)) (most : Int) (size : Nat) : Bool := decide ((num (takeB bs 4) : Int) ≤ most) && decide (num (takeB bs 4) ≤ (dropB bs 4).length / size)
theorem lenB_iff (bs : List (BitVec 8)) (most : Int) (size : Nat) : lenB bs most size = true ↔ lenOk bs most size := by unfold lenB lenOk; simp
def cntO (bs : List (BitVec 8)) (most : Int) : List (BitVec 8) := if lenB bs most 1 then (dropB bs 4).take (num (takeB bs 4)) else []
def cntR (bs : List (BitVec 8)) (most : Int) : List (BitVec 8) := if lenB bs most 1 then (dropB bs 4).drop (num (takeB bs 4)) else []
def cntX (bs : List (BitVec 8)) (bad : Bool) (most : Int) : Bool := if lenB bs most 1 then badB bs bad 4 else true
theorem cntO_len (bs : List (BitVec 8)) (most : Int) : (cntO bs most).length ≤ bs.length := by
  unfold cntO
  split
  · unfold dropB; split <;> simp <;> omega
  · simp
theorem counted_one (ib gb : Nat) (bs : List (BitVec 8)) (bad : Bool) (most : Int) (w : World) (h : HasIn w ib bs bad gb) (hbs : bs.length ≤ 1000000) :
    Calls Try.prog 35 #[.pointer (some ⟨ib, 0, none⟩), .int .i64 most] w fun e w' => ∃ v, e = .returned v ∧ Rv w' v (cntO bs most) gb ∧ HasIn w' ib (cntR bs most) (cntX bs bad most) gb ∧ Only ib w w' := by
  refine (counted_any ib gb bs bad most w h hbs).mono ?_
  rintro e w' ⟨v, rfl, h1, h2⟩
  unfold cntO cntR cntX
  rcases h1 with ⟨hk, h3, h4⟩ | ⟨hk, h3, h4⟩
  · rw [if_pos ((lenB_iff _ _ _).2 hk), if_pos ((lenB_iff _ _ _).2 hk), if_pos ((lenB_iff _ _ _).2 hk)]
    exact ⟨v, rfl, h3, h4, h2⟩
  · have hk' : ¬ lenB bs most 1 = true := fun e => hk ((lenB_iff _ _ _).1 e)
    rw [if_neg hk', if_neg hk', if_neg hk']
    exact ⟨v, rfl, h3, h4, h2⟩
set_option maxHeartbeats 400000 in
theorem inBytes_any (ib gb : Nat) (bs : List (BitVec 8)) (bad : Bool) (most : Int) (w : World) (h : HasIn w ib bs bad gb) (hbs : bs.length ≤ 900000) :
    Calls Try.prog 20 #[.pointer (some ⟨ib, 0, none⟩), .int .i64 most] w fun e w' => ∃ v g, e = .returned v ∧ Rv w' v (cntO bs most) g ∧ HasIn w' ib (cntR bs most) (cntX bs bad most) gb ∧ Only ib w w' := by
  have hT := Box.mk (counted_one ib gb bs bad most w h (by omega))
  have hD := cntO_len bs most
  have hib := h.lt
  clear h
  generalize cntO bs most = O at hT hD ⊢
  go_enter Try.func20, Try.ntmps20
  go_wp2_with (first | (refine hT.out.mono ?_; rintro e w' ⟨v, rfl, h1, h2, h3⟩; have h1' := Box.mk h1; obtain ⟨a, c, e2, _⟩ := h1.shape; subst e2; have h2' := Box.mk h2; clear h2 h1) | (at_builtin; refine append25 rfl _ _ rfl w'.heap.size _ 0 [] rfl (World.ownsRow_nil _ _ _ _) _ O gb rfl h1'.out (by omega) (Nat.le_refl _) ?_; intro v2 w2 own2 gr2 _; have gr2' := Box.mk gr2; have own2' := Box.mk own2; clear own2 gr2))
  go_ret
  have hb : Below w'.heap.size w' w2 := (Below.refl _ _).grown gr2'.out (Nat.le_refl _) (fun k e => by cases e)
  have := own2'.out
  rw [Nat.zero_add, List.nil_append] at this
  obtain ⟨g, a2, c2, e2, hg1, hg2, hg3⟩ := own_apart this hb.size
  exact ⟨_, g, rfl, hg3, h2'.out.below hb, h3.trans (Only.of_below hb)⟩
set_option maxHeartbeats 400000 in
theorem inText_any (ib gb : Nat) (bs : List (BitVec 8)) (bad : Bool) (most : Int) (w : World) (h : HasIn w ib bs bad gb) (hbs : bs.length ≤ 900000) :
    Calls Try.prog 21 #[.pointer (some ⟨ib, 0, none⟩), .int .i64 most] w fun e w' => e = .returned (.string (str (cntO bs most))) ∧ HasIn w' ib (cntR bs most) (cntX bs bad most) gb ∧ Only ib w w' := by
  have hT := Box.mk (counted_one ib gb bs bad most w h (by omega))
  clear h
  generalize cntO bs most = O at hT ⊢
  go_enter Try.func21, Try.ntmps21
  go_wp2_with (refine hT.out.mono ?_; rintro e w' ⟨v, rfl, h1, h2, h3⟩; have hcv := run_str w' v O gb h1; have h2' := Box.mk h2; clear h2 h1)
  go_ret
  exact ⟨rfl, h2'.out, h3⟩
end Go.Proofs.Ytkgfcddjjghohaa
