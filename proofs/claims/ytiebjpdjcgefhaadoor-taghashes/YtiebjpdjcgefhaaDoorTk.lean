/- What the law on sums of hashes answers at values in memory: true. -/
import Derived.Test.YtiebjpdjcgefhaaDoorTj
namespace Go.Proofs.YtiebjpdjcgefhaaDoor
open Go.RowKit
theorem Tryd.enter16 (args : Array Value) (w : World) : (callFunc 16 args).run Tryd.prog w = .ok (.enter 16 args) w := by kernel_rfl
/-- v is a slice of the call's own that has the slices ps. -/
def OwnP (w : World) (base : Nat) (v : Value) (n : Nat) (ps : List Pt) : Prop := w.ownsRow base 22 1 v n (ps.map Pt.val)
theorem append31 {ops : Array Oper} {rest : List Oper} {o : Oper} {a : Act} {w : World} {Q : Exit → Act → World → Prop} (hgd : o.guard = none) (s x : Operand)
    (ho : o.op = .call { callee := .builtin .append, args := #[s, x], argTypes := #[31, 31] })
    (base : Nat) (v : Value) (n : Nat) (ps : List Pt) (hs : a.eval s = v) (hown : OwnP w base v n ps)
    (g : Nat) (q : Pt) (hx : a.eval x = .slice (some ⟨g, 0, none⟩) 1 1) (hc : w.cell? ⟨g, 0, none⟩ = some q.val) (hb : n ≤ 1000) (hbase : base ≤ w.heap.size)
    (h : ∀ v' w', OwnP w' base v' (n + 1) (ps ++ [q]) → w.grownBy w' v.ownBlock → wpList Tryd.prog ops Q rest (a.put o.dst v') w') : wpList Tryd.prog ops Q (o :: rest) a w := by
  obtain ⟨i0, hi, hz0, hz1, hz2⟩ := info_parts Tryd.info22
  refine wpList_append_own w hgd s x 31 ho base 22 i0 (.slice none 0 0) 1 24 Tryd.under31 hi hz0 hz1 hz2 rfl (by decide) v n (ps.map Pt.val) hs hown ⟨g, 0, none⟩ 1 1 [q.val] hx rfl ?_ ?_ (by unfold maxLen; omega) (by omega) hbase ?_
  · intro j u hj
    cases j with
    | zero => obtain rfl : q.val = u := by simpa using hj
              have : (⟨g, 0, none⟩ : Addr).add 0 = ⟨g, 0, none⟩ := by simp [Addr.add]
              rw [this]; exact hc
    | succ j => simp at hj
  · intro u hu
    obtain rfl : u = q.val := by simpa using hu
    rfl
  · intro v' w' h1 h2 _
    exact h v' w' (by unfold OwnP; rw [List.map_append]; exact h1) h2
theorem own_cell {w : World} {base n : Nat} {v : Value} {ps : List Pt} (h : OwnP w base v n ps) (hn : 0 < n) : ∃ g cap, v = .slice (some ⟨g, 0, none⟩) n cap ∧ base ≤ g ∧ g < w.heap.size ∧ ∀ (i : Nat) (p : Pt), ps[i]? = some p → w.cell? ⟨g, i, none⟩ = some p.val := by
  obtain ⟨hl, h⟩ := h
  rcases h with ⟨_, rfl⟩ | ⟨g, cap, cur, rfl, hbg, hg, hnc, _, hcs, ht⟩
  · omega
  · refine ⟨g, cap, rfl, hbg, (Array.getElem?_eq_some_iff.1 hg).1, fun i p hi => ?_⟩
    rw [cell_of_row _ _ _ _ _ _ hg]
    have hil : i < n := by
      have := (List.getElem?_eq_some_iff.1 hi).1
      simp at hl; omega
    have e2 := congrArg (·[i]?) ht
    simp only [Nat.mul_one, List.getElem?_take, if_pos hil, List.getElem?_map, hi, Option.map_some, Array.getElem?_toList] at e2
    exact e2
theorem own_ls {w : World} {base n : Nat} {v : Value} {ps : List Pt} (h : OwnP w base v n ps) (hok : Oks w ps) : (Fk.ls n (cat ps)).f v w := by
  have hl : n = ps.length := by have := h.1; simp at this; omega
  by_cases hn : 0 < n
  · obtain ⟨g, cap, rfl, _, _, hc⟩ := own_cell h hn
    exact ⟨_, cap, g, 0, ps, rfl, fun _ => rfl, hl, ⟨fun i p hi => by rw [Nat.zero_add]; exact hc i p hi, hok⟩, rfl⟩
  · obtain rfl : n = 0 := by omega
    obtain rfl : ps = [] := List.eq_nil_of_length_eq_zero hl.symm
    rcases h.2 with ⟨rfl, _⟩ | ⟨g, cap, cur, rfl, _⟩
    · exact ⟨none, 0, 0, 0, [], rfl, fun h => absurd h (by omega), rfl, ⟨fun i p hi => by simp at hi, fun i p hi => by simp at hi⟩, rfl⟩
    · exact ⟨_, cap, 0, 0, [], rfl, fun h => absurd h (by omega), rfl, ⟨fun i p hi => by simp at hi, fun i p hi => by simp at hi⟩, rfl⟩
theorem OwnP.start (w : World) (base : Nat) : OwnP w base (.slice none 0 0) 0 [] := ⟨rfl, .inl ⟨rfl, rfl⟩⟩
theorem Tryd.under30' : Tryd.prog.underlying 30 = some (.slice (Tryd.prog.elem 30)) := by kernel_rfl
theorem Tryd.under31' : Tryd.prog.underlying 31 = some (.slice (Tryd.prog.elem 31)) := by kernel_rfl
theorem Tryd.sizeE30 (w : World) : (sizeOf (Tryd.prog.elem 30)).run Tryd.prog w = .ok 32 w := by kernel_rfl
theorem Tryd.sizeE31 (w : World) : (sizeOf (Tryd.prog.elem 31)).run Tryd.prog w = .ok 1 w := by kernel_rfl
theorem Tryd.isAgg22 (w : World) : (isAgg 22).run Tryd.prog w = .ok false w := by kernel_rfl
section
variable {Q : Exit → Act → World → Prop} {o : Oper} {a : Act} {w : World} {q : Fk}
theorem st_idx30 (x : Operand) (i : Nat) (ho : o.op = .indexAddr 30 x (.const (.int .i64 (i : Int)))) (lb lo n C : Nat) (hx : a.eval x = .slice (some ⟨lb, lo, none⟩) n C) (hi : i < n) : o.wp Tryd.prog a w (Ends a o.dst w (Fk.eq (.pointer (some ⟨lb, lo + i * 32, none⟩))).f) Q := by
  refine st_pure (v := .pointer (some ⟨lb, lo + i * 32, none⟩)) ?_ rfl
  have he : a.eval (.const (.int .i64 (i : Int))) = .int .i64 (i : Int) := rfl
  have hr := run_indexAt_slice (P := Tryd.prog) (w := w) 30 ⟨lb, lo, none⟩ n C .i64 (i : Int) Tryd.under30'
  rw [if_pos ⟨by omega, by omega⟩, Tryd.sizeE30] at hr
  simp only [Result.andThen, Int.toNat_natCast, Addr.add_mid] at hr
  unfold execOp
  rw [ho]
  simp [hx, he, hr]
theorem st_idx31 (x : Operand) (i : Nat) (ho : o.op = .indexAddr 31 x (.const (.int .i64 (i : Int)))) (g n C : Nat) (hx : a.eval x = .slice (some ⟨g, 0, none⟩) n C) (hi : i < n) : o.wp Tryd.prog a w (Ends a o.dst w (Fk.eq (.pointer (some ⟨g, i, none⟩))).f) Q := by
  refine st_pure (v := .pointer (some ⟨g, i, none⟩)) ?_ rfl
  have he : a.eval (.const (.int .i64 (i : Int))) = .int .i64 (i : Int) := rfl
  have hr := run_indexAt_slice (P := Tryd.prog) (w := w) 31 ⟨g, 0, none⟩ n C .i64 (i : Int) Tryd.under31'
  rw [if_pos ⟨by omega, by omega⟩, Tryd.sizeE31] at hr
  simp only [Result.andThen, Int.toNat_natCast, Addr.add_mid, Nat.mul_one, Nat.zero_add] at hr
  unfold execOp
  rw [ho]
  simp [hx, he, hr]
theorem st_load24m (x : Operand) (ho : o.op = .load 24 x) (b so : Nat) (xs : List (BitVec 8)) (hx : a.eval x = .pointer (some ⟨b, so, none⟩)) (hl : xs.length = 32) (hB : HasB w b so xs) : o.wp Tryd.prog a w (Ends a o.dst w (Fk.eq (.agg (xs.map V).toArray)).f) Q :=
  wp_load_mid 24 x ho b so hx (xs.map V) _ (fun j v hj => by
    have h1 := (List.getElem?_eq_some_iff.1 hj).1
    rw [List.length_map] at h1
    rw [hB j h1]
    rw [List.getElem?_map, List.getElem?_eq_getElem h1] at hj
    have e : V xs[j] = v := by simpa using hj
    rw [← e]
    simp [V, h1]) Tryd.under24 rfl (by rw [List.length_map, hl]; exact Tryd.size24) ⟨_, rfl, Below.refl _ _, rfl⟩
theorem st_load22 (x : Operand) (ho : o.op = .load 22 x) (g i : Nat) (p : Pt) (hx : a.eval x = .pointer (some ⟨g, i, none⟩)) (hc : w.cell? ⟨g, i, none⟩ = some p.val) (hok : p.ok w) : o.wp Tryd.prog a w (Ends a o.dst w (Fk.sl p.bs).f) Q := by
  refine st_pure (v := p.val) ?_ ⟨p.sp, p.m, p.c, p.b, p.o, rfl, hok⟩
  have h1 : (isAgg 22).run Tryd.prog w = .ok false w := Tryd.isAgg22 w
  unfold execOp
  rw [ho]
  simp [hx, Instr.loadAt, Instr.sureAddr, loadVar, h1, run_load, hc]
end
theorem fk_node {xs ys : List (BitVec 8)} {w : World} (hx : xs.length = 32) (hy : ys.length = 32) (hK : Tab w) :
    Calls Tryd.prog 16 #[.agg (xs.map V).toArray, .agg (ys.map V).toArray] w fun e w' => ∃ u, e = .returned u ∧ (Fk.eq (.agg ((shaOf (kb 1 :: (xs ++ ys))).map V).toArray)).f u w' ∧ Below w.heap.size w w' := by
  refine (node_any xs ys w hx hy hK).mono ?_
  rintro e w' ⟨rfl, hb⟩
  exact ⟨_, rfl, rfl, hb⟩
set_option maxRecDepth 100000 in
set_option maxHeartbeats 2000000 in
theorem hashes_law (A : Option Addr) (n C lb lo : Nat) (hs : List (List (BitVec 8))) (za zb : Int) (w : World) (hL : Hl w A lb lo hs) (hn : n = hs.length) (hm : n ≤ maxLen) (hK : Tab w) :
    Calls Tryd.prog 4 #[.slice A n C, .int .i64 za, .int .i64 zb] w fun e w' => e = .returned (.bool true) ∧ Below w.heap.size w w' := by
  unfold maxLen at hm
  have hn' : Box (n = hs.length) := ⟨hn⟩
  have hL' : Box (Hl w A lb lo hs) := ⟨hL⟩
  clear hn hL
  by_cases h7 : 70 < n
  · go_enter Tryd.func4, Tryd.ntmps4
    go_wp2_with fail
    refine (awake_any w hK.K hK.pos).mono ?_
    rintro e w6 ⟨rfl, hb8⟩
    go_wp2
    go_ret
    exact ⟨rfl, hb8⟩
  · have l3 : (shaOf (kb 4 :: hs.flatten)).length = 32 := shaOf_len _
    have hfl : hs.flatten.length ≤ 900000 := by rw [flat_len hL'.out, ← hn'.out]; omega
    have C3 : ∀ (w' : World), Below w.heap.size w w' → Calls Tryd.prog 14 #[.slice A n C] w' fun e w2 => e = .returned (.agg ((shaOf (kb 4 :: hs.flatten)).map V).toArray) ∧ Below w'.heap.size w' w2 := fun w' hb => public_any A n C lb lo hs w' hn'.out (hL'.out.below hb) (by omega) (hK.below hb)
    have S3 : ∀ (v : Value) (w' : World), Tab w' → (Fk.sl (kb 4 :: hs.flatten)).f v w' → Calls Tryd.prog 9 #[v] w' fun e w2 => ∃ u, e = .returned u ∧ (Fk.eq (.agg ((shaOf (kb 4 :: hs.flatten)).map V).toArray)).f u w2 ∧ Below w'.heap.size w' w2 := fun v w' ht h => fk_sum (by simp only [List.length_cons]; omega) ht h
    generalize shaOf (kb 4 :: hs.flatten) = h3 at l3 C3 S3
    have C3' := hide C3
    have S3' := hide S3
    have hfl' : Box (hs.flatten.length ≤ 900000) := ⟨hfl⟩
    clear C3 S3 hfl
    go_enter Tryd.func4, Tryd.ntmps4
    go_wp2
    go_loopw [7, 16] (fun v i wr => ∃ k : Nat, k ≤ n ∧ i = .int .i64 k ∧ Box (OwnP wr w.heap.size v k (hps lb lo hs k)) ∧ Below w.heap.size w wr) (fun _ i _ => n - (intOf i).toNat)
    case atStart => exact ⟨0, by omega, rfl, ⟨OwnP.start _ _⟩, Below.refl _ _⟩
    case round =>
      obtain ⟨k, hk, rfl, hown, hb⟩ := hrel
      by_cases hlt : k < n
      · obtain rfl : A = some ⟨lb, lo, none⟩ := hL'.out.ptr (by rw [← hn'.out]; omega)
        have hsl := Tryd.slice24
        have hz := hb.size
        go_wp2_with (at_builtin; refine append31 rfl (.tmp 19) (.tmp 24) rfl w.heap.size _ k (hps lb lo hs k) rfl (World.ownsRow.alloc hown.out _) wr.heap.size (hp lb lo hs k) rfl (by rw [World.cell?_alloc_mark]; rfl) (by omega) (by simp; omega) ?_; intro v2 w2 own2 gr2)
        have hb2 : Below w.heap.size w w2 := (hb.alloc hz _).grown gr2 (by simp; omega) (fun k e => (World.ownsRow.lt hown.out k e).1)
        rw [← hps_succ] at own2
        have own2' : Box (OwnP w2 w.heap.size v2 (k + 1) (hps lb lo hs (k + 1))) := ⟨own2⟩
        clear own2 gr2 hown hb
        go_wp2
        go_roundw
        case rel => first | exact ⟨k + 1, by omega, by go_num, own2', hb2⟩ | exact ⟨_, _, _, ⟨k + 1, by omega, by go_num, own2', hb2⟩, rfl, rfl, rfl⟩
        case measure => simp [intOf]; omega
      · have hkn : Box (k = n) := ⟨by omega⟩
        rw [hkn.out] at hown
        clear hkn
        have hls : Box ((Fk.ls n hs.flatten).f u7 wr) := ⟨by
          have h := own_ls hown.out (hps_ok (hL'.out.below hb) n (by rw [hn'.out]; exact Nat.le_refl _))
          rw [hps_cat lb lo hs n (by rw [hn'.out]; exact Nat.le_refl _), hn'.out, List.take_of_length_le (Nat.le_refl _)] at h
          rw [hn'.out]; exact h⟩
        have heq := fun w => run_equal25_same w h3 l3
        have hgd := Tryd.noGuard24n
        go_wp2_with fail
        refine (C3'.out wr hb).mono ?_
        rintro e w2 ⟨rfl, hb2⟩
        have hls2 : Box ((Fk.ls n hs.flatten).f u7 w2) := ⟨Fk.mono _ _ _ _ hls.out hb2⟩
        have hb2' : Below w.heap.size w w2 := hb.trans (hb2.mono hb.size)
        clear hls
        go_wp2_with fail
        refine (fk_bytes (kb 4) hfl'.out (by omega) hls2.out).mono ?_
        rintro e w3 ⟨u, rfl, hu, hb3⟩
        have hb3' : Below w.heap.size w w3 := hb2'.trans (hb3.mono hb2'.size)
        have hu' : Box ((Fk.sl (kb 4 :: hs.flatten)).f u w3) := ⟨hu⟩
        clear hu
        go_wp2_with fail
        refine (S3'.out u w3 (hK.below hb3') hu'.out).mono ?_
        rintro e w4 ⟨u2, rfl, hu2, hb4⟩
        obtain rfl : u2 = .agg (h3.map V).toArray := hu2
        have hb4' : Below w.heap.size w w4 := hb3'.trans (hb4.mono hb3'.size)
        have hw4 : Below wr.heap.size wr w4 := (hb2.trans (hb3.mono hb2.size)).trans (hb4.mono (Nat.le_trans hb2.size hb3.size))
        have hw4' : Box (Below wr.heap.size wr w4) := ⟨hw4⟩
        have hb' : Box (Below w.heap.size w wr) := ⟨hb⟩
        clear hb2 hb3 hb4 hb2' hb3' hls2 hu' hw4 hb
        by_cases h2 : n < 2
        · go_wp2_with fail
          refine (awake_any w4 (hK.below hb4').K (hK.below hb4').pos).mono ?_
          rintro e w6 ⟨rfl, hb8⟩
          have hb9 := hb4'.trans (hb8.mono hb4'.size)
          clear heq hgd
          go_wp2
          go_ret
          exact ⟨rfl, hb9⟩
        · obtain rfl : A = some ⟨lb, lo, none⟩ := hL'.out.ptr (by rw [← hn'.out]; omega)
          obtain ⟨g, cap, hv, _, hglt0, hcells⟩ := own_cell hown.out (by omega)
          have hv' : Box (u7 = .slice (some ⟨g, 0, none⟩) n cap) := ⟨hv⟩
          rw [hv'.out]
          clear hv hown
          have hL4 : Box (Hl w4 (some ⟨lb, lo, none⟩) lb lo hs) := ⟨hL'.out.below hb4'⟩
          have hlen : Box (2 ≤ hs.length) := ⟨by rw [← hn'.out]; omega⟩
          have hq : Box (∀ i, i < 2 → w4.cell? ⟨g, i, none⟩ = some (hp lb lo hs i).val ∧ (hp lb lo hs i).ok w4 ∧ (hs.getD i []).length = 32 ∧ HasB w4 lb (lo + i * 32) (hs.getD i [])) := ⟨fun i hi => by
            have hil := hlen.out
            have hg : hs[i]? = some (hs.getD i []) := by simp [show i < hs.length by omega]
            refine ⟨?_, hp_ok hL4.out i (by omega), (hL4.out.all i _ hg).1, (hL4.out.all i _ hg).2⟩
            rw [hw4'.out.cell (by exact hglt0)]
            refine hcells i _ ?_
            simp [hps, show i < n by omega]⟩
          have hglt : Box (g < w4.heap.size) := ⟨Nat.lt_of_lt_of_le hglt0 hw4'.out.size⟩
          have hllt : Box (lb < w4.heap.size) := ⟨hL4.out.lt (by have := hlen.out; omega)⟩
          clear hcells hglt0
          have hT4 : Tab w4 := hK.below hb4'
          go_upto_region 14 with fail
          clear heq hgd
          obtain ⟨hc0, hq0, hx0, hB0⟩ := hq.out 0 (by omega)
          obtain ⟨hc1, hq1, hx1, hB1⟩ := hq.out 1 (by omega)
          have hlt := hllt.out
          have hglt := hglt.out
          generalize hqe0 : hp lb lo hs 0 = q0 at hc0 hq0
          generalize hqe1 : hp lb lo hs 1 = q1 at hc1 hq1
          have eb0 : q0.bs = hs.getD 0 [] := by rw [← hqe0]; rfl
          have eb1 : q1.bs = hs.getD 1 [] := by rw [← hqe1]; rfl
          rw [← eb0] at hx0 hB0
          rw [← eb1] at hx1 hB1
          clear hqe0 hqe1 eb0 eb1 hq hL4 hlen hllt
          have l0 : (shaOf (kb 1 :: (q0.bs ++ q1.bs))).length = 32 := shaOf_len _
          have C0 : ∀ (w' : World), Tab w' → Calls Tryd.prog 16 #[.agg (q0.bs.map V).toArray, .agg (q1.bs.map V).toArray] w' fun e w2 => ∃ u, e = .returned u ∧ (Fk.eq (.agg ((shaOf (kb 1 :: (q0.bs ++ q1.bs))).map V).toArray)).f u w2 ∧ Below w'.heap.size w' w2 := fun w' ht => fk_node hx0 hx1 ht
          have S0 : ∀ (v : Value) (w' : World), Tab w' → (Fk.sl (kb 1 :: (q0.bs ++ q1.bs))).f v w' → Calls Tryd.prog 9 #[v] w' fun e w2 => ∃ u, e = .returned u ∧ (Fk.eq (.agg ((shaOf (kb 1 :: (q0.bs ++ q1.bs))).map V).toArray)).f u w2 ∧ Below w'.heap.size w' w2 := fun v w' ht h => fk_sum (by simp only [List.length_cons, List.length_append]; omega) ht h
          generalize shaOf (kb 1 :: (q0.bs ++ q1.bs)) = h0 at l0 C0 S0
          have l1 : (shaOf (kb 2 :: (q0.bs ++ (two za ++ two zb)))).length = 32 := shaOf_len _
          have C1 : ∀ (w' : World), Tab w' → Calls Tryd.prog 17 #[.agg (q0.bs.map V).toArray, .int .i64 za, .int .i64 zb] w' fun e w2 => ∃ u, e = .returned u ∧ (Fk.eq (.agg ((shaOf (kb 2 :: (q0.bs ++ (two za ++ two zb)))).map V).toArray)).f u w2 ∧ Below w'.heap.size w' w2 := fun w' ht => fk_chain hx0 ht
          have S1 : ∀ (v : Value) (w' : World), Tab w' → (Fk.sl (kb 2 :: (q0.bs ++ (two za ++ two zb)))).f v w' → Calls Tryd.prog 9 #[v] w' fun e w2 => ∃ u, e = .returned u ∧ (Fk.eq (.agg ((shaOf (kb 2 :: (q0.bs ++ (two za ++ two zb)))).map V).toArray)).f u w2 ∧ Below w'.heap.size w' w2 := fun v w' ht h => fk_sum (by simp only [List.length_cons, List.length_append, two, List.length_nil]; omega) ht h
          generalize shaOf (kb 2 :: (q0.bs ++ (two za ++ two zb))) = h1 at l1 C1 S1
          have l2 : (shaOf (kb 3 :: (q0.bs ++ (four za ++ four zb)))).length = 32 := shaOf_len _
          have C2 : ∀ (w' : World), Tab w' → Calls Tryd.prog 18 #[.agg (q0.bs.map V).toArray, .int .i64 za, .int .i64 zb] w' fun e w2 => ∃ u, e = .returned u ∧ (Fk.eq (.agg ((shaOf (kb 3 :: (q0.bs ++ (four za ++ four zb)))).map V).toArray)).f u w2 ∧ Below w'.heap.size w' w2 := fun w' ht => fk_secret hx0 ht
          have S2 : ∀ (v : Value) (w' : World), Tab w' → (Fk.sl (kb 3 :: (q0.bs ++ (four za ++ four zb)))).f v w' → Calls Tryd.prog 9 #[v] w' fun e w2 => ∃ u, e = .returned u ∧ (Fk.eq (.agg ((shaOf (kb 3 :: (q0.bs ++ (four za ++ four zb)))).map V).toArray)).f u w2 ∧ Below w'.heap.size w' w2 := fun v w' ht h => fk_sum (by simp only [List.length_cons, List.length_append, four, List.length_nil]; omega) ht h
          generalize shaOf (kb 3 :: (q0.bs ++ (four za ++ four zb))) = h2 at l2 C2 S2
          refine wp_region_assign [.eq (.slice (some ⟨lb, lo, none⟩) n C), .eq (.pointer (some ⟨lb, lo + 0 * 32, none⟩)), .eq (.agg (q0.bs.map V).toArray), .eq (.slice (some ⟨lb, lo, none⟩) n C), .eq (.pointer (some ⟨lb, lo + 1 * 32, none⟩)), .eq (.agg (q1.bs.map V).toArray), .eq (.agg (h0.map V).toArray), .eq (.slice (some ⟨g, 0, none⟩) n cap), .eq (.pointer (some ⟨g, 0, none⟩)), .sl q0.bs, .eq (.slice (some ⟨g, 0, none⟩) n cap), .eq (.pointer (some ⟨g, 1, none⟩)), .sl q1.bs, .ls 2 (q0.bs ++ q1.bs), .sl (kb 1 :: (q0.bs ++ q1.bs)), .eq (.agg (h0.map V).toArray), .eq (.bool true), .eq (.bool true), .eq (.slice (some ⟨lb, lo, none⟩) n C), .eq (.pointer (some ⟨lb, lo + 0 * 32, none⟩)), .eq (.agg (q0.bs.map V).toArray), .eq (.int .i64 za), .eq (.int .i64 zb), .eq (.agg (h1.map V).toArray), .eq (.slice (some ⟨g, 0, none⟩) n cap), .eq (.pointer (some ⟨g, 0, none⟩)), .sl q0.bs, .eq (.func (.func 15) #[] #[]), .eq (.int .i64 za), .sl (two za), .eq (.func (.func 15) #[] #[]), .eq (.int .i64 zb), .sl (two zb), .ls 3 (q0.bs ++ (two za ++ two zb)), .sl (kb 2 :: (q0.bs ++ (two za ++ two zb))), .eq (.agg (h1.map V).toArray), .eq (.bool true), .eq (.bool true), .eq (.bool true), .eq (.slice (some ⟨lb, lo, none⟩) n C), .eq (.pointer (some ⟨lb, lo + 0 * 32, none⟩)), .eq (.agg (q0.bs.map V).toArray), .eq (.int .i64 za), .eq (.int .i64 zb), .eq (.agg (h2.map V).toArray), .eq (.slice (some ⟨g, 0, none⟩) n cap), .eq (.pointer (some ⟨g, 0, none⟩)), .sl q0.bs, .eq (.func (.func 15) #[] #[]), .eq (.int .i64 za), .sl (four za), .eq (.func (.func 15) #[] #[]), .eq (.int .i64 zb), .sl (four zb), .ls 3 (q0.bs ++ (four za ++ four zb)), .sl (kb 3 :: (q0.bs ++ (four za ++ four zb))), .eq (.agg (h2.map V).toArray), .eq (.bool true), .eq (.bool true), .eq (.bool true), .eq (.bool true), .eq (.bool true)] 61 98 6 Tryd.mixed (by kernel_rfl) (by kernel_rfl) (by kernel_rfl) (by kernel_rfl) (by kernel_rfl) (by kernel_rfl) (by kernel_rfl) ⟨fun _ a w' K => ?_, fun _ a w' K => ?_, fun _ a w' K => ?_, fun _ a w' K => ?_, fun _ a w' K => ?_, fun _ a w' K => ?_, fun _ a w' K => ?_, fun _ a w' K => ?_, fun _ a w' K => ?_, fun _ a w' K => ?_, fun _ a w' K => ?_, fun _ a w' K => ?_, fun _ a w' K => ?_, fun _ a w' K => ?_, fun _ a w' K => ?_, fun _ a w' K => ?_, fun _ a w' K => ?_, fun _ a w' K => ?_, fun _ a w' K => ?_, fun _ a w' K => ?_, fun _ a w' K => ?_, fun _ a w' K => ?_, fun _ a w' K => ?_, fun _ a w' K => ?_, fun _ a w' K => ?_, fun _ a w' K => ?_, fun _ a w' K => ?_, fun _ a w' K => ?_, fun _ a w' K => ?_, fun _ a w' K => ?_, fun _ a w' K => ?_, fun _ a w' K => ?_, fun _ a w' K => ?_, fun _ a w' K => ?_, fun _ a w' K => ?_, fun _ a w' K => ?_, fun _ a w' K => ?_, fun _ a w' K => ?_, fun _ a w' K => ?_, fun _ a w' K => ?_, fun _ a w' K => ?_, fun _ a w' K => ?_, fun _ a w' K => ?_, fun _ a w' K => ?_, fun _ a w' K => ?_, fun _ a w' K => ?_, fun _ a w' K => ?_, fun _ a w' K => ?_, fun _ a w' K => ?_, fun _ a w' K => ?_, fun _ a w' K => ?_, fun _ a w' K => ?_, fun _ a w' K => ?_, fun _ a w' K => ?_, fun _ a w' K => ?_, fun _ a w' K => ?_, fun _ a w' K => ?_, fun _ a w' K => ?_, fun _ a w' K => ?_, fun _ a w' K => ?_, fun _ a w' K => ?_, fun _ a w' K => ?_, trivial⟩ ?_
          · exact st_move (.tmp 0) rfl (K.old 0 rfl)
          · exact st_idx30 (.tmp 37) 0 rfl _ _ n C (K.dep 0 37 rfl) (by omega)
          · exact st_load24m (.tmp 38) rfl _ _ q0.bs (K.dep 1 38 rfl) hx0 ((hB0.below K.grow hlt))
          · exact st_move (.tmp 0) rfl (K.old 0 rfl)
          · exact st_idx30 (.tmp 40) 1 rfl _ _ n C (K.dep 3 40 rfl) (by omega)
          · exact st_load24m (.tmp 41) rfl _ _ q1.bs (K.dep 4 41 rfl) hx1 ((hB1.below K.grow hlt))
          · exact st_call 16 (.func 16) _ _ #[.agg (q0.bs.map V).toArray, .agg (q1.bs.map V).toArray] rfl rfl (two_args (K.dep 2 39 rfl) (K.dep 5 42 rfl)) Tryd.enter16 (C0 _ (hT4.below K.grow))
          · exact st_move (.tmp 7) rfl (K.old 7 rfl)
          · exact st_idx31 (.tmp 44) 0 rfl _ n cap (K.dep 7 44 rfl) (by omega)
          · exact st_load22 (.tmp 45) rfl _ _ q0 (K.dep 8 45 rfl) (by rw [K.grow.cell (by exact hglt)]; exact hc0) (Pt.ok_below hq0 K.grow)
          · exact st_move (.tmp 7) rfl (K.old 7 rfl)
          · exact st_idx31 (.tmp 47) 1 rfl _ n cap (K.dep 10 47 rfl) (by omega)
          · exact st_load22 (.tmp 48) rfl _ _ q1 (K.dep 11 48 rfl) (by rw [K.grow.cell (by exact hglt)]; exact hc1) (Pt.ok_below hq1 K.grow)
          · exact st_build2 (.tmp 46) (.tmp 49) rfl (K.dep 9 46 rfl) (K.dep 12 49 rfl)
          · exact st_call 10 (.func 10) _ _ #[.int .u8 (bv (kb 1)), a.eval (.tmp 50)] rfl rfl rfl Tryd.enter10 (fk_bytes (kb 1) (by simp only [List.length_append]; omega) (by omega) (K.dep 13 50 rfl))
          · exact st_call 9 (.func 9) _ _ #[a.eval (.tmp 51)] rfl rfl rfl Tryd.enter9 (S0 _ _ (hT4.below K.grow) (K.dep 14 51 rfl))
          · exact st_eq24 (.tmp 43) (.tmp 52) rfl h0 l0 (K.dep 6 43 rfl) (K.dep 15 52 rfl)
          · exact st_move (.tmp 53) rfl (K.dep 16 53 rfl)
          · exact st_move (.tmp 0) rfl (K.old 0 rfl)
          · exact st_idx30 (.tmp 55) 0 rfl _ _ n C (K.dep 18 55 rfl) (by omega)
          · exact st_load24m (.tmp 56) rfl _ _ q0.bs (K.dep 19 56 rfl) hx0 ((hB0.below K.grow hlt))
          · exact st_move (.tmp 1) rfl (K.old 1 rfl)
          · exact st_move (.tmp 2) rfl (K.old 2 rfl)
          · exact st_call 17 (.func 17) _ _ #[.agg (q0.bs.map V).toArray, .int .i64 za, .int .i64 zb] rfl rfl (three_args (K.dep 20 57 rfl) (K.dep 21 58 rfl) (K.dep 22 59 rfl)) Tryd.enter17 (C1 _ (hT4.below K.grow))
          · exact st_move (.tmp 7) rfl (K.old 7 rfl)
          · exact st_idx31 (.tmp 61) 0 rfl _ n cap (K.dep 24 61 rfl) (by omega)
          · exact st_load22 (.tmp 62) rfl _ _ q0 (K.dep 25 62 rfl) (by rw [K.grow.cell (by exact hglt)]; exact hc0) (Pt.ok_below hq0 K.grow)
          · exact st_move (.tmp 9) rfl (K.old 9 rfl)
          · exact st_move (.tmp 1) rfl (K.old 1 rfl)
          · exact st_call 15 (.tmp 64) _ _ #[.int .i64 za, .int .i64 2] rfl (K.dep 27 64 rfl) (two_args (K.dep 28 65 rfl) rfl) Tryd.enter15 (fk_number2 za w')
          · exact st_move (.tmp 9) rfl (K.old 9 rfl)
          · exact st_move (.tmp 2) rfl (K.old 2 rfl)
          · exact st_call 15 (.tmp 67) _ _ #[.int .i64 zb, .int .i64 2] rfl (K.dep 30 67 rfl) (two_args (K.dep 31 68 rfl) rfl) Tryd.enter15 (fk_number2 zb w')
          · exact st_build3 (.tmp 63) (.tmp 66) (.tmp 69) rfl (K.dep 26 63 rfl) (K.dep 29 66 rfl) (K.dep 32 69 rfl)
          · exact st_call 10 (.func 10) _ _ #[.int .u8 (bv (kb 2)), a.eval (.tmp 70)] rfl rfl rfl Tryd.enter10 (fk_bytes (kb 2) (by simp only [List.length_append, two, List.length_cons, List.length_nil]; omega) (by omega) (K.dep 33 70 rfl))
          · exact st_call 9 (.func 9) _ _ #[a.eval (.tmp 71)] rfl rfl rfl Tryd.enter9 (S1 _ _ (hT4.below K.grow) (K.dep 34 71 rfl))
          · exact st_eq24 (.tmp 60) (.tmp 72) rfl h1 l1 (K.dep 23 60 rfl) (K.dep 35 72 rfl)
          · exact st_pick_t (.tmp 54) (.tmp 73) _ rfl (K.dep 17 54 rfl) (K.dep 36 73 rfl)
          · exact st_move (.tmp 74) rfl (K.dep 37 74 rfl)
          · exact st_move (.tmp 0) rfl (K.old 0 rfl)
          · exact st_idx30 (.tmp 76) 0 rfl _ _ n C (K.dep 39 76 rfl) (by omega)
          · exact st_load24m (.tmp 77) rfl _ _ q0.bs (K.dep 40 77 rfl) hx0 ((hB0.below K.grow hlt))
          · exact st_move (.tmp 1) rfl (K.old 1 rfl)
          · exact st_move (.tmp 2) rfl (K.old 2 rfl)
          · exact st_call 18 (.func 18) _ _ #[.agg (q0.bs.map V).toArray, .int .i64 za, .int .i64 zb] rfl rfl (three_args (K.dep 41 78 rfl) (K.dep 42 79 rfl) (K.dep 43 80 rfl)) Tryd.enter18 (C2 _ (hT4.below K.grow))
          · exact st_move (.tmp 7) rfl (K.old 7 rfl)
          · exact st_idx31 (.tmp 82) 0 rfl _ n cap (K.dep 45 82 rfl) (by omega)
          · exact st_load22 (.tmp 83) rfl _ _ q0 (K.dep 46 83 rfl) (by rw [K.grow.cell (by exact hglt)]; exact hc0) (Pt.ok_below hq0 K.grow)
          · exact st_move (.tmp 9) rfl (K.old 9 rfl)
          · exact st_move (.tmp 1) rfl (K.old 1 rfl)
          · exact st_call 15 (.tmp 85) _ _ #[.int .i64 za, .int .i64 4] rfl (K.dep 48 85 rfl) (two_args (K.dep 49 86 rfl) rfl) Tryd.enter15 (fk_number4 za w')
          · exact st_move (.tmp 9) rfl (K.old 9 rfl)
          · exact st_move (.tmp 2) rfl (K.old 2 rfl)
          · exact st_call 15 (.tmp 88) _ _ #[.int .i64 zb, .int .i64 4] rfl (K.dep 51 88 rfl) (two_args (K.dep 52 89 rfl) rfl) Tryd.enter15 (fk_number4 zb w')
          · exact st_build3 (.tmp 84) (.tmp 87) (.tmp 90) rfl (K.dep 47 84 rfl) (K.dep 50 87 rfl) (K.dep 53 90 rfl)
          · exact st_call 10 (.func 10) _ _ #[.int .u8 (bv (kb 3)), a.eval (.tmp 91)] rfl rfl rfl Tryd.enter10 (fk_bytes (kb 3) (by simp only [List.length_append, four, List.length_cons, List.length_nil]; omega) (by omega) (K.dep 54 91 rfl))
          · exact st_call 9 (.func 9) _ _ #[a.eval (.tmp 92)] rfl rfl rfl Tryd.enter9 (S2 _ _ (hT4.below K.grow) (K.dep 55 92 rfl))
          · exact st_eq24 (.tmp 81) (.tmp 93) rfl h2 l2 (K.dep 44 81 rfl) (K.dep 56 93 rfl)
          · exact st_pick_t (.tmp 75) (.tmp 94) _ rfl (K.dep 38 75 rfl) (K.dep 57 94 rfl)
          · exact st_move (.tmp 95) rfl (K.dep 58 95 rfl)
          · exact st_call 7 (.func 7) _ _ #[] rfl rfl rfl Tryd.enter7 (fk_awake (hT4.below K.grow))
          · exact st_pick_t (.tmp 96) (.tmp 97) _ rfl (K.dep 59 96 rfl) (K.dep 60 97 rfl)
          intro f5 w5 A5 hb5
          have hb9 : Below w.heap.size w w5 := hb4'.trans (hb5.mono hb4'.size)
          rename_i KK hKK
          refine hKK _ _ ?_
          refine wp_ret ?_
          exact bodyPost_ret (v := .bool true) (ret_slot rfl f5 _ A5.new _ _) A5.defs ⟨rfl, hb9⟩
end Go.Proofs.YtiebjpdjcgefhaaDoor
