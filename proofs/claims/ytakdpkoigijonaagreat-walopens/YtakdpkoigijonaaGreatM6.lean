/- Contracts: Tamper. Contracts: Crash. Contracts: Clone of rows. A drawn region with one operation that only looks and for which the last ones need not wait: it is taken first; the others in any order; the last ones in a chain. Contracts: Repeat. Contracts: New. -/
import Derived.Test.YtakdpkoigijonaaGreatM5
import Derived.Test.YtakdpkoigijonaaGreatM2
import Derived.Test.YtakdpkoigijonaaGreatM3
import Derived.Laws.CopyOwn
namespace Go.Proofs.YtakdpkoigijonaaGreat
set_option maxRecDepth 100000
open Go.RowKit
theorem Dk.tampered {w : World} {gd sb cb C : Nat} {pl : Int} {vs : Array Value} {l : List (Int × Value)} {M D : Nat → Prop} {s : Dst} (r : Dk w gd sb cb C pl vs l M D s) {W w1 w2 : World} (hb : Below w.heap.size w W) {g9 : Nat} {v : Value} {b : List (BitVec 8)} (hz : Fz W (fun j => j = g9) v b) (hg : w.heap.size ≤ g9) (hlen : b.length = s.size) {i : Nat} (hi : i < s.has.length) (hrow : w1.heap[sb]? = some (.cells (vs.setIfInBounds i v) 22 (0, 0))) (O1 : Only sb W w1) (him : Im w2 cb (mdel l (i : Int))) (O : Only cb w1 w2) :
    Dk w2 gd sb cb C pl (vs.setIfInBounds i v) (mdel l (i : Int)) M (fun j => D j ∨ j = g9) { s with has := s.has.set i b, cch := s.cch.set i [] } := by
  have hgW : g9 < W.heap.size := by
    obtain ⟨b', _, _, _, _, _, e, h4, _⟩ := hz
    rw [← e]
    exact h4
  have hgm : ∀ j, M j → j ≠ g9 := fun j q e => by have := r.lt j (r.sub j q); omega
  have hk0 : ∀ j, ¬ M j → j < W.heap.size → w2.heap[j]? = W.heap[j]? := fun j q h => (O.block j (Nat.lt_of_lt_of_le h O1.size) (fun e => q (by rw [e]; exact r.mc))).trans (O1.block j h (fun e => q (by rw [e]; exact r.ms)))
  have hk : ∀ j, D j ∧ ¬ M j → j < w.heap.size → w2.heap[j]? = w.heap[j]? := fun j q h => (hk0 j q.2 (Nat.lt_of_lt_of_le h hb.size)).trans (hb.block j h)
  have hs2 : W.heap.size ≤ w2.heap.size := Nat.le_trans O1.size O.size
  have hz2 : Fz w2 (fun j => (D j ∨ j = g9) ∧ ¬ M j) v b := hz.keep (fun j q h => hk0 j (fun m => hgm j m q) h) hs2 (fun j q _ => ⟨.inr q, fun m => hgm j m q⟩)
  have hsz : w.heap.size ≤ w2.heap.size := Nat.le_trans hb.size hs2
  have hvs := r.vsn hi
  refine ⟨r.hM, r.n1, r.n2, r.n3, fun j q => .inl (r.sub j q), fun j q => q.elim (fun q => Nat.lt_of_lt_of_le (r.lt j q) hsz) (fun q => by subst q; exact Nat.lt_of_lt_of_le hgW hs2), ?_, row_only hrow O r.n3, him, r.pw, r.pos, r.zmax, by show 0 < (s.has.set i b).length ∧ (s.has.set i b).length ≤ 65536; rw [List.length_set]; exact r.nmax, by show (s.cch.set i []).length = (s.has.set i b).length; rw [List.length_set, List.length_set]; exact r.cl, fun i' bs q => ?_, fun k u q => ?_, fun i' bs q h => ?_⟩
  · show Ob w2 gd _ [_, .slice _ (s.has.set i b).length _, _, _, _, _]
    rw [List.length_set]
    exact ((Ob.below r.ob hb).only O1 r.n1).only O r.n2
  · replace q : (s.has.set i b)[i']? = some bs := q
    rw [Array.getElem?_setIfInBounds]
    by_cases e : i = i'
    · subst e
      rw [List.getElem?_set_self hi] at q
      cases q
      rw [if_pos rfl, if_pos hvs]
      exact ⟨hlen, v, rfl, hz2⟩
    · rw [List.getElem?_set_ne e] at q
      obtain ⟨q1, u, q2, q3⟩ := r.sec i' bs q
      rw [if_neg e]
      exact ⟨q1, u, q2, q3.keep hk hsz (fun _ q _ => ⟨.inl q.1, q.2⟩)⟩
  · rw [mget_del] at q
    by_cases e : k = (i : Int)
    · rw [if_pos e] at q
      cases q
    · rw [if_neg e] at q
      obtain ⟨i', bs, q1, q2, q3, q4, q5⟩ := r.key k u q
      refine ⟨i', bs, q1, by show i' < (s.has.set i b).length; rw [List.length_set]; exact q2, ?_, q4, q5.keep hk hsz (fun _ q _ => ⟨.inl q.1, q.2⟩)⟩
      show (s.cch.set i [])[i']? = _
      rw [List.getElem?_set_ne (fun e2 => e (by rw [q1, e2]))]
      exact q3
  · replace q : (s.cch.set i [])[i']? = some bs := q
    rw [mget_del]
    by_cases e : (i' : Int) = (i : Int)
    · have e2 : i = i' := by omega
      subst e2
      rw [List.getElem?_set_self (by rw [r.cl]; exact hi)] at q
      cases q
      exact absurd rfl h
    · rw [if_neg e]
      rw [List.getElem?_set_ne (fun e2 => e (by rw [e2]))] at q
      exact r.cch i' bs q h
/-- One loss in the map. -/
theorem Dk.lost {w : World} {gd sb cb C : Nat} {pl : Int} {vs : Array Value} {l : List (Int × Value)} {M D : Nat → Prop} {s : Dst} (r : Dk w gd sb cb C pl vs l M D s) {w2 : World} {z : Int} (him : Im w2 cb (mdel l z)) (O : Only cb w w2) : Dk w2 gd sb cb C pl vs (mdel l z) M D { s with cch := lose1 s.cch z } := by
  have hk : ∀ j, D j ∧ ¬ M j → j < w.heap.size → w2.heap[j]? = w.heap[j]? := fun j q h => O.block j h (fun e => q.2 (by rw [e]; exact r.mc))
  have hat : ∀ (i : Nat), (i : Int) ≠ z → (lose1 s.cch z)[i]? = s.cch[i]? := fun i h => by
    unfold lose1
    split
    · rw [List.getElem?_set_ne (by omega)]
    · rfl
  have hat2 : ∀ (i : Nat) (bs : List (BitVec 8)), (i : Int) = z → (lose1 s.cch z)[i]? = some bs → bs = [] := fun i bs h q => by
    subst h
    unfold lose1 at q
    split at q
    · rename_i h2
      rw [Int.toNat_natCast, List.getElem?_set_self (by omega)] at q
      exact (Option.some.inj q).symm
    · rename_i h2
      have := (List.getElem?_eq_some_iff.1 q).1
      omega
  refine ⟨r.hM, r.n1, r.n2, r.n3, r.sub, fun j q => Nat.lt_of_lt_of_le (r.lt j q) O.size, r.ob.only O r.n2, row_only r.row O r.n3, him, r.pw, r.pos, r.zmax, r.nmax, by show (lose1 s.cch z).length = _; rw [lose1_len]; exact r.cl, fun i bs q => ?_, fun k u q => ?_, fun i bs q h => ?_⟩
  · obtain ⟨q1, v, q2, q3⟩ := r.sec i bs q
    exact ⟨q1, v, q2, q3.keep hk O.size (fun _ q _ => q)⟩
  · rw [mget_del] at q
    by_cases e : k = z
    · rw [if_pos e] at q
      cases q
    · rw [if_neg e] at q
      obtain ⟨i', bs, q1, q2, q3, q4, q5⟩ := r.key k u q
      exact ⟨i', bs, q1, q2, (hat i' (fun e2 => e (by rw [q1, e2]))).trans q3, q4, q5.keep hk O.size (fun _ q _ => q)⟩
  · replace q : (lose1 s.cch z)[i]? = some bs := q
    rw [mget_del]
    by_cases e : (i : Int) = z
    · exact absurd (hat2 i bs e q) h
    · rw [if_neg e]
      rw [hat i e] at q
      exact r.cch i bs q h
theorem fk_dtamper {w : World} {gd : Nat} {M D : Nat → Prop} {s : Dst} (hd : HD w gd M D s) (h60 : s.has.length ≤ 100000) (i : Int) {b : List (BitVec 8)} {vb : Value} (hb : (Fk.sl b).f vb w) :
    Calls Tryz.prog 6 #[.pointer (some ⟨gd, 0, none⟩), .int .i64 i, vb] w fun e w' => ∃ D', e = .returned (.int .i64 (tmr s i b).1) ∧ HD w' gd M D' (tmr s i b).2 ∧ (∀ j, D' j → D j ∨ w.heap.size ≤ j) ∧ Fr M w w' := by
  have hd00 := hd
  go_enter Tryz.func6, Tryz.ntmps6
  refine code_both (fun f w1 => f.tmps.size = 28 ∧ f.defers = [] ∧ f.eval (.tmp 0) = .pointer (some ⟨gd, 0, none⟩) ∧ f.eval (.tmp 1) = .int .i64 i ∧ f.eval (.tmp 2) = vb ∧ HD w1 gd M D s ∧ Below w.heap.size w (w1)) ⟨rfl, rfl, rfl, rfl, rfl, hd, Below.refl _ _⟩ ?_
  clear hd
  rintro f0 w0 ⟨sz, df, x0, x1, x2, hd, bl⟩
  have sd := And.intro sz df
  clear sz df
  have bl0 := bl
  refine wp_seq ?_
  refine wr_a [.eq (.int .i64 0)] (by rw [sd.1]; kernel_rfl) ⟨fun hw ac u K => ?_, trivial⟩ ?_
  · exact st_assign (.const (.int .i64 0)) rfl rfl
  intro f1 w1 A hb
  replace x0 := A.t x0 rfl
  replace x1 := A.t x1 rfl
  replace x2 := A.t x2 rfl
  replace hd := HD.below hd hb
  replace bl := bgo bl hb
  replace sd := A.sd sd
  clear A hb
  show Code.wp _ _ _ _ _
  refine wp_seq ?_
  refine wp_seq ?_
  have h3 : (i < 0 ∨ (s.has.length : Int) ≤ i) ∨ (¬ (i < 0 ∨ (s.has.length : Int) ≤ i) ∧ b.length ≠ s.size) ∨ (¬ (i < 0 ∨ (s.has.length : Int) ≤ i) ∧ b.length = s.size) := by omega
  rcases h3 with h3 | h3 | h3
  · skip
    have hft : ft s i b = 11 := by unfold ft; rw [if_pos h3]
    refine wr_a [.eq (.pointer (some ⟨gd, 0, none⟩)), .eq (.int .i64 i), .eq (vb), .eq (.int .i64 11), .eq (.int .i64 11)] (by rw [sd.1]; kernel_rfl) ⟨fun hw ac u K => ?_, fun hw ac u K => ?_, fun hw ac u K => ?_, fun hw ac u K => ?_, fun hw ac u K => ?_, trivial⟩ ?_
    · exact st_move (.tmp 0) rfl (K.t x0 rfl)
    · exact st_move (.tmp 1) rfl (K.t x1 rfl)
    · exact st_move (.tmp 2) rfl (K.t x2 rfl)
    · exact st_call 21 (.func 21) _ _ _ rfl rfl (arg3 (K.dep 0 8 rfl) (K.dep 1 9 rfl) (K.dep 2 10 rfl)) Tryz.enter21 ((show Calls Tryz.prog 21 #[.pointer (some ⟨gd, 0, none⟩), .int .i64 i, vb] u (fun e w' => ∃ v, e = .returned v ∧ (Fk.eq (.int .i64 11)).f v w' ∧ Below u.heap.size u w') from by have := fk_dfits (HD.below hd K.grow) i (Fk.mono _ _ _ _ hb (bgo bl K.grow)); rw [hft] at this; exact this))
    · exact st_assign (.tmp 11) rfl (K.dep 3 11 rfl)
    intro f2 w2 A hb
    replace x0 := A.t x0 rfl
    replace x1 := A.t x1 rfl
    replace x2 := A.t x2 rfl
    have x7 := A.e 4 7 rfl rfl
    replace hd := HD.below hd hb
    replace bl := bgo bl hb
    replace sd := A.sd sd
    clear A hb
    show Code.wp _ _ _ _ _
    refine wp_seq ?_
    refine wr_a [.eq (.int .i64 11), .eq (.bool true)] (by rw [sd.1]; kernel_rfl) ⟨fun hw ac u K => ?_, fun hw ac u K => ?_, trivial⟩ ?_
    · exact st_move (.tmp 7) rfl (K.t x7 rfl)
    · exact st_neqi 27 (.tmp 12) (.const (.int .i64 0)) rfl .i64 (11) (0) (K.dep 0 12 rfl) rfl _ (by rfl)
    intro f3 w3 A hb
    replace x0 := A.t x0 rfl
    replace x1 := A.t x1 rfl
    replace x2 := A.t x2 rfl
    replace x7 := A.t x7 rfl
    have x13 := A.e 1 13 rfl rfl
    replace hd := HD.below hd hb
    replace bl := bgo bl hb
    replace sd := A.sd sd
    clear A hb
    show Code.wp _ _ _ _ _
    refine wp_cond_true x13 ?_
    refine wp_seq ?_
    refine wr_a [.eq (.int .i64 11), .eq (.int .i64 11)] (by rw [sd.1]; kernel_rfl) ⟨fun hw ac u K => ?_, fun hw ac u K => ?_, trivial⟩ ?_
    · exact st_move (.tmp 7) rfl (K.t x7 rfl)
    · exact st_assign (.tmp 14) rfl (K.dep 0 14 rfl)
    intro f4 w4 A hb
    replace x0 := A.t x0 rfl
    replace x1 := A.t x1 rfl
    replace x2 := A.t x2 rfl
    replace x7 := A.t x7 rfl
    replace x13 := A.t x13 rfl
    have x6 := A.e 1 6 rfl rfl
    replace hd := HD.below hd hb
    replace bl := bgo bl hb
    replace sd := A.sd sd
    clear A hb
    clear x0
    clear x1
    clear x2
    clear x7
    clear x13
    show Code.wp _ _ _ _ _
    refine wp_ret ?_
    repeat (first | with_reducible refine then_ret ?_ | with_reducible refine block_ret ?_)
    exact bodyPost_ret (v := .int .i64 11) (ret_slot rfl f4 _ x6 _ _) sd.2 (by rw [show tmr s i b = (11, s) from by unfold tmr; rw [if_pos h3]]; exact ⟨D, rfl, hd, fun j q => .inl q, Fr.of_below bl⟩)
  · skip
    have hft : ft s i b = 10 := by unfold ft; rw [if_neg h3.1, if_pos h3.2]
    refine wr_a [.eq (.pointer (some ⟨gd, 0, none⟩)), .eq (.int .i64 i), .eq (vb), .eq (.int .i64 10), .eq (.int .i64 10)] (by rw [sd.1]; kernel_rfl) ⟨fun hw ac u K => ?_, fun hw ac u K => ?_, fun hw ac u K => ?_, fun hw ac u K => ?_, fun hw ac u K => ?_, trivial⟩ ?_
    · exact st_move (.tmp 0) rfl (K.t x0 rfl)
    · exact st_move (.tmp 1) rfl (K.t x1 rfl)
    · exact st_move (.tmp 2) rfl (K.t x2 rfl)
    · exact st_call 21 (.func 21) _ _ _ rfl rfl (arg3 (K.dep 0 8 rfl) (K.dep 1 9 rfl) (K.dep 2 10 rfl)) Tryz.enter21 ((show Calls Tryz.prog 21 #[.pointer (some ⟨gd, 0, none⟩), .int .i64 i, vb] u (fun e w' => ∃ v, e = .returned v ∧ (Fk.eq (.int .i64 10)).f v w' ∧ Below u.heap.size u w') from by have := fk_dfits (HD.below hd K.grow) i (Fk.mono _ _ _ _ hb (bgo bl K.grow)); rw [hft] at this; exact this))
    · exact st_assign (.tmp 11) rfl (K.dep 3 11 rfl)
    intro f2 w2 A hb
    replace x0 := A.t x0 rfl
    replace x1 := A.t x1 rfl
    replace x2 := A.t x2 rfl
    have x7 := A.e 4 7 rfl rfl
    replace hd := HD.below hd hb
    replace bl := bgo bl hb
    replace sd := A.sd sd
    clear A hb
    show Code.wp _ _ _ _ _
    refine wp_seq ?_
    refine wr_a [.eq (.int .i64 10), .eq (.bool true)] (by rw [sd.1]; kernel_rfl) ⟨fun hw ac u K => ?_, fun hw ac u K => ?_, trivial⟩ ?_
    · exact st_move (.tmp 7) rfl (K.t x7 rfl)
    · exact st_neqi 27 (.tmp 12) (.const (.int .i64 0)) rfl .i64 (10) (0) (K.dep 0 12 rfl) rfl _ (by rfl)
    intro f3 w3 A hb
    replace x0 := A.t x0 rfl
    replace x1 := A.t x1 rfl
    replace x2 := A.t x2 rfl
    replace x7 := A.t x7 rfl
    have x13 := A.e 1 13 rfl rfl
    replace hd := HD.below hd hb
    replace bl := bgo bl hb
    replace sd := A.sd sd
    clear A hb
    show Code.wp _ _ _ _ _
    refine wp_cond_true x13 ?_
    refine wp_seq ?_
    refine wr_a [.eq (.int .i64 10), .eq (.int .i64 10)] (by rw [sd.1]; kernel_rfl) ⟨fun hw ac u K => ?_, fun hw ac u K => ?_, trivial⟩ ?_
    · exact st_move (.tmp 7) rfl (K.t x7 rfl)
    · exact st_assign (.tmp 14) rfl (K.dep 0 14 rfl)
    intro f4 w4 A hb
    replace x0 := A.t x0 rfl
    replace x1 := A.t x1 rfl
    replace x2 := A.t x2 rfl
    replace x7 := A.t x7 rfl
    replace x13 := A.t x13 rfl
    have x6 := A.e 1 6 rfl rfl
    replace hd := HD.below hd hb
    replace bl := bgo bl hb
    replace sd := A.sd sd
    clear A hb
    clear x0
    clear x1
    clear x2
    clear x7
    clear x13
    show Code.wp _ _ _ _ _
    refine wp_ret ?_
    repeat (first | with_reducible refine then_ret ?_ | with_reducible refine block_ret ?_)
    exact bodyPost_ret (v := .int .i64 10) (ret_slot rfl f4 _ x6 _ _) sd.2 (by rw [show tmr s i b = (10, s) from by unfold tmr; rw [if_neg h3.1, if_pos h3.2]]; exact ⟨D, rfl, hd, fun j q => .inl q, Fr.of_below bl⟩)
  have hft : ft s i b = 0 := by unfold ft; rw [if_neg h3.1, if_neg (fun h => h h3.2)]
  have hlb := h3.2
  refine wr_a [.eq (.pointer (some ⟨gd, 0, none⟩)), .eq (.int .i64 i), .eq (vb), .eq (.int .i64 0), .eq (.int .i64 0)] (by rw [sd.1]; kernel_rfl) ⟨fun hw ac u K => ?_, fun hw ac u K => ?_, fun hw ac u K => ?_, fun hw ac u K => ?_, fun hw ac u K => ?_, trivial⟩ ?_
  · exact st_move (.tmp 0) rfl (K.t x0 rfl)
  · exact st_move (.tmp 1) rfl (K.t x1 rfl)
  · exact st_move (.tmp 2) rfl (K.t x2 rfl)
  · exact st_call 21 (.func 21) _ _ _ rfl rfl (arg3 (K.dep 0 8 rfl) (K.dep 1 9 rfl) (K.dep 2 10 rfl)) Tryz.enter21 ((show Calls Tryz.prog 21 #[.pointer (some ⟨gd, 0, none⟩), .int .i64 i, vb] u (fun e w' => ∃ v, e = .returned v ∧ (Fk.eq (.int .i64 0)).f v w' ∧ Below u.heap.size u w') from by have := fk_dfits (HD.below hd K.grow) i (Fk.mono _ _ _ _ hb (bgo bl K.grow)); rw [hft] at this; exact this))
  · exact st_assign (.tmp 11) rfl (K.dep 3 11 rfl)
  intro f2 w2 A hb
  replace x0 := A.t x0 rfl
  replace x1 := A.t x1 rfl
  replace x2 := A.t x2 rfl
  have x7 := A.e 4 7 rfl rfl
  replace hd := HD.below hd hb
  replace bl := bgo bl hb
  replace sd := A.sd sd
  clear A hb
  show Code.wp _ _ _ _ _
  refine wp_seq ?_
  refine wr_a [.eq (.int .i64 0), .eq (.bool false)] (by rw [sd.1]; kernel_rfl) ⟨fun hw ac u K => ?_, fun hw ac u K => ?_, trivial⟩ ?_
  · exact st_move (.tmp 7) rfl (K.t x7 rfl)
  · exact st_neqi 27 (.tmp 12) (.const (.int .i64 0)) rfl .i64 (0) (0) (K.dep 0 12 rfl) rfl _ (by rfl)
  intro f3 w3 A hb
  replace x0 := A.t x0 rfl
  replace x1 := A.t x1 rfl
  replace x2 := A.t x2 rfl
  replace x7 := A.t x7 rfl
  have x13 := A.e 1 13 rfl rfl
  replace hd := HD.below hd hb
  replace bl := bgo bl hb
  replace sd := A.sd sd
  clear A hb
  show Code.wp _ _ _ _ _
  refine wp_cond_false x13 ?_
  refine wp_skip ?_
  show Code.wp _ _ _ _ _
  refine wp_seq ?_
  obtain ⟨sb, cb, C, pl, vs, l, r⟩ := hd00
  have m0 := r.ob
  have hpos := r.pos
  have hzm := r.zmax
  have hnm := r.nmax
  clear hd
  obtain ⟨j, rfl⟩ : ∃ j : Nat, i = (j : Int) := ⟨i.toNat, by omega⟩
  have hj : j < s.has.length := by omega
  refine wr_t [.eq (.pointer (some ⟨gd, 0, none⟩)), .eq (.pointer (some ⟨gd, 0, none⟩)), .eq (.pointer (some ⟨gd, 1, none⟩)), .eq (.slice (some ⟨sb, 0, none⟩) s.has.length C), .eq (.int .i64 (j : Int)), .eq (vb), .n8 w.heap.size (b), .eq (.pointer (some ⟨sb, j, none⟩))] [8] Tryz.mixed (by rw [sd.1]; kernel_rfl) ⟨fun hw ac u K => ?_, fun hw ac u K => ?_, fun hw ac u K => ?_, fun hw ac u K => ?_, fun hw ac u K => ?_, fun hw ac u K => ?_, fun hw ac u K => ?_, fun hw ac u K => ?_, trivial⟩ ?_
  · exact st_move (.tmp 0) rfl (K.t x0 rfl)
  · exact st_nil (.tmp 15) rfl (K.dep 0 15 rfl)
  · exact st_field 51 1 (.tmp 16) rfl (K.dep 1 16 rfl) (by kernel_rfl)
  · exact st_loadc 23 (.tmp 17) rfl (by kernel_rfl) (K.dep 2 17 rfl) (Ob.cell (Ob.below m0 (bgo bl K.grow)) 1 rfl)
  · exact st_move (.tmp 1) rfl (K.t x1 rfl)
  · exact st_move (.tmp 2) rfl (K.t x2 rfl)
  · exact st_call 22 (.func 22) _ _ _ rfl rfl (one_arg (K.dep 5 20 rfl)) Tryz.enter22 (clone8_own (by omega) (by omega) (Fk.mono _ _ _ _ hb (bgo bl K.grow)) (Nat.le_trans bl.size K.grow.size))
  · exact st_idxr (.tmp 18) (.tmp 19) rfl (K.dep 3 18 rfl) j (K.dep 4 19 rfl) hj
  intro f4 w4 A hb
  replace x0 := A.t x0 rfl
  replace x1 := A.t x1 rfl
  replace x2 := A.t x2 rfl
  replace x7 := A.t x7 rfl
  replace x13 := A.t x13 rfl
  have x21 : Fk.f (.n8 w.heap.size (b)) (f4.eval (.tmp 21)) w4 := A.has 6 21 rfl
  have x22 := A.e 7 22 rfl rfl
  replace bl := bgo bl hb
  replace sd := A.sd sd
  clear A hb
  clear x2
  clear x7
  clear x13
  obtain ⟨g9, C9, e9, q1, q2, q3⟩ := x21
  rw [e9] at q3
  replace x21 := e9
  clear e9 q2
  have hrw := row_below r.row bl
  refine wl_stc 22 rfl (.tmp 22) (.tmp 21) rfl rfl (by kernel_rfl) sb j (.slice (some ⟨g9, 0, none⟩) b.length C9) x22 x21 rfl rfl (row_there hrw (r.vsn hj)) ?_
  have O1 := (Only.refl sb w4).setCell j (.slice (some ⟨g9, 0, none⟩) b.length C9)
  have hrow2 := row_set (i := j) hrw (.slice (some ⟨g9, 0, none⟩) b.length C9)
  have hW : Below w.heap.size w w4 := bl
  have m1 := (Ob.below m0 hW).only O1 r.n1
  have him1 := (Im.below r.im hW).only O1 r.n3.symm
  replace bl : Fr M w (w4.setCell ⟨sb, j, none⟩ (.slice (some ⟨g9, 0, none⟩) b.length C9)) := (Fr.of_below hW).only O1 (.inl r.ms)
  clear m0 hrw
  generalize w4.setCell ⟨sb, j, none⟩ (.slice (some ⟨g9, 0, none⟩) b.length C9) = w5b at O1 hrow2 m1 him1 bl ⊢
  have m0 := m1
  replace bl0 := bl
  clear m1
  clear x21
  clear x22
  have hO9 := Below.refl w5b.heap.size w5b
  refine wpList_nil ?_
  show Code.wp _ _ _ _ _
  refine wp_seq ?_
  refine wr_s [.eq (.pointer (some ⟨gd, 0, none⟩)), .eq (.pointer (some ⟨gd, 0, none⟩)), .eq (.pointer (some ⟨gd, 2, none⟩)), .eq (.map (some cb)), .eq (.int .i64 (j : Int))] (by rw [sd.1]; kernel_rfl) ⟨fun hw ac u K => ?_, fun hw ac u K => ?_, fun hw ac u K => ?_, fun hw ac u K => ?_, fun hw ac u K => ?_, trivial⟩ ?_
  · exact st_move (.tmp 0) rfl (K.t x0 rfl)
  · exact st_nil (.tmp 23) rfl (K.dep 0 23 rfl)
  · exact st_field 51 2 (.tmp 24) rfl (K.dep 1 24 rfl) (by kernel_rfl)
  · exact st_loadc 46 (.tmp 25) rfl (by kernel_rfl) (K.dep 2 25 rfl) (Ob.cell (Ob.below m0 K.grow) 2 rfl)
  · exact st_move (.tmp 1) rfl (K.t x1 rfl)
  intro f6 w6 A hb
  replace x0 := A.t x0 rfl
  replace x1 := A.t x1 rfl
  have x26 := A.e 3 26 rfl rfl
  have x27 := A.e 4 27 rfl rfl
  replace m0 := Ob.below m0 hb
  replace him1 := Im.below him1 hb
  replace hO9 := (bgo hO9 hb)
  replace bl := (Fr.grow bl hb)
  replace sd := A.sd sd
  clear A hb
  clear x0
  clear x1
  obtain ⟨w7, hrun, him, O⟩ := run_deleteI (P := Tryz.prog) (t := 46) Tryz.under3 Tryz.mapq him1 (k := (j : Int)) (wf_nat (by omega)) 3 0
  refine wl_exec0 rfl rfl (v := .tuple #[]) (w2 := w7) (.inl (by unfold execOp; simp [resolve, invoke, builtin, x26, x27, hrun])) ?_
  have hO1 : Only sb _ w6 := O1.trans (Only.of_below hO9)
  have hd : HD w7 gd M (fun j => D j ∨ j = g9) { s with has := s.has.set j b, cch := s.cch.set j [] } := ⟨_, _, _, _, _, _, r.tampered hW q3 q1 hlb hj (row_below hrow2 hO9) hO1 him O⟩
  replace bl : Fr M w w7 := bl.only O (.inl r.mc)
  replace bl0 := bl
  have hq1 := q1
  clear hrun him O q3 q1 m0 him1 hO9 hO1
  clear x26
  clear x27
  refine wpList_nil ?_
  show Code.wp _ _ _ _ _
  refine wp_seq ?_
  refine wr_a [.eq (.int .i64 0)] (by rw [sd.1]; kernel_rfl) ⟨fun hw ac u K => ?_, trivial⟩ ?_
  · exact st_assign (.const (.int .i64 0)) rfl rfl
  intro f8 w8 A hb
  have x6 := A.e 0 6 rfl rfl
  replace hd := HD.below hd hb
  replace bl := (Fr.grow bl hb)
  replace sd := A.sd sd
  clear A hb
  show Code.wp _ _ _ _ _
  refine wp_ret ?_
  repeat (first | with_reducible refine then_ret ?_ | with_reducible refine block_ret ?_)
  exact bodyPost_ret (v := .int .i64 0) (ret_slot rfl f8 _ x6 _ _) sd.2 (by rw [show tmr s (j : Int) b = (0, { s with has := s.has.set j b, cch := s.cch.set j [] }) from by unfold tmr; rw [if_neg h3.1, if_neg (fun h => h hlb), Int.toNat_natCast]]; exact ⟨_, rfl, hd, fun q h => h.imp id (fun e => by rw [e]; exact hq1), bl⟩)
end Go.Proofs.YtakdpkoigijonaaGreat
namespace Go.Proofs.YtakdpkoigijonaaGreat
set_option maxRecDepth 100000
open Go.RowKit
theorem Dk.below {w w' : World} {g sb cb C : Nat} {pl : Int} {vs : Array Value} {l : List (Int × Value)} {M D : Nat → Prop} {s : Dst} (r : Dk w g sb cb C pl vs l M D s) (hb : Below w.heap.size w w') : Dk w' g sb cb C pl vs l M D s := r.keep (fun j hj => hb.block j (r.lt j hj)) hb.size
theorem Ob.two {w : World} {b : Nat} {T : TypeId} {cs : List Value} (h : Ob w b T cs) (i : Nat) (hi : i + 1 < cs.length) : w.there b i 2 := by
  intro j hj
  have h1 := h.there (i + j) (by omega) 0 (by omega)
  rw [Nat.add_zero] at h1
  exact h1
end Go.Proofs.YtakdpkoigijonaaGreat
namespace Go.Proofs.YtakdpkoigijonaaGreat
set_option maxRecDepth 100000
open Go.RowKit
theorem Tryz.info29q : (Tryz.prog.info? 22).map (fun i => (i.zero, i.size, i.bytes)) = some (some (.slice none 0 0), 1, 24) := by kernel_rfl
section
variable {Q : Exit → Act → World → Prop} {o : Oper} {a : Act} {w : World} {ops : Array Oper} {rest : List Oper}
end
end Go.Proofs.YtakdpkoigijonaaGreat
namespace Go.Proofs.YtakdpkoigijonaaGreat
set_option maxRecDepth 100000
open Go.RowKit
section
variable {P : Program} {ops : Array Oper} {Q : Exit → Act → World → Prop}
/-- Each from number k on waits, in the end, for all ahead of number k, but for number m. -/
def coverEarly (ops : List Oper) (k m : Nat) : Bool := (List.range ops.length).all fun j => decide (j < k) || (List.range k).all fun i => i == m || (clo ops 8 (tgts ops j)).contains i
theorem wp_mids_early {qs : List Fk} {a0 : Act} {w0 : World} (m0 : Nat) (js : List Nat) (hk : qs.length ≤ ops.size) (hE : backOk ops.toList = true) (hC : coverEarly ops.toList qs.length m0 = true) (hJ : chainOk ops (firstK qs.length ops.size) js = true)
    (hD : dstsOk a0.tmps.size (ops.toList.take qs.length) = true) (hG : guardsOk ops.toList qs.length qs ops.toList qs = true)
    (hS : Steps P Q ops.toList qs.length qs a0 w0 ops.toList qs)
    (hF : ∀ af w', Final ops.toList qs a0 af w' → Below w0.heap.size w0 w' → wpList P ops Q (js.filterMap (ops[·]?)) af w') :
    ∀ (fuel : Nat) (listed : Array Bool) (a : Act) (w : World), unl listed ≤ fuel → Closed ops listed → listed.getD m0 false = true → Mids ops qs.length (fkAt qs) a0 w0 listed a w → wpAny P .any ops Q fuel listed a w := by
  have hend : ∀ (fuel : Nat) (listed : Array Bool) (a : Act) (w : World), unl listed ≤ fuel → Mids ops qs.length (fkAt qs) a0 w0 listed a w → (∀ i, i < qs.length → listed.getD i false = true) → wpAny P .any ops Q fuel listed a w := by
    intro fuel listed a w hu hm hall
    have he : listed = firstK qs.length ops.size := by
      apply Array.ext (by simp [firstK, hm.lsize])
      intro i h1 h2
      simp only [firstK, Array.getElem_ofFn]
      by_cases hi : i < qs.length
      · have := hall i hi
        simp [h1] at this
        simp [this, hi]
      · have h3 : i < ops.size := by rw [hm.lsize] at h1; exact h1
        have := hm.last i (by omega) h3
        simp [h1] at this
        simp [this, hi]
    have hJ' : chainOk ops listed js = true := by rw [he]; exact hJ
    have hlen := chain_len js listed hJ'
    refine any_list js fuel listed a w hJ' (by omega) ?_
    refine hF a w ⟨hm.defs, hm.size, fun t ht => eval_of_get (hm.old t ht), fun i d h => ?_⟩ hm.grow
    simp only [Bool.and_eq_true, decide_eq_true_eq, beq_iff_eq] at h
    obtain ⟨hi, hd⟩ := h
    cases ho : ops.toList[i]? with
    | none => rw [ho] at hd; simp at hd
    | some o =>
      rw [ho] at hd
      exact hm.has i o d hi (by rw [← Array.getElem?_toList]; exact ho) (by simpa using hd) (hall i hi)
  intro fuel
  induction fuel with
  | zero =>
    intro listed a w hu hcl hl0 hm
    have hall := unl_zero (listed := listed) (by omega)
    refine hend 0 listed a w hu hm (fun i hi => ?_)
    have hil : i < listed.size := by rw [hm.lsize]; omega
    rw [← getD_tf hil]; exact hall i hil
  | succ fuel ih =>
    intro listed a w hu hcl hl0 hm
    by_cases hall : ∀ i, i < qs.length → listed.getD i false = true
    · exact hend (fuel + 1) listed a w hu hm hall
    · have hex : ∃ i0, i0 < qs.length ∧ listed.getD i0 false = false := by
        apply Classical.byContradiction
        intro hno
        apply hall
        intro i hi
        cases hq : listed.getD i false with
        | true => rfl
        | false => exact absurd ⟨i, hi, hq⟩ hno
      obtain ⟨i0, hi0, hi0u⟩ := hex
      refine ⟨fun hr => ?_, fun i hi => ?_⟩
      · exfalso
        have hu0 := ready_back hE hm.lsize hr
        have hil : i0 < listed.size := by rw [hm.lsize]; omega
        have := unl_zero hu0 i0 hil
        rw [getD_tf hil, hi0u] at this
        cases this
      · obtain ⟨hun, o, ho, hdep⟩ := mem_ready.1 hi
        have hio : i < ops.size := (Array.getElem?_eq_some_iff.1 ho).1
        have hu' := unl_set hun
        have hil : i < listed.size := by rw [hm.lsize]; exact hio
        have htg : ∀ j ∈ tgt o, listed.getD j false = true := fun j hj => by
          obtain ⟨e, he, hb, rfl⟩ := mem_tgt.1 hj
          exact hdep e he hb
        have hik : i < qs.length := by
          rcases Nat.lt_or_ge i qs.length with h | h
          · exact h
          · exfalso
            unfold coverEarly at hC
            have h1 := List.all_eq_true.1 hC i (by simpa using hio)
            simp only [Bool.or_eq_true, decide_eq_true_eq] at h1
            rcases h1 with h1 | h1
            · omega
            · have h2 := List.all_eq_true.1 h1 i0 (by simpa using hi0)
              have h3 : i0 ∈ clo ops.toList 8 (tgts ops.toList i) := by
                rcases Bool.or_eq_true _ _ ▸ h2 with h2 | h2
                · rw [beq_iff_eq] at h2
                  rw [← h2, hi0u] at hl0
                  cases hl0
                · simpa using h2
              have h4 := clo_listed hcl 8 (tgts ops.toList i) (fun j hj => by
                unfold tgts at hj
                rw [Array.getElem?_toList, ho] at hj
                exact htg j (by simpa using hj)) i0 h3
              rw [hi0u] at h4
              cases h4
        have hK : Known ops.toList qs.length (fkAt qs) a0 w0 o a w := by
          refine ⟨fun t ht => eval_of_get (hm.old t ht), fun j d hj => ?_, hm.grow⟩
          unfold depOk at hj
          simp only [Bool.and_eq_true, decide_eq_true_eq, beq_iff_eq, Array.getElem?_toList] at hj
          obtain ⟨⟨hjk, hany⟩, hd⟩ := hj
          obtain ⟨e, he, hb⟩ := List.any_eq_true.1 hany
          simp only [Bool.and_eq_true, beq_iff_eq] at hb
          have hl := hdep e (by simpa using he) hb.2
          rw [hb.1] at hl
          cases hoj : ops[j]? with
          | none => rw [hoj] at hd; simp at hd
          | some oj =>
            rw [hoj] at hd
            exact hm.has j oj d hjk hoj (by simpa using hd) hl
        have hto : (ops.toList.take qs.length)[i]? = some o := by rw [List.getElem?_take, if_pos hik, Array.getElem?_toList]; exact ho
        obtain ⟨d, hd, hlt, hallD⟩ := dstsOk_spec hD i o hto
        have hcl' : Closed ops (listed.setIfInBounds i true) := by
          intro m om hom hml j hj
          by_cases e : m = i
          · subst e
            obtain rfl : om = o := Option.some.inj (hom.symm.trans ho)
            have h1 := htg j hj
            by_cases e2 : j = m
            · subst e2; exact getD_set_same hil
            · have hne : m ≠ j := fun h => e2 h.symm
              simpa [Array.getElem?_setIfInBounds, hne] using h1
          · have hne : i ≠ m := fun h => e h.symm
            have hml' : listed.getD m false = true := by simpa [Array.getElem?_setIfInBounds, hne] using hml
            have h1 := hcl m om hom hml' j hj
            by_cases e2 : j = i
            · subst e2; exact getD_set_same hil
            · have hne2 : i ≠ j := fun h => e2 h.symm
              simpa [Array.getElem?_setIfInBounds, hne2] using h1
        have hl1 : (listed.setIfInBounds i true).getD m0 false = true := by
          by_cases e : m0 = i
          · subst e; exact getD_set_same hil
          · have hne : i ≠ m0 := fun h => e h.symm
            simpa [Array.getElem?_setIfInBounds, hne] using hl0
        have hnext : ∀ v w', Below w.heap.size w w' → fkAt qs i v w' → wpAny P .any ops Q fuel (listed.setIfInBounds i true) (a.put o.dst v) w' := by
          intro v w' hb hf
          refine ih _ _ _ (by omega) hcl' hl1 ⟨by rw [put_size]; exact hm.size, by rw [put_def]; exact hm.defs, by simp; exact hm.lsize, fun t ht => ?_, fun j oj dj hj hoj hdj hlj => ?_, fun j hj1 hj2 => ?_, hm.grow.trans (hb.mono hm.grow.size)⟩
          · rw [put_other _ _ _ _ (freeOf_spec ht hto)]; exact hm.old t ht
          · by_cases e : j = i
            · subst e
              obtain rfl : oj = o := Option.some.inj (hoj.symm.trans ho)
              obtain rfl : dj = d := Option.some.inj (hdj.symm.trans hd)
              have hev : (a.put oj.dst v).eval (.tmp dj) = v := by
                have := put_same a dj v (by rw [hm.size]; exact hlt)
                rw [← hd] at this
                simp [Act.eval, this]
              rw [hev]; exact hf
            · have htj : (ops.toList.take qs.length)[j]? = some oj := by rw [List.getElem?_take, if_pos hj, Array.getElem?_toList]; exact hoj
              have hne : o.dst ≠ some dj := fun h => by
                have : d = dj := Option.some.inj (hd.symm.trans h)
                exact hallD j oj htj e (by rw [this]; exact hdj)
              rw [eval_of_get (put_other a o.dst v dj hne)]
              refine Fk.mono _ _ w w' (hm.has j oj dj hj hoj hdj ?_) hb
              have hne2 : i ≠ j := fun h => e h.symm
              simpa [Array.getElem?_setIfInBounds, hne2] using hlj
          · have hne : i ≠ j := by omega
            have := hm.last j hj1 hj2
            simpa [Array.getElem?_setIfInBounds, hne] using this
        have hyield : ∀ (j : Nat) (b c : Bool), o.guard = some (j, b) → (∃ d, depOk ops.toList qs.length o j d = true) → (∀ v w, fkAt qs j v w → v = .bool c) → yielded ops a.tmps j = some c := by
          rintro j b c hg ⟨d, hd⟩ hbool
          have hv := hbool _ _ (hK.dep j d hd)
          have hd2 : (ops[j]?).bind (·.dst) = some d := by
            unfold depOk at hd
            simp only [Bool.and_eq_true, decide_eq_true_eq, beq_iff_eq, Array.getElem?_toList] at hd
            exact hd.2
          have hget : a.tmps[d]? = some (.bool c) := by
            simp only [Act.eval, Array.getD_eq_getD_getElem?] at hv
            cases hq : a.tmps[d]? with
            | none => rw [hq] at hv; simp [undef] at hv
            | some u => rw [hq] at hv; simp at hv; rw [hv]
          unfold yielded
          rw [hd2]
          simp only [Option.bind_some, hget]
        unfold wpOp
        rw [ho]
        show if Region.wanted o (yielded ops a.tmps) = true then _ else _
        have hyes : Region.wanted o (yielded ops a.tmps) = true → wantedBy qs o = true → (if Region.wanted o (yielded ops a.tmps) = true then o.wp P a w (wpAny P .any ops Q fuel (listed.setIfInBounds i true)) Q ∨ (o.asks P a w ∧ LetsOut Q) else wpAny P .any ops Q fuel (listed.setIfInBounds i true) (a.put o.dst undef) w) := by
          intro hwant hwb
          rw [if_pos hwant]
          refine .inl (Oper.wp_mono ?_ (hS.get i o hik (by rw [Array.getElem?_toList]; exact ho) hwb a w hK))
          rintro a' w' ⟨v, rfl, hb, hf⟩
          exact hnext v w' hb hf
        cases hg : o.guard with
        | none => exact hyes (by unfold Region.wanted; rw [hg]) (by unfold wantedBy; rw [hg])
        | some jb =>
          obtain ⟨j, b⟩ := jb
          obtain ⟨hdp, h2⟩ := guardsOk_spec hG i o j b hik (by rw [Array.getElem?_toList]; exact ho) hg
          rcases h2 with h2 | h2
          · refine hyes ?_ (by unfold wantedBy; rw [hg]; exact h2)
            unfold Region.wanted
            rw [hg]
            show (yielded ops a.tmps j == some b) = true
            rw [hyield j b b hg hdp (Fk.isBool_spec h2)]; simp
          · have hno : Region.wanted o (yielded ops a.tmps) = false := by
              unfold Region.wanted
              rw [hg]
              show (yielded ops a.tmps j == some b) = false
              rw [hyield j b (!b) hg hdp (Fk.isBool_spec h2.1)]; cases b <;> rfl
            rw [if_neg (by rw [hno]; simp)]
            exact hnext undef w (Below.refl _ _) (Fk.isAny_spec h2.2 _ _)
theorem anyH_true : ∀ (fuel : Nat) (listed : Array Bool) (a : Act) (w : World), wpAny P .any ops Q fuel listed a w → wpAnyH P .any ops Q (fun _ => True) fuel listed a w
  | 0, _, _, _, h => h
  | fuel + 1, _, _, _, h => ⟨h.1, fun i hi => wpOp_mono (fun a' w' h' => ⟨trivial, anyH_true fuel _ a' w' h'⟩) (h.2 i hi)⟩
/-- A drawn region: number m, which only looks, is taken first. -/
theorem wp_region_early {id : Nat} {a0 : Act} {w : World} (qs : List Fk) (m dm : Nat) (om : Oper) (js : List Nat) (hm : P.follows .mixedOrders = true) (hk : decide (qs.length ≤ ops.size) = true) (hE : backOk ops.toList = true) (hC : coverEarly ops.toList qs.length m = true) (hJ : chainOk ops (firstK qs.length ops.size) js = true)
    (hom : ops[m]? = some om) (hmd : om.dst = some dm) (hmk : decide (m < qs.length) = true) (hmg : om.guard = none) (hma : tgt om = []) (hns : Region.noSelect ops = true) (hfr : Region.free .any ops (Array.replicate ops.size false) m = true) (hrd : (Region.ready .any ops (Array.replicate ops.size false)).contains m = true)
    {v : Value} (hQ : ∀ c a w, Q (.panic c) (a.put om.dst v) w → Q (.panic c) a w) (hy : ∀ w, (execOp a0.eval om).run P w = .ok (.value v) w) (hv : ∀ w, fkAt qs m v w)
    (hD : dstsOk a0.tmps.size (ops.toList.take qs.length) = true) (hG : guardsOk ops.toList qs.length qs ops.toList qs = true)
    (hS : Steps P Q ops.toList qs.length qs a0 w ops.toList qs)
    (hF : ∀ af w', Final ops.toList qs a0 af w' → Below w.heap.size w w' → wpList P ops Q (js.filterMap (ops[·]?)) af w') :
    (Code.region id ops true).wp P Q a0 w := by
  have hmk' := of_decide_eq_true hmk
  have hk' := of_decide_eq_true hk
  have hms : m < ops.size := (Array.getElem?_eq_some_iff.1 hom).1
  refine wp_region_held (S := fun _ => True) hm ?_
  obtain ⟨fuel, hf⟩ : ∃ f, ops.size = f + 1 := ⟨ops.size - 1, by omega⟩
  have key : wpAnyH P .any ops Q (fun _ => True) (fuel + 1) (Array.replicate ops.size false) a0 { w with drawn := w.drawn + 1 } := by
    refine wpAnyH_take hom hns hfr hrd hQ (.inl ⟨by unfold Region.wanted; rw [hmg], fun w _ => hy w⟩) trivial (anyH_true _ _ _ _ ?_)
    have hto : (ops.toList.take qs.length)[m]? = some om := by rw [List.getElem?_take, if_pos hmk', Array.getElem?_toList]; exact hom
    obtain ⟨d, hd, hlt, hallD⟩ := dstsOk_spec hD m om hto
    obtain rfl : dm = d := Option.some.inj (hmd.symm.trans hd)
    refine wp_mids_early m js hk' hE hC hJ hD hG hS hF fuel _ _ _ ?_ ?_ ?_ ?_
    · have h1 := unl_set (listed := Array.replicate ops.size false) (i := m) (by simp [hms])
      have h2 : unl (Array.replicate ops.size false) ≤ ops.size := by
        unfold unl
        exact Nat.le_trans (Array.countP_le_size) (by simp)
      omega
    · intro i o ho hl j hj
      by_cases e : i = m
      · subst e
        obtain rfl : o = om := Option.some.inj (ho.symm.trans hom)
        rw [hma] at hj
        cases hj
      · have hne : m ≠ i := fun h => e h.symm
        have : i < ops.size := (Array.getElem?_eq_some_iff.1 ho).1
        simp [hne, this] at hl
    · exact getD_set_same (by simp [hms])
    · refine ⟨by rw [put_size], by rw [put_def], by simp, fun t ht => put_other _ _ _ _ (freeOf_spec ht hto), fun j oj dj hj hoj hdj hlj => ?_, fun i h1 h2 => ?_, (Below.refl _ _).drew⟩
      · by_cases e : j = m
        · subst e
          obtain rfl : oj = om := Option.some.inj (hoj.symm.trans hom)
          obtain rfl : dj = dm := Option.some.inj (hdj.symm.trans hmd)
          have hev : (a0.put oj.dst v).eval (.tmp dj) = v := by
            have := put_same a0 dj v hlt
            rw [← hmd] at this
            simp [Act.eval, this]
          rw [hev]
          exact hv _
        · have hne : m ≠ j := fun h => e h.symm
          have : j < ops.size := (Array.getElem?_eq_some_iff.1 hoj).1
          simp [hne, this] at hlj
      · have hne : m ≠ i := by omega
        simp [hne, h2]
  rw [hf] at key ⊢
  exact key
end
end Go.Proofs.YtakdpkoigijonaaGreat
namespace Go.Proofs.YtakdpkoigijonaaGreat
set_option maxRecDepth 100000
open Go.RowKit
theorem maskq (a : Nat) (ha : a ≤ 65536) : bits .and .u64 (a : Int) 4294967295 = (a : Int) := by
  have h := bits_and_u64_nat a 4294967295 (by omega) (by omega)
  have e : a &&& 4294967295 = a % 4294967296 := Nat.and_two_pow_sub_one_eq_mod a 32
  rw [e, Nat.mod_eq_of_lt (by omega)] at h
  exact h
theorem fk_mul64 {N : Nat} (hN : N ≤ 65536) (w : World) : Calls Tryz.prog 53 #[.int .u64 1, .int .u64 (N : Int)] w fun e w' => e = .returned (.tuple #[.int .u64 0, .int .u64 (N : Int)]) ∧ w' = w := by
  have h1 : bits .and .u64 (1 : Int) 4294967295 = 1 := maskq 1 (by omega)
  have h2 := maskq N hN
  have h3 : (N : Int) / 4294967296 = 0 := by omega
  have h4 : bits .and .u64 (0 : Int) 4294967295 = 0 := maskq 0 (by omega)
  have h5 : IntKind.u64.wrap (0 : Int) = 0 := by rw [IntKind.wrap_u64]; rfl
  go_enter Tryz.func53, Tryz.ntmps53
  go_wp2
  go_ret2
  exact ⟨rfl, rfl⟩
theorem fk_mul {N : Nat} (hN : N ≤ 65536) (w : World) : Calls Tryz.prog 36 #[.int .u64 1, .int .u64 (N : Int)] w fun e w' => e = .returned (.tuple #[.int .u64 0, .int .u64 (N : Int)]) ∧ w' = w := by
  have c64 := fk_mul64 hN w
  go_enter Tryz.func36, Tryz.ntmps36
  go_wp2_with (go_at_call 53; refine c64.mono ?_; rintro e w' ⟨rfl, hw⟩; rw [hw])
  go_ret2
  exact ⟨rfl, rfl⟩
/-- Nothing, so many times. -/
def nv (n : Nat) : List Value := List.replicate n (.slice none 0 0)
/-- A row that is filled up to m. -/
def rp (v : Value) (m n : Nat) : List Value := List.replicate m v ++ nv (n - m)
theorem rp_len {v : Value} {m n : Nat} (h : m ≤ n) : (rp v m n).length = n := by
  unfold rp nv
  rw [List.length_append, List.length_replicate, List.length_replicate]
  omega
theorem rp_zero (v : Value) (n : Nat) : rp v 0 n = nv n := by simp [rp]
theorem rp_full (v : Value) (n : Nat) : rp v n n = List.replicate n v := by simp [rp, nv]
theorem rp_at {v : Value} {m n i : Nat} (h : i < m) : (rp v m n)[i]? = some v := by
  unfold rp
  rw [List.getElem?_append_left (by rw [List.length_replicate]; exact h), List.getElem?_replicate, if_pos h]
theorem rp_next (v : Value) {m n k : Nat} (h : m + k ≤ n) : splice (rp v m n) m (List.replicate k v) = rp v (m + k) n := by
  unfold splice rp nv
  rw [List.length_replicate]
  have h1 : (List.replicate m v ++ List.replicate (n - m) (Value.slice none 0 0)).take m = List.replicate m v := by
    rw [List.take_append_of_le_length (by rw [List.length_replicate]; exact Nat.le_refl _), List.take_of_length_le (by rw [List.length_replicate]; exact Nat.le_refl _)]
  have h2 : (List.replicate m v ++ List.replicate (n - m) (Value.slice none 0 0)).drop (m + k) = List.replicate (n - (m + k)) (Value.slice none 0 0) := by
    rw [List.drop_append, List.length_replicate, List.drop_eq_nil_of_le (by rw [List.length_replicate]; omega), List.nil_append, List.drop_replicate]
    congr 1
    omega
  rw [h1, h2, ← List.append_assoc, List.replicate_append_replicate]
section
variable {Q : Exit → Act → World → Prop} {o : Oper} {a : Act} {w : World} {ops : Array Oper} {rest : List Oper}
theorem made_nv (n : Nat) : madeCells (Value.slice none 0 0).cells n = (nv n).toArray := by
  unfold madeCells nv
  apply Array.toList_inj.1
  apply List.ext_getElem?
  intro i
  by_cases h : i < n
  · simp [h, Value.cells, Nat.mod_one]
  · simp [h]
theorem wl_makeR (hgd : o.guard = none) (x y : Operand) (ho : o.op = .makeSlice 23 x y) (d : Nat) (hd : o.dst = some d) (hsz : d < a.tmps.size) (n : Nat) (hn : n ≤ 100000) (hx : a.eval x = .int .i64 (n : Int)) (hy : a.eval y = .int .i64 (n : Int))
    (h : ∀ a2 w2 g, a2.defers = a.defers → a2.tmps.size = a.tmps.size → (∀ t, (t == d) = false → a2.eval (.tmp t) = a.eval (.tmp t)) → a2.eval (.tmp d) = .slice (some ⟨g, 0, none⟩) n n → w.heap.size ≤ g → Ob w2 g 22 (nv n) → Below w.heap.size w w2 → wpList Tryz.prog ops Q rest a2 w2) : wpList Tryz.prog ops Q (o :: rest) a w := by
  have hr : (Instr.makeSlice 23 (.int .i64 (n : Int)) (.int .i64 (n : Int))).run Tryz.prog w = .ok (.slice (some ⟨w.heap.size, 0, none⟩) n n) (w.alloc (.cells (nv n).toArray 22)) := by
    obtain ⟨i0, hi, hz0, hz1, hz2⟩ := info_parts Tryz.info29q
    have := run_make (P := Tryz.prog) w 23 22 i0 (.slice none 0 0) Tryz.under23q hi hz0 .i64 .i64 (n : Int) (n : Int) (by omega) (by omega) (by rw [hz2]; omega) (by omega)
    rw [hz1, Int.toNat_natCast, Nat.mul_one, made_nv] at this
    exact this
  unfold wpList
  rw [if_pos (by unfold Region.wanted; rw [hgd])]
  refine .inl ?_
  unfold Oper.wp execOp
  simp only [ho, Sem.run_bind, Sem.run_pure, Result.andThen_ok, hx, hy, hr]
  refine h _ _ w.heap.size (put_def _ _ _) (put_size _ _ _) (fun t ht => ?_) ?_ (Nat.le_refl _) (heap_alloc_new _ _) ((Below.refl _ _).alloc (Nat.le_refl _) _)
  · rw [hd]
    exact put_eval_other _ _ _ _ (fun e => by subst e; simp at ht)
  · rw [hd, put_eval_same _ _ _ hsz]
theorem wl_copyR (hgd : o.guard = none) (d s : Operand) (ho : o.op = .call { callee := .builtin .copy, args := #[d, s], argTypes := #[23, 23] }) (t : Nat) (ht : o.dst = some t) (hsz : t < a.tmps.size) {g g2 off m n k dC sL sC : Nat} {v : Value} {dp : Option Addr}
    (hd : a.eval d = .slice dp (n - m) dC) (hdp : 0 < n - m → dp = some ⟨g, m, none⟩) (hs : a.eval s = .slice (some ⟨g2, off, none⟩) sL sC) (hg : Ob w g 22 (rp v m n)) (hsrc : ∀ j, j < sL → w.cell? ⟨g2, off + j, none⟩ = some v) (hk : k = Nat.min sL (n - m)) (hm : m ≤ n) (h1 : v.oneCell' = true)
    (h : ∀ a2, a2.defers = a.defers → a2.tmps.size = a.tmps.size → (∀ u, (u == t) = false → a2.eval (.tmp u) = a.eval (.tmp u)) → a2.eval (.tmp t) = .int .i64 (k : Int) → Ob (w.setRow g (rp v (m + k) n).toArray) g 22 (rp v (m + k) n) → wpList Tryz.prog ops Q rest a2 (w.setRow g (rp v (m + k) n).toArray)) : wpList Tryz.prog ops Q (o :: rest) a w := by
  have hk1 : k ≤ sL := by rw [hk]; exact Nat.min_le_left _ _
  have hk2 : k ≤ n - m := by rw [hk]; exact Nat.min_le_right _ _
  have h9 := rp_next v (m := m) (n := n) (k := k) (by omega)
  refine wpList_copy_exact hgd d s 23 23 ho 22 Tryz.under23q (by kernel_rfl) dp (some ⟨g2, off, none⟩) (n - m) dC sL sC hd hs g m (rp v m n) 22 hg (List.replicate k v) (by rw [List.length_replicate]; exact hk) (fun hp => ?_) (by rw [List.length_replicate, rp_len hm]; omega) (fun u hu => by rw [List.eq_of_mem_replicate hu]; exact h1) ?_
  · rw [List.length_replicate] at hp
    refine ⟨hdp (by omega), _, rfl, fun j u hj => ?_⟩
    rw [List.getElem?_replicate] at hj
    split at hj
    · rename_i hjk
      cases hj
      rw [Addr.add_mid]
      exact hsrc j (by omega)
    · cases hj
  · rw [h9, List.length_replicate]
    refine h _ (put_def _ _ _) (put_size _ _ _) (fun u hu => ?_) ?_ (setRow_heap _ _ _ _ _ _ hg)
    · rw [ht]
      exact put_eval_other _ _ _ _ (fun e => by subst e; simp at hu)
    · rw [ht, put_eval_same _ _ _ hsz]
      rfl
theorem st_cutr (x y : Operand) (ho : o.op = .slice 23 x none (some y) none) {g n : Nat} (hx : a.eval x = .slice (some ⟨g, 0, none⟩) n n) (m : Nat) (hy : a.eval y = .int .i64 (m : Int)) (hm : m ≤ n) (hp : 0 < n) : o.wp Tryz.prog a w (Ends a o.dst w (Fk.eq (.slice (some ⟨g, 0, none⟩) m n)).f) Q := by
  refine st_pure (v := sliced (some ⟨g, 0, none⟩) 0 m n 1) ?_ ?_
  · have h1 := run_slice_h (P := Tryz.prog) (w := w) 23 (some ⟨g, 0, none⟩) n n (by rw [Tryz.elem23q]; exact Tryz.under23q) .i64 (m : Int) (by omega) (by omega)
    rw [Tryz.elem23q, show (sizeOf 22).run Tryz.prog w = .ok 1 w by kernel_rfl] at h1
    simp only [Result.andThen_ok, Int.toNat_natCast] at h1
    have h2 := run_sliceAt_slice (P := Tryz.prog) (w := w) 23 (.slice (some ⟨g, 0, none⟩) n n) none (some (.int .i64 (m : Int))) none (by rw [Tryz.elem23q]; exact Tryz.under23q)
    unfold execOp
    rw [ho]
    simp [hx, hy, h2, h1]
  · show sliced (some ⟨g, 0, none⟩) 0 m n 1 = Value.slice (some ⟨g, 0, none⟩) m n
    unfold sliced
    rw [if_neg (by omega)]
    simp [Addr.add_mid]
theorem st_restr (x y : Operand) (ho : o.op = .slice 23 x (some y) none none) {g n : Nat} (hx : a.eval x = .slice (some ⟨g, 0, none⟩) n n) (m : Nat) (hy : a.eval y = .int .i64 (m : Int)) (hm : m < n) : o.wp Tryz.prog a w (Ends a o.dst w (Fk.eq (.slice (some ⟨g, m, none⟩) (n - m) (n - m))).f) Q := by
  refine st_pure (v := sliced (some ⟨g, 0, none⟩) m n n 1) ?_ ?_
  · have h1 := run_slice_l (P := Tryz.prog) (w := w) 23 (some ⟨g, 0, none⟩) n n (by rw [Tryz.elem23q]; exact Tryz.under23q) .i64 (m : Int) (by omega) (by omega)
    rw [Tryz.elem23q, show (sizeOf 22).run Tryz.prog w = .ok 1 w by kernel_rfl] at h1
    simp only [Result.andThen_ok, Int.toNat_natCast] at h1
    have h2 := run_sliceAt_slice (P := Tryz.prog) (w := w) 23 (.slice (some ⟨g, 0, none⟩) n n) (some (.int .i64 (m : Int))) none none (by rw [Tryz.elem23q]; exact Tryz.under23q)
    unfold execOp
    rw [ho]
    simp [hx, hy, h2, h1]
  · show sliced (some ⟨g, 0, none⟩) m n n 1 = Value.slice (some ⟨g, m, none⟩) (n - m) (n - m)
    unfold sliced
    rw [if_neg (by omega)]
    simp [Addr.add_mid]
end
theorem fk_repeat {w : World} {h N : Nat} {v : Value} (m0 : Ob w h 22 [v]) (h1 : v.oneCell' = true) (hp : 1 ≤ N) (hN : N ≤ 65536) :
    Calls Tryz.prog 15 #[.slice (some ⟨h, 0, none⟩) 1 1, .int .i64 (N : Int)] w fun e w' => ∃ g, e = .returned (.slice (some ⟨g, 0, none⟩) N N) ∧ w.heap.size ≤ g ∧ Ob w' g 22 (List.replicate N v) ∧ Below w.heap.size w w' := by
  go_enter Tryz.func15, Tryz.ntmps15
  refine code_both (fun f w1 => f.tmps.size = 48 ∧ f.defers = [] ∧ f.eval (.tmp 0) = .slice (some ⟨h, 0, none⟩) 1 1 ∧ f.eval (.tmp 1) = .int .i64 (N : Int) ∧ Below w.heap.size w (w1)) ⟨rfl, rfl, rfl, rfl, Below.refl _ _⟩ ?_
  rintro f0 w0 ⟨sz, df, x0, x1, bl⟩
  have sd := And.intro sz df
  clear sz df
  have bl0 := bl
  refine wp_seq ?_
  refine wr_a [.eq (.slice none 0 0)] (by rw [sd.1]; kernel_rfl) ⟨fun hw ac u K => ?_, trivial⟩ ?_
  · exact st_assign (.const (.slice none 0 0)) rfl rfl
  intro f1 w1 A hb
  replace x0 := A.t x0 rfl
  replace x1 := A.t x1 rfl
  replace bl := bgo bl hb
  replace sd := A.sd sd
  clear A hb
  show Code.wp _ _ _ _ _
  refine wp_seq ?_
  refine wp_seq ?_
  refine wr_a [.eq (.int .i64 (N : Int)), .eq (.bool false)] (by rw [sd.1]; kernel_rfl) ⟨fun hw ac u K => ?_, fun hw ac u K => ?_, trivial⟩ ?_
  · exact st_move (.tmp 1) rfl (K.t x1 rfl)
  · exact st_lss 3 (.tmp 9) (.const (.int .i64 0)) rfl .i64 ((N : Int)) (0) (K.dep 0 9 rfl) rfl _ (by rw [eq_comm, decide_eq_false_iff_not]; omega)
  intro f2 w2 A hb
  replace x0 := A.t x0 rfl
  replace x1 := A.t x1 rfl
  have x10 := A.e 1 10 rfl rfl
  replace bl := bgo bl hb
  replace sd := A.sd sd
  clear A hb
  show Code.wp _ _ _ _ _
  refine wp_cond_false x10 ?_
  refine wp_skip ?_
  show Code.wp _ _ _ _ _
  refine wp_seq ?_
  refine wr_a [.eq (.slice (some ⟨h, 0, none⟩) 1 1), .eq (.int .i64 1), .eq (.int .u64 (1)), .eq (.int .i64 (N : Int)), .eq (.int .u64 ((N : Int))), .eq (.tuple #[.int .u64 0, .int .u64 (N : Int)]), .eq (.tuple #[.int .u64 0, .int .u64 (N : Int)]), .eq (.int .u64 0), .eq (.int .u64 (N : Int)), .eq (.int .u64 0), .eq (.int .u64 (N : Int))] (by rw [sd.1]; kernel_rfl) ⟨fun hw ac u K => ?_, fun hw ac u K => ?_, fun hw ac u K => ?_, fun hw ac u K => ?_, fun hw ac u K => ?_, fun hw ac u K => ?_, fun hw ac u K => ?_, fun hw ac u K => ?_, fun hw ac u K => ?_, fun hw ac u K => ?_, fun hw ac u K => ?_, trivial⟩ ?_
  · exact st_move (.tmp 0) rfl (K.t x0 rfl)
  · exact st_lenrr (.tmp 13) rfl (K.dep 0 13 rfl)
  · exact st_conv 3 71 (.tmp 14) rfl .i64 .u64 (1) (1) (K.dep 1 14 rfl) (by kernel_rfl) (by kernel_rfl) (by rfl)
  · exact st_move (.tmp 1) rfl (K.t x1 rfl)
  · exact st_conv 3 71 (.tmp 16) rfl .i64 .u64 ((N : Int)) ((N : Int)) (K.dep 3 16 rfl) (by kernel_rfl) (by kernel_rfl) (by rw [IntKind.wrap_u64]; omega)
  · exact st_call 36 (.func 36) _ _ _ rfl rfl (arg2 (K.dep 2 15 rfl) (K.dep 4 17 rfl)) Tryz.enter36 ((fk_mul hN _).mono (by rintro e w' ⟨rfl, rfl⟩; exact ⟨_, rfl, rfl, Below.refl _ _⟩))
  · exact st_move (.tmp 18) rfl (K.dep 5 18 rfl)
  · exact st_ext0 (.tmp 12) rfl (K.dep 6 12 rfl) rfl
  · exact st_ext1 (.tmp 12) rfl (K.dep 6 12 rfl) rfl
  · exact st_assign (.tmp 19) rfl (K.dep 7 19 rfl)
  · exact st_assign (.tmp 20) rfl (K.dep 8 20 rfl)
  intro f3 w3 A hb
  replace x0 := A.t x0 rfl
  replace x1 := A.t x1 rfl
  replace x10 := A.t x10 rfl
  have x5 := A.e 9 5 rfl rfl
  have x6 := A.e 10 6 rfl rfl
  replace bl := bgo bl hb
  replace sd := A.sd sd
  clear A hb
  clear x1
  clear x10
  show Code.wp _ _ _ _ _
  refine wp_seq ?_
  refine wp_seq ?_
  refine wr_a [.eq (.int .u64 0), .eq (.bool false), .eq (.bool false), .eq (.int .u64 (N : Int)), .eq (.bool false), .eq (.bool false)] (by rw [sd.1]; kernel_rfl) ⟨fun hw ac u K => ?_, fun hw ac u K => ?_, fun hw ac u K => ?_, fun hw ac u K => ?_, fun hw ac u K => ?_, fun hw ac u K => ?_, trivial⟩ ?_
  · exact st_move (.tmp 5) rfl (K.t x5 rfl)
  · exact st_gtr 71 (.tmp 21) (.const (.int .u64 0)) rfl .u64 0 0 (K.dep 0 21 rfl) rfl false (by rfl)
  · exact st_move (.tmp 22) rfl (K.dep 1 22 rfl)
  · exact st_move (.tmp 6) rfl (K.t x6 rfl)
  · exact st_gtr 71 (.tmp 24) (.const (.int .u64 9223372036854775807)) rfl .u64 (N : Int) 9223372036854775807 (K.dep 3 24 rfl) rfl false (by rw [eq_comm, decide_eq_false_iff_not]; omega)
  · exact st_pick_f' (.tmp 23) (.const (.bool true)) (.tmp 25) rfl (K.dep 2 23 rfl) (K.dep 4 25 rfl)
  intro f4 w4 A hb
  replace x0 := A.t x0 rfl
  replace x5 := A.t x5 rfl
  replace x6 := A.t x6 rfl
  have x26 := A.e 5 26 rfl rfl
  replace bl := bgo bl hb
  replace sd := A.sd sd
  clear A hb
  clear x5
  show Code.wp _ _ _ _ _
  refine wp_cond_false x26 ?_
  refine wp_skip ?_
  show Code.wp _ _ _ _ _
  refine wp_seq ?_
  refine wr_s [.eq (.int .u64 (N : Int)), .eq (.int .i64 ((N : Int)))] (by rw [sd.1]; kernel_rfl) ⟨fun hw ac u K => ?_, fun hw ac u K => ?_, trivial⟩ ?_
  · exact st_move (.tmp 6) rfl (K.t x6 rfl)
  · exact st_conv 71 3 (.tmp 28) rfl .u64 .i64 ((N : Int)) ((N : Int)) (K.dep 0 28 rfl) (by kernel_rfl) (by kernel_rfl) (by rw [IntKind.wrap_i64]; omega)
  intro f5 w5 A hb
  replace x0 := A.t x0 rfl
  replace x6 := A.t x6 rfl
  replace x26 := A.t x26 rfl
  have x29 := A.e 1 29 rfl rfl
  replace bl := bgo bl hb
  replace sd := A.sd sd
  clear A hb
  clear x6
  clear x26
  refine wl_makeR rfl _ _ rfl 30 rfl (by rw [sd.1]; decide) N (by omega) x29 x29 ?_
  intro f6 w6 g df2 sz2 old2 x30 hg0 mR hb
  have hwg : w.heap.size ≤ g := Nat.le_trans bl.size hg0
  replace x0 := tr old2 x0 rfl
  replace x29 := tr old2 x29 rfl
  rw [← rp_zero v] at mR
  replace bl := bgo bl hb
  replace bl0 := bl
  replace sd := sd2 sz2 df2 sd
  clear df2 sz2 old2 hb hg0
  clear x29
  refine wl_one (.eq (.slice (some ⟨g, 0, none⟩) N N)) rfl 7 rfl (by rw [sd.1]; decide) (st_assign (.tmp 30) rfl x30) ?_
  intro f7 w7 df2 sz2 old2 new2 hb
  replace x0 := tr old2 x0 rfl
  replace x30 := tr old2 x30 rfl
  have x7 := Fk.e new2
  replace mR := Ob.below mR hb
  replace bl := bgo bl hb
  replace sd := sd2 sz2 df2 sd
  clear df2 sz2 old2 new2 hb
  refine wpList_nil ?_
  clear x30
  show Code.wp _ _ _ _ _
  refine wp_seq ?_
  refine wr_s [.eq (.slice (some ⟨g, 0, none⟩) N N), .eq (.slice (some ⟨h, 0, none⟩) 1 1)] (by rw [sd.1]; kernel_rfl) ⟨fun hw ac u K => ?_, fun hw ac u K => ?_, trivial⟩ ?_
  · exact st_move (.tmp 7) rfl (K.t x7 rfl)
  · exact st_move (.tmp 0) rfl (K.t x0 rfl)
  intro f8 w8 A hb
  replace x0 := A.t x0 rfl
  replace x7 := A.t x7 rfl
  have x31 := A.e 0 31 rfl rfl
  have x32 := A.e 1 32 rfl rfl
  replace mR := Ob.below mR hb
  replace bl := bgo bl hb
  replace sd := A.sd sd
  clear A hb
  clear x0
  refine wl_copyR rfl (.tmp 31) (.tmp 32) rfl 33 rfl (by rw [sd.1]; decide) (g := g) (m := 0) (n := N) (k := 1) (v := v) x31 (fun _ => rfl) x32 mR (fun j hj => by obtain rfl : j = 0 := (by omega); exact (Ob.below m0 bl).cell 0 rfl) (by rw [Nat.sub_zero]; show 1 = Nat.min 1 N; exact (Nat.min_eq_left (by omega)).symm) (by omega) h1 ?_
  intro f9 df2 sz2 old2 x33 mR2
  replace x7 := tr old2 x7 rfl
  replace x31 := tr old2 x31 rfl
  replace x32 := tr old2 x32 rfl
  replace mR := mR2
  replace bl : Below w.heap.size w (w8.setRow g (rp v (0 + 1) N).toArray) := bl.trans (below_setRow _ _ _ _ hwg)
  generalize w8.setRow g (rp v (0 + 1) N).toArray = w9b at mR bl ⊢
  replace bl0 := bl
  replace sd := sd2 sz2 df2 sd
  clear df2 sz2 old2 mR2
  clear x31
  clear x32
  refine wl_one (.eq (.int .i64 ((1 : Nat) : Int))) rfl 8 rfl (by rw [sd.1]; decide) (st_assign (.tmp 33) rfl x33) ?_
  intro f10 w10 df2 sz2 old2 new2 hb
  replace x7 := tr old2 x7 rfl
  replace x33 := tr old2 x33 rfl
  have x8 := Fk.e new2
  replace mR := Ob.below mR hb
  replace bl := bgo bl hb
  replace sd := sd2 sz2 df2 sd
  clear df2 sz2 old2 new2 hb
  refine wpList_nil ?_
  clear x33
  rw [Nat.zero_add] at mR
  show Code.wp _ _ _ _ _
  refine wp_seq ?_
  refine wp_block ?_
  refine wp_loop (fun f v1 => ∃ m : Nat, 1 ≤ m ∧ m ≤ N ∧ f.tmps.size = 48 ∧ f.defers = [] ∧ f.eval (.tmp 7) = .slice (some ⟨g, 0, none⟩) N N ∧ f.eval (.tmp 8) = .int .i64 (m : Int) ∧ Ob v1 g 22 (rp v m N) ∧ Below w.heap.size w (v1)) (fun f _ => N - (intOf (f.eval (.tmp 8))).toNat) ⟨1, Nat.le_refl _, hp, sd.1, sd.2, x7, x8, mR, bl⟩ ?_
  intro f11 w11 hI
  clear sd bl bl0 x7 x8 mR
  obtain ⟨m, hm1, hm, sz, df, x7, x8, mR, bl⟩ := hI
  have sd := And.intro sz df
  clear sz df
  have bl0 := bl
  have hcnt := x8
  refine wp_seq ?_
  refine wp_seq ?_
  by_cases hlt : m < N
  rotate_left
  · skip
    have hmN : m = N := by omega
    rw [hmN, rp_full] at mR
    refine wr_a [.eq (.int .i64 (m : Int)), .eq (.slice (some ⟨g, 0, none⟩) N N), .eq (.int .i64 (N : Int)), .eq (.bool false)] (by rw [sd.1]; kernel_rfl) ⟨fun hw ac u K => ?_, fun hw ac u K => ?_, fun hw ac u K => ?_, fun hw ac u K => ?_, trivial⟩ ?_
    · exact st_move (.tmp 8) rfl (K.t x8 rfl)
    · exact st_move (.tmp 7) rfl (K.t x7 rfl)
    · exact st_lenrr (.tmp 35) rfl (K.dep 1 35 rfl)
    · exact st_lss 3 (.tmp 34) (.tmp 36) rfl .i64 ((m : Int)) ((N : Int)) (K.dep 0 34 rfl) (K.dep 2 36 rfl) _ (by rw [eq_comm, decide_eq_false_iff_not]; omega)
    intro f12 w12 A hb
    replace x7 := A.t x7 rfl
    replace x8 := A.t x8 rfl
    have x37 := A.e 3 37 rfl rfl
    replace mR := Ob.below mR hb
    replace bl := bgo bl hb
    replace sd := A.sd sd
    clear A hb
    show Code.wp _ _ _ _ _
    refine wp_cond_false x37 ?_
    refine wp_exit ?_
    show Code.wp _ _ _ _ _
    refine wp_seq ?_
    refine wr_a [.eq (.slice (some ⟨g, 0, none⟩) N N), .eq (.slice (some ⟨g, 0, none⟩) N N)] (by rw [sd.1]; kernel_rfl) ⟨fun hw ac u K => ?_, fun hw ac u K => ?_, trivial⟩ ?_
    · exact st_move (.tmp 7) rfl (K.t x7 rfl)
    · exact st_assign (.tmp 47) rfl (K.dep 0 47 rfl)
    intro f13 w13 A hb
    replace x7 := A.t x7 rfl
    replace x8 := A.t x8 rfl
    replace x37 := A.t x37 rfl
    have x4 := A.e 1 4 rfl rfl
    replace mR := Ob.below mR hb
    replace bl := bgo bl hb
    replace sd := A.sd sd
    clear A hb
    clear x37
    show Code.wp _ _ _ _ _
    refine wp_ret ?_
    repeat (first | with_reducible refine then_ret ?_ | with_reducible refine block_ret ?_)
    exact bodyPost_ret (v := .slice (some ⟨g, 0, none⟩) N N) (ret_slot rfl f13 _ x4 _ _) sd.2 ⟨g, rfl, hwg, mR, bl⟩
  obtain ⟨k, hk⟩ : ∃ k, k = Nat.min m (N - m) := ⟨_, rfl⟩
  have hk1 : k ≤ m := by rw [hk]; exact Nat.min_le_left _ _
  have hk2 : k ≤ N - m := by rw [hk]; exact Nat.min_le_right _ _
  have hk3 : 0 < k := by rw [hk]; exact Nat.lt_min.2 ⟨by omega, by omega⟩
  refine wr_a [.eq (.int .i64 (m : Int)), .eq (.slice (some ⟨g, 0, none⟩) N N), .eq (.int .i64 (N : Int)), .eq (.bool true)] (by rw [sd.1]; kernel_rfl) ⟨fun hw ac u K => ?_, fun hw ac u K => ?_, fun hw ac u K => ?_, fun hw ac u K => ?_, trivial⟩ ?_
  · exact st_move (.tmp 8) rfl (K.t x8 rfl)
  · exact st_move (.tmp 7) rfl (K.t x7 rfl)
  · exact st_lenrr (.tmp 35) rfl (K.dep 1 35 rfl)
  · exact st_lss 3 (.tmp 34) (.tmp 36) rfl .i64 ((m : Int)) ((N : Int)) (K.dep 0 34 rfl) (K.dep 2 36 rfl) _ (by rw [eq_comm, decide_eq_true_iff]; omega)
  intro f12 w12 A hb
  replace x7 := A.t x7 rfl
  replace x8 := A.t x8 rfl
  have x37 := A.e 3 37 rfl rfl
  replace mR := Ob.below mR hb
  replace bl := bgo bl hb
  replace sd := A.sd sd
  clear A hb
  show Code.wp _ _ _ _ _
  refine wp_cond_true x37 ?_
  refine wp_skip ?_
  show Code.wp _ _ _ _ _
  refine wp_block ?_
  refine wp_region_early [.eq (.int .i64 (m : Int)), .eq (.slice (some ⟨g, 0, none⟩) N N), .eq (.int .i64 (m : Int)), .eq (.slice (some ⟨g, m, none⟩) (N - m) (N - m)), .eq (.slice (some ⟨g, 0, none⟩) N N), .eq (.int .i64 (m : Int)), .eq (.slice (some ⟨g, 0, none⟩) m N)] 0 38 _ [7, 8, 9] Tryz.mixed (by kernel_rfl) (by kernel_rfl) (by kernel_rfl) (by kernel_rfl) rfl rfl (by kernel_rfl) rfl (by kernel_rfl) (by kernel_rfl) (by kernel_rfl) (by kernel_rfl) (fun _ _ _ h => h) (fun w => run_mv (S := fun _ => True) rfl x8 w trivial) (fun _ => rfl) (by rw [sd.1]; kernel_rfl) (by kernel_rfl) ⟨fun hw ac u K => ?_, fun hw ac u K => ?_, fun hw ac u K => ?_, fun hw ac u K => ?_, fun hw ac u K => ?_, fun hw ac u K => ?_, fun hw ac u K => ?_, trivial⟩ ?_
  · exact st_move (.tmp 8) rfl (K.t x8 rfl)
  · exact st_move (.tmp 7) rfl (K.t x7 rfl)
  · exact st_move (.tmp 8) rfl (K.t x8 rfl)
  · exact st_restr (.tmp 39) (.tmp 40) rfl (K.dep 1 39 rfl) m (K.dep 2 40 rfl) hlt
  · exact st_move (.tmp 7) rfl (K.t x7 rfl)
  · exact st_move (.tmp 8) rfl (K.t x8 rfl)
  · exact st_cutr (.tmp 42) (.tmp 43) rfl (K.dep 4 42 rfl) m (K.dep 5 43 rfl) (by omega) (by omega)
  intro f13 w13 A hb
  replace x7 := A.t x7 rfl
  replace x8 := A.t x8 rfl
  replace x37 := A.t x37 rfl
  have x38 := A.e 0 38 rfl rfl
  have x41 := A.e 3 41 rfl rfl
  have x44 := A.e 6 44 rfl rfl
  replace mR := Ob.below mR hb
  replace bl := bgo bl hb
  replace sd := A.sd sd
  clear A hb
  clear x37
  refine wl_copyR rfl (.tmp 41) (.tmp 44) rfl 45 rfl (by rw [sd.1]; decide) (g := g) (m := m) (n := N) (k := k) (v := v) x41 (fun _ => rfl) x44 mR (fun j hj => by rw [Nat.zero_add]; exact mR.cell j (rp_at hj)) hk (by omega) h1 ?_
  intro f14 df2 sz2 old2 x45 mR2
  replace x7 := tr old2 x7 rfl
  replace x8 := tr old2 x8 rfl
  replace x38 := tr old2 x38 rfl
  replace x41 := tr old2 x41 rfl
  replace x44 := tr old2 x44 rfl
  replace mR := mR2
  replace bl : Below w.heap.size w (w13.setRow g (rp v (m + k) N).toArray) := bl.trans (below_setRow _ _ _ _ hwg)
  generalize w13.setRow g (rp v (m + k) N).toArray = w14b at mR bl ⊢
  replace bl0 := bl
  replace sd := sd2 sz2 df2 sd
  clear df2 sz2 old2 mR2
  clear x41
  clear x44
  refine wl_one (.eq (.int .i64 ((m + k : Nat) : Int))) rfl 46 rfl (by rw [sd.1]; decide) (st_add (.tmp 38) (.tmp 45) rfl (m) (k) (m + k) x38 x45 (by omega) (by omega)) ?_
  intro f15 w15 df2 sz2 old2 new2 hb
  replace x7 := tr old2 x7 rfl
  replace x8 := tr old2 x8 rfl
  replace x38 := tr old2 x38 rfl
  replace x45 := tr old2 x45 rfl
  have x46 := Fk.e new2
  replace mR := Ob.below mR hb
  replace bl := bgo bl hb
  replace sd := sd2 sz2 df2 sd
  clear df2 sz2 old2 new2 hb
  clear x38
  clear x45
  refine wl_one (.eq (.int .i64 ((m + k : Nat) : Int))) rfl 8 rfl (by rw [sd.1]; decide) (st_assign (.tmp 46) rfl x46) ?_
  intro f16 w16 df2 sz2 old2 new2 hb
  replace x7 := tr old2 x7 rfl
  clear x8
  replace x46 := tr old2 x46 rfl
  have x8 := Fk.e new2
  replace mR := Ob.below mR hb
  replace bl := bgo bl hb
  replace sd := sd2 sz2 df2 sd
  clear df2 sz2 old2 new2 hb
  refine wpList_nil ?_
  clear x46
  show (∃ _, _) ∧ _
  refine ⟨⟨m + k, by omega, by omega, sd.1, sd.2, x7, x8, mR, bl⟩, ?_⟩
  rw [show f16.eval (.tmp 8) = _ from x8, show _ = _ from hcnt]
  first | (simp [intOf]; done) | (simp [intOf]; omega)
end Go.Proofs.YtakdpkoigijonaaGreat
namespace Go.Proofs.YtakdpkoigijonaaGreat
set_option maxRecDepth 100000
open Go.RowKit
theorem Tryz.bldRq (a : Option Addr) (n c : Nat) (w : World) : (Instr.buildSlice 23 1 #[(0, .slice a n c)]).run Tryz.prog w = .ok (.slice (some ⟨w.heap.size, 0, none⟩) 1 1) (w.alloc (.cells #[.slice a n c] 22)) := by kernel_rfl
theorem hd_new {w : World} {gd sb cb gB N Z : Nat} (m : Ob w gd 51 [.int .i64 (Z : Int), .slice (some ⟨sb, 0, none⟩) N N, .map (some cb), .int .i64 (-1), .bool false, .int .i64 0]) (mR : Ob w sb 22 (List.replicate N (.slice (some ⟨gB, 0, none⟩) Z Z))) (him : Im w cb []) (mB : Ob w gB 5 ((zs Z).map V)) (n1 : gd ≠ sb) (n2 : gd ≠ cb) (n3 : sb ≠ cb) (b1 : gB ≠ gd) (b2 : gB ≠ sb) (b3 : gB ≠ cb) (h1 : 1 ≤ N) (h2 : N ≤ 65536) (h3 : 16 ≤ Z) (h4 : Z ≤ 4096) :
    HD w gd (fun j => j = gd ∨ j = sb ∨ j = cb) (fun j => (j = gd ∨ j = sb ∨ j = cb) ∨ j = gB) (newd N Z) := by
  have hzl : (zs Z).length = Z := List.length_replicate
  refine ⟨sb, cb, N, -1, _, [], fun j => Iff.rfl, n1, n2, n3, fun j q => .inl q, fun j q => ?_, ?_, mR, him, ⟨rfl, fun h => absurd h (by decide), by decide⟩, ?_, h4, ?_, ?_, fun i bs q => ?_, fun k v q => (by cases q), fun i bs q h => ?_⟩
  · rcases q with (rfl | rfl | rfl) | rfl
    · exact m.lt
    · exact mR.lt
    · exact him.lt
    · exact mB.lt
  · show Ob w gd _ [_, .slice _ (List.replicate N (zs Z)).length _, _, _, _, _]
    rw [List.length_replicate]
    exact m
  · show 0 < Z
    omega
  · show 0 < (List.replicate N (zs Z)).length ∧ (List.replicate N (zs Z)).length ≤ 65536
    rw [List.length_replicate]
    omega
  · show (List.replicate N ([] : List (BitVec 8))).length = (List.replicate N (zs Z)).length
    rw [List.length_replicate, List.length_replicate]
  · replace q : (List.replicate N (zs Z))[i]? = some bs := q
    rw [List.getElem?_replicate] at q
    split at q
    · rename_i hi
      cases q
      refine ⟨hzl, .slice (some ⟨gB, 0, none⟩) Z Z, ?_, gB, Z, 0, by rw [hzl], by rw [hzl]; exact Nat.le_refl _, by rw [hzl]; omega, ⟨.inr rfl, by omega⟩, mB.lt, Ob.bytes (T := 5) (cs := []) (by rw [List.append_nil]; exact mB)⟩
      rw [List.getElem?_toArray, List.getElem?_replicate, if_pos hi]
    · cases q
  · replace q : (List.replicate N ([] : List (BitVec 8)))[i]? = some bs := q
    rw [List.getElem?_replicate] at q
    split at q
    · cases q
      exact absurd rfl h
    · cases q
theorem fk_dnew {N Z : Nat} (h1 : 1 ≤ N) (h2 : N ≤ 65536) (h3 : 16 ≤ Z) (h4 : Z ≤ 4096) (w : World) :
    Calls Tryz.prog 4 #[.int .i64 (N : Int), .int .i64 (Z : Int)] w fun e w' => ∃ (gd : Nat) (M D : Nat → Prop), e = .returned (.pointer (some ⟨gd, 0, none⟩)) ∧ HD w' gd M D (newd N Z) ∧ (∀ j, D j → w.heap.size ≤ j) ∧ Below w.heap.size w w' := by
  go_enter Tryz.func4, Tryz.ntmps4
  refine code_both (fun f w1 => f.tmps.size = 31 ∧ f.defers = [] ∧ f.eval (.tmp 0) = .int .i64 (N : Int) ∧ f.eval (.tmp 1) = .int .i64 (Z : Int) ∧ Below w.heap.size w (w1)) ⟨rfl, rfl, rfl, rfl, Below.refl _ _⟩ ?_
  rintro f0 w0 ⟨sz, df, x0, x1, bl⟩
  have sd := And.intro sz df
  clear sz df
  have bl0 := bl
  refine wp_seq ?_
  refine wr_a [.eq (.pointer none)] (by rw [sd.1]; kernel_rfl) ⟨fun hw ac u K => ?_, trivial⟩ ?_
  · exact st_assign (.const (.pointer none)) rfl rfl
  intro f1 w1 A hb
  replace x0 := A.t x0 rfl
  replace x1 := A.t x1 rfl
  replace bl := bgo bl hb
  replace sd := A.sd sd
  clear A hb
  show Code.wp _ _ _ _ _
  refine wp_seq ?_
  refine wp_seq ?_
  refine wr_a [.eq (.int .i64 (N : Int)), .eq (.bool false), .eq (.bool false), .eq (.int .i64 (N : Int)), .eq (.bool false), .eq (.bool false), .eq (.bool false), .eq (.int .i64 (Z : Int)), .eq (.bool false), .eq (.bool false), .eq (.bool false), .eq (.int .i64 (Z : Int)), .eq (.bool false), .eq (.bool false)] (by rw [sd.1]; kernel_rfl) ⟨fun hw ac u K => ?_, fun hw ac u K => ?_, fun hw ac u K => ?_, fun hw ac u K => ?_, fun hw ac u K => ?_, fun hw ac u K => ?_, fun hw ac u K => ?_, fun hw ac u K => ?_, fun hw ac u K => ?_, fun hw ac u K => ?_, fun hw ac u K => ?_, fun hw ac u K => ?_, fun hw ac u K => ?_, fun hw ac u K => ?_, trivial⟩ ?_
  · exact st_move (.tmp 0) rfl (K.t x0 rfl)
  · exact st_lss 3 (.tmp 6) (.const (.int .i64 1)) rfl .i64 ((N : Int)) (1) (K.dep 0 6 rfl) rfl _ (by rw [eq_comm, decide_eq_false_iff_not]; omega)
  · exact st_move (.tmp 7) rfl (K.dep 1 7 rfl)
  · exact st_move (.tmp 0) rfl (K.t x0 rfl)
  · exact st_gtr 3 (.tmp 9) (.const (.int .i64 65536)) rfl .i64 ((N : Int)) (65536) (K.dep 3 9 rfl) rfl _ (by rw [eq_comm, decide_eq_false_iff_not]; omega)
  · exact st_pick_f' (.tmp 8) (.const (.bool true)) (.tmp 10) rfl (K.dep 2 8 rfl) (K.dep 4 10 rfl)
  · exact st_move (.tmp 11) rfl (K.dep 5 11 rfl)
  · exact st_move (.tmp 1) rfl (K.t x1 rfl)
  · exact st_lss 3 (.tmp 13) (.const (.int .i64 16)) rfl .i64 ((Z : Int)) (16) (K.dep 7 13 rfl) rfl _ (by rw [eq_comm, decide_eq_false_iff_not]; omega)
  · exact st_pick_f' (.tmp 12) (.const (.bool true)) (.tmp 14) rfl (K.dep 6 12 rfl) (K.dep 8 14 rfl)
  · exact st_move (.tmp 15) rfl (K.dep 9 15 rfl)
  · exact st_move (.tmp 1) rfl (K.t x1 rfl)
  · exact st_gtr 3 (.tmp 17) (.const (.int .i64 4096)) rfl .i64 ((Z : Int)) (4096) (K.dep 11 17 rfl) rfl _ (by rw [eq_comm, decide_eq_false_iff_not]; omega)
  · exact st_pick_f' (.tmp 16) (.const (.bool true)) (.tmp 18) rfl (K.dep 10 16 rfl) (K.dep 12 18 rfl)
  intro f2 w2 A hb
  replace x0 := A.t x0 rfl
  replace x1 := A.t x1 rfl
  have x19 := A.e 13 19 rfl rfl
  replace bl := bgo bl hb
  replace sd := A.sd sd
  clear A hb
  show Code.wp _ _ _ _ _
  refine wp_cond_false x19 ?_
  refine wp_skip ?_
  show Code.wp _ _ _ _ _
  refine wp_seq ?_
  refine wr_s [.eq (.int .i64 (Z : Int))] (by rw [sd.1]; kernel_rfl) ⟨fun hw ac u K => ?_, trivial⟩ ?_
  · exact st_move (.tmp 1) rfl (K.t x1 rfl)
  intro f3 w3 A hb
  replace x0 := A.t x0 rfl
  replace x1 := A.t x1 rfl
  replace x19 := A.t x19 rfl
  have x20 := A.e 0 20 rfl rfl
  replace bl := bgo bl hb
  replace sd := A.sd sd
  clear A hb
  clear x19
  refine wl_makeB rfl _ _ rfl 21 rfl (by rw [sd.1]; decide) Z (by omega) x20 x20 ?_
  intro f4 w4 gB df2 sz2 old2 x21 hggB mgB hb
  replace x0 := tr old2 x0 rfl
  replace x1 := tr old2 x1 rfl
  replace x20 := tr old2 x20 rfl
  have hwgB : w.heap.size ≤ gB := Nat.le_trans bl.size hggB
  replace bl := bgo bl hb
  replace bl0 := bl
  replace sd := sd2 sz2 df2 sd
  clear df2 sz2 old2 hb
  clear x20
  refine wl_one (.eq (.slice (some ⟨gB, 0, none⟩) Z Z)) rfl 5 rfl (by rw [sd.1]; decide) (st_assign (.tmp 21) rfl x21) ?_
  intro f5 w5 df2 sz2 old2 new2 hb
  replace x0 := tr old2 x0 rfl
  replace x1 := tr old2 x1 rfl
  replace x21 := tr old2 x21 rfl
  have x5 := Fk.e new2
  replace mgB := Ob.below mgB hb
  replace bl := bgo bl hb
  replace sd := sd2 sz2 df2 sd
  clear df2 sz2 old2 new2 hb
  refine wpList_nil ?_
  clear x21
  show Code.wp _ _ _ _ _
  refine wp_seq ?_
  refine wr_s [.eq (.int .i64 (Z : Int)), .eq (.slice (some ⟨gB, 0, none⟩) Z Z)] (by rw [sd.1]; kernel_rfl) ⟨fun hw ac u K => ?_, fun hw ac u K => ?_, trivial⟩ ?_
  · exact st_move (.tmp 1) rfl (K.t x1 rfl)
  · exact st_move (.tmp 5) rfl (K.t x5 rfl)
  intro f6 w6 A hb
  replace x0 := A.t x0 rfl
  replace x1 := A.t x1 rfl
  replace x5 := A.t x5 rfl
  have x22 := A.e 0 22 rfl rfl
  have x23 := A.e 1 23 rfl rfl
  replace mgB := Ob.below mgB hb
  replace bl := bgo bl hb
  replace sd := A.sd sd
  clear A hb
  clear x1
  clear x5
  have hb := (Below.refl w6.heap.size w6).alloc (Nat.le_refl _) (.cells #[.slice (some ⟨gB, 0, none⟩) Z Z] 22)
  have m1 : Ob (w6.alloc (.cells #[.slice (some ⟨gB, 0, none⟩) Z Z] 22)) w6.heap.size 22 [.slice (some ⟨gB, 0, none⟩) Z Z] := heap_alloc_new _ _
  refine wl_execl rfl 24 rfl (by rw [sd.1]; decide) (v := .slice (some ⟨w6.heap.size, 0, none⟩) 1 1) (w2 := w6.alloc (.cells #[.slice (some ⟨gB, 0, none⟩) Z Z] 22)) (by unfold execOp; simp [x23, Tryz.bldRq]) ?_
  intro f7 df2 sz2 old2 x24
  generalize w6.alloc (.cells #[.slice (some ⟨gB, 0, none⟩) Z Z] 22) = w7 at hb m1 ⊢
  obtain ⟨g1, hg1⟩ : ∃ q, q = w6.heap.size := ⟨_, rfl⟩
  rw [← hg1] at x24 m1
  clear hg1
  replace x0 := tr old2 x0 rfl
  replace x22 := tr old2 x22 rfl
  replace x23 := tr old2 x23 rfl
  replace bl := bgo bl hb
  replace bl0 := bl
  replace sd := sd2 sz2 df2 sd
  replace mgB := Ob.below mgB hb
  clear df2 sz2 old2 hb
  clear x23
  refine wl_one (.eq (.int .i64 (N : Int))) rfl 25 rfl (by rw [sd.1]; decide) (st_move (.tmp 0) rfl x0) ?_
  intro f8 w8 df2 sz2 old2 new2 hb
  replace x0 := tr old2 x0 rfl
  replace x22 := tr old2 x22 rfl
  replace x24 := tr old2 x24 rfl
  have x25 := Fk.e new2
  replace mgB := Ob.below mgB hb
  replace m1 := Ob.below m1 hb
  replace bl := bgo bl hb
  replace sd := sd2 sz2 df2 sd
  clear df2 sz2 old2 new2 hb
  clear x0
  have hlB := mgB.lt
  refine wl_call 15 (.func 15) _ _ #[.slice (some ⟨g1, 0, none⟩) 1 1, .int .i64 (N : Int)] rfl 26 rfl (by rw [sd.1]; decide) rfl rfl (two_arg x24 x25) Tryz.enter15 (fun u W' => ∃ sb, u = .slice (some ⟨sb, 0, none⟩) N N ∧ w8.heap.size ≤ sb ∧ Ob W' sb 22 (List.replicate N (.slice (some ⟨gB, 0, none⟩) Z Z)) ∧ Below w8.heap.size w8 W') ((fk_repeat m1 rfl h1 h2).mono (by rintro e w' ⟨sb, rfl, q⟩; exact ⟨_, rfl, sb, rfl, q⟩)) ?_
  rintro f9 w9 df2 sz2 old2 ⟨sb, x26, hsb, mR, hb⟩
  have b2 : gB ≠ sb := by omega
  have hwsb : w.heap.size ≤ sb := Nat.le_trans bl.size hsb
  clear m1 hsb hlB
  replace x22 := tr old2 x22 rfl
  replace x24 := tr old2 x24 rfl
  replace x25 := tr old2 x25 rfl
  replace bl := bgo bl hb
  replace bl0 := bl
  replace sd := sd2 sz2 df2 sd
  replace mgB := Ob.below mgB hb
  clear df2 sz2 old2 hb
  clear x24
  clear x25
  have hlB := mgB.lt
  have hlR := mR.lt
  have hrun := (run_makeI (P := Tryz.prog) (t := 46) w9).1
  have him := (run_makeI (P := Tryz.prog) (t := 46) w9).2
  have hb := (Below.refl w9.heap.size w9).alloc (Nat.le_refl _) (.map #[] 0)
  refine wl_execl rfl 27 rfl (by rw [sd.1]; decide) (v := .map (some w9.heap.size)) (w2 := w9.alloc (.map #[] 0)) (by unfold execOp; simp [hrun]) ?_
  intro f10 df2 sz2 old2 x27
  generalize w9.alloc (.map #[] 0) = w10 at hb him ⊢
  obtain ⟨cb, hcb⟩ : ∃ q, q = w9.heap.size := ⟨_, rfl⟩
  rw [← hcb] at x27 him hlB hlR
  have b3 : gB ≠ cb := by omega
  have hwcb : w.heap.size ≤ cb := by have := bl.size; omega
  have n3 : sb ≠ cb := by omega
  clear hcb hrun hlB hlR
  replace x22 := tr old2 x22 rfl
  replace x26 := tr old2 x26 rfl
  replace bl := bgo bl hb
  replace bl0 := bl
  replace sd := sd2 sz2 df2 sd
  replace mgB := Ob.below mgB hb
  replace mR := Ob.below mR hb
  clear df2 sz2 old2 hb
  refine wl_one (.eq (.agg #[.int .i64 (-1), .bool false])) rfl 28 rfl (by rw [sd.1]; decide) (st_call 16 (.func 16) _ _ #[] rfl rfl rfl Tryz.enter16 ((fk_endless _).mono (by rintro e w' ⟨rfl, q⟩; exact ⟨_, rfl, rfl, q⟩))) ?_
  intro f11 w11 df2 sz2 old2 new2 hb
  replace x22 := tr old2 x22 rfl
  replace x26 := tr old2 x26 rfl
  replace x27 := tr old2 x27 rfl
  have x28 := Fk.e new2
  replace mgB := Ob.below mgB hb
  replace mR := Ob.below mR hb
  replace him := Im.below him hb
  replace bl := bgo bl hb
  replace sd := sd2 sz2 df2 sd
  clear df2 sz2 old2 new2 hb
  refine wl_one (.eq (.agg ([.int .i64 (Z : Int), .slice (some ⟨sb, 0, none⟩) N N, .map (some cb), .int .i64 (-1), .bool false, .int .i64 0] : List Value).toArray)) rfl 29 rfl (by rw [sd.1]; decide) (st_build 51 _ rfl (by simp only [List.map_toArray, List.map_cons, List.map_nil, x22, x26, x27, x28]; kernel_rfl)) ?_
  intro f12 w12 df2 sz2 old2 new2 hb
  replace x22 := tr old2 x22 rfl
  replace x26 := tr old2 x26 rfl
  replace x27 := tr old2 x27 rfl
  replace x28 := tr old2 x28 rfl
  have x29 := Fk.e new2
  replace mgB := Ob.below mgB hb
  replace mR := Ob.below mR hb
  replace him := Im.below him hb
  replace bl := bgo bl hb
  replace sd := sd2 sz2 df2 sd
  clear df2 sz2 old2 new2 hb
  clear x22
  clear x26
  clear x27
  clear x28
  have hlB := mgB.lt
  have hlR := mR.lt
  have hlC := him.lt
  have hw0 := bl.size
  refine wl_one (.nw w12.heap.size 51 ([.int .i64 (Z : Int), .slice (some ⟨sb, 0, none⟩) N N, .map (some cb), .int .i64 (-1), .bool false, .int .i64 0] : List Value)) rfl 30 rfl (by rw [sd.1]; decide) (st_box 51 (.tmp 29) rfl _ _ (by rw [show _ = _ from x29]; kernel_rfl) (Nat.le_refl _)) ?_
  intro f13 w13 df2 sz2 old2 new2 hb
  replace bl0 := bl
  replace x29 := tr old2 x29 rfl
  have x30 : Fk.f (.nw w12.heap.size 51 ([.int .i64 (Z : Int), .slice (some ⟨sb, 0, none⟩) N N, .map (some cb), .int .i64 (-1), .bool false, .int .i64 0] : List Value)) (f13.eval (.tmp 30)) w13 := new2
  replace mgB := Ob.below mgB hb
  replace mR := Ob.below mR hb
  replace him := Im.below him hb
  replace bl := bgo bl hb
  replace sd := sd2 sz2 df2 sd
  clear df2 sz2 old2 new2 hb
  obtain ⟨g30, hg30, e30, m30⟩ := x30
  have x30 := e30
  clear e30
  have hw30 : w.heap.size ≤ g30 := Nat.le_trans bl0.size hg30
  have nn1 : g30 ≠ sb := by omega
  have nn2 : g30 ≠ cb := by omega
  have nb1 : gB ≠ g30 := by omega
  clear hlB hlR hlC hw0
  have hnw : ∀ j, ((j = g30 ∨ j = sb ∨ j = cb) ∨ j = gB) → w.heap.size ≤ j := fun j q => by rcases q with (rfl | rfl | rfl) | rfl <;> omega
  clear x29
  refine wl_one (.eq (.pointer (some ⟨g30, 0, none⟩))) rfl 4 rfl (by rw [sd.1]; decide) (st_assign (.tmp 30) rfl x30) ?_
  intro f14 w14 df2 sz2 old2 new2 hb
  replace x30 := tr old2 x30 rfl
  have x4 := Fk.e new2
  replace m30 := Ob.below m30 hb
  replace mgB := Ob.below mgB hb
  replace mR := Ob.below mR hb
  replace him := Im.below him hb
  replace bl := bgo bl hb
  replace sd := sd2 sz2 df2 sd
  clear df2 sz2 old2 new2 hb
  refine wpList_nil ?_
  clear x30
  show Code.wp _ _ _ _ _
  refine wp_ret ?_
  repeat (first | with_reducible refine then_ret ?_ | with_reducible refine block_ret ?_)
  exact bodyPost_ret (v := .pointer (some ⟨g30, 0, none⟩)) (ret_slot rfl f14 _ x4 _ _) sd.2 ⟨g30, _, _, rfl, hd_new m30 mR him mgB nn1 nn2 n3 nb1 b2 b3 h1 h2 h3 h4, hnw, bl⟩
end Go.Proofs.YtakdpkoigijonaaGreat
