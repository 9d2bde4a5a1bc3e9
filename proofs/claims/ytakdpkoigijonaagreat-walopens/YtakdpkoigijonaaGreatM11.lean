/- The landed wal: readHead. -/
import Derived.Test.YtakdpkoigijonaaGreatM10
import Derived.Test.YtakdpkoigijonaaGreatM7
import Derived.Test.YtakdpkoigijonaaGreatM8
namespace Go.Proofs.YtakdpkoigijonaaGreat
set_option maxRecDepth 100000
open Go.RowKit
/-- So many counts, one behind the other: what they are, what is left, whether it is bad. -/
def cts (m : Int) : Nat → List (BitVec 8) → Bool → List Int × List (BitVec 8) × Bool
  | 0, bs, bad => ([], bs, bad)
  | k + 1, bs, bad => ((cts m k bs bad).1 ++ [cV 0 m (cts m k bs bad).2.1], cR 0 m (cts m k bs bad).2.1, cX 0 m (cts m k bs bad).2.1 (cts m k bs bad).2.2)
theorem cts_len (m : Int) (bs : List (BitVec 8)) (bad : Bool) : ∀ k, (cts m k bs bad).1.length = k := by
  intro k
  induction k with
  | zero => rfl
  | succ k ih => show ((cts m k bs bad).1 ++ [_]).length = _; rw [List.length_append, ih]; rfl
theorem cts_rest (m : Int) (bs : List (BitVec 8)) (bad : Bool) : ∀ k, (cts m k bs bad).2.1.length ≤ bs.length := by
  intro k
  induction k with
  | zero => exact Nat.le_refl _
  | succ k ih => exact Nat.le_trans (cR_len _ _ _) ih
theorem cV_nat (m : Int) (bs : List (BitVec 8)) (hm : 0 ≤ m) : 0 ≤ cV 0 m bs ∧ cV 0 m bs ≤ m := by
  unfold cV
  split <;> omega
theorem cts_good (m : Int) (bs : List (BitVec 8)) (bad : Bool) : ∀ k, (cts m k bs bad).2.2 = false → bad = false ∧ (∀ y ∈ (cts m k bs bad).1, 0 ≤ y ∧ y ≤ m) ∧ bs = (cts m k bs bad).1.flatMap be8 ++ (cts m k bs bad).2.1 := by
  intro k
  induction k with
  | zero => exact fun h => ⟨h, (fun y hy => by cases hy), rfl⟩
  | succ k ih =>
    intro h
    replace h : cX 0 m (cts m k bs bad).2.1 (cts m k bs bad).2.2 = false := h
    obtain ⟨h1, _, h3, h4, h5⟩ := cX_false h
    obtain ⟨q1, q2, q3⟩ := ih h1
    refine ⟨q1, fun y hy => ?_, ?_⟩
    · replace hy : y ∈ (cts m k bs bad).1 ++ [cV 0 m (cts m k bs bad).2.1] := hy
      rcases List.mem_append.1 hy with hy | hy
      · exact q2 y hy
      · rw [List.mem_singleton.1 hy]
        exact ⟨h3, h4⟩
    · show bs = ((cts m k bs bad).1 ++ [cV 0 m (cts m k bs bad).2.1]).flatMap be8 ++ cR 0 m (cts m k bs bad).2.1
      rw [List.flatMap_append, List.append_assoc, show [cV 0 m (cts m k bs bad).2.1].flatMap be8 = be8 (cV 0 m (cts m k bs bad).2.1) from by simp, ← h5]
      exact q3
theorem cts_be8 {m : Int} (hm : m ≤ 9223372036854775807) {l : List Int} (hl : ∀ y ∈ l, 0 ≤ y ∧ y ≤ m) (r : List (BitVec 8)) : ∀ k, k ≤ l.length → cts m k (l.flatMap be8 ++ r) false = (l.take k, (l.drop k).flatMap be8 ++ r, false) := by
  intro k
  induction k with
  | zero => exact fun _ => by simp [cts]
  | succ k ih =>
    intro hk
    have hk' : k < l.length := hk
    have h1 := ih (by omega)
    have hd : l.drop k = l[k] :: l.drop (k + 1) := List.drop_eq_getElem_cons hk'
    obtain ⟨q1, q2, q3⟩ := c_be8 0 m (l[k]) ((l.drop (k + 1)).flatMap be8 ++ r) (hl _ (List.getElem_mem hk')).1 (hl _ (List.getElem_mem hk')).2 (by omega) hm
    have e2 : (l.drop k).flatMap be8 ++ r = be8 l[k] ++ ((l.drop (k + 1)).flatMap be8 ++ r) := by rw [hd, List.flatMap_cons, List.append_assoc]
    show ((cts m k _ false).1 ++ [cV 0 m (cts m k _ false).2.1], cR 0 m (cts m k _ false).2.1, cX 0 m (cts m k _ false).2.1 (cts m k _ false).2.2) = _
    rw [h1]
    show (l.take k ++ [cV 0 m ((l.drop k).flatMap be8 ++ r)], cR 0 m ((l.drop k).flatMap be8 ++ r), cX 0 m ((l.drop k).flatMap be8 ++ r) false) = _
    rw [e2, q1, q2, q3, take_one12 (List.getElem?_eq_getElem hk')]
/-- What the program's reading of a head comes to: its numbers, whether it is bad. -/
def rhN (n R : Nat) (b : List (BitVec 8)) (c : Nat) : List Int × List (BitVec 8) × Bool := cts ((homN n - 1 : Nat) : Int) c (cR 0 (R : Int) (cR 1 1 b)) (cX 0 (R : Int) (cR 1 1 b) (cX 1 1 b false))
theorem rh_iff {n z : Nat} {b : List (BitVec 8)} (hb : b.length = z) (hnz : b ≠ zs b.length) (h1 : 1 ≤ homN n) (hh : homN n ≤ 100000) (hR9 : roomN n z ≤ 100000) {c : Nat} (hc : cV 0 (roomN n z : Int) (cR 1 1 b) = (c : Int)) :
    ((rhN n (roomN n z) b c).2.2 = false ∧ b = hdb z (rhN n (roomN n z) b c).1 ∧ prsP n b = some ((rhN n (roomN n z) b c).1.map Int.toNat) ∧ ∀ y ∈ (rhN n (roomN n z) b c).1, 0 ≤ y) ∨ (¬ ((rhN n (roomN n z) b c).2.2 = false ∧ b = hdb z (rhN n (roomN n z) b c).1) ∧ prsP n b = none) := by
  have hcR : (c : Int) ≤ roomN n z := by rw [← hc]; exact (cV_nat _ _ (by omega)).2
  by_cases h : (rhN n (roomN n z) b c).2.2 = false ∧ b = hdb z (rhN n (roomN n z) b c).1
  · refine .inl ⟨h.1, h.2, ?_, ?_⟩
    · obtain ⟨q1, q2, q3⟩ := cts_good _ _ _ c h.1
      have hlen : (rhN n (roomN n z) b c).1.length = c := cts_len _ _ _ c
      have hr : ∀ y ∈ (rhN n (roomN n z) b c).1, 0 ≤ y ∧ y ≤ ((homN n - 1 : Nat) : Int) := q2
      obtain ⟨h2, h3⟩ := h
      generalize (rhN n (roomN n z) b c).1 = l at h3 hlen hr ⊢
      have e1 : rdAt b 8 8 = (c : Int) := by rw [h3, ← hlen]; exact hdb_count (by omega)
      have e2 : atsOf b c = l := by
        conv => lhs; rw [h3, ← hlen]
        exact atsOf_hdb (fun y hy => by have := hr y hy; omega)
      unfold prsP
      rw [if_neg hnz, e1, if_neg (by rw [hb]; omega), Int.toNat_natCast, e2, if_pos ⟨fun y hy => by have := hr y hy; omega, by rw [hb]; exact h3.symm⟩]
    · intro y hy
      exact ((cts_good _ _ _ c h.1).2.1 y hy).1
  · refine .inr ⟨h, ?_⟩
    by_cases hp : prsP n b = none
    · exact hp
    · exfalso
      unfold prsP at hp
      rw [if_neg hnz] at hp
      by_cases h2 : rdAt b 8 8 < 0 ∨ (roomN n b.length : Int) < rdAt b 8 8
      · rw [if_pos h2] at hp
        exact hp rfl
      rw [if_neg h2] at hp
      by_cases h3 : (∀ y ∈ atsOf b (rdAt b 8 8).toNat, 0 ≤ y ∧ y < homN n) ∧ hdb b.length (atsOf b (rdAt b 8 8).toNat) = b
      · obtain ⟨h4, h5⟩ := h3
        rw [hb] at h2 h5
        have hlen : (atsOf b (rdAt b 8 8).toNat).length = (rdAt b 8 8).toNat := by unfold atsOf; rw [List.length_map, List.length_range]
        have hcd : ((rdAt b 8 8).toNat : Int) = rdAt b 8 8 := by omega
        generalize atsOf b (rdAt b 8 8).toNat = l at h4 h5 hlen
        have hl2 : (l.length : Int) ≤ roomN n z := by rw [hlen]; omega
        have eb : b = be8 1 ++ (be8 (l.length : Int) ++ (l.flatMap be8 ++ List.replicate (z - (16 + 8 * l.length)) 0)) := by
          conv => lhs; rw [← h5]
          unfold hdb hbs
          simp only [List.append_assoc]
        obtain ⟨a1, a2, a3⟩ := c_be8 1 1 1 (be8 (l.length : Int) ++ (l.flatMap be8 ++ List.replicate (z - (16 + 8 * l.length)) 0)) (by omega) (by omega) (by omega) (by omega)
        obtain ⟨c1, c2, c3⟩ := c_be8 0 (roomN n z : Int) (l.length : Int) (l.flatMap be8 ++ List.replicate (z - (16 + 8 * l.length)) 0) (by omega) hl2 (by omega) (by omega)
        rw [← eb] at a1 a2 a3
        have hcl : c = l.length := by
          rw [a2, c1] at hc
          omega
        have := cts_be8 (m := ((homN n - 1 : Nat) : Int)) (by omega) (l := l) (fun y hy => by have := h4 y hy; omega) (List.replicate (z - (16 + 8 * l.length)) 0) l.length (Nat.le_refl _)
        apply h
        unfold rhN
        rw [a2, a3, c2, c3, hcl, this, List.take_of_length_le (Nat.le_refl _)]
        exact ⟨rfl, h5.symm⟩
      · rw [if_neg h3] at hp
        exact hp rfl
theorem in_bad {ib : Nat} {bs : List (BitVec 8)} {bad : Bool} {w : World} (h : HasI w ib bs bad) : Calls Tryz.prog 79 #[.pointer (some ⟨ib, 0, none⟩)] w fun e w' => ∃ u, e = .returned u ∧ (Fk.eq (.bool bad)).f u w' ∧ Below w.heap.size w w' := by
  obtain ⟨gb, h⟩ := h
  refine (bad_any ib gb bs bad w h).mono ?_
  rintro e w' ⟨rfl, rfl⟩
  exact ⟨_, rfl, rfl, Below.refl _ _⟩
section
variable {Q : Exit → Act → World → Prop} {o : Oper} {a : Act} {w : World}
theorem st_lenb12 (x : Operand) (ho : o.op = .call { callee := .builtin .len, args := #[x], argTypes := #[22] }) {bs : List (BitVec 8)} {n : Nat} (hn : bs.length = n) (h : (Fk.sl bs).f (a.eval x) w) : o.wp Tryz.prog a w (Ends a o.dst w (Fk.eq (.int .i64 (n : Int))).f) Q := by
  subst hn
  exact st_lenb x ho h
end
theorem nou8_z (l : List Int) : ∀ (j : Nat) (x : Int), (zv l)[j]? ≠ some (.int .u8 x) := by
  intro j x e
  unfold zv at e
  rw [List.getElem?_map] at e
  cases h : l[j]? with
  | none => rw [h] at e; cases e
  | some y => rw [h] at e; cases e
theorem is_nil12 (w : World) : (Fk.is []).f (.slice none 0 0) w := ⟨none, 0, 0, 0, rfl, fun h => absurd h (by decide), rfl, fun j u hj => by simp [zv] at hj⟩
theorem fk_xreadHead {n z h R : Nat} {b : List (BitVec 8)} (hbz : b.length = z) (h3 : 3 ≤ n) (hn9 : n ≤ 100000) (h32 : 32 ≤ z) (hz4 : z ≤ 100000) (hh : h = homN n) (hR : R = roomN n z) {w : World} {vb : Value} (hv : (Fk.sl b).f vb w) :
    Calls Tryz.prog 61 #[vb, .int .i64 (h : Int), .int .i64 (R : Int)] w fun e w' => ∃ u r, e = .returned (.tuple #[u, .bool r]) ∧ ((prsP n b = none ∧ r = false) ∨ ∃ l, prsP n b = some l ∧ r = true ∧ (Fk.is (l.map fun k : Nat => (k : Int))).f u w' ∧ ∀ a n C, u = .slice (some a) n C → w.heap.size ≤ a.block) ∧ Below w.heap.size w w' := by
  have h1h : 1 ≤ h ∧ h ≤ 100000 ∧ R ≤ 100000 ∧ 16 + 8 * R ≤ z := by
    rw [hh, hR]
    unfold roomN jouN homN
    omega
  obtain ⟨h1h, h1h2, hR5, hRz⟩ := h1h
  obtain ⟨c, hc⟩ : ∃ c : Nat, cV 0 (R : Int) (cR 1 1 b) = (c : Int) := ⟨(cV 0 (R : Int) (cR 1 1 b)).toNat, by have := cV_nat (R : Int) (cR 1 1 b) (by omega); omega⟩
  have hcR : c ≤ R := by have := (cV_nat (R : Int) (cR 1 1 b) (by omega)).2; omega
  go_enter Tryz.func61, Tryz.ntmps61
  refine code_both (fun f w1 => f.tmps.size = 49 ∧ f.defers = [] ∧ f.eval (.tmp 0) = vb ∧ f.eval (.tmp 1) = .int .i64 (h : Int) ∧ f.eval (.tmp 2) = .int .i64 (R : Int) ∧ Below w.heap.size w (w1)) ⟨rfl, rfl, rfl, rfl, rfl, Below.refl _ _⟩ ?_
  rintro f0 w0 ⟨sz, df, x0, x1, x2, bl⟩
  have sd := And.intro sz df
  clear sz df
  have bl0 := bl
  refine wp_seq ?_
  refine wr_a [.eq (.slice none 0 0), .eq (.bool false)] (by rw [sd.1]; kernel_rfl) ⟨fun hw ac u K => ?_, fun hw ac u K => ?_, trivial⟩ ?_
  · exact st_assign (.const (.slice none 0 0)) rfl rfl
  · exact st_assign (.const (.bool false)) rfl rfl
  intro f1 w1 A hb
  replace x0 := A.t x0 rfl
  replace x1 := A.t x1 rfl
  replace x2 := A.t x2 rfl
  replace bl := bgo bl hb
  replace sd := A.sd sd
  clear A hb
  show Code.wp _ _ _ _ _
  refine wp_seq ?_
  refine wp_seq ?_
  by_cases hz0 : b = zs b.length
  rotate_left
  · skip
    have hzd : decide (b = zs b.length) = false := by rw [decide_eq_false_iff_not]; exact hz0
    refine wr_a [.eq (vb), .eq (vb), .eq (.int .i64 (((b).length : Nat) : Int)), .sl (zs b.length), .eq (.bool false)] (by rw [sd.1]; kernel_rfl) ⟨fun hw ac u K => ?_, fun hw ac u K => ?_, fun hw ac u K => ?_, fun hw ac u K => ?_, fun hw ac u K => ?_, trivial⟩ ?_
    · exact st_move (.tmp 0) rfl (K.t x0 rfl)
    · exact st_move (.tmp 0) rfl (K.t x0 rfl)
    · exact st_lenb (.tmp 12) rfl (fk_val (K.dep 1 12 rfl) (Fk.mono _ _ _ _ hv (bgo bl K.grow)))
    · exact st_makeb (.tmp 13) (.tmp 13) rfl (b.length) (by omega) (K.dep 2 13 rfl) (K.dep 2 13 rfl)
    · exact st_call 76 (.func 76) _ _ _ rfl rfl (arg2 (K.dep 0 11 rfl) rfl) Tryz.enter76 ((by have h9 := fk_beq (Fk.mono _ _ _ _ hv (bgo bl K.grow)) (K.dep 3 14 rfl); rw [hzd] at h9; exact h9))
    intro f2 w2 A hb
    replace x0 := A.t x0 rfl
    replace x1 := A.t x1 rfl
    replace x2 := A.t x2 rfl
    have x15 := A.e 4 15 rfl rfl
    replace bl := bgo bl hb
    replace sd := A.sd sd
    clear A hb
    show Code.wp _ _ _ _ _
    refine wp_cond_false x15 ?_
    refine wp_skip ?_
    show Code.wp _ _ _ _ _
    refine wp_seq ?_
    refine wr_s [.eq (vb)] (by rw [sd.1]; kernel_rfl) ⟨fun hw ac u K => ?_, trivial⟩ ?_
    · exact st_move (.tmp 0) rfl (K.t x0 rfl)
    intro f3 w3 A hb
    replace x0 := A.t x0 rfl
    replace x1 := A.t x1 rfl
    replace x2 := A.t x2 rfl
    replace x15 := A.t x15 rfl
    have x16 := A.e 0 16 rfl rfl
    replace bl := bgo bl hb
    replace sd := A.sd sd
    clear A hb
    clear x15
    refine wl_call 77 (.func 77) _ _ #[vb] rfl 17 rfl (by rw [sd.1]; decide) rfl rfl (one_arg x16) Tryz.enter77 (fun u W => ∃ ib, u = .pointer (some ⟨ib, 0, none⟩) ∧ w3.heap.size ≤ ib ∧ HasI W ib b false ∧ Below w3.heap.size w3 W) (in_new (Fk.mono _ _ _ _ hv bl) (by omega)) ?_
    rintro f4 w4 df2 sz2 old2 ⟨ib, new2, hgI, hIn, hb⟩
    have hwI : w.heap.size ≤ ib := Nat.le_trans bl.size hgI
    replace bl0 := bl
    replace x0 := tr old2 x0 rfl
    replace x1 := tr old2 x1 rfl
    replace x2 := tr old2 x2 rfl
    replace x16 := tr old2 x16 rfl
    have x17 : f4.eval (.tmp 17) = .pointer (some ⟨ib, 0, none⟩) := new2
    replace bl := bgo bl hb
    replace sd := sd2 sz2 df2 sd
    clear df2 sz2 old2 new2 hb
    clear x16
    refine wl_one (.eq (.pointer (some ⟨ib, 0, none⟩))) rfl 8 rfl (by rw [sd.1]; decide) (st_assign (.tmp 17) rfl x17) ?_
    intro f5 w5 df2 sz2 old2 new2 hb
    replace x0 := tr old2 x0 rfl
    replace x1 := tr old2 x1 rfl
    replace x2 := tr old2 x2 rfl
    replace x17 := tr old2 x17 rfl
    have x8 := Fk.e new2
    replace hIn := HasI.below hIn hb
    replace bl := bgo bl hb
    replace sd := sd2 sz2 df2 sd
    clear df2 sz2 old2 new2 hb
    refine wpList_nil ?_
    clear x17
    show Code.wp _ _ _ _ _
    refine wp_seq ?_
    refine wr_s [.eq (.pointer (some ⟨ib, 0, none⟩))] (by rw [sd.1]; kernel_rfl) ⟨fun hw ac u K => ?_, trivial⟩ ?_
    · exact st_move (.tmp 8) rfl (K.t x8 rfl)
    intro f6 w6 A hb
    replace x0 := A.t x0 rfl
    replace x1 := A.t x1 rfl
    replace x2 := A.t x2 rfl
    replace x8 := A.t x8 rfl
    have x18 := A.e 0 18 rfl rfl
    replace hIn := HasI.below hIn hb
    replace bl := bgo bl hb
    replace sd := A.sd sd
    clear A hb
    have hltI := hIn.lt
    refine wl_call 78 (.func 78) _ _ #[.pointer (some ⟨ib, 0, none⟩), .int .i64 (1), .int .i64 (1)] rfl 19 rfl (by rw [sd.1]; decide) rfl rfl (arg3 x18 rfl rfl) Tryz.enter78 (fun u W => u = .int .i64 (cV (1) (1) b) ∧ HasI W ib (cR (1) (1) b) (cX (1) (1) b false) ∧ Only ib w6 W) (in_count (1) (1) _ hIn (by omega)) ?_
    rintro f7 w7 df2 sz2 old2 ⟨x19, hI2, O⟩
    replace x0 := tr old2 x0 rfl
    replace x1 := tr old2 x1 rfl
    replace x2 := tr old2 x2 rfl
    replace x8 := tr old2 x8 rfl
    replace x18 := tr old2 x18 rfl
    replace bl := bl.trans (Only.below O _ hwI bl.size)
    replace bl0 := bl
    replace hIn := hI2
    replace sd := sd2 sz2 df2 sd
    clear df2 sz2 old2 O hI2 hltI
    refine wpList_nil ?_
    clear x18
    clear x19
    show Code.wp _ _ _ _ _
    refine wp_seq ?_
    refine wr_s [.eq (.pointer (some ⟨ib, 0, none⟩)), .eq (.int .i64 (R : Int))] (by rw [sd.1]; kernel_rfl) ⟨fun hw ac u K => ?_, fun hw ac u K => ?_, trivial⟩ ?_
    · exact st_move (.tmp 8) rfl (K.t x8 rfl)
    · exact st_move (.tmp 2) rfl (K.t x2 rfl)
    intro f8 w8 A hb
    replace x0 := A.t x0 rfl
    replace x1 := A.t x1 rfl
    replace x2 := A.t x2 rfl
    replace x8 := A.t x8 rfl
    have x20 := A.e 0 20 rfl rfl
    have x21 := A.e 1 21 rfl rfl
    replace hIn := HasI.below hIn hb
    replace bl := bgo bl hb
    replace sd := A.sd sd
    clear A hb
    clear x2
    have hltI := hIn.lt
    refine wl_call 78 (.func 78) _ _ #[.pointer (some ⟨ib, 0, none⟩), .int .i64 (0), .int .i64 ((R : Int))] rfl 22 rfl (by rw [sd.1]; decide) rfl rfl (arg3 x20 rfl x21) Tryz.enter78 (fun u W => u = .int .i64 (cV (0) ((R : Int)) (cR 1 1 b)) ∧ HasI W ib (cR (0) ((R : Int)) (cR 1 1 b)) (cX (0) ((R : Int)) (cR 1 1 b) (cX 1 1 b false)) ∧ Only ib w8 W) (in_count (0) ((R : Int)) _ hIn (by have := cR_len 1 1 b; omega)) ?_
    rintro f9 w9 df2 sz2 old2 ⟨x22, hI2, O⟩
    replace x0 := tr old2 x0 rfl
    replace x1 := tr old2 x1 rfl
    replace x8 := tr old2 x8 rfl
    replace x20 := tr old2 x20 rfl
    replace x21 := tr old2 x21 rfl
    replace bl := bl.trans (Only.below O _ hwI bl.size)
    replace bl0 := bl
    replace hIn := hI2
    replace sd := sd2 sz2 df2 sd
    clear df2 sz2 old2 O hI2 hltI
    rw [hc] at x22
    clear x20
    clear x21
    have hltI := hIn.lt
    refine wl_makeI rfl _ _ rfl 23 rfl (by rw [sd.1]; decide) (c) (by omega) x22 x22 ?_
    intro f10 w10 g df2 sz2 old2 x23 hgg mg hb
    replace x0 := tr old2 x0 rfl
    replace x1 := tr old2 x1 rfl
    replace x8 := tr old2 x8 rfl
    replace x22 := tr old2 x22 rfl
    replace hIn := HasI.below hIn hb
    have hwg : w.heap.size ≤ g := Nat.le_trans bl.size hgg
    replace bl := bgo bl hb
    replace bl0 := bl
    replace sd := sd2 sz2 df2 sd
    clear df2 sz2 old2 hb
    have hgI9 : ib < g := Nat.lt_of_lt_of_le hltI hgg
    clear hltI
    clear x22
    refine wl_one (.eq (.slice (some ⟨g, 0, none⟩) (c) (c))) rfl 9 rfl (by rw [sd.1]; decide) (st_assign (.tmp 23) rfl x23) ?_
    intro f11 w11 df2 sz2 old2 new2 hb
    replace x0 := tr old2 x0 rfl
    replace x1 := tr old2 x1 rfl
    replace x8 := tr old2 x8 rfl
    replace x23 := tr old2 x23 rfl
    have x9 := Fk.e new2
    replace hIn := HasI.below hIn hb
    replace mg := Ob.below mg hb
    replace bl := bgo bl hb
    replace sd := sd2 sz2 df2 sd
    clear df2 sz2 old2 new2 hb
    refine wpList_nil ?_
    clear x23
    show Code.wp _ _ _ _ _
    refine wp_seq ?_
    refine wp_seq ?_
    refine wr_a [.eq (.slice (some ⟨g, 0, none⟩) (c) (c)), .eq (.int .i64 (c : Int)), .eq (.int .i64 0)] (by rw [sd.1]; kernel_rfl) ⟨fun hw ac u K => ?_, fun hw ac u K => ?_, fun hw ac u K => ?_, trivial⟩ ?_
    · exact st_move (.tmp 9) rfl (K.t x9 rfl)
    · exact st_lenI (.tmp 24) rfl (K.dep 0 24 rfl)
    · exact st_move (.const (.int .i64 0)) rfl rfl
    intro f12 w12 A hb
    replace x0 := A.t x0 rfl
    replace x1 := A.t x1 rfl
    replace x8 := A.t x8 rfl
    replace x9 := A.t x9 rfl
    have x25 := A.e 1 25 rfl rfl
    have x26 := A.e 2 26 rfl rfl
    replace hIn := HasI.below hIn hb
    replace mg := Ob.below mg hb
    replace bl := bgo bl hb
    replace sd := A.sd sd
    clear A hb
    show Code.wp _ _ _ _ _
    refine wp_block ?_
    refine wp_loop (fun f v1 => ∃ k : Nat, k ≤ c ∧ f.tmps.size = 49 ∧ f.defers = [] ∧ f.eval (.tmp 0) = vb ∧ f.eval (.tmp 1) = .int .i64 (h : Int) ∧ f.eval (.tmp 8) = .pointer (some ⟨ib, 0, none⟩) ∧ f.eval (.tmp 9) = .slice (some ⟨g, 0, none⟩) (c) (c) ∧ f.eval (.tmp 25) = .int .i64 (c : Int) ∧ f.eval (.tmp 26) = .int .i64 (k : Int) ∧ Ob v1 g 3 (zv ((cts ((h - 1 : Nat) : Int) k (cR 0 (R : Int) (cR 1 1 b)) (cX 0 (R : Int) (cR 1 1 b) (cX 1 1 b false))).1 ++ List.replicate (c - k) 0)) ∧ HasI v1 ib (cts ((h - 1 : Nat) : Int) k (cR 0 (R : Int) (cR 1 1 b)) (cX 0 (R : Int) (cR 1 1 b) (cX 1 1 b false))).2.1 (cts ((h - 1 : Nat) : Int) k (cR 0 (R : Int) (cR 1 1 b)) (cX 0 (R : Int) (cR 1 1 b) (cX 1 1 b false))).2.2 ∧ Below w.heap.size w (v1)) (fun f _ => c - (intOf (f.eval (.tmp 26))).toNat) ⟨0, Nat.zero_le _, sd.1, sd.2, x0, x1, x8, x9, x25, x26, mg, hIn, bl⟩ ?_
    intro f13 w13 hI
    clear sd bl bl0 x0 x1 x8 x9 x25 x26 mg hIn
    obtain ⟨k, hk8, sz, df, x0, x1, x8, x9, x25, x26, mg, hIn, bl⟩ := hI
    have sd := And.intro sz df
    clear sz df
    have bl0 := bl
    have hcnt := x26
    refine wp_seq ?_
    by_cases hlt : k < c
    rotate_left
    · skip
      obtain ⟨l, hl9⟩ : ∃ l, l = (cts ((h - 1 : Nat) : Int) c (cR 0 (R : Int) (cR 1 1 b)) (cX 0 (R : Int) (cR 1 1 b) (cX 1 1 b false))).1 := ⟨_, rfl⟩
      obtain ⟨xq, hx9⟩ : ∃ x, x = (cts ((h - 1 : Nat) : Int) c (cR 0 (R : Int) (cR 1 1 b)) (cX 0 (R : Int) (cR 1 1 b) (cX 1 1 b false))).2.2 := ⟨_, rfl⟩
      obtain ⟨r9, hr9⟩ : ∃ r, r = (cts ((h - 1 : Nat) : Int) c (cR 0 (R : Int) (cR 1 1 b)) (cX 0 (R : Int) (cR 1 1 b) (cX 1 1 b false))).2.1 := ⟨_, rfl⟩
      have hkc : k = c := by omega
      rw [hkc, Nat.sub_self, List.replicate_zero, List.append_nil, ← hl9] at mg
      rw [hkc, ← hx9, ← hr9] at hIn
      have hlc : l.length = c := by rw [hl9, cts_len]
      have hri : (xq = false ∧ b = hdb z l ∧ prsP n b = some (l.map Int.toNat) ∧ ∀ y ∈ l, 0 ≤ y) ∨ (¬ (xq = false ∧ b = hdb z l) ∧ prsP n b = none) := by
        have := rh_iff (n := n) hbz hz0 (by omega) (by omega) (by omega) (c := c) (by rw [← hR]; exact hc)
        unfold rhN at this
        rw [← hR, ← hh, ← hl9, ← hx9] at this
        exact this
      clear hl9 hx9 hr9
      refine wr_a [.eq (.bool false)] (by rw [sd.1]; kernel_rfl) ⟨fun hw ac u K => ?_, trivial⟩ ?_
      · exact st_lss 3 (.tmp 26) (.tmp 25) rfl .i64 ((k : Int)) ((c : Int)) (K.t x26 rfl) (K.t x25 rfl) _ (by rw [eq_comm, decide_eq_false_iff_not]; exact fun h => hlt (Int.ofNat_lt.1 h))
      intro f14 w14 A hb
      replace x0 := A.t x0 rfl
      replace x1 := A.t x1 rfl
      replace x8 := A.t x8 rfl
      replace x9 := A.t x9 rfl
      replace x25 := A.t x25 rfl
      replace x26 := A.t x26 rfl
      have x27 := A.e 0 27 rfl rfl
      replace hIn := HasI.below hIn hb
      replace mg := Ob.below mg hb
      replace bl := bgo bl hb
      replace sd := A.sd sd
      clear A hb
      show Code.wp _ _ _ _ _
      refine wp_seq ?_
      refine wp_cond_false x27 ?_
      refine wp_exit ?_
      show Code.wp _ _ _ _ _
      refine wp_seq ?_
      refine wp_seq ?_
      have hor : xq = true ∨ (xq = false ∧ b = hdb z l) ∨ (xq = false ∧ b ≠ hdb z l) := by
        cases xq
        · by_cases q : b = hdb z l
          · exact .inr (.inl ⟨rfl, q⟩)
          · exact .inr (.inr ⟨rfl, q⟩)
        · exact .inl rfl
      rcases hor with hor | ⟨hor, hbe⟩ | ⟨hor, hbe⟩
      · skip
        refine wr_a [.eq (.pointer (some ⟨ib, 0, none⟩)), .eq (.bool true), .eq (.bool true), .any, .any, .any, .any, .any, .any, .any, .eq (.bool true)] (by rw [sd.1]; kernel_rfl) ⟨fun hw ac u K => ?_, fun hw ac u K => ?_, fun hw ac u K => ?_, fun hw ac u K => ?_, fun hw ac u K => ?_, fun hw ac u K => ?_, fun hw ac u K => ?_, fun hw ac u K => ?_, fun hw ac u K => ?_, fun hw ac u K => ?_, fun hw ac u K => ?_, trivial⟩ ?_
        · exact st_move (.tmp 8) rfl (K.t x8 rfl)
        · exact st_call 79 (.func 79) _ _ _ rfl rfl (one_arg (K.dep 0 37 rfl)) Tryz.enter79 (by have h9 := in_bad (HasI.below hIn K.grow); rw [hor] at h9; exact h9)
        · exact st_move (.tmp 38) rfl (K.dep 1 38 rfl)
        · exact (Bool.false_ne_true hw).elim
        · exact (Bool.false_ne_true hw).elim
        · exact (Bool.false_ne_true hw).elim
        · exact (Bool.false_ne_true hw).elim
        · exact (Bool.false_ne_true hw).elim
        · exact (Bool.false_ne_true hw).elim
        · exact (Bool.false_ne_true hw).elim
        · exact st_pick_t (.tmp 39) (.const (.bool true)) (.tmp 46) rfl (K.dep 2 39 rfl) rfl
        intro f15 w15 A hb
        replace x0 := A.t x0 rfl
        replace x1 := A.t x1 rfl
        replace x8 := A.t x8 rfl
        replace x9 := A.t x9 rfl
        replace x25 := A.t x25 rfl
        replace x26 := A.t x26 rfl
        replace x27 := A.t x27 rfl
        have x47 := A.e 10 47 rfl rfl
        replace hIn := HasI.below hIn hb
        replace mg := Ob.below mg hb
        replace bl := bgo bl hb
        replace sd := A.sd sd
        clear A hb
        clear x27
        show Code.wp _ _ _ _ _
        refine wp_cond_true x47 ?_
        refine wp_seq ?_
        refine wr_a [.eq (.slice none 0 0), .eq (.bool false)] (by rw [sd.1]; kernel_rfl) ⟨fun hw ac u K => ?_, fun hw ac u K => ?_, trivial⟩ ?_
        · exact st_assign (.const (.slice none 0 0)) rfl rfl
        · exact st_assign (.const (.bool false)) rfl rfl
        intro f16 w16 A hb
        replace x0 := A.t x0 rfl
        replace x1 := A.t x1 rfl
        replace x8 := A.t x8 rfl
        replace x9 := A.t x9 rfl
        replace x25 := A.t x25 rfl
        replace x26 := A.t x26 rfl
        replace x47 := A.t x47 rfl
        have x6 := A.e 0 6 rfl rfl
        have x7 := A.e 1 7 rfl rfl
        replace hIn := HasI.below hIn hb
        replace mg := Ob.below mg hb
        replace bl := bgo bl hb
        replace sd := A.sd sd
        clear A hb
        clear x47
        show Code.wp _ _ _ _ _
        refine wp_ret ?_
        repeat (first | with_reducible refine then_ret ?_ | with_reducible refine block_ret ?_)
        have hno : prsP n b = none := by
          rcases hri with ⟨q1, q2, _⟩ | ⟨_, q⟩
          · exact absurd (q1.symm.trans hor) (by decide)
          · exact q
        exact bodyPost_ret (v := .tuple #[.slice none 0 0, .bool false]) (ret_two rfl f16 _ _ x6 x7 _ _) sd.2 ⟨_, _, rfl, .inl ⟨hno, rfl⟩, bl⟩
      · skip
        refine wr_a [.eq (.pointer (some ⟨ib, 0, none⟩)), .eq (.bool false), .eq (.bool false), .eq (vb), .eq (.slice (some ⟨g, 0, none⟩) (c) (c)), .eq (vb), .eq (.int .i64 (z : Int)), .sl (hdb z l), .eq (.bool true), .eq (.bool false), .eq (.bool false)] (by rw [sd.1]; kernel_rfl) ⟨fun hw ac u K => ?_, fun hw ac u K => ?_, fun hw ac u K => ?_, fun hw ac u K => ?_, fun hw ac u K => ?_, fun hw ac u K => ?_, fun hw ac u K => ?_, fun hw ac u K => ?_, fun hw ac u K => ?_, fun hw ac u K => ?_, fun hw ac u K => ?_, trivial⟩ ?_
        · exact st_move (.tmp 8) rfl (K.t x8 rfl)
        · exact st_call 79 (.func 79) _ _ _ rfl rfl (one_arg (K.dep 0 37 rfl)) Tryz.enter79 (by have h9 := in_bad (HasI.below hIn K.grow); rw [hor] at h9; exact h9)
        · exact st_move (.tmp 38) rfl (K.dep 1 38 rfl)
        · exact st_move (.tmp 0) rfl (K.t x0 rfl)
        · exact st_move (.tmp 9) rfl (K.t x9 rfl)
        · exact st_move (.tmp 0) rfl (K.t x0 rfl)
        · exact st_lenb12 (.tmp 42) rfl hbz (fk_val (K.dep 5 42 rfl) (Fk.mono _ _ _ _ hv (bgo bl K.grow)))
        · exact st_call 75 (.func 75) _ _ _ rfl rfl (arg2 (K.dep 4 41 rfl) (K.dep 6 43 rfl)) Tryz.enter75 (fk_xheadOf (by rw [hlc]; omega) (by omega) (Fk.mono _ _ _ _ (obI_is mg hlc.symm) K.grow))
        · exact st_call 76 (.func 76) _ _ _ rfl rfl (arg2 (K.dep 3 40 rfl) rfl) Tryz.enter76 ((by have h9 := fk_beq (Fk.mono _ _ _ _ hv (bgo bl K.grow)) (K.dep 7 44 rfl); rw [show decide (b = hdb z l) = true from by rw [decide_eq_true_iff]; exact hbe] at h9; exact h9))
        · exact st_not (.tmp 45) rfl true (K.dep 8 45 rfl)
        · exact st_pick_f' (.tmp 39) (.const (.bool true)) (.tmp 46) rfl (K.dep 2 39 rfl) (K.dep 9 46 rfl)
        intro f15 w15 A hb
        replace x0 := A.t x0 rfl
        replace x1 := A.t x1 rfl
        replace x8 := A.t x8 rfl
        replace x9 := A.t x9 rfl
        replace x25 := A.t x25 rfl
        replace x26 := A.t x26 rfl
        replace x27 := A.t x27 rfl
        have x47 := A.e 10 47 rfl rfl
        replace hIn := HasI.below hIn hb
        replace mg := Ob.below mg hb
        replace bl := bgo bl hb
        replace sd := A.sd sd
        clear A hb
        clear x27
        show Code.wp _ _ _ _ _
        refine wp_cond_false x47 ?_
        refine wp_skip ?_
        show Code.wp _ _ _ _ _
        refine wp_seq ?_
        refine wr_a [.eq (.slice (some ⟨g, 0, none⟩) (c) (c)), .eq (.slice (some ⟨g, 0, none⟩) (c) (c)), .eq (.bool true)] (by rw [sd.1]; kernel_rfl) ⟨fun hw ac u K => ?_, fun hw ac u K => ?_, fun hw ac u K => ?_, trivial⟩ ?_
        · exact st_move (.tmp 9) rfl (K.t x9 rfl)
        · exact st_assign (.tmp 48) rfl (K.dep 0 48 rfl)
        · exact st_assign (.const (.bool true)) rfl rfl
        intro f16 w16 A hb
        replace x0 := A.t x0 rfl
        replace x1 := A.t x1 rfl
        replace x8 := A.t x8 rfl
        replace x9 := A.t x9 rfl
        replace x25 := A.t x25 rfl
        replace x26 := A.t x26 rfl
        replace x47 := A.t x47 rfl
        have x6 := A.e 1 6 rfl rfl
        have x7 := A.e 2 7 rfl rfl
        replace hIn := HasI.below hIn hb
        replace mg := Ob.below mg hb
        replace bl := bgo bl hb
        replace sd := A.sd sd
        clear A hb
        clear x47
        show Code.wp _ _ _ _ _
        refine wp_ret ?_
        repeat (first | with_reducible refine then_ret ?_ | with_reducible refine block_ret ?_)
        rcases hri with ⟨_, _, q3, q4⟩ | ⟨q, _⟩
        · refine bodyPost_ret (v := .tuple #[.slice (some ⟨g, 0, none⟩) c c, .bool true]) (ret_two rfl f16 _ _ x6 x7 _ _) sd.2 ⟨_, _, rfl, .inr ⟨_, q3, rfl, ?_, (fun a n C e => by cases e; exact hwg)⟩, bl⟩
          rw [List.map_map]
          have e9 : l.map ((fun k : Nat => (k : Int)) ∘ Int.toNat) = l := by
            conv => rhs; rw [← List.map_id l]
            refine List.map_congr_left (fun y hy => ?_)
            have := q4 y hy
            show (y.toNat : Int) = y
            omega
          rw [e9]
          exact obI_is mg hlc.symm
        · exact absurd ⟨hor, hbe⟩ q
      refine wr_a [.eq (.pointer (some ⟨ib, 0, none⟩)), .eq (.bool false), .eq (.bool false), .eq (vb), .eq (.slice (some ⟨g, 0, none⟩) (c) (c)), .eq (vb), .eq (.int .i64 (z : Int)), .sl (hdb z l), .eq (.bool false), .eq (.bool true), .eq (.bool true)] (by rw [sd.1]; kernel_rfl) ⟨fun hw ac u K => ?_, fun hw ac u K => ?_, fun hw ac u K => ?_, fun hw ac u K => ?_, fun hw ac u K => ?_, fun hw ac u K => ?_, fun hw ac u K => ?_, fun hw ac u K => ?_, fun hw ac u K => ?_, fun hw ac u K => ?_, fun hw ac u K => ?_, trivial⟩ ?_
      · exact st_move (.tmp 8) rfl (K.t x8 rfl)
      · exact st_call 79 (.func 79) _ _ _ rfl rfl (one_arg (K.dep 0 37 rfl)) Tryz.enter79 (by have h9 := in_bad (HasI.below hIn K.grow); rw [hor] at h9; exact h9)
      · exact st_move (.tmp 38) rfl (K.dep 1 38 rfl)
      · exact st_move (.tmp 0) rfl (K.t x0 rfl)
      · exact st_move (.tmp 9) rfl (K.t x9 rfl)
      · exact st_move (.tmp 0) rfl (K.t x0 rfl)
      · exact st_lenb12 (.tmp 42) rfl hbz (fk_val (K.dep 5 42 rfl) (Fk.mono _ _ _ _ hv (bgo bl K.grow)))
      · exact st_call 75 (.func 75) _ _ _ rfl rfl (arg2 (K.dep 4 41 rfl) (K.dep 6 43 rfl)) Tryz.enter75 (fk_xheadOf (by rw [hlc]; omega) (by omega) (Fk.mono _ _ _ _ (obI_is mg hlc.symm) K.grow))
      · exact st_call 76 (.func 76) _ _ _ rfl rfl (arg2 (K.dep 3 40 rfl) rfl) Tryz.enter76 ((by have h9 := fk_beq (Fk.mono _ _ _ _ hv (bgo bl K.grow)) (K.dep 7 44 rfl); rw [show decide (b = hdb z l) = false from by rw [decide_eq_false_iff_not]; exact hbe] at h9; exact h9))
      · exact st_not (.tmp 45) rfl false (K.dep 8 45 rfl)
      · exact st_pick_f' (.tmp 39) (.const (.bool true)) (.tmp 46) rfl (K.dep 2 39 rfl) (K.dep 9 46 rfl)
      intro f15 w15 A hb
      replace x0 := A.t x0 rfl
      replace x1 := A.t x1 rfl
      replace x8 := A.t x8 rfl
      replace x9 := A.t x9 rfl
      replace x25 := A.t x25 rfl
      replace x26 := A.t x26 rfl
      replace x27 := A.t x27 rfl
      have x47 := A.e 10 47 rfl rfl
      replace hIn := HasI.below hIn hb
      replace mg := Ob.below mg hb
      replace bl := bgo bl hb
      replace sd := A.sd sd
      clear A hb
      clear x27
      show Code.wp _ _ _ _ _
      refine wp_cond_true x47 ?_
      refine wp_seq ?_
      refine wr_a [.eq (.slice none 0 0), .eq (.bool false)] (by rw [sd.1]; kernel_rfl) ⟨fun hw ac u K => ?_, fun hw ac u K => ?_, trivial⟩ ?_
      · exact st_assign (.const (.slice none 0 0)) rfl rfl
      · exact st_assign (.const (.bool false)) rfl rfl
      intro f16 w16 A hb
      replace x0 := A.t x0 rfl
      replace x1 := A.t x1 rfl
      replace x8 := A.t x8 rfl
      replace x9 := A.t x9 rfl
      replace x25 := A.t x25 rfl
      replace x26 := A.t x26 rfl
      replace x47 := A.t x47 rfl
      have x6 := A.e 0 6 rfl rfl
      have x7 := A.e 1 7 rfl rfl
      replace hIn := HasI.below hIn hb
      replace mg := Ob.below mg hb
      replace bl := bgo bl hb
      replace sd := A.sd sd
      clear A hb
      clear x47
      show Code.wp _ _ _ _ _
      refine wp_ret ?_
      repeat (first | with_reducible refine then_ret ?_ | with_reducible refine block_ret ?_)
      have hno : prsP n b = none := by
        rcases hri with ⟨q1, q2, _⟩ | ⟨_, q⟩
        · exact absurd q2 hbe
        · exact q
      exact bodyPost_ret (v := .tuple #[.slice none 0 0, .bool false]) (ret_two rfl f16 _ _ x6 x7 _ _) sd.2 ⟨_, _, rfl, .inl ⟨hno, rfl⟩, bl⟩
    have hset : ((cts ((h - 1 : Nat) : Int) k (cR 0 (R : Int) (cR 1 1 b)) (cX 0 (R : Int) (cR 1 1 b) (cX 1 1 b false))).1 ++ List.replicate (c - k) 0).set k (cV 0 ((h - 1 : Nat) : Int) (cts ((h - 1 : Nat) : Int) k (cR 0 (R : Int) (cR 1 1 b)) (cX 0 (R : Int) (cR 1 1 b) (cX 1 1 b false))).2.1) = (cts ((h - 1 : Nat) : Int) (k + 1) (cR 0 (R : Int) (cR 1 1 b)) (cX 0 (R : Int) (cR 1 1 b) (cX 1 1 b false))).1 ++ List.replicate (c - (k + 1)) 0 := by
      have hl9 := cts_len ((h - 1 : Nat) : Int) (cR 0 (R : Int) (cR 1 1 b)) (cX 0 (R : Int) (cR 1 1 b) (cX 1 1 b false)) k
      rw [List.set_append_right _ _ (by omega), hl9, Nat.sub_self]
      obtain ⟨m, hm⟩ : ∃ m, c - k = m + 1 := ⟨c - k - 1, by omega⟩
      rw [hm, show c - (k + 1) = m by omega, List.replicate_succ, List.set_cons_zero]
      show _ = ((cts ((h - 1 : Nat) : Int) k (cR 0 (R : Int) (cR 1 1 b)) (cX 0 (R : Int) (cR 1 1 b) (cX 1 1 b false))).1 ++ [_]) ++ _
      rw [List.append_assoc]
      rfl
    have hrl : ((cts ((h - 1 : Nat) : Int) k (cR 0 (R : Int) (cR 1 1 b)) (cX 0 (R : Int) (cR 1 1 b) (cX 1 1 b false))).1 ++ List.replicate (c - k) 0).length = c := by rw [List.length_append, cts_len, List.length_replicate]; omega
    refine wr_a [.eq (.bool true)] (by rw [sd.1]; kernel_rfl) ⟨fun hw ac u K => ?_, trivial⟩ ?_
    · exact st_lss 3 (.tmp 26) (.tmp 25) rfl .i64 ((k : Int)) ((c : Int)) (K.t x26 rfl) (K.t x25 rfl) _ (by rw [eq_comm, decide_eq_true_iff]; exact Int.ofNat_lt.2 hlt)
    intro f14 w14 A hb
    replace x0 := A.t x0 rfl
    replace x1 := A.t x1 rfl
    replace x8 := A.t x8 rfl
    replace x9 := A.t x9 rfl
    replace x25 := A.t x25 rfl
    replace x26 := A.t x26 rfl
    have x27 := A.e 0 27 rfl rfl
    replace hIn := HasI.below hIn hb
    replace mg := Ob.below mg hb
    replace bl := bgo bl hb
    replace sd := A.sd sd
    clear A hb
    show Code.wp _ _ _ _ _
    refine wp_seq ?_
    refine wp_cond_true x27 ?_
    refine wp_skip ?_
    show Code.wp _ _ _ _ _
    refine wp_seq ?_
    refine wp_block ?_
    refine wp_seq ?_
    refine wr_a [.eq (.int .i64 (k : Int)), .eq (.int .i64 (k : Int))] (by rw [sd.1]; kernel_rfl) ⟨fun hw ac u K => ?_, fun hw ac u K => ?_, trivial⟩ ?_
    · exact st_move (.tmp 26) rfl (K.t x26 rfl)
    · exact st_assign (.tmp 28) rfl (K.dep 0 28 rfl)
    intro f15 w15 A hb
    replace x0 := A.t x0 rfl
    replace x1 := A.t x1 rfl
    replace x8 := A.t x8 rfl
    replace x9 := A.t x9 rfl
    replace x25 := A.t x25 rfl
    replace x26 := A.t x26 rfl
    replace x27 := A.t x27 rfl
    have x10 := A.e 1 10 rfl rfl
    replace hIn := HasI.below hIn hb
    replace mg := Ob.below mg hb
    replace bl := bgo bl hb
    replace sd := A.sd sd
    clear A hb
    clear x27
    show Code.wp _ _ _ _ _
    refine wr_s [.eq (.slice (some ⟨g, 0, none⟩) (c) (c)), .eq (.int .i64 (k : Int)), .eq (.pointer (some ⟨ib, 0, none⟩)), .eq (.int .i64 (h : Int)), .eq (.int .i64 ((h - 1 : Nat) : Int))] (by rw [sd.1]; kernel_rfl) ⟨fun hw ac u K => ?_, fun hw ac u K => ?_, fun hw ac u K => ?_, fun hw ac u K => ?_, fun hw ac u K => ?_, trivial⟩ ?_
    · exact st_move (.tmp 9) rfl (K.t x9 rfl)
    · exact st_move (.tmp 10) rfl (K.t x10 rfl)
    · exact st_move (.tmp 8) rfl (K.t x8 rfl)
    · exact st_move (.tmp 1) rfl (K.t x1 rfl)
    · exact st_sub (.tmp 32) (.const (.int .i64 1)) rfl h 1 (h - 1) (K.dep 3 32 rfl) rfl (by omega) (by omega)
    intro f16 w16 A hb
    replace x0 := A.t x0 rfl
    replace x1 := A.t x1 rfl
    replace x8 := A.t x8 rfl
    replace x9 := A.t x9 rfl
    replace x25 := A.t x25 rfl
    replace x26 := A.t x26 rfl
    replace x10 := A.t x10 rfl
    have x29 := A.e 0 29 rfl rfl
    have x30 := A.e 1 30 rfl rfl
    have x31 := A.e 2 31 rfl rfl
    have x33 := A.e 4 33 rfl rfl
    replace hIn := HasI.below hIn hb
    replace mg := Ob.below mg hb
    replace bl := bgo bl hb
    replace sd := A.sd sd
    clear A hb
    clear x10
    have hltI := hIn.lt
    refine wl_call 78 (.func 78) _ _ #[.pointer (some ⟨ib, 0, none⟩), .int .i64 (0), .int .i64 (((h - 1 : Nat) : Int))] rfl 34 rfl (by rw [sd.1]; decide) rfl rfl (arg3 x31 rfl x33) Tryz.enter78 (fun u W => u = .int .i64 (cV (0) (((h - 1 : Nat) : Int)) (cts ((h - 1 : Nat) : Int) k (cR 0 (R : Int) (cR 1 1 b)) (cX 0 (R : Int) (cR 1 1 b) (cX 1 1 b false))).2.1) ∧ HasI W ib (cR (0) (((h - 1 : Nat) : Int)) (cts ((h - 1 : Nat) : Int) k (cR 0 (R : Int) (cR 1 1 b)) (cX 0 (R : Int) (cR 1 1 b) (cX 1 1 b false))).2.1) (cX (0) (((h - 1 : Nat) : Int)) (cts ((h - 1 : Nat) : Int) k (cR 0 (R : Int) (cR 1 1 b)) (cX 0 (R : Int) (cR 1 1 b) (cX 1 1 b false))).2.1 (cts ((h - 1 : Nat) : Int) k (cR 0 (R : Int) (cR 1 1 b)) (cX 0 (R : Int) (cR 1 1 b) (cX 1 1 b false))).2.2) ∧ Only ib w16 W) (in_count (0) (((h - 1 : Nat) : Int)) _ hIn (by have := cts_rest ((h - 1 : Nat) : Int) (cR 0 (R : Int) (cR 1 1 b)) (cX 0 (R : Int) (cR 1 1 b) (cX 1 1 b false)) k; have := cR_len 0 (R : Int) (cR 1 1 b); have := cR_len 1 1 b; omega)) ?_
    rintro f17 w17 df2 sz2 old2 ⟨x34, hI2, O⟩
    replace x0 := tr old2 x0 rfl
    replace x1 := tr old2 x1 rfl
    replace x8 := tr old2 x8 rfl
    replace x9 := tr old2 x9 rfl
    replace x25 := tr old2 x25 rfl
    replace x26 := tr old2 x26 rfl
    replace x29 := tr old2 x29 rfl
    replace x30 := tr old2 x30 rfl
    replace x31 := tr old2 x31 rfl
    replace x33 := tr old2 x33 rfl
    replace mg := mg.only O (fun e => by rw [e] at hgI9; omega)
    replace bl := bl.trans (Only.below O _ hwI bl.size)
    replace bl0 := bl
    replace hIn := hI2
    replace sd := sd2 sz2 df2 sd
    clear df2 sz2 old2 O hI2 hltI
    clear x31
    clear x33
    refine wl_one (.eq (.pointer (some ⟨g, k, none⟩))) rfl 35 rfl (by rw [sd.1]; decide) (st_idxI (.tmp 29) (.tmp 30) rfl x29 (k) x30 (by omega)) ?_
    intro f18 w18 df2 sz2 old2 new2 hb
    replace x0 := tr old2 x0 rfl
    replace x1 := tr old2 x1 rfl
    replace x8 := tr old2 x8 rfl
    replace x9 := tr old2 x9 rfl
    replace x25 := tr old2 x25 rfl
    replace x26 := tr old2 x26 rfl
    replace x29 := tr old2 x29 rfl
    replace x30 := tr old2 x30 rfl
    replace x34 := tr old2 x34 rfl
    have x35 := Fk.e new2
    replace hIn := HasI.below hIn hb
    replace mg := Ob.below mg hb
    replace bl := bgo bl hb
    replace sd := sd2 sz2 df2 sd
    clear df2 sz2 old2 new2 hb
    clear x29
    clear x30
    refine wl_stc 3 rfl (.tmp 35) (.tmp 34) rfl rfl (by kernel_rfl) g (k) (.int .i64 (cV 0 ((h - 1 : Nat) : Int) (cts ((h - 1 : Nat) : Int) k (cR 0 (R : Int) (cR 1 1 b)) (cX 0 (R : Int) (cR 1 1 b) (cX 1 1 b false))).2.1)) x35 x34 rfl rfl (Ob.there mg (k) (by rw [zv_len, hrl]; omega)) ?_
    replace hIn := hIn.setc mg (nou8_z _) (Nat.ne_of_lt hgI9) (k) (.int .i64 (cV 0 ((h - 1 : Nat) : Int) (cts ((h - 1 : Nat) : Int) k (cR 0 (R : Int) (cR 1 1 b)) (cX 0 (R : Int) (cR 1 1 b) (cX 1 1 b false))).2.1))
    replace mg : Ob (w18.setCell ⟨g, k, none⟩ (.int .i64 (cV 0 ((h - 1 : Nat) : Int) (cts ((h - 1 : Nat) : Int) k (cR 0 (R : Int) (cR 1 1 b)) (cX 0 (R : Int) (cR 1 1 b) (cX 1 1 b false))).2.1))) g 3 (zv ((cts ((h - 1 : Nat) : Int) (k + 1) (cR 0 (R : Int) (cR 1 1 b)) (cX 0 (R : Int) (cR 1 1 b) (cX 1 1 b false))).1 ++ List.replicate (c - (k + 1)) 0)) := by
      have := Ob.set mg (k) (.int .i64 (cV 0 ((h - 1 : Nat) : Int) (cts ((h - 1 : Nat) : Int) k (cR 0 (R : Int) (cR 1 1 b)) (cX 0 (R : Int) (cR 1 1 b) (cX 1 1 b false))).2.1))
      rw [zv_set, hset] at this
      exact this
    replace bl : Below w.heap.size w (w18.setCell ⟨g, k, none⟩ (.int .i64 (cV 0 ((h - 1 : Nat) : Int) (cts ((h - 1 : Nat) : Int) k (cR 0 (R : Int) (cR 1 1 b)) (cX 0 (R : Int) (cR 1 1 b) (cX 1 1 b false))).2.1))) := bl.trans (below_setCell _ _ _ _ _ hwg)
    generalize w18.setCell ⟨g, k, none⟩ (.int .i64 (cV 0 ((h - 1 : Nat) : Int) (cts ((h - 1 : Nat) : Int) k (cR 0 (R : Int) (cR 1 1 b)) (cX 0 (R : Int) (cR 1 1 b) (cX 1 1 b false))).2.1)) = w19b at bl mg hIn ⊢
    replace bl0 := bl
    refine wpList_nil ?_
    clear x34
    clear x35
    show Code.wp _ _ _ _ _
    refine wr_s [.eq (.int .i64 ((k + 1 : Nat) : Int))] (by rw [sd.1]; kernel_rfl) ⟨fun hw ac u K => ?_, trivial⟩ ?_
    · exact st_addz (.tmp 26) (.const (.int .i64 1)) rfl _ _ _ (K.t x26 rfl) rfl (by omega) (by omega) (by omega)
    intro f20 w20 A hb
    replace x0 := A.t x0 rfl
    replace x1 := A.t x1 rfl
    replace x8 := A.t x8 rfl
    replace x9 := A.t x9 rfl
    replace x25 := A.t x25 rfl
    replace x26 := A.t x26 rfl
    have x36 := A.e 0 36 rfl rfl
    replace hIn := HasI.below hIn hb
    replace mg := Ob.below mg hb
    replace bl := bgo bl hb
    replace sd := A.sd sd
    clear A hb
    refine wl_one (.eq (.int .i64 ((k + 1 : Nat) : Int))) rfl 26 rfl (by rw [sd.1]; decide) (st_move (.tmp 36) rfl x36) ?_
    intro f21 w21 df2 sz2 old2 new2 hb
    replace x0 := tr old2 x0 rfl
    replace x1 := tr old2 x1 rfl
    replace x8 := tr old2 x8 rfl
    replace x9 := tr old2 x9 rfl
    replace x25 := tr old2 x25 rfl
    clear x26
    replace x36 := tr old2 x36 rfl
    have x26 := Fk.e new2
    replace hIn := HasI.below hIn hb
    replace mg := Ob.below mg hb
    replace bl := bgo bl hb
    replace sd := sd2 sz2 df2 sd
    clear df2 sz2 old2 new2 hb
    refine wpList_nil ?_
    clear x36
    show (∃ _, _) ∧ _
    refine ⟨⟨k + 1, by omega, sd.1, sd.2, x0, x1, x8, x9, x25, x26, mg, hIn, bl⟩, ?_⟩
    rw [show f21.eval (.tmp 26) = _ from x26, show _ = _ from hcnt]
    first | (simp [intOf]; done) | (simp [intOf]; omega)
  have hzd : decide (b = zs b.length) = true := by rw [decide_eq_true_iff]; exact hz0
  refine wr_a [.eq (vb), .eq (vb), .eq (.int .i64 (((b).length : Nat) : Int)), .sl (zs b.length), .eq (.bool true)] (by rw [sd.1]; kernel_rfl) ⟨fun hw ac u K => ?_, fun hw ac u K => ?_, fun hw ac u K => ?_, fun hw ac u K => ?_, fun hw ac u K => ?_, trivial⟩ ?_
  · exact st_move (.tmp 0) rfl (K.t x0 rfl)
  · exact st_move (.tmp 0) rfl (K.t x0 rfl)
  · exact st_lenb (.tmp 12) rfl (fk_val (K.dep 1 12 rfl) (Fk.mono _ _ _ _ hv (bgo bl K.grow)))
  · exact st_makeb (.tmp 13) (.tmp 13) rfl (b.length) (by omega) (K.dep 2 13 rfl) (K.dep 2 13 rfl)
  · exact st_call 76 (.func 76) _ _ _ rfl rfl (arg2 (K.dep 0 11 rfl) rfl) Tryz.enter76 ((by have h9 := fk_beq (Fk.mono _ _ _ _ hv (bgo bl K.grow)) (K.dep 3 14 rfl); rw [hzd] at h9; exact h9))
  intro f2 w2 A hb
  replace x0 := A.t x0 rfl
  replace x1 := A.t x1 rfl
  replace x2 := A.t x2 rfl
  have x15 := A.e 4 15 rfl rfl
  replace bl := bgo bl hb
  replace sd := A.sd sd
  clear A hb
  show Code.wp _ _ _ _ _
  refine wp_cond_true x15 ?_
  refine wp_seq ?_
  refine wr_a [.eq (.slice none 0 0), .eq (.bool true)] (by rw [sd.1]; kernel_rfl) ⟨fun hw ac u K => ?_, fun hw ac u K => ?_, trivial⟩ ?_
  · exact st_assign (.const (.slice none 0 0)) rfl rfl
  · exact st_assign (.const (.bool true)) rfl rfl
  intro f3 w3 A hb
  replace x0 := A.t x0 rfl
  replace x1 := A.t x1 rfl
  replace x2 := A.t x2 rfl
  replace x15 := A.t x15 rfl
  have x6 := A.e 0 6 rfl rfl
  have x7 := A.e 1 7 rfl rfl
  replace bl := bgo bl hb
  replace sd := A.sd sd
  clear A hb
  clear x0
  clear x1
  clear x2
  clear x15
  show Code.wp _ _ _ _ _
  refine wp_ret ?_
  repeat (first | with_reducible refine then_ret ?_ | with_reducible refine block_ret ?_)
  exact bodyPost_ret (v := .tuple #[.slice none 0 0, .bool true]) (ret_two rfl f3 _ _ x6 x7 _ _) sd.2 ⟨_, _, rfl, .inr ⟨[], by unfold prsP; rw [if_pos hz0], rfl, is_nil12 _, (fun a n C e => by cases e)⟩, bl⟩
end Go.Proofs.YtakdpkoigijonaaGreat
