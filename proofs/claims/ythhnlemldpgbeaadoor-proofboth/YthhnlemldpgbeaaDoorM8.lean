/- both. -/
import Derived.Test.YthhnlemldpgbeaaDoorM5
import Derived.Test.YthhnlemldpgbeaaDoorM6
import Derived.Test.YthhnlemldpgbeaaDoorM7
namespace Go.Proofs.YthhnlemldpgbeaaDoor
set_option maxRecDepth 100000
open Go.RowKit
/-- Both roots behind k steps. -/
def bk (a : List (BitVec 8)) (R : List (List (BitVec 8))) (S : List Bool) (k : Nat) : List (BitVec 8) × List (BitVec 8) := ((R.zip S).take k).foldl bst (a, a)
theorem bk_zero (a : List (BitVec 8)) (R : List (List (BitVec 8))) (S : List Bool) : bk a R S 0 = (a, a) := rfl
theorem bk_succ (a : List (BitVec 8)) {R : List (List (BitVec 8))} {S : List Bool} {k : Nat} {p : List (BitVec 8)} {b : Bool} (hp : R[k]? = some p) (hb : S[k]? = some b) : bk a R S (k + 1) = bst (bk a R S k) (p, b) := by
  unfold bk
  have : (R.zip S)[k]? = some (p, b) := by rw [List.getElem?_zip_eq_some]; exact ⟨hp, hb⟩
  rw [List.take_add_one, this, List.foldl_append]
  rfl
theorem bst_t (ab : List (BitVec 8) × List (BitVec 8)) (p : List (BitVec 8)) : (bst ab (p, true)).1 = nd p ab.1 := by simp [bst]
theorem bst_f (ab : List (BitVec 8) × List (BitVec 8)) (p : List (BitVec 8)) : (bst ab (p, false)).1 = ab.1 := by simp [bst]
theorem bst_2 (ab : List (BitVec 8) × List (BitVec 8)) (p : List (BitVec 8)) (b : Bool) : (bst ab (p, b)).2 = jon ab.2 (p, b) := by simp [bst]
theorem bk_all (a : List (BitVec 8)) {R : List (List (BitVec 8))} {S : List Bool} (h : R.length = S.length) : bk a R S S.length = bth a R S := by
  unfold bk bth
  rw [List.take_of_length_le (by rw [List.length_zip]; omega)]
theorem bk_len {a : List (BitVec 8)} (ha : a.length = 32) (R : List (List (BitVec 8))) (S : List Bool) (k : Nat) : (bk a R S k).1.length = 32 ∧ (bk a R S k).2.length = 32 := by
  unfold bk
  generalize (R.zip S).take k = l
  suffices H : ∀ (l : List (List (BitVec 8) × Bool)) (x : List (BitVec 8) × List (BitVec 8)), x.1.length = 32 → x.2.length = 32 → (l.foldl bst x).1.length = 32 ∧ (l.foldl bst x).2.length = 32 from H l (a, a) ha ha
  intro l
  induction l with
  | nil => intro x h1 h2; exact ⟨h1, h2⟩
  | cons q r ih =>
    intro x h1 h2
    refine ih _ ?_ (jon_len _ _)
    show (if q.2 then nd q.1 x.1 else x.1).length = 32
    split
    · exact nd_len _ _
    · exact h1
theorem ret_hhb {fn : Func} {p q u : Tmp} (h : fn.results = #[.cell p 23, .cell q 23, .tmp u]) (a : Act) (w : World) (g k : Nat) (xs ys : List (BitVec 8)) (b : Bool) (hx : xs.length = 32) (hy : ys.length = 32) (hp : a.eval (.tmp p) = .pointer (some ⟨g, 0, none⟩)) (hq : a.eval (.tmp q) = .pointer (some ⟨k, 0, none⟩)) (m : Ob w g 23 (xs.map V)) (m2 : Ob w k 23 (ys.map V)) (hu : a.eval (.tmp u) = .bool b) : (results fn a.tmps).run Tryd.prog w = .ok (.tuple #[.agg (xs.map V).toArray, .agg (ys.map V).toArray, .bool b]) w := by
  have h1 : a.tmps.getD p undef = .pointer (some ⟨g, 0, none⟩) := hp
  have h2 : a.tmps.getD q undef = .pointer (some ⟨k, 0, none⟩) := hq
  have h3 : a.tmps.getD u undef = .bool b := hu
  have l1 := run_loadVar_mid (P := Tryd.prog) w g 0 23 (xs.map V) _ (Ob.range m 0 _ (fun j v hj => by simpa using hj)) Tryd.under23 rfl (by rw [List.length_map, hx]; exact Tryd.size23)
  have l2 := run_loadVar_mid (P := Tryd.prog) w k 0 23 (ys.map V) _ (Ob.range m2 0 _ (fun j v hj => by simpa using hj)) Tryd.under23 rfl (by rw [List.length_map, hy]; exact Tryd.size23)
  rw [Array.getD_eq_getD_getElem?] at h1 h2 h3
  simp [results, h, h1, h2, h3, asAddr, l1, l2]
/-- What two roots a step leads to, if it has as many hashes as it must have. -/
def bres (old : List (BitVec 8)) (P : List (List (BitVec 8))) (c : Bool) (S : List Bool) : Option (List (BitVec 8) × List (BitVec 8)) :=
  if c then (match P with | [] => none | p :: r => if r.length = S.length then some (bth p r S) else none) else if P.length = S.length then some (bth old P S) else none
theorem hc_drop {P : List (List (BitVec 8))} {A : Option Addr} {C : Nat} {w : World} (h : (Fk.hc P).f (.slice A P.length C) w) {n : Nat} (hn : n ≤ P.length) : (Fk.hc (P.drop n)).f (sliced A n P.length C 32) w := by
  obtain ⟨A', C', lb, lo, e, hc, hl⟩ := h
  cases e
  refine ⟨if C = n then A else A.map (·.add (n * 32)), C - n, lb, lo + n * 32, ?_, ?_, fun hp => ?_, fun hp => ?_, fun i x hi => ?_⟩
  · simp only [sliced, List.length_drop]
  · rw [List.length_drop]; omega
  · rw [List.length_drop] at hp
    rw [if_neg (by omega), hl.ptr (by omega)]
    simp [Addr.add_mid]
  · rw [List.length_drop] at hp
    exact hl.lt (by omega)
  · rw [List.getElem?_drop] at hi
    have := hl.all (n + i) x hi
    rw [Nat.add_mul, ← Nat.add_assoc] at this
    exact this
theorem both_n0 {m n : Nat} {old rt : List (BitVec 8)} {P : List (List (BitVec 8))} {pA : Option Addr} {pC : Nat} (hold : old.length = 32) (hrt : rt.length = 32) (hm1 : 1 ≤ m) (hm2 : m ≤ n) (hn : n ≤ 1152921504606846976) {c : Bool} {S : List Bool} (hS : stp m n true = (c, S)) (w : World) (hv : (Fk.hc P).f (.slice pA (P).length pC) w) (hK : Tab w) (hc : c = true) (h0 : P.length = 0) :
    Calls Tryd.prog 17 #[.agg (([.int .i64 ((m : Nat) : Int), .int .i64 ((n : Nat) : Int)] : List Value) ++ ((old).map V ++ ((rt).map V ++ (([.slice pA (P).length pC] : List Value))))).toArray] w fun e w' => e = .returned (.tuple #[.agg ((hz).map V).toArray, .agg ((hz).map V).toArray, .bool false]) ∧ Below w.heap.size w w' := by
  have hvs := hc_hs hv
  go_enter Tryd.func17, Tryd.ntmps17
  refine code_both (fun f w1 => f.tmps.size = 67 ∧ f.defers = [] ∧ f.eval (.tmp 0) = .agg (([.int .i64 ((m : Nat) : Int), .int .i64 ((n : Nat) : Int)] : List Value) ++ ((old).map V ++ ((rt).map V ++ (([.slice pA (P).length pC] : List Value))))).toArray ∧ Below w.heap.size w (w1)) ⟨rfl, rfl, rfl, Below.refl _ _⟩ ?_
  rintro f0 w0 ⟨sz, df, x0, bl⟩
  have bl0 := bl
  refine wp_seq ?_
  refine wp_region_seq [] (by kernel_rfl) (by kernel_rfl) (by rw [sz]; kernel_rfl) (by kernel_rfl) trivial ?_
  intro f1 w1 A hb
  replace bl0 := bl
  replace x0 := (A.old 0 rfl).trans x0
  replace bl := (bl.trans (Below.mono hb bl.size))
  replace sz := A.size.trans sz
  replace df := A.defs.trans df
  clear A hb
  refine wl_one (.nw w1.heap.size 38 (([.int .i64 ((m : Nat) : Int), .int .i64 ((n : Nat) : Int)] : List Value) ++ ((old).map V ++ ((rt).map V ++ (([.slice pA (P).length pC] : List Value)))))) rfl 1 rfl (by rw [sz]; decide) (st_box 38 (.tmp 0) rfl _ _ (by rw [show _ = _ from x0]; kernel_rfl) (Nat.le_refl _)) ?_
  intro f2 w2 df2 sz2 old2 new2 hb
  replace bl0 := bl
  replace x0 := (old2 0 rfl).trans x0
  have x1 : Fk.f (.nw w1.heap.size 38 (([.int .i64 ((m : Nat) : Int), .int .i64 ((n : Nat) : Int)] : List Value) ++ ((old).map V ++ ((rt).map V ++ (([.slice pA (P).length pC] : List Value)))))) (f2.eval (.tmp 1)) w2 := new2
  replace bl := (bl.trans (Below.mono hb bl.size))
  replace sz := sz2.trans sz
  replace df := df2.trans df
  clear df2 sz2 old2 new2 hb
  obtain ⟨g1, hg1, e1, m1⟩ := x1
  have x1 := e1
  clear e1
  have hw1 : w.heap.size ≤ g1 := Nat.le_trans bl0.size hg1
  clear x0
  refine wl_one (.nw w2.heap.size 23 ((hz).map V)) rfl 2 rfl (by rw [sz]; decide) (st_alloc23 rfl _ (Nat.le_refl _)) ?_
  intro f3 w3 df2 sz2 old2 new2 hb
  replace bl0 := bl
  replace x1 := (old2 1 rfl).trans x1
  have x2 : Fk.f (.nw w2.heap.size 23 ((hz).map V)) (f3.eval (.tmp 2)) w3 := new2
  have lt_m1 := Ob.lt m1
  replace m1 := Ob.below m1 hb
  replace bl := (bl.trans (Below.mono hb bl.size))
  replace sz := sz2.trans sz
  replace df := df2.trans df
  clear df2 sz2 old2 new2 hb
  obtain ⟨g2, hg2, e2, m2⟩ := x2
  have x2 := e2
  clear e2
  have nm1_2 : g1 ≠ g2 := Nat.ne_of_lt (Nat.lt_of_lt_of_le lt_m1 hg2)
  have hw2 : w.heap.size ≤ g2 := Nat.le_trans bl0.size hg2
  refine wl_one (.nw w3.heap.size 23 ((hz).map V)) rfl 3 rfl (by rw [sz]; decide) (st_alloc23 rfl _ (Nat.le_refl _)) ?_
  intro f4 w4 df2 sz2 old2 new2 hb
  replace bl0 := bl
  replace x1 := (old2 1 rfl).trans x1
  replace x2 := (old2 2 rfl).trans x2
  have x3 : Fk.f (.nw w3.heap.size 23 ((hz).map V)) (f4.eval (.tmp 3)) w4 := new2
  have lt_m1 := Ob.lt m1
  replace m1 := Ob.below m1 hb
  have lt_m2 := Ob.lt m2
  replace m2 := Ob.below m2 hb
  replace bl := (bl.trans (Below.mono hb bl.size))
  replace sz := sz2.trans sz
  replace df := df2.trans df
  clear df2 sz2 old2 new2 hb
  obtain ⟨g3, hg3, e3, m3⟩ := x3
  have x3 := e3
  clear e3
  have nm1_3 : g1 ≠ g3 := Nat.ne_of_lt (Nat.lt_of_lt_of_le lt_m1 hg3)
  have nm2_3 : g2 ≠ g3 := Nat.ne_of_lt (Nat.lt_of_lt_of_le lt_m2 hg3)
  have hw3 : w.heap.size ≤ g3 := Nat.le_trans bl0.size hg3
  refine wl_one (.eq (.bool false)) rfl 4 rfl (by rw [sz]; decide) (st_assign (.const (.bool false)) rfl rfl) ?_
  intro f5 w5 df2 sz2 old2 new2 hb
  replace bl0 := bl
  replace x1 := (old2 1 rfl).trans x1
  replace x2 := (old2 2 rfl).trans x2
  replace x3 := (old2 3 rfl).trans x3
  have x4 : f5.eval (.tmp 4) = .bool false := new2
  have lt_m1 := Ob.lt m1
  replace m1 := Ob.below m1 hb
  have lt_m2 := Ob.lt m2
  replace m2 := Ob.below m2 hb
  have lt_m3 := Ob.lt m3
  replace m3 := Ob.below m3 hb
  replace bl := (bl.trans (Below.mono hb bl.size))
  replace sz := sz2.trans sz
  replace df := df2.trans df
  clear df2 sz2 old2 new2 hb
  refine wpList_nil ?_
  show Code.wp _ _ _ _ _
  refine wp_seq ?_
  refine wp_all_seq [.eq (.pointer (some ⟨g1, 0, none⟩)), .eq (.int .i64 ((m : Nat) : Int)), .eq (.pointer (some ⟨g1, 1, none⟩)), .eq (.int .i64 ((n : Nat) : Int)), .tob w.heap.size c (S), .tob w.heap.size c (S), .eq (.bool c), .ob w.heap.size (S), .eq (.bool c), .ob w.heap.size (S)] (by kernel_rfl) (by kernel_rfl) (by rw [sz]; kernel_rfl) (by kernel_rfl) ⟨fun hw ac u K => ?_, fun hw ac u K => ?_, fun hw ac u K => ?_, fun hw ac u K => ?_, fun hw ac u K => ?_, fun hw ac u K => ?_, fun hw ac u K => ?_, fun hw ac u K => ?_, fun hw ac u K => ?_, fun hw ac u K => ?_, trivial⟩ ?_
  · exact st_field 38 0 (.tmp 1) rfl ((K.old 1 rfl).trans x1) (by kernel_rfl)
  · exact st_loadc 3 (.tmp 13) rfl (by kernel_rfl) (K.dep 0 13 rfl) (ob_cell_at (Ob.below m1 K.grow) (([] : List Value)) (([.int .i64 ((n : Nat) : Int)] : List Value) ++ ((old).map V ++ ((rt).map V ++ (([.slice pA (P).length pC] : List Value))))) _ 0 (by simp) (by rfl))
  · exact st_field 38 1 (.tmp 1) rfl ((K.old 1 rfl).trans x1) (by kernel_rfl)
  · exact st_loadc 3 (.tmp 15) rfl (by kernel_rfl) (K.dep 2 15 rfl) (ob_cell_at (Ob.below m1 K.grow) (([.int .i64 ((m : Nat) : Int)] : List Value)) ((old).map V ++ ((rt).map V ++ (([.slice pA (P).length pC] : List Value)))) _ 1 (by simp) (by rfl))
  · exact st_call 31 (.func 31) _ _ #[.int .i64 ((m : Nat) : Int), .int .i64 ((n : Nat) : Int), .bool true] rfl rfl (arg3 (K.dep 1 14 rfl) (K.dep 3 16 rfl) rfl) Tryd.enter31 (fk_tob (bl.trans (Below.mono K.grow bl.size)).size hS (steps_any n m true _ (by omega) hn hm1 hm2))
  · exact st_move (.tmp 17) rfl (K.dep 4 17 rfl)
  · exact st_tob0 (.tmp 12) rfl (K.dep 5 12 rfl)
  · exact st_tob1 (.tmp 12) rfl (K.dep 5 12 rfl)
  · exact st_assign (.tmp 18) rfl (K.dep 6 18 rfl)
  · exact st_assign (.tmp 19) rfl (K.dep 7 19 rfl)
  intro f6 w6 A hb
  replace bl0 := bl
  replace x1 := (A.old 1 rfl).trans x1
  replace x2 := (A.old 2 rfl).trans x2
  replace x3 := (A.old 3 rfl).trans x3
  replace x4 := (A.old 4 rfl).trans x4
  have x5 : f6.eval (.tmp 5) = .bool c := A.has 8 5 rfl
  have x6 : Fk.f (.ob w.heap.size (S)) (f6.eval (.tmp 6)) w6 := A.has 9 6 rfl
  have lt_m1 := Ob.lt m1
  replace m1 := Ob.below m1 hb
  have lt_m2 := Ob.lt m2
  replace m2 := Ob.below m2 hb
  have lt_m3 := Ob.lt m3
  replace m3 := Ob.below m3 hb
  replace bl := (bl.trans (Below.mono hb bl.size))
  replace sz := A.size.trans sz
  replace df := A.defs.trans df
  clear A hb
  obtain ⟨v6, e6⟩ : ∃ v, f6.eval (.tmp 6) = v := ⟨_, rfl⟩
  have h6 := ob_bs x6
  rw [e6] at h6
  replace x6 := e6
  clear e6
  rw [hc] at x5
  show Code.wp _ _ _ _ _
  refine wp_seq ?_
  refine wp_all_seq [.eq (.pointer (some ⟨g1, 66, none⟩)), .eq (.slice pA (P).length pC), .eq (.slice pA (P).length pC)] (by kernel_rfl) (by kernel_rfl) (by rw [sz]; kernel_rfl) (by kernel_rfl) ⟨fun hw ac u K => ?_, fun hw ac u K => ?_, fun hw ac u K => ?_, trivial⟩ ?_
  · exact st_field 38 4 (.tmp 1) rfl ((K.old 1 rfl).trans x1) (by kernel_rfl)
  · exact st_loadc 24 (.tmp 20) rfl (by kernel_rfl) (K.dep 0 20 rfl) (ob_cell_at (Ob.below m1 K.grow) (([.int .i64 ((m : Nat) : Int), .int .i64 ((n : Nat) : Int)] : List Value) ++ ((old).map V ++ ((rt).map V))) (([] : List Value)) _ 66 (by simp) (by simp [hold, hrt]))
  · exact st_assign (.tmp 21) rfl (K.dep 1 21 rfl)
  intro f7 w7 A hb
  replace bl0 := bl
  replace x1 := (A.old 1 rfl).trans x1
  replace x2 := (A.old 2 rfl).trans x2
  replace x3 := (A.old 3 rfl).trans x3
  replace x4 := (A.old 4 rfl).trans x4
  replace x5 := (A.old 5 rfl).trans x5
  replace x6 := (A.old 6 rfl).trans x6
  have x7 : f7.eval (.tmp 7) = .slice pA (P).length pC := A.has 2 7 rfl
  have lt_m1 := Ob.lt m1
  replace m1 := Ob.below m1 hb
  have lt_m2 := Ob.lt m2
  replace m2 := Ob.below m2 hb
  have lt_m3 := Ob.lt m3
  replace m3 := Ob.below m3 hb
  replace h6 := Fk.mono _ _ _ _ h6 hb
  replace bl := (bl.trans (Below.mono hb bl.size))
  replace sz := A.size.trans sz
  replace df := A.defs.trans df
  clear A hb
  have blw := bl
  replace hv := Fk.mono _ _ _ _ hv bl
  replace hvs := Fk.mono _ _ _ _ hvs bl
  replace hK := hK.below bl
  replace bl := Below.refl w7.heap.size w7
  replace bl0 := bl
  show Code.wp _ _ _ _ _
  refine wp_seq ?_
  refine wp_region_seq [.eq (.pointer (some ⟨g1, 2, none⟩)), .eq (.agg ((old).map V).toArray)] (by kernel_rfl) (by kernel_rfl) (by rw [sz]; kernel_rfl) (by kernel_rfl) ⟨fun hw ac u K => ?_, fun hw ac u K => ?_, trivial⟩ ?_
  · exact st_field 38 2 (.tmp 1) rfl ((K.old 1 rfl).trans x1) (by kernel_rfl)
  · exact st_loadz 23 (.tmp 22) rfl (g1) 2 ((old).map V) (by kernel_rfl) (by rw [List.length_map, hold]; kernel_rfl) (K.dep 0 22 rfl) (ob_range_at (Ob.below m1 (bl.trans (Below.mono K.grow bl.size))) (([.int .i64 ((m : Nat) : Int), .int .i64 ((n : Nat) : Int)] : List Value)) ((rt).map V ++ (([.slice pA (P).length pC] : List Value))) _ 2 (by simp) (by rfl))
  intro f8 w8 A hb
  replace bl0 := bl
  replace x1 := (A.old 1 rfl).trans x1
  replace x2 := (A.old 2 rfl).trans x2
  replace x3 := (A.old 3 rfl).trans x3
  replace x4 := (A.old 4 rfl).trans x4
  replace x5 := (A.old 5 rfl).trans x5
  replace x6 := (A.old 6 rfl).trans x6
  replace x7 := (A.old 7 rfl).trans x7
  have x23 : f8.eval (.tmp 23) = .agg ((old).map V).toArray := A.has 1 23 rfl
  replace bl := (bl.trans (Below.mono hb bl.size))
  replace sz := A.size.trans sz
  replace df := A.defs.trans df
  clear A hb
  refine wl_one (.nw w8.heap.size 23 ((hz).map V)) rfl 8 rfl (by rw [sz]; decide) (st_alloc23 rfl _ (Nat.le_refl _)) ?_
  intro f9 w9 df2 sz2 old2 new2 hb
  replace bl0 := bl
  replace x1 := (old2 1 rfl).trans x1
  replace x2 := (old2 2 rfl).trans x2
  replace x3 := (old2 3 rfl).trans x3
  replace x4 := (old2 4 rfl).trans x4
  replace x5 := (old2 5 rfl).trans x5
  replace x6 := (old2 6 rfl).trans x6
  replace x7 := (old2 7 rfl).trans x7
  replace x23 := (old2 23 rfl).trans x23
  have x8 : Fk.f (.nw w8.heap.size 23 ((hz).map V)) (f9.eval (.tmp 8)) w9 := new2
  replace bl := (bl.trans (Below.mono hb bl.size))
  replace sz := sz2.trans sz
  replace df := df2.trans df
  clear df2 sz2 old2 new2 hb
  obtain ⟨g8, hg8, e8, m8⟩ := x8
  have x8 := e8
  clear e8
  have nm1_8 : g1 ≠ g8 := Nat.ne_of_lt (Nat.lt_of_lt_of_le (Ob.lt m1) (Nat.le_trans bl0.size hg8))
  have nm2_8 : g2 ≠ g8 := Nat.ne_of_lt (Nat.lt_of_lt_of_le (Ob.lt m2) (Nat.le_trans bl0.size hg8))
  have nm3_8 : g3 ≠ g8 := Nat.ne_of_lt (Nat.lt_of_lt_of_le (Ob.lt m3) (Nat.le_trans bl0.size hg8))
  have hw8 : w7.heap.size ≤ g8 := Nat.le_trans bl0.size hg8
  refine wl_store rfl (.tmp 8) (.tmp 23) rfl rfl (g8) (old) (hz) x8 x23 m8 hz_len hold ?_
  replace m8 : Ob (w9.setRow g8 ((old).map V : List Value).toArray) (g8) 23 ((old).map V) := Ob.setRow m8 ((old).map V)
  replace bl : Below w7.heap.size w7 (w9.setRow g8 ((old).map V : List Value).toArray) := bl.trans (below_setRow _ _ _ _ hw8)
  generalize w9.setRow g8 ((old).map V : List Value).toArray = w10b at bl m8 ⊢
  refine wpList_nil ?_
  clear x23
  have hw8r : w7.heap.size ≤ g8 := hw8
  show Code.wp _ _ _ _ _
  refine wp_seq ?_
  refine wp_seq ?_
  refine wp_all_seq [.eq (.bool true)] (by kernel_rfl) (by kernel_rfl) (by rw [sz]; kernel_rfl) (by kernel_rfl) ⟨fun hw ac u K => ?_, trivial⟩ ?_
  · exact st_move (.tmp 5) rfl ((K.old 5 rfl).trans x5)
  intro f11 w11 A hb
  replace bl0 := bl
  replace x1 := (A.old 1 rfl).trans x1
  replace x2 := (A.old 2 rfl).trans x2
  replace x3 := (A.old 3 rfl).trans x3
  replace x4 := (A.old 4 rfl).trans x4
  replace x5 := (A.old 5 rfl).trans x5
  replace x6 := (A.old 6 rfl).trans x6
  replace x7 := (A.old 7 rfl).trans x7
  replace x8 := (A.old 8 rfl).trans x8
  have x24 : f11.eval (.tmp 24) = .bool true := A.has 0 24 rfl
  have lt_m8 := Ob.lt m8
  replace m8 := Ob.below m8 hb
  replace bl := (bl.trans (Below.mono hb bl.size))
  replace sz := A.size.trans sz
  replace df := A.defs.trans df
  clear A hb
  clear x5
  show Code.wp _ _ _ _ _
  refine wp_cond_true x24 ?_
  refine wp_seq ?_
  refine wp_seq ?_
  refine wp_all_seq [.eq (.slice pA (P).length pC), .eq (.int .i64 (((P).length : Nat) : Int)), .eq (.bool true)] (by kernel_rfl) (by kernel_rfl) (by rw [sz]; kernel_rfl) (by kernel_rfl) ⟨fun hw ac u K => ?_, fun hw ac u K => ?_, fun hw ac u K => ?_, trivial⟩ ?_
  · exact st_move (.tmp 7) rfl ((K.old 7 rfl).trans x7)
  · exact st_lenc (.tmp 25) rfl ((P).length) rfl (fk_val (K.dep 0 25 rfl) (Fk.mono _ _ _ _ hv (bl.trans (Below.mono K.grow bl.size))))
  · exact st_eqi 3 (.tmp 26) (.const (.int .i64 0)) rfl .i64 ((((P).length : Nat) : Int)) (0) (K.dep 1 26 rfl) rfl _ (by rw [eq_comm, decide_eq_true_iff]; omega)
  intro f12 w12 A hb
  replace bl0 := bl
  replace x1 := (A.old 1 rfl).trans x1
  replace x2 := (A.old 2 rfl).trans x2
  replace x3 := (A.old 3 rfl).trans x3
  replace x4 := (A.old 4 rfl).trans x4
  replace x6 := (A.old 6 rfl).trans x6
  replace x7 := (A.old 7 rfl).trans x7
  replace x8 := (A.old 8 rfl).trans x8
  replace x24 := (A.old 24 rfl).trans x24
  have x27 : f12.eval (.tmp 27) = .bool true := A.has 2 27 rfl
  have lt_m8 := Ob.lt m8
  replace m8 := Ob.below m8 hb
  replace bl := (bl.trans (Below.mono hb bl.size))
  replace sz := A.size.trans sz
  replace df := A.defs.trans df
  clear A hb
  show Code.wp _ _ _ _ _
  refine wp_cond_true x27 ?_
  refine wp_seq ?_
  replace m1 := Ob.below m1 bl
  replace m2 := Ob.below m2 bl
  replace m3 := Ob.below m3 bl
  replace bl := blw.trans (Below.mono bl blw.size)
  replace bl0 := bl
  refine wp_region_seq [.eq (.agg ((hz).map V).toArray), .eq (.agg ((hz).map V).toArray)] (by kernel_rfl) (by kernel_rfl) (by rw [sz]; kernel_rfl) (by kernel_rfl) ⟨fun hw ac u K => ?_, fun hw ac u K => ?_, trivial⟩ ?_
  · exact st_zero23 rfl
  · exact st_zero23 rfl
  intro f13 w13 A hb
  replace bl0 := bl
  replace x1 := (A.old 1 rfl).trans x1
  replace x2 := (A.old 2 rfl).trans x2
  replace x3 := (A.old 3 rfl).trans x3
  replace x4 := (A.old 4 rfl).trans x4
  replace x6 := (A.old 6 rfl).trans x6
  replace x7 := (A.old 7 rfl).trans x7
  replace x8 := (A.old 8 rfl).trans x8
  replace x24 := (A.old 24 rfl).trans x24
  replace x27 := (A.old 27 rfl).trans x27
  have x28 : f13.eval (.tmp 28) = .agg ((hz).map V).toArray := A.has 0 28 rfl
  have x29 : f13.eval (.tmp 29) = .agg ((hz).map V).toArray := A.has 1 29 rfl
  have lt_m1 := Ob.lt m1
  replace m1 := Ob.below m1 hb
  have lt_m2 := Ob.lt m2
  replace m2 := Ob.below m2 hb
  have lt_m3 := Ob.lt m3
  replace m3 := Ob.below m3 hb
  have lt_m8 := Ob.lt m8
  replace m8 := Ob.below m8 hb
  replace bl := (bl.trans (Below.mono hb bl.size))
  replace sz := A.size.trans sz
  replace df := A.defs.trans df
  clear A hb
  refine wl_store rfl (.tmp 2) (.tmp 28) rfl rfl (g2) (hz) (hz) x2 x28 m2 hz_len hz_len ?_
  replace m1 : Ob (w13.setRow g2 ((hz).map V : List Value).toArray) (g1) 38 (([.int .i64 ((m : Nat) : Int), .int .i64 ((n : Nat) : Int)] : List Value) ++ ((old).map V ++ ((rt).map V ++ (([.slice pA (P).length pC] : List Value))))) := Ob.setRow_other m1 _ nm1_2
  replace m2 : Ob (w13.setRow g2 ((hz).map V : List Value).toArray) (g2) 23 ((hz).map V) := Ob.setRow m2 ((hz).map V)
  replace m3 : Ob (w13.setRow g2 ((hz).map V : List Value).toArray) (g3) 23 ((hz).map V) := Ob.setRow_other m3 _ nm2_3.symm
  replace m8 : Ob (w13.setRow g2 ((hz).map V : List Value).toArray) (g8) 23 ((old).map V) := Ob.setRow_other m8 _ nm2_8.symm
  replace bl : Below w.heap.size w (w13.setRow g2 ((hz).map V : List Value).toArray) := bl.trans (below_setRow _ _ _ _ hw2)
  generalize w13.setRow g2 ((hz).map V : List Value).toArray = w14b at bl m1 m2 m3 m8 ⊢
  clear x28
  refine wl_store rfl (.tmp 3) (.tmp 29) rfl rfl (g3) (hz) (hz) x3 x29 m3 hz_len hz_len ?_
  replace m1 : Ob (w14b.setRow g3 ((hz).map V : List Value).toArray) (g1) 38 (([.int .i64 ((m : Nat) : Int), .int .i64 ((n : Nat) : Int)] : List Value) ++ ((old).map V ++ ((rt).map V ++ (([.slice pA (P).length pC] : List Value))))) := Ob.setRow_other m1 _ nm1_3
  replace m2 : Ob (w14b.setRow g3 ((hz).map V : List Value).toArray) (g2) 23 ((hz).map V) := Ob.setRow_other m2 _ nm2_3
  replace m3 : Ob (w14b.setRow g3 ((hz).map V : List Value).toArray) (g3) 23 ((hz).map V) := Ob.setRow m3 ((hz).map V)
  replace m8 : Ob (w14b.setRow g3 ((hz).map V : List Value).toArray) (g8) 23 ((old).map V) := Ob.setRow_other m8 _ nm3_8.symm
  replace bl : Below w.heap.size w (w14b.setRow g3 ((hz).map V : List Value).toArray) := bl.trans (below_setRow _ _ _ _ hw3)
  generalize w14b.setRow g3 ((hz).map V : List Value).toArray = w15b at bl m1 m2 m3 m8 ⊢
  clear x29
  refine wl_one (.eq (.bool false)) rfl 4 rfl (by rw [sz]; decide) (st_assign (.const (.bool false)) rfl rfl) ?_
  intro f16 w16 df2 sz2 old2 new2 hb
  replace bl0 := bl
  replace x1 := (old2 1 rfl).trans x1
  replace x2 := (old2 2 rfl).trans x2
  replace x3 := (old2 3 rfl).trans x3
  clear x4
  replace x6 := (old2 6 rfl).trans x6
  replace x7 := (old2 7 rfl).trans x7
  replace x8 := (old2 8 rfl).trans x8
  replace x24 := (old2 24 rfl).trans x24
  replace x27 := (old2 27 rfl).trans x27
  have x4 : f16.eval (.tmp 4) = .bool false := new2
  have lt_m1 := Ob.lt m1
  replace m1 := Ob.below m1 hb
  have lt_m2 := Ob.lt m2
  replace m2 := Ob.below m2 hb
  have lt_m3 := Ob.lt m3
  replace m3 := Ob.below m3 hb
  have lt_m8 := Ob.lt m8
  replace m8 := Ob.below m8 hb
  replace bl := (bl.trans (Below.mono hb bl.size))
  replace sz := sz2.trans sz
  replace df := df2.trans df
  clear df2 sz2 old2 new2 hb
  refine wpList_nil ?_
  show Code.wp _ _ _ _ _
  refine wp_ret ?_
  repeat (first | with_reducible refine then_ret ?_ | with_reducible refine block_ret ?_)
  exact bodyPost_ret (v := .tuple #[.agg ((hz).map V).toArray, .agg ((hz).map V).toArray, .bool false]) (ret_hhb rfl f16 _ g2 g3 (hz) (hz) false hz_len hz_len x2 x3 m2 m3 x4) df ⟨rfl, bl⟩
theorem both_nl {m n : Nat} {old rt : List (BitVec 8)} {P : List (List (BitVec 8))} {pA : Option Addr} {pC : Nat} (hold : old.length = 32) (hrt : rt.length = 32) (hm1 : 1 ≤ m) (hm2 : m ≤ n) (hn : n ≤ 1152921504606846976) {c : Bool} {S : List Bool} (hS : stp m n true = (c, S)) (w : World) (hv : (Fk.hc P).f (.slice pA (P).length pC) w) (hK : Tab w) (hc : c = true) (h0 : P.length ≠ 0) (hRl0 : (P.drop 1).length ≠ S.length) :
    Calls Tryd.prog 17 #[.agg (([.int .i64 ((m : Nat) : Int), .int .i64 ((n : Nat) : Int)] : List Value) ++ ((old).map V ++ ((rt).map V ++ (([.slice pA (P).length pC] : List Value))))).toArray] w fun e w' => e = .returned (.tuple #[.agg ((hz).map V).toArray, .agg ((hz).map V).toArray, .bool false]) ∧ Below w.heap.size w w' := by
  have hvs := hc_hs hv
  obtain ⟨R, hR⟩ : ∃ R, P.drop 1 = R := ⟨_, rfl⟩
  have hPl : 1 ≤ P.length := by omega
  have hvR : (Fk.hc R).f (sliced pA 1 (P).length pC 32) w := by rw [← hR]; exact hc_drop hv hPl
  have hvRs := hc_hs hvR
  obtain ⟨st, hst⟩ : ∃ st, P[0]? = some st := ⟨_, List.getElem?_eq_getElem (by omega)⟩
  have hst0 : st.length = 32 := hc_len hv st (List.mem_of_getElem? hst)
  have hRl : R.length ≠ S.length := by rw [← hR]; exact hRl0
  go_enter Tryd.func17, Tryd.ntmps17
  refine code_both (fun f w1 => f.tmps.size = 67 ∧ f.defers = [] ∧ f.eval (.tmp 0) = .agg (([.int .i64 ((m : Nat) : Int), .int .i64 ((n : Nat) : Int)] : List Value) ++ ((old).map V ++ ((rt).map V ++ (([.slice pA (P).length pC] : List Value))))).toArray ∧ Below w.heap.size w (w1)) ⟨rfl, rfl, rfl, Below.refl _ _⟩ ?_
  rintro f0 w0 ⟨sz, df, x0, bl⟩
  have bl0 := bl
  refine wp_seq ?_
  refine wp_region_seq [] (by kernel_rfl) (by kernel_rfl) (by rw [sz]; kernel_rfl) (by kernel_rfl) trivial ?_
  intro f1 w1 A hb
  replace bl0 := bl
  replace x0 := (A.old 0 rfl).trans x0
  replace bl := (bl.trans (Below.mono hb bl.size))
  replace sz := A.size.trans sz
  replace df := A.defs.trans df
  clear A hb
  refine wl_one (.nw w1.heap.size 38 (([.int .i64 ((m : Nat) : Int), .int .i64 ((n : Nat) : Int)] : List Value) ++ ((old).map V ++ ((rt).map V ++ (([.slice pA (P).length pC] : List Value)))))) rfl 1 rfl (by rw [sz]; decide) (st_box 38 (.tmp 0) rfl _ _ (by rw [show _ = _ from x0]; kernel_rfl) (Nat.le_refl _)) ?_
  intro f2 w2 df2 sz2 old2 new2 hb
  replace bl0 := bl
  replace x0 := (old2 0 rfl).trans x0
  have x1 : Fk.f (.nw w1.heap.size 38 (([.int .i64 ((m : Nat) : Int), .int .i64 ((n : Nat) : Int)] : List Value) ++ ((old).map V ++ ((rt).map V ++ (([.slice pA (P).length pC] : List Value)))))) (f2.eval (.tmp 1)) w2 := new2
  replace bl := (bl.trans (Below.mono hb bl.size))
  replace sz := sz2.trans sz
  replace df := df2.trans df
  clear df2 sz2 old2 new2 hb
  obtain ⟨g1, hg1, e1, m1⟩ := x1
  have x1 := e1
  clear e1
  have hw1 : w.heap.size ≤ g1 := Nat.le_trans bl0.size hg1
  clear x0
  refine wl_one (.nw w2.heap.size 23 ((hz).map V)) rfl 2 rfl (by rw [sz]; decide) (st_alloc23 rfl _ (Nat.le_refl _)) ?_
  intro f3 w3 df2 sz2 old2 new2 hb
  replace bl0 := bl
  replace x1 := (old2 1 rfl).trans x1
  have x2 : Fk.f (.nw w2.heap.size 23 ((hz).map V)) (f3.eval (.tmp 2)) w3 := new2
  have lt_m1 := Ob.lt m1
  replace m1 := Ob.below m1 hb
  replace bl := (bl.trans (Below.mono hb bl.size))
  replace sz := sz2.trans sz
  replace df := df2.trans df
  clear df2 sz2 old2 new2 hb
  obtain ⟨g2, hg2, e2, m2⟩ := x2
  have x2 := e2
  clear e2
  have nm1_2 : g1 ≠ g2 := Nat.ne_of_lt (Nat.lt_of_lt_of_le lt_m1 hg2)
  have hw2 : w.heap.size ≤ g2 := Nat.le_trans bl0.size hg2
  refine wl_one (.nw w3.heap.size 23 ((hz).map V)) rfl 3 rfl (by rw [sz]; decide) (st_alloc23 rfl _ (Nat.le_refl _)) ?_
  intro f4 w4 df2 sz2 old2 new2 hb
  replace bl0 := bl
  replace x1 := (old2 1 rfl).trans x1
  replace x2 := (old2 2 rfl).trans x2
  have x3 : Fk.f (.nw w3.heap.size 23 ((hz).map V)) (f4.eval (.tmp 3)) w4 := new2
  have lt_m1 := Ob.lt m1
  replace m1 := Ob.below m1 hb
  have lt_m2 := Ob.lt m2
  replace m2 := Ob.below m2 hb
  replace bl := (bl.trans (Below.mono hb bl.size))
  replace sz := sz2.trans sz
  replace df := df2.trans df
  clear df2 sz2 old2 new2 hb
  obtain ⟨g3, hg3, e3, m3⟩ := x3
  have x3 := e3
  clear e3
  have nm1_3 : g1 ≠ g3 := Nat.ne_of_lt (Nat.lt_of_lt_of_le lt_m1 hg3)
  have nm2_3 : g2 ≠ g3 := Nat.ne_of_lt (Nat.lt_of_lt_of_le lt_m2 hg3)
  have hw3 : w.heap.size ≤ g3 := Nat.le_trans bl0.size hg3
  refine wl_one (.eq (.bool false)) rfl 4 rfl (by rw [sz]; decide) (st_assign (.const (.bool false)) rfl rfl) ?_
  intro f5 w5 df2 sz2 old2 new2 hb
  replace bl0 := bl
  replace x1 := (old2 1 rfl).trans x1
  replace x2 := (old2 2 rfl).trans x2
  replace x3 := (old2 3 rfl).trans x3
  have x4 : f5.eval (.tmp 4) = .bool false := new2
  have lt_m1 := Ob.lt m1
  replace m1 := Ob.below m1 hb
  have lt_m2 := Ob.lt m2
  replace m2 := Ob.below m2 hb
  have lt_m3 := Ob.lt m3
  replace m3 := Ob.below m3 hb
  replace bl := (bl.trans (Below.mono hb bl.size))
  replace sz := sz2.trans sz
  replace df := df2.trans df
  clear df2 sz2 old2 new2 hb
  refine wpList_nil ?_
  show Code.wp _ _ _ _ _
  refine wp_seq ?_
  refine wp_all_seq [.eq (.pointer (some ⟨g1, 0, none⟩)), .eq (.int .i64 ((m : Nat) : Int)), .eq (.pointer (some ⟨g1, 1, none⟩)), .eq (.int .i64 ((n : Nat) : Int)), .tob w.heap.size c (S), .tob w.heap.size c (S), .eq (.bool c), .ob w.heap.size (S), .eq (.bool c), .ob w.heap.size (S)] (by kernel_rfl) (by kernel_rfl) (by rw [sz]; kernel_rfl) (by kernel_rfl) ⟨fun hw ac u K => ?_, fun hw ac u K => ?_, fun hw ac u K => ?_, fun hw ac u K => ?_, fun hw ac u K => ?_, fun hw ac u K => ?_, fun hw ac u K => ?_, fun hw ac u K => ?_, fun hw ac u K => ?_, fun hw ac u K => ?_, trivial⟩ ?_
  · exact st_field 38 0 (.tmp 1) rfl ((K.old 1 rfl).trans x1) (by kernel_rfl)
  · exact st_loadc 3 (.tmp 13) rfl (by kernel_rfl) (K.dep 0 13 rfl) (ob_cell_at (Ob.below m1 K.grow) (([] : List Value)) (([.int .i64 ((n : Nat) : Int)] : List Value) ++ ((old).map V ++ ((rt).map V ++ (([.slice pA (P).length pC] : List Value))))) _ 0 (by simp) (by rfl))
  · exact st_field 38 1 (.tmp 1) rfl ((K.old 1 rfl).trans x1) (by kernel_rfl)
  · exact st_loadc 3 (.tmp 15) rfl (by kernel_rfl) (K.dep 2 15 rfl) (ob_cell_at (Ob.below m1 K.grow) (([.int .i64 ((m : Nat) : Int)] : List Value)) ((old).map V ++ ((rt).map V ++ (([.slice pA (P).length pC] : List Value)))) _ 1 (by simp) (by rfl))
  · exact st_call 31 (.func 31) _ _ #[.int .i64 ((m : Nat) : Int), .int .i64 ((n : Nat) : Int), .bool true] rfl rfl (arg3 (K.dep 1 14 rfl) (K.dep 3 16 rfl) rfl) Tryd.enter31 (fk_tob (bl.trans (Below.mono K.grow bl.size)).size hS (steps_any n m true _ (by omega) hn hm1 hm2))
  · exact st_move (.tmp 17) rfl (K.dep 4 17 rfl)
  · exact st_tob0 (.tmp 12) rfl (K.dep 5 12 rfl)
  · exact st_tob1 (.tmp 12) rfl (K.dep 5 12 rfl)
  · exact st_assign (.tmp 18) rfl (K.dep 6 18 rfl)
  · exact st_assign (.tmp 19) rfl (K.dep 7 19 rfl)
  intro f6 w6 A hb
  replace bl0 := bl
  replace x1 := (A.old 1 rfl).trans x1
  replace x2 := (A.old 2 rfl).trans x2
  replace x3 := (A.old 3 rfl).trans x3
  replace x4 := (A.old 4 rfl).trans x4
  have x5 : f6.eval (.tmp 5) = .bool c := A.has 8 5 rfl
  have x6 : Fk.f (.ob w.heap.size (S)) (f6.eval (.tmp 6)) w6 := A.has 9 6 rfl
  have lt_m1 := Ob.lt m1
  replace m1 := Ob.below m1 hb
  have lt_m2 := Ob.lt m2
  replace m2 := Ob.below m2 hb
  have lt_m3 := Ob.lt m3
  replace m3 := Ob.below m3 hb
  replace bl := (bl.trans (Below.mono hb bl.size))
  replace sz := A.size.trans sz
  replace df := A.defs.trans df
  clear A hb
  obtain ⟨v6, e6⟩ : ∃ v, f6.eval (.tmp 6) = v := ⟨_, rfl⟩
  have h6 := ob_bs x6
  rw [e6] at h6
  replace x6 := e6
  clear e6
  rw [hc] at x5
  show Code.wp _ _ _ _ _
  refine wp_seq ?_
  refine wp_all_seq [.eq (.pointer (some ⟨g1, 66, none⟩)), .eq (.slice pA (P).length pC), .eq (.slice pA (P).length pC)] (by kernel_rfl) (by kernel_rfl) (by rw [sz]; kernel_rfl) (by kernel_rfl) ⟨fun hw ac u K => ?_, fun hw ac u K => ?_, fun hw ac u K => ?_, trivial⟩ ?_
  · exact st_field 38 4 (.tmp 1) rfl ((K.old 1 rfl).trans x1) (by kernel_rfl)
  · exact st_loadc 24 (.tmp 20) rfl (by kernel_rfl) (K.dep 0 20 rfl) (ob_cell_at (Ob.below m1 K.grow) (([.int .i64 ((m : Nat) : Int), .int .i64 ((n : Nat) : Int)] : List Value) ++ ((old).map V ++ ((rt).map V))) (([] : List Value)) _ 66 (by simp) (by simp [hold, hrt]))
  · exact st_assign (.tmp 21) rfl (K.dep 1 21 rfl)
  intro f7 w7 A hb
  replace bl0 := bl
  replace x1 := (A.old 1 rfl).trans x1
  replace x2 := (A.old 2 rfl).trans x2
  replace x3 := (A.old 3 rfl).trans x3
  replace x4 := (A.old 4 rfl).trans x4
  replace x5 := (A.old 5 rfl).trans x5
  replace x6 := (A.old 6 rfl).trans x6
  have x7 : f7.eval (.tmp 7) = .slice pA (P).length pC := A.has 2 7 rfl
  have lt_m1 := Ob.lt m1
  replace m1 := Ob.below m1 hb
  have lt_m2 := Ob.lt m2
  replace m2 := Ob.below m2 hb
  have lt_m3 := Ob.lt m3
  replace m3 := Ob.below m3 hb
  replace h6 := Fk.mono _ _ _ _ h6 hb
  replace bl := (bl.trans (Below.mono hb bl.size))
  replace sz := A.size.trans sz
  replace df := A.defs.trans df
  clear A hb
  have blw := bl
  replace hv := Fk.mono _ _ _ _ hv bl
  replace hvs := Fk.mono _ _ _ _ hvs bl
  replace hvR := Fk.mono _ _ _ _ hvR bl
  replace hvRs := Fk.mono _ _ _ _ hvRs bl
  replace hK := hK.below bl
  replace bl := Below.refl w7.heap.size w7
  replace bl0 := bl
  show Code.wp _ _ _ _ _
  refine wp_seq ?_
  refine wp_region_seq [.eq (.pointer (some ⟨g1, 2, none⟩)), .eq (.agg ((old).map V).toArray)] (by kernel_rfl) (by kernel_rfl) (by rw [sz]; kernel_rfl) (by kernel_rfl) ⟨fun hw ac u K => ?_, fun hw ac u K => ?_, trivial⟩ ?_
  · exact st_field 38 2 (.tmp 1) rfl ((K.old 1 rfl).trans x1) (by kernel_rfl)
  · exact st_loadz 23 (.tmp 22) rfl (g1) 2 ((old).map V) (by kernel_rfl) (by rw [List.length_map, hold]; kernel_rfl) (K.dep 0 22 rfl) (ob_range_at (Ob.below m1 (bl.trans (Below.mono K.grow bl.size))) (([.int .i64 ((m : Nat) : Int), .int .i64 ((n : Nat) : Int)] : List Value)) ((rt).map V ++ (([.slice pA (P).length pC] : List Value))) _ 2 (by simp) (by rfl))
  intro f8 w8 A hb
  replace bl0 := bl
  replace x1 := (A.old 1 rfl).trans x1
  replace x2 := (A.old 2 rfl).trans x2
  replace x3 := (A.old 3 rfl).trans x3
  replace x4 := (A.old 4 rfl).trans x4
  replace x5 := (A.old 5 rfl).trans x5
  replace x6 := (A.old 6 rfl).trans x6
  replace x7 := (A.old 7 rfl).trans x7
  have x23 : f8.eval (.tmp 23) = .agg ((old).map V).toArray := A.has 1 23 rfl
  replace bl := (bl.trans (Below.mono hb bl.size))
  replace sz := A.size.trans sz
  replace df := A.defs.trans df
  clear A hb
  refine wl_one (.nw w8.heap.size 23 ((hz).map V)) rfl 8 rfl (by rw [sz]; decide) (st_alloc23 rfl _ (Nat.le_refl _)) ?_
  intro f9 w9 df2 sz2 old2 new2 hb
  replace bl0 := bl
  replace x1 := (old2 1 rfl).trans x1
  replace x2 := (old2 2 rfl).trans x2
  replace x3 := (old2 3 rfl).trans x3
  replace x4 := (old2 4 rfl).trans x4
  replace x5 := (old2 5 rfl).trans x5
  replace x6 := (old2 6 rfl).trans x6
  replace x7 := (old2 7 rfl).trans x7
  replace x23 := (old2 23 rfl).trans x23
  have x8 : Fk.f (.nw w8.heap.size 23 ((hz).map V)) (f9.eval (.tmp 8)) w9 := new2
  replace bl := (bl.trans (Below.mono hb bl.size))
  replace sz := sz2.trans sz
  replace df := df2.trans df
  clear df2 sz2 old2 new2 hb
  obtain ⟨g8, hg8, e8, m8⟩ := x8
  have x8 := e8
  clear e8
  have nm1_8 : g1 ≠ g8 := Nat.ne_of_lt (Nat.lt_of_lt_of_le (Ob.lt m1) (Nat.le_trans bl0.size hg8))
  have nm2_8 : g2 ≠ g8 := Nat.ne_of_lt (Nat.lt_of_lt_of_le (Ob.lt m2) (Nat.le_trans bl0.size hg8))
  have nm3_8 : g3 ≠ g8 := Nat.ne_of_lt (Nat.lt_of_lt_of_le (Ob.lt m3) (Nat.le_trans bl0.size hg8))
  have hw8 : w7.heap.size ≤ g8 := Nat.le_trans bl0.size hg8
  refine wl_store rfl (.tmp 8) (.tmp 23) rfl rfl (g8) (old) (hz) x8 x23 m8 hz_len hold ?_
  replace m8 : Ob (w9.setRow g8 ((old).map V : List Value).toArray) (g8) 23 ((old).map V) := Ob.setRow m8 ((old).map V)
  replace bl : Below w7.heap.size w7 (w9.setRow g8 ((old).map V : List Value).toArray) := bl.trans (below_setRow _ _ _ _ hw8)
  generalize w9.setRow g8 ((old).map V : List Value).toArray = w10b at bl m8 ⊢
  refine wpList_nil ?_
  clear x23
  have hw8r : w7.heap.size ≤ g8 := hw8
  show Code.wp _ _ _ _ _
  refine wp_seq ?_
  refine wp_seq ?_
  refine wp_all_seq [.eq (.bool true)] (by kernel_rfl) (by kernel_rfl) (by rw [sz]; kernel_rfl) (by kernel_rfl) ⟨fun hw ac u K => ?_, trivial⟩ ?_
  · exact st_move (.tmp 5) rfl ((K.old 5 rfl).trans x5)
  intro f11 w11 A hb
  replace bl0 := bl
  replace x1 := (A.old 1 rfl).trans x1
  replace x2 := (A.old 2 rfl).trans x2
  replace x3 := (A.old 3 rfl).trans x3
  replace x4 := (A.old 4 rfl).trans x4
  replace x5 := (A.old 5 rfl).trans x5
  replace x6 := (A.old 6 rfl).trans x6
  replace x7 := (A.old 7 rfl).trans x7
  replace x8 := (A.old 8 rfl).trans x8
  have x24 : f11.eval (.tmp 24) = .bool true := A.has 0 24 rfl
  have lt_m8 := Ob.lt m8
  replace m8 := Ob.below m8 hb
  replace bl := (bl.trans (Below.mono hb bl.size))
  replace sz := A.size.trans sz
  replace df := A.defs.trans df
  clear A hb
  clear x5
  show Code.wp _ _ _ _ _
  refine wp_cond_true x24 ?_
  refine wp_seq ?_
  refine wp_seq ?_
  refine wp_all_seq [.eq (.slice pA (P).length pC), .eq (.int .i64 (((P).length : Nat) : Int)), .eq (.bool false)] (by kernel_rfl) (by kernel_rfl) (by rw [sz]; kernel_rfl) (by kernel_rfl) ⟨fun hw ac u K => ?_, fun hw ac u K => ?_, fun hw ac u K => ?_, trivial⟩ ?_
  · exact st_move (.tmp 7) rfl ((K.old 7 rfl).trans x7)
  · exact st_lenc (.tmp 25) rfl ((P).length) rfl (fk_val (K.dep 0 25 rfl) (Fk.mono _ _ _ _ hv (bl.trans (Below.mono K.grow bl.size))))
  · exact st_eqi 3 (.tmp 26) (.const (.int .i64 0)) rfl .i64 ((((P).length : Nat) : Int)) (0) (K.dep 1 26 rfl) rfl _ (by rw [eq_comm, decide_eq_false_iff_not]; omega)
  intro f12 w12 A hb
  replace bl0 := bl
  replace x1 := (A.old 1 rfl).trans x1
  replace x2 := (A.old 2 rfl).trans x2
  replace x3 := (A.old 3 rfl).trans x3
  replace x4 := (A.old 4 rfl).trans x4
  replace x6 := (A.old 6 rfl).trans x6
  replace x7 := (A.old 7 rfl).trans x7
  replace x8 := (A.old 8 rfl).trans x8
  replace x24 := (A.old 24 rfl).trans x24
  have x27 : f12.eval (.tmp 27) = .bool false := A.has 2 27 rfl
  have lt_m8 := Ob.lt m8
  replace m8 := Ob.below m8 hb
  replace bl := (bl.trans (Below.mono hb bl.size))
  replace sz := A.size.trans sz
  replace df := A.defs.trans df
  clear A hb
  show Code.wp _ _ _ _ _
  refine wp_cond_false x27 ?_
  refine wp_skip ?_
  show Code.wp _ _ _ _ _
  obtain ⟨lb0, lo0, hA0, hlt0, hr0, _⟩ := hc_first hv hst
  refine wp_region_held_drew (S := fun W => Below w7.heap.size w7 W) Tryd.mixed bl.drew (fun hS0 => ?_)
  replace m8 : Ob w12.drew (g8) 23 ((old).map V) := m8
  clear bl bl0
  generalize w12.drew = w13 at hS0 m8 ⊢
  refine wh_take 0 30 (v := .slice pA (P).length pC) rfl rfl (by rw [sz]; decide) rfl (by kernel_rfl) (by kernel_rfl) (by kernel_rfl) (fun _ _ _ h => h) (run_mv rfl x7) hS0 ?_
  intro f14 df2 sz2 old2 new2
  replace x1 := (old2 1 rfl).trans x1
  replace x2 := (old2 2 rfl).trans x2
  replace x3 := (old2 3 rfl).trans x3
  replace x4 := (old2 4 rfl).trans x4
  replace x6 := (old2 6 rfl).trans x6
  replace x7 := (old2 7 rfl).trans x7
  replace x8 := (old2 8 rfl).trans x8
  replace x24 := (old2 24 rfl).trans x24
  replace x27 := (old2 27 rfl).trans x27
  have x30 : f14.eval (.tmp 30) = .slice pA (P).length pC := new2
  replace sz := sz2.trans sz
  replace df := df2.trans df
  clear df2 sz2 old2 new2
  refine wh_take 1 31 (v := .pointer (some ⟨lb0, lo0, none⟩)) rfl rfl (by rw [sz]; decide) rfl (by kernel_rfl) (by kernel_rfl) (by kernel_rfl) (fun _ _ _ h => h) (run_idxv rfl x30 hA0 rfl (by omega)) hS0 ?_
  intro f15 df2 sz2 old2 new2
  replace x1 := (old2 1 rfl).trans x1
  replace x2 := (old2 2 rfl).trans x2
  replace x3 := (old2 3 rfl).trans x3
  replace x4 := (old2 4 rfl).trans x4
  replace x6 := (old2 6 rfl).trans x6
  replace x7 := (old2 7 rfl).trans x7
  replace x8 := (old2 8 rfl).trans x8
  replace x24 := (old2 24 rfl).trans x24
  replace x27 := (old2 27 rfl).trans x27
  replace x30 := (old2 30 rfl).trans x30
  have x31 : f15.eval (.tmp 31) = .pointer (some ⟨lb0, lo0, none⟩) := new2
  replace sz := sz2.trans sz
  replace df := df2.trans df
  clear df2 sz2 old2 new2
  refine wh_take 2 32 (v := .agg ((st).map V).toArray) rfl rfl (by rw [sz]; decide) rfl (by kernel_rfl) (by kernel_rfl) (by kernel_rfl) (fun _ _ _ h => h) (run_ldh rfl hst0 x31 (fun W hW j v hj => (hW.cell (p := ⟨lb0, lo0 + j, none⟩) hlt0).trans (hr0 j v hj))) hS0 ?_
  intro f16 df2 sz2 old2 new2
  replace x1 := (old2 1 rfl).trans x1
  replace x2 := (old2 2 rfl).trans x2
  replace x3 := (old2 3 rfl).trans x3
  replace x4 := (old2 4 rfl).trans x4
  replace x6 := (old2 6 rfl).trans x6
  replace x7 := (old2 7 rfl).trans x7
  replace x8 := (old2 8 rfl).trans x8
  replace x24 := (old2 24 rfl).trans x24
  replace x27 := (old2 27 rfl).trans x27
  replace x30 := (old2 30 rfl).trans x30
  replace x31 := (old2 31 rfl).trans x31
  have x32 : f16.eval (.tmp 32) = .agg ((st).map V).toArray := new2
  replace sz := sz2.trans sz
  replace df := df2.trans df
  clear df2 sz2 old2 new2
  refine wh_take 3 33 (v := .slice pA (P).length pC) rfl rfl (by rw [sz]; decide) rfl (by kernel_rfl) (by kernel_rfl) (by kernel_rfl) (fun _ _ _ h => h) (run_mv rfl x7) hS0 ?_
  intro f17 df2 sz2 old2 new2
  replace x1 := (old2 1 rfl).trans x1
  replace x2 := (old2 2 rfl).trans x2
  replace x3 := (old2 3 rfl).trans x3
  replace x4 := (old2 4 rfl).trans x4
  replace x6 := (old2 6 rfl).trans x6
  replace x7 := (old2 7 rfl).trans x7
  replace x8 := (old2 8 rfl).trans x8
  replace x24 := (old2 24 rfl).trans x24
  replace x27 := (old2 27 rfl).trans x27
  replace x30 := (old2 30 rfl).trans x30
  replace x31 := (old2 31 rfl).trans x31
  replace x32 := (old2 32 rfl).trans x32
  have x33 : f17.eval (.tmp 33) = .slice pA (P).length pC := new2
  replace sz := sz2.trans sz
  replace df := df2.trans df
  clear df2 sz2 old2 new2
  refine wh_take 4 34 (v := sliced pA 1 (P).length pC 32) rfl rfl (by rw [sz]; decide) rfl (by kernel_rfl) (by kernel_rfl) (by kernel_rfl) (fun _ _ _ h => h) (run_slv rfl x33 1 rfl (by omega)) hS0 ?_
  intro f18 df2 sz2 old2 new2
  replace x1 := (old2 1 rfl).trans x1
  replace x2 := (old2 2 rfl).trans x2
  replace x3 := (old2 3 rfl).trans x3
  replace x4 := (old2 4 rfl).trans x4
  replace x6 := (old2 6 rfl).trans x6
  replace x7 := (old2 7 rfl).trans x7
  replace x8 := (old2 8 rfl).trans x8
  replace x24 := (old2 24 rfl).trans x24
  replace x27 := (old2 27 rfl).trans x27
  replace x30 := (old2 30 rfl).trans x30
  replace x31 := (old2 31 rfl).trans x31
  replace x32 := (old2 32 rfl).trans x32
  replace x33 := (old2 33 rfl).trans x33
  have x34 : f18.eval (.tmp 34) = sliced pA 1 (P).length pC 32 := new2
  replace sz := sz2.trans sz
  replace df := df2.trans df
  clear df2 sz2 old2 new2
  refine wh_store 5 rfl rfl rfl (by kernel_rfl) (.tmp 8) (.tmp 32) rfl g8 (st) (old) x8 x32 m8 hold hst0 (hS0.trans (below_setRow _ _ _ _ hw8r)) ?_
  replace m8 : Ob (w13.setRow g8 ((st).map V : List Value).toArray) (g8) 23 ((st).map V) := Ob.setRow m8 ((st).map V)
  replace hS0 : Below w7.heap.size w7 (w13.setRow g8 ((st).map V : List Value).toArray) := hS0.trans (below_setRow _ _ _ _ hw8r)
  generalize w13.setRow g8 ((st).map V : List Value).toArray = w19 at hS0 m8 ⊢
  refine wh_assign 6 7 rfl rfl (by rw [sz]; decide) rfl (by kernel_rfl) (.tmp 34) rfl hS0 ?_
  intro f20 df2 sz2 old2 new2
  replace x1 := (old2 1 rfl).trans x1
  replace x2 := (old2 2 rfl).trans x2
  replace x3 := (old2 3 rfl).trans x3
  replace x4 := (old2 4 rfl).trans x4
  replace x6 := (old2 6 rfl).trans x6
  replace x8 := (old2 8 rfl).trans x8
  replace x24 := (old2 24 rfl).trans x24
  replace x27 := (old2 27 rfl).trans x27
  replace x30 := (old2 30 rfl).trans x30
  replace x31 := (old2 31 rfl).trans x31
  replace x32 := (old2 32 rfl).trans x32
  replace x33 := (old2 33 rfl).trans x33
  replace x34 := (old2 34 rfl).trans x34
  replace x7 : f20.eval (.tmp 7) = sliced pA 1 (P).length pC 32 := new2.trans ((old2 34 rfl).symm.trans x34)
  replace sz := sz2.trans sz
  replace df := df2.trans df
  clear df2 sz2 old2 new2
  refine wpAnyH_done (by kernel_rfl) ?_ _
  have bl := hS0
  have bl0 := bl
  clear hS0
  clear x30
  clear x31
  clear x32
  clear x33
  clear x34
  show Code.wp _ _ _ _ _
  refine wp_seq ?_
  refine wp_seq ?_
  refine wp_all_seq [.eq (sliced pA 1 (P).length pC 32), .eq (.int .i64 (((R).length : Nat) : Int)), .eq (v6), .eq (.int .i64 (((S).length : Nat) : Int)), .eq (.bool true)] (by kernel_rfl) (by kernel_rfl) (by rw [sz]; kernel_rfl) (by kernel_rfl) ⟨fun hw ac u K => ?_, fun hw ac u K => ?_, fun hw ac u K => ?_, fun hw ac u K => ?_, fun hw ac u K => ?_, trivial⟩ ?_
  · exact st_move (.tmp 7) rfl ((K.old 7 rfl).trans x7)
  · exact st_lenc (.tmp 35) rfl _ rfl (fk_val (K.dep 0 35 rfl) (Fk.mono _ _ _ _ hvR (bl.trans (Below.mono K.grow bl.size))))
  · exact st_move (.tmp 6) rfl ((K.old 6 rfl).trans x6)
  · exact st_lenbs (.tmp 37) rfl (fk_val (K.dep 2 37 rfl) (Fk.mono _ _ _ _ h6 (bl.trans (Below.mono K.grow bl.size))))
  · exact st_neqi 3 (.tmp 36) (.tmp 38) rfl .i64 ((((R).length : Nat) : Int)) ((((S).length : Nat) : Int)) (K.dep 1 36 rfl) (K.dep 3 38 rfl) _ (by rw [eq_comm, decide_eq_true_iff]; omega)
  intro f21 w21 A hb
  replace bl0 := bl
  replace x1 := (A.old 1 rfl).trans x1
  replace x2 := (A.old 2 rfl).trans x2
  replace x3 := (A.old 3 rfl).trans x3
  replace x4 := (A.old 4 rfl).trans x4
  replace x6 := (A.old 6 rfl).trans x6
  replace x7 := (A.old 7 rfl).trans x7
  replace x8 := (A.old 8 rfl).trans x8
  replace x24 := (A.old 24 rfl).trans x24
  replace x27 := (A.old 27 rfl).trans x27
  have x39 : f21.eval (.tmp 39) = .bool true := A.has 4 39 rfl
  have lt_m8 := Ob.lt m8
  replace m8 := Ob.below m8 hb
  replace bl := (bl.trans (Below.mono hb bl.size))
  replace sz := A.size.trans sz
  replace df := A.defs.trans df
  clear A hb
  show Code.wp _ _ _ _ _
  refine wp_cond_true x39 ?_
  refine wp_seq ?_
  replace m1 := Ob.below m1 bl
  replace m2 := Ob.below m2 bl
  replace m3 := Ob.below m3 bl
  replace bl := blw.trans (Below.mono bl blw.size)
  replace bl0 := bl
  refine wp_region_seq [.eq (.agg ((hz).map V).toArray), .eq (.agg ((hz).map V).toArray)] (by kernel_rfl) (by kernel_rfl) (by rw [sz]; kernel_rfl) (by kernel_rfl) ⟨fun hw ac u K => ?_, fun hw ac u K => ?_, trivial⟩ ?_
  · exact st_zero23 rfl
  · exact st_zero23 rfl
  intro f22 w22 A hb
  replace bl0 := bl
  replace x1 := (A.old 1 rfl).trans x1
  replace x2 := (A.old 2 rfl).trans x2
  replace x3 := (A.old 3 rfl).trans x3
  replace x4 := (A.old 4 rfl).trans x4
  replace x6 := (A.old 6 rfl).trans x6
  replace x7 := (A.old 7 rfl).trans x7
  replace x8 := (A.old 8 rfl).trans x8
  replace x24 := (A.old 24 rfl).trans x24
  replace x27 := (A.old 27 rfl).trans x27
  replace x39 := (A.old 39 rfl).trans x39
  have x40 : f22.eval (.tmp 40) = .agg ((hz).map V).toArray := A.has 0 40 rfl
  have x41 : f22.eval (.tmp 41) = .agg ((hz).map V).toArray := A.has 1 41 rfl
  have lt_m1 := Ob.lt m1
  replace m1 := Ob.below m1 hb
  have lt_m2 := Ob.lt m2
  replace m2 := Ob.below m2 hb
  have lt_m3 := Ob.lt m3
  replace m3 := Ob.below m3 hb
  have lt_m8 := Ob.lt m8
  replace m8 := Ob.below m8 hb
  replace bl := (bl.trans (Below.mono hb bl.size))
  replace sz := A.size.trans sz
  replace df := A.defs.trans df
  clear A hb
  refine wl_store rfl (.tmp 2) (.tmp 40) rfl rfl (g2) (hz) (hz) x2 x40 m2 hz_len hz_len ?_
  replace m1 : Ob (w22.setRow g2 ((hz).map V : List Value).toArray) (g1) 38 (([.int .i64 ((m : Nat) : Int), .int .i64 ((n : Nat) : Int)] : List Value) ++ ((old).map V ++ ((rt).map V ++ (([.slice pA (P).length pC] : List Value))))) := Ob.setRow_other m1 _ nm1_2
  replace m2 : Ob (w22.setRow g2 ((hz).map V : List Value).toArray) (g2) 23 ((hz).map V) := Ob.setRow m2 ((hz).map V)
  replace m3 : Ob (w22.setRow g2 ((hz).map V : List Value).toArray) (g3) 23 ((hz).map V) := Ob.setRow_other m3 _ nm2_3.symm
  replace m8 : Ob (w22.setRow g2 ((hz).map V : List Value).toArray) (g8) 23 ((st).map V) := Ob.setRow_other m8 _ nm2_8.symm
  replace bl : Below w.heap.size w (w22.setRow g2 ((hz).map V : List Value).toArray) := bl.trans (below_setRow _ _ _ _ hw2)
  generalize w22.setRow g2 ((hz).map V : List Value).toArray = w23b at bl m1 m2 m3 m8 ⊢
  clear x40
  refine wl_store rfl (.tmp 3) (.tmp 41) rfl rfl (g3) (hz) (hz) x3 x41 m3 hz_len hz_len ?_
  replace m1 : Ob (w23b.setRow g3 ((hz).map V : List Value).toArray) (g1) 38 (([.int .i64 ((m : Nat) : Int), .int .i64 ((n : Nat) : Int)] : List Value) ++ ((old).map V ++ ((rt).map V ++ (([.slice pA (P).length pC] : List Value))))) := Ob.setRow_other m1 _ nm1_3
  replace m2 : Ob (w23b.setRow g3 ((hz).map V : List Value).toArray) (g2) 23 ((hz).map V) := Ob.setRow_other m2 _ nm2_3
  replace m3 : Ob (w23b.setRow g3 ((hz).map V : List Value).toArray) (g3) 23 ((hz).map V) := Ob.setRow m3 ((hz).map V)
  replace m8 : Ob (w23b.setRow g3 ((hz).map V : List Value).toArray) (g8) 23 ((st).map V) := Ob.setRow_other m8 _ nm3_8.symm
  replace bl : Below w.heap.size w (w23b.setRow g3 ((hz).map V : List Value).toArray) := bl.trans (below_setRow _ _ _ _ hw3)
  generalize w23b.setRow g3 ((hz).map V : List Value).toArray = w24b at bl m1 m2 m3 m8 ⊢
  clear x41
  refine wl_one (.eq (.bool false)) rfl 4 rfl (by rw [sz]; decide) (st_assign (.const (.bool false)) rfl rfl) ?_
  intro f25 w25 df2 sz2 old2 new2 hb
  replace bl0 := bl
  replace x1 := (old2 1 rfl).trans x1
  replace x2 := (old2 2 rfl).trans x2
  replace x3 := (old2 3 rfl).trans x3
  clear x4
  replace x6 := (old2 6 rfl).trans x6
  replace x7 := (old2 7 rfl).trans x7
  replace x8 := (old2 8 rfl).trans x8
  replace x24 := (old2 24 rfl).trans x24
  replace x27 := (old2 27 rfl).trans x27
  replace x39 := (old2 39 rfl).trans x39
  have x4 : f25.eval (.tmp 4) = .bool false := new2
  have lt_m1 := Ob.lt m1
  replace m1 := Ob.below m1 hb
  have lt_m2 := Ob.lt m2
  replace m2 := Ob.below m2 hb
  have lt_m3 := Ob.lt m3
  replace m3 := Ob.below m3 hb
  have lt_m8 := Ob.lt m8
  replace m8 := Ob.below m8 hb
  replace bl := (bl.trans (Below.mono hb bl.size))
  replace sz := sz2.trans sz
  replace df := df2.trans df
  clear df2 sz2 old2 new2 hb
  refine wpList_nil ?_
  show Code.wp _ _ _ _ _
  refine wp_ret ?_
  repeat (first | with_reducible refine then_ret ?_ | with_reducible refine block_ret ?_)
  exact bodyPost_ret (v := .tuple #[.agg ((hz).map V).toArray, .agg ((hz).map V).toArray, .bool false]) (ret_hhb rfl f25 _ g2 g3 (hz) (hz) false hz_len hz_len x2 x3 m2 m3 x4) df ⟨rfl, bl⟩
theorem both_ol {m n : Nat} {old rt : List (BitVec 8)} {P : List (List (BitVec 8))} {pA : Option Addr} {pC : Nat} (hold : old.length = 32) (hrt : rt.length = 32) (hm1 : 1 ≤ m) (hm2 : m ≤ n) (hn : n ≤ 1152921504606846976) {c : Bool} {S : List Bool} (hS : stp m n true = (c, S)) (w : World) (hv : (Fk.hc P).f (.slice pA (P).length pC) w) (hK : Tab w) (hc : c = false) (hRl0 : P.length ≠ S.length) :
    Calls Tryd.prog 17 #[.agg (([.int .i64 ((m : Nat) : Int), .int .i64 ((n : Nat) : Int)] : List Value) ++ ((old).map V ++ ((rt).map V ++ (([.slice pA (P).length pC] : List Value))))).toArray] w fun e w' => e = .returned (.tuple #[.agg ((hz).map V).toArray, .agg ((hz).map V).toArray, .bool false]) ∧ Below w.heap.size w w' := by
  have hvs := hc_hs hv
  obtain ⟨R, hR⟩ : ∃ R, R = P := ⟨_, rfl⟩
  have hvR : (Fk.hc R).f (.slice pA (P).length pC) w := by rw [hR]; exact hv
  have hvRs := hc_hs hvR
  obtain ⟨st, hst⟩ : ∃ st, st = old := ⟨_, rfl⟩
  have hst0 : st.length = 32 := by rw [hst]; exact hold
  have hRl : R.length ≠ S.length := by rw [hR]; exact hRl0
  go_enter Tryd.func17, Tryd.ntmps17
  refine code_both (fun f w1 => f.tmps.size = 67 ∧ f.defers = [] ∧ f.eval (.tmp 0) = .agg (([.int .i64 ((m : Nat) : Int), .int .i64 ((n : Nat) : Int)] : List Value) ++ ((old).map V ++ ((rt).map V ++ (([.slice pA (P).length pC] : List Value))))).toArray ∧ Below w.heap.size w (w1)) ⟨rfl, rfl, rfl, Below.refl _ _⟩ ?_
  rintro f0 w0 ⟨sz, df, x0, bl⟩
  have bl0 := bl
  refine wp_seq ?_
  refine wp_region_seq [] (by kernel_rfl) (by kernel_rfl) (by rw [sz]; kernel_rfl) (by kernel_rfl) trivial ?_
  intro f1 w1 A hb
  replace bl0 := bl
  replace x0 := (A.old 0 rfl).trans x0
  replace bl := (bl.trans (Below.mono hb bl.size))
  replace sz := A.size.trans sz
  replace df := A.defs.trans df
  clear A hb
  refine wl_one (.nw w1.heap.size 38 (([.int .i64 ((m : Nat) : Int), .int .i64 ((n : Nat) : Int)] : List Value) ++ ((old).map V ++ ((rt).map V ++ (([.slice pA (P).length pC] : List Value)))))) rfl 1 rfl (by rw [sz]; decide) (st_box 38 (.tmp 0) rfl _ _ (by rw [show _ = _ from x0]; kernel_rfl) (Nat.le_refl _)) ?_
  intro f2 w2 df2 sz2 old2 new2 hb
  replace bl0 := bl
  replace x0 := (old2 0 rfl).trans x0
  have x1 : Fk.f (.nw w1.heap.size 38 (([.int .i64 ((m : Nat) : Int), .int .i64 ((n : Nat) : Int)] : List Value) ++ ((old).map V ++ ((rt).map V ++ (([.slice pA (P).length pC] : List Value)))))) (f2.eval (.tmp 1)) w2 := new2
  replace bl := (bl.trans (Below.mono hb bl.size))
  replace sz := sz2.trans sz
  replace df := df2.trans df
  clear df2 sz2 old2 new2 hb
  obtain ⟨g1, hg1, e1, m1⟩ := x1
  have x1 := e1
  clear e1
  have hw1 : w.heap.size ≤ g1 := Nat.le_trans bl0.size hg1
  clear x0
  refine wl_one (.nw w2.heap.size 23 ((hz).map V)) rfl 2 rfl (by rw [sz]; decide) (st_alloc23 rfl _ (Nat.le_refl _)) ?_
  intro f3 w3 df2 sz2 old2 new2 hb
  replace bl0 := bl
  replace x1 := (old2 1 rfl).trans x1
  have x2 : Fk.f (.nw w2.heap.size 23 ((hz).map V)) (f3.eval (.tmp 2)) w3 := new2
  have lt_m1 := Ob.lt m1
  replace m1 := Ob.below m1 hb
  replace bl := (bl.trans (Below.mono hb bl.size))
  replace sz := sz2.trans sz
  replace df := df2.trans df
  clear df2 sz2 old2 new2 hb
  obtain ⟨g2, hg2, e2, m2⟩ := x2
  have x2 := e2
  clear e2
  have nm1_2 : g1 ≠ g2 := Nat.ne_of_lt (Nat.lt_of_lt_of_le lt_m1 hg2)
  have hw2 : w.heap.size ≤ g2 := Nat.le_trans bl0.size hg2
  refine wl_one (.nw w3.heap.size 23 ((hz).map V)) rfl 3 rfl (by rw [sz]; decide) (st_alloc23 rfl _ (Nat.le_refl _)) ?_
  intro f4 w4 df2 sz2 old2 new2 hb
  replace bl0 := bl
  replace x1 := (old2 1 rfl).trans x1
  replace x2 := (old2 2 rfl).trans x2
  have x3 : Fk.f (.nw w3.heap.size 23 ((hz).map V)) (f4.eval (.tmp 3)) w4 := new2
  have lt_m1 := Ob.lt m1
  replace m1 := Ob.below m1 hb
  have lt_m2 := Ob.lt m2
  replace m2 := Ob.below m2 hb
  replace bl := (bl.trans (Below.mono hb bl.size))
  replace sz := sz2.trans sz
  replace df := df2.trans df
  clear df2 sz2 old2 new2 hb
  obtain ⟨g3, hg3, e3, m3⟩ := x3
  have x3 := e3
  clear e3
  have nm1_3 : g1 ≠ g3 := Nat.ne_of_lt (Nat.lt_of_lt_of_le lt_m1 hg3)
  have nm2_3 : g2 ≠ g3 := Nat.ne_of_lt (Nat.lt_of_lt_of_le lt_m2 hg3)
  have hw3 : w.heap.size ≤ g3 := Nat.le_trans bl0.size hg3
  refine wl_one (.eq (.bool false)) rfl 4 rfl (by rw [sz]; decide) (st_assign (.const (.bool false)) rfl rfl) ?_
  intro f5 w5 df2 sz2 old2 new2 hb
  replace bl0 := bl
  replace x1 := (old2 1 rfl).trans x1
  replace x2 := (old2 2 rfl).trans x2
  replace x3 := (old2 3 rfl).trans x3
  have x4 : f5.eval (.tmp 4) = .bool false := new2
  have lt_m1 := Ob.lt m1
  replace m1 := Ob.below m1 hb
  have lt_m2 := Ob.lt m2
  replace m2 := Ob.below m2 hb
  have lt_m3 := Ob.lt m3
  replace m3 := Ob.below m3 hb
  replace bl := (bl.trans (Below.mono hb bl.size))
  replace sz := sz2.trans sz
  replace df := df2.trans df
  clear df2 sz2 old2 new2 hb
  refine wpList_nil ?_
  show Code.wp _ _ _ _ _
  refine wp_seq ?_
  refine wp_all_seq [.eq (.pointer (some ⟨g1, 0, none⟩)), .eq (.int .i64 ((m : Nat) : Int)), .eq (.pointer (some ⟨g1, 1, none⟩)), .eq (.int .i64 ((n : Nat) : Int)), .tob w.heap.size c (S), .tob w.heap.size c (S), .eq (.bool c), .ob w.heap.size (S), .eq (.bool c), .ob w.heap.size (S)] (by kernel_rfl) (by kernel_rfl) (by rw [sz]; kernel_rfl) (by kernel_rfl) ⟨fun hw ac u K => ?_, fun hw ac u K => ?_, fun hw ac u K => ?_, fun hw ac u K => ?_, fun hw ac u K => ?_, fun hw ac u K => ?_, fun hw ac u K => ?_, fun hw ac u K => ?_, fun hw ac u K => ?_, fun hw ac u K => ?_, trivial⟩ ?_
  · exact st_field 38 0 (.tmp 1) rfl ((K.old 1 rfl).trans x1) (by kernel_rfl)
  · exact st_loadc 3 (.tmp 13) rfl (by kernel_rfl) (K.dep 0 13 rfl) (ob_cell_at (Ob.below m1 K.grow) (([] : List Value)) (([.int .i64 ((n : Nat) : Int)] : List Value) ++ ((old).map V ++ ((rt).map V ++ (([.slice pA (P).length pC] : List Value))))) _ 0 (by simp) (by rfl))
  · exact st_field 38 1 (.tmp 1) rfl ((K.old 1 rfl).trans x1) (by kernel_rfl)
  · exact st_loadc 3 (.tmp 15) rfl (by kernel_rfl) (K.dep 2 15 rfl) (ob_cell_at (Ob.below m1 K.grow) (([.int .i64 ((m : Nat) : Int)] : List Value)) ((old).map V ++ ((rt).map V ++ (([.slice pA (P).length pC] : List Value)))) _ 1 (by simp) (by rfl))
  · exact st_call 31 (.func 31) _ _ #[.int .i64 ((m : Nat) : Int), .int .i64 ((n : Nat) : Int), .bool true] rfl rfl (arg3 (K.dep 1 14 rfl) (K.dep 3 16 rfl) rfl) Tryd.enter31 (fk_tob (bl.trans (Below.mono K.grow bl.size)).size hS (steps_any n m true _ (by omega) hn hm1 hm2))
  · exact st_move (.tmp 17) rfl (K.dep 4 17 rfl)
  · exact st_tob0 (.tmp 12) rfl (K.dep 5 12 rfl)
  · exact st_tob1 (.tmp 12) rfl (K.dep 5 12 rfl)
  · exact st_assign (.tmp 18) rfl (K.dep 6 18 rfl)
  · exact st_assign (.tmp 19) rfl (K.dep 7 19 rfl)
  intro f6 w6 A hb
  replace bl0 := bl
  replace x1 := (A.old 1 rfl).trans x1
  replace x2 := (A.old 2 rfl).trans x2
  replace x3 := (A.old 3 rfl).trans x3
  replace x4 := (A.old 4 rfl).trans x4
  have x5 : f6.eval (.tmp 5) = .bool c := A.has 8 5 rfl
  have x6 : Fk.f (.ob w.heap.size (S)) (f6.eval (.tmp 6)) w6 := A.has 9 6 rfl
  have lt_m1 := Ob.lt m1
  replace m1 := Ob.below m1 hb
  have lt_m2 := Ob.lt m2
  replace m2 := Ob.below m2 hb
  have lt_m3 := Ob.lt m3
  replace m3 := Ob.below m3 hb
  replace bl := (bl.trans (Below.mono hb bl.size))
  replace sz := A.size.trans sz
  replace df := A.defs.trans df
  clear A hb
  obtain ⟨v6, e6⟩ : ∃ v, f6.eval (.tmp 6) = v := ⟨_, rfl⟩
  have h6 := ob_bs x6
  rw [e6] at h6
  replace x6 := e6
  clear e6
  rw [hc] at x5
  show Code.wp _ _ _ _ _
  refine wp_seq ?_
  refine wp_all_seq [.eq (.pointer (some ⟨g1, 66, none⟩)), .eq (.slice pA (P).length pC), .eq (.slice pA (P).length pC)] (by kernel_rfl) (by kernel_rfl) (by rw [sz]; kernel_rfl) (by kernel_rfl) ⟨fun hw ac u K => ?_, fun hw ac u K => ?_, fun hw ac u K => ?_, trivial⟩ ?_
  · exact st_field 38 4 (.tmp 1) rfl ((K.old 1 rfl).trans x1) (by kernel_rfl)
  · exact st_loadc 24 (.tmp 20) rfl (by kernel_rfl) (K.dep 0 20 rfl) (ob_cell_at (Ob.below m1 K.grow) (([.int .i64 ((m : Nat) : Int), .int .i64 ((n : Nat) : Int)] : List Value) ++ ((old).map V ++ ((rt).map V))) (([] : List Value)) _ 66 (by simp) (by simp [hold, hrt]))
  · exact st_assign (.tmp 21) rfl (K.dep 1 21 rfl)
  intro f7 w7 A hb
  replace bl0 := bl
  replace x1 := (A.old 1 rfl).trans x1
  replace x2 := (A.old 2 rfl).trans x2
  replace x3 := (A.old 3 rfl).trans x3
  replace x4 := (A.old 4 rfl).trans x4
  replace x5 := (A.old 5 rfl).trans x5
  replace x6 := (A.old 6 rfl).trans x6
  have x7 : f7.eval (.tmp 7) = .slice pA (P).length pC := A.has 2 7 rfl
  have lt_m1 := Ob.lt m1
  replace m1 := Ob.below m1 hb
  have lt_m2 := Ob.lt m2
  replace m2 := Ob.below m2 hb
  have lt_m3 := Ob.lt m3
  replace m3 := Ob.below m3 hb
  replace h6 := Fk.mono _ _ _ _ h6 hb
  replace bl := (bl.trans (Below.mono hb bl.size))
  replace sz := A.size.trans sz
  replace df := A.defs.trans df
  clear A hb
  have blw := bl
  replace hvR := Fk.mono _ _ _ _ hvR bl
  replace hvRs := Fk.mono _ _ _ _ hvRs bl
  replace hK := hK.below bl
  replace bl := Below.refl w7.heap.size w7
  replace bl0 := bl
  show Code.wp _ _ _ _ _
  refine wp_seq ?_
  refine wp_region_seq [.eq (.pointer (some ⟨g1, 2, none⟩)), .eq (.agg ((old).map V).toArray)] (by kernel_rfl) (by kernel_rfl) (by rw [sz]; kernel_rfl) (by kernel_rfl) ⟨fun hw ac u K => ?_, fun hw ac u K => ?_, trivial⟩ ?_
  · exact st_field 38 2 (.tmp 1) rfl ((K.old 1 rfl).trans x1) (by kernel_rfl)
  · exact st_loadz 23 (.tmp 22) rfl (g1) 2 ((old).map V) (by kernel_rfl) (by rw [List.length_map, hold]; kernel_rfl) (K.dep 0 22 rfl) (ob_range_at (Ob.below m1 (bl.trans (Below.mono K.grow bl.size))) (([.int .i64 ((m : Nat) : Int), .int .i64 ((n : Nat) : Int)] : List Value)) ((rt).map V ++ (([.slice pA (P).length pC] : List Value))) _ 2 (by simp) (by rfl))
  intro f8 w8 A hb
  replace bl0 := bl
  replace x1 := (A.old 1 rfl).trans x1
  replace x2 := (A.old 2 rfl).trans x2
  replace x3 := (A.old 3 rfl).trans x3
  replace x4 := (A.old 4 rfl).trans x4
  replace x5 := (A.old 5 rfl).trans x5
  replace x6 := (A.old 6 rfl).trans x6
  replace x7 := (A.old 7 rfl).trans x7
  have x23 : f8.eval (.tmp 23) = .agg ((old).map V).toArray := A.has 1 23 rfl
  replace bl := (bl.trans (Below.mono hb bl.size))
  replace sz := A.size.trans sz
  replace df := A.defs.trans df
  clear A hb
  refine wl_one (.nw w8.heap.size 23 ((hz).map V)) rfl 8 rfl (by rw [sz]; decide) (st_alloc23 rfl _ (Nat.le_refl _)) ?_
  intro f9 w9 df2 sz2 old2 new2 hb
  replace bl0 := bl
  replace x1 := (old2 1 rfl).trans x1
  replace x2 := (old2 2 rfl).trans x2
  replace x3 := (old2 3 rfl).trans x3
  replace x4 := (old2 4 rfl).trans x4
  replace x5 := (old2 5 rfl).trans x5
  replace x6 := (old2 6 rfl).trans x6
  replace x7 := (old2 7 rfl).trans x7
  replace x23 := (old2 23 rfl).trans x23
  have x8 : Fk.f (.nw w8.heap.size 23 ((hz).map V)) (f9.eval (.tmp 8)) w9 := new2
  replace bl := (bl.trans (Below.mono hb bl.size))
  replace sz := sz2.trans sz
  replace df := df2.trans df
  clear df2 sz2 old2 new2 hb
  obtain ⟨g8, hg8, e8, m8⟩ := x8
  have x8 := e8
  clear e8
  have nm1_8 : g1 ≠ g8 := Nat.ne_of_lt (Nat.lt_of_lt_of_le (Ob.lt m1) (Nat.le_trans bl0.size hg8))
  have nm2_8 : g2 ≠ g8 := Nat.ne_of_lt (Nat.lt_of_lt_of_le (Ob.lt m2) (Nat.le_trans bl0.size hg8))
  have nm3_8 : g3 ≠ g8 := Nat.ne_of_lt (Nat.lt_of_lt_of_le (Ob.lt m3) (Nat.le_trans bl0.size hg8))
  have hw8 : w7.heap.size ≤ g8 := Nat.le_trans bl0.size hg8
  refine wl_store rfl (.tmp 8) (.tmp 23) rfl rfl (g8) (old) (hz) x8 x23 m8 hz_len hold ?_
  replace m8 : Ob (w9.setRow g8 ((old).map V : List Value).toArray) (g8) 23 ((old).map V) := Ob.setRow m8 ((old).map V)
  replace bl : Below w7.heap.size w7 (w9.setRow g8 ((old).map V : List Value).toArray) := bl.trans (below_setRow _ _ _ _ hw8)
  generalize w9.setRow g8 ((old).map V : List Value).toArray = w10b at bl m8 ⊢
  refine wpList_nil ?_
  clear x23
  have hw8r : w7.heap.size ≤ g8 := hw8
  show Code.wp _ _ _ _ _
  refine wp_seq ?_
  refine wp_seq ?_
  refine wp_all_seq [.eq (.bool false)] (by kernel_rfl) (by kernel_rfl) (by rw [sz]; kernel_rfl) (by kernel_rfl) ⟨fun hw ac u K => ?_, trivial⟩ ?_
  · exact st_move (.tmp 5) rfl ((K.old 5 rfl).trans x5)
  intro f11 w11 A hb
  replace bl0 := bl
  replace x1 := (A.old 1 rfl).trans x1
  replace x2 := (A.old 2 rfl).trans x2
  replace x3 := (A.old 3 rfl).trans x3
  replace x4 := (A.old 4 rfl).trans x4
  replace x5 := (A.old 5 rfl).trans x5
  replace x6 := (A.old 6 rfl).trans x6
  replace x7 := (A.old 7 rfl).trans x7
  replace x8 := (A.old 8 rfl).trans x8
  have x24 : f11.eval (.tmp 24) = .bool false := A.has 0 24 rfl
  have lt_m8 := Ob.lt m8
  replace m8 := Ob.below m8 hb
  replace bl := (bl.trans (Below.mono hb bl.size))
  replace sz := A.size.trans sz
  replace df := A.defs.trans df
  clear A hb
  clear x5
  show Code.wp _ _ _ _ _
  refine wp_cond_false x24 ?_
  refine wp_skip ?_
  show Code.wp _ _ _ _ _
  refine wp_seq ?_
  refine wp_seq ?_
  refine wp_all_seq [.eq (.slice pA (P).length pC), .eq (.int .i64 (((R).length : Nat) : Int)), .eq (v6), .eq (.int .i64 (((S).length : Nat) : Int)), .eq (.bool true)] (by kernel_rfl) (by kernel_rfl) (by rw [sz]; kernel_rfl) (by kernel_rfl) ⟨fun hw ac u K => ?_, fun hw ac u K => ?_, fun hw ac u K => ?_, fun hw ac u K => ?_, fun hw ac u K => ?_, trivial⟩ ?_
  · exact st_move (.tmp 7) rfl ((K.old 7 rfl).trans x7)
  · exact st_lenc (.tmp 35) rfl _ rfl (fk_val (K.dep 0 35 rfl) (Fk.mono _ _ _ _ hvR (bl.trans (Below.mono K.grow bl.size))))
  · exact st_move (.tmp 6) rfl ((K.old 6 rfl).trans x6)
  · exact st_lenbs (.tmp 37) rfl (fk_val (K.dep 2 37 rfl) (Fk.mono _ _ _ _ h6 (bl.trans (Below.mono K.grow bl.size))))
  · exact st_neqi 3 (.tmp 36) (.tmp 38) rfl .i64 ((((R).length : Nat) : Int)) ((((S).length : Nat) : Int)) (K.dep 1 36 rfl) (K.dep 3 38 rfl) _ (by rw [eq_comm, decide_eq_true_iff]; omega)
  intro f12 w12 A hb
  replace bl0 := bl
  replace x1 := (A.old 1 rfl).trans x1
  replace x2 := (A.old 2 rfl).trans x2
  replace x3 := (A.old 3 rfl).trans x3
  replace x4 := (A.old 4 rfl).trans x4
  replace x6 := (A.old 6 rfl).trans x6
  replace x7 := (A.old 7 rfl).trans x7
  replace x8 := (A.old 8 rfl).trans x8
  replace x24 := (A.old 24 rfl).trans x24
  have x39 : f12.eval (.tmp 39) = .bool true := A.has 4 39 rfl
  have lt_m8 := Ob.lt m8
  replace m8 := Ob.below m8 hb
  replace bl := (bl.trans (Below.mono hb bl.size))
  replace sz := A.size.trans sz
  replace df := A.defs.trans df
  clear A hb
  show Code.wp _ _ _ _ _
  refine wp_cond_true x39 ?_
  refine wp_seq ?_
  replace m1 := Ob.below m1 bl
  replace m2 := Ob.below m2 bl
  replace m3 := Ob.below m3 bl
  replace bl := blw.trans (Below.mono bl blw.size)
  replace bl0 := bl
  refine wp_region_seq [.eq (.agg ((hz).map V).toArray), .eq (.agg ((hz).map V).toArray)] (by kernel_rfl) (by kernel_rfl) (by rw [sz]; kernel_rfl) (by kernel_rfl) ⟨fun hw ac u K => ?_, fun hw ac u K => ?_, trivial⟩ ?_
  · exact st_zero23 rfl
  · exact st_zero23 rfl
  intro f13 w13 A hb
  replace bl0 := bl
  replace x1 := (A.old 1 rfl).trans x1
  replace x2 := (A.old 2 rfl).trans x2
  replace x3 := (A.old 3 rfl).trans x3
  replace x4 := (A.old 4 rfl).trans x4
  replace x6 := (A.old 6 rfl).trans x6
  replace x7 := (A.old 7 rfl).trans x7
  replace x8 := (A.old 8 rfl).trans x8
  replace x24 := (A.old 24 rfl).trans x24
  replace x39 := (A.old 39 rfl).trans x39
  have x40 : f13.eval (.tmp 40) = .agg ((hz).map V).toArray := A.has 0 40 rfl
  have x41 : f13.eval (.tmp 41) = .agg ((hz).map V).toArray := A.has 1 41 rfl
  have lt_m1 := Ob.lt m1
  replace m1 := Ob.below m1 hb
  have lt_m2 := Ob.lt m2
  replace m2 := Ob.below m2 hb
  have lt_m3 := Ob.lt m3
  replace m3 := Ob.below m3 hb
  have lt_m8 := Ob.lt m8
  replace m8 := Ob.below m8 hb
  replace bl := (bl.trans (Below.mono hb bl.size))
  replace sz := A.size.trans sz
  replace df := A.defs.trans df
  clear A hb
  refine wl_store rfl (.tmp 2) (.tmp 40) rfl rfl (g2) (hz) (hz) x2 x40 m2 hz_len hz_len ?_
  replace m1 : Ob (w13.setRow g2 ((hz).map V : List Value).toArray) (g1) 38 (([.int .i64 ((m : Nat) : Int), .int .i64 ((n : Nat) : Int)] : List Value) ++ ((old).map V ++ ((rt).map V ++ (([.slice pA (P).length pC] : List Value))))) := Ob.setRow_other m1 _ nm1_2
  replace m2 : Ob (w13.setRow g2 ((hz).map V : List Value).toArray) (g2) 23 ((hz).map V) := Ob.setRow m2 ((hz).map V)
  replace m3 : Ob (w13.setRow g2 ((hz).map V : List Value).toArray) (g3) 23 ((hz).map V) := Ob.setRow_other m3 _ nm2_3.symm
  replace m8 : Ob (w13.setRow g2 ((hz).map V : List Value).toArray) (g8) 23 ((old).map V) := Ob.setRow_other m8 _ nm2_8.symm
  replace bl : Below w.heap.size w (w13.setRow g2 ((hz).map V : List Value).toArray) := bl.trans (below_setRow _ _ _ _ hw2)
  generalize w13.setRow g2 ((hz).map V : List Value).toArray = w14b at bl m1 m2 m3 m8 ⊢
  clear x40
  refine wl_store rfl (.tmp 3) (.tmp 41) rfl rfl (g3) (hz) (hz) x3 x41 m3 hz_len hz_len ?_
  replace m1 : Ob (w14b.setRow g3 ((hz).map V : List Value).toArray) (g1) 38 (([.int .i64 ((m : Nat) : Int), .int .i64 ((n : Nat) : Int)] : List Value) ++ ((old).map V ++ ((rt).map V ++ (([.slice pA (P).length pC] : List Value))))) := Ob.setRow_other m1 _ nm1_3
  replace m2 : Ob (w14b.setRow g3 ((hz).map V : List Value).toArray) (g2) 23 ((hz).map V) := Ob.setRow_other m2 _ nm2_3
  replace m3 : Ob (w14b.setRow g3 ((hz).map V : List Value).toArray) (g3) 23 ((hz).map V) := Ob.setRow m3 ((hz).map V)
  replace m8 : Ob (w14b.setRow g3 ((hz).map V : List Value).toArray) (g8) 23 ((old).map V) := Ob.setRow_other m8 _ nm3_8.symm
  replace bl : Below w.heap.size w (w14b.setRow g3 ((hz).map V : List Value).toArray) := bl.trans (below_setRow _ _ _ _ hw3)
  generalize w14b.setRow g3 ((hz).map V : List Value).toArray = w15b at bl m1 m2 m3 m8 ⊢
  clear x41
  refine wl_one (.eq (.bool false)) rfl 4 rfl (by rw [sz]; decide) (st_assign (.const (.bool false)) rfl rfl) ?_
  intro f16 w16 df2 sz2 old2 new2 hb
  replace bl0 := bl
  replace x1 := (old2 1 rfl).trans x1
  replace x2 := (old2 2 rfl).trans x2
  replace x3 := (old2 3 rfl).trans x3
  clear x4
  replace x6 := (old2 6 rfl).trans x6
  replace x7 := (old2 7 rfl).trans x7
  replace x8 := (old2 8 rfl).trans x8
  replace x24 := (old2 24 rfl).trans x24
  replace x39 := (old2 39 rfl).trans x39
  have x4 : f16.eval (.tmp 4) = .bool false := new2
  have lt_m1 := Ob.lt m1
  replace m1 := Ob.below m1 hb
  have lt_m2 := Ob.lt m2
  replace m2 := Ob.below m2 hb
  have lt_m3 := Ob.lt m3
  replace m3 := Ob.below m3 hb
  have lt_m8 := Ob.lt m8
  replace m8 := Ob.below m8 hb
  replace bl := (bl.trans (Below.mono hb bl.size))
  replace sz := sz2.trans sz
  replace df := df2.trans df
  clear df2 sz2 old2 new2 hb
  refine wpList_nil ?_
  show Code.wp _ _ _ _ _
  refine wp_ret ?_
  repeat (first | with_reducible refine then_ret ?_ | with_reducible refine block_ret ?_)
  exact bodyPost_ret (v := .tuple #[.agg ((hz).map V).toArray, .agg ((hz).map V).toArray, .bool false]) (ret_hhb rfl f16 _ g2 g3 (hz) (hz) false hz_len hz_len x2 x3 m2 m3 x4) df ⟨rfl, bl⟩
set_option maxHeartbeats 1000000 in
theorem both_ok1 {m n : Nat} {old rt : List (BitVec 8)} {P : List (List (BitVec 8))} {pA : Option Addr} {pC : Nat} (hold : old.length = 32) (hrt : rt.length = 32) (hm1 : 1 ≤ m) (hm2 : m ≤ n) (hn : n ≤ 1152921504606846976) {c : Bool} {S : List Bool} (hS : stp m n true = (c, S)) (w : World) (hv : (Fk.hc P).f (.slice pA (P).length pC) w) (hK : Tab w) (hc : c = true) (h0 : P.length ≠ 0) (hRl0 : (P.drop 1).length = S.length) {xa xb : List (BitVec 8)} (hxy0 : bth (P.getD 0 []) (P.drop 1) S = (xa, xb)) :
    Calls Tryd.prog 17 #[.agg (([.int .i64 ((m : Nat) : Int), .int .i64 ((n : Nat) : Int)] : List Value) ++ ((old).map V ++ ((rt).map V ++ (([.slice pA (P).length pC] : List Value))))).toArray] w fun e w' => e = .returned (.tuple #[.agg ((xa).map V).toArray, .agg ((xb).map V).toArray, .bool true]) ∧ Below w.heap.size w w' := by
  have hvs := hc_hs hv
  obtain ⟨R, hR⟩ : ∃ R, P.drop 1 = R := ⟨_, rfl⟩
  have hPl : 1 ≤ P.length := by omega
  have hvR : (Fk.hc R).f (sliced pA 1 (P).length pC 32) w := by rw [← hR]; exact hc_drop hv hPl
  have hvRs := hc_hs hvR
  obtain ⟨st, hst⟩ : ∃ st, P[0]? = some st := ⟨_, List.getElem?_eq_getElem (by omega)⟩
  have hst0 : st.length = 32 := hc_len hv st (List.mem_of_getElem? hst)
  have hRl : R.length = S.length := by rw [← hR]; exact hRl0
  have hxy : bth st R S = (xa, xb) := by rw [← hR, ← hxy0, List.getD_eq_getElem?_getD, hst]; rfl
  have hSl : S.length ≤ 60 := by have := stp_log n m true 60 (by omega); rw [hS] at this; exact this
  have hxa : xa.length = 32 := by have := (bk_len hst0 R S S.length).1; rw [bk_all st hRl, hxy] at this; exact this
  have hxb : xb.length = 32 := by have := (bk_len hst0 R S S.length).2; rw [bk_all st hRl, hxy] at this; exact this
  go_enter Tryd.func17, Tryd.ntmps17
  refine code_both (fun f w1 => f.tmps.size = 67 ∧ f.defers = [] ∧ f.eval (.tmp 0) = .agg (([.int .i64 ((m : Nat) : Int), .int .i64 ((n : Nat) : Int)] : List Value) ++ ((old).map V ++ ((rt).map V ++ (([.slice pA (P).length pC] : List Value))))).toArray ∧ Below w.heap.size w (w1)) ⟨rfl, rfl, rfl, Below.refl _ _⟩ ?_
  rintro f0 w0 ⟨sz, df, x0, bl⟩
  have bl0 := bl
  refine wp_seq ?_
  refine wp_region_seq [] (by kernel_rfl) (by kernel_rfl) (by rw [sz]; kernel_rfl) (by kernel_rfl) trivial ?_
  intro f1 w1 A hb
  replace bl0 := bl
  replace x0 := (A.old 0 rfl).trans x0
  replace bl := (bl.trans (Below.mono hb bl.size))
  replace sz := A.size.trans sz
  replace df := A.defs.trans df
  clear A hb
  refine wl_one (.nw w1.heap.size 38 (([.int .i64 ((m : Nat) : Int), .int .i64 ((n : Nat) : Int)] : List Value) ++ ((old).map V ++ ((rt).map V ++ (([.slice pA (P).length pC] : List Value)))))) rfl 1 rfl (by rw [sz]; decide) (st_box 38 (.tmp 0) rfl _ _ (by rw [show _ = _ from x0]; kernel_rfl) (Nat.le_refl _)) ?_
  intro f2 w2 df2 sz2 old2 new2 hb
  replace bl0 := bl
  replace x0 := (old2 0 rfl).trans x0
  have x1 : Fk.f (.nw w1.heap.size 38 (([.int .i64 ((m : Nat) : Int), .int .i64 ((n : Nat) : Int)] : List Value) ++ ((old).map V ++ ((rt).map V ++ (([.slice pA (P).length pC] : List Value)))))) (f2.eval (.tmp 1)) w2 := new2
  replace bl := (bl.trans (Below.mono hb bl.size))
  replace sz := sz2.trans sz
  replace df := df2.trans df
  clear df2 sz2 old2 new2 hb
  obtain ⟨g1, hg1, e1, m1⟩ := x1
  have x1 := e1
  clear e1
  have hw1 : w.heap.size ≤ g1 := Nat.le_trans bl0.size hg1
  clear x0
  refine wl_one (.nw w2.heap.size 23 ((hz).map V)) rfl 2 rfl (by rw [sz]; decide) (st_alloc23 rfl _ (Nat.le_refl _)) ?_
  intro f3 w3 df2 sz2 old2 new2 hb
  replace bl0 := bl
  replace x1 := (old2 1 rfl).trans x1
  have x2 : Fk.f (.nw w2.heap.size 23 ((hz).map V)) (f3.eval (.tmp 2)) w3 := new2
  have lt_m1 := Ob.lt m1
  replace m1 := Ob.below m1 hb
  replace bl := (bl.trans (Below.mono hb bl.size))
  replace sz := sz2.trans sz
  replace df := df2.trans df
  clear df2 sz2 old2 new2 hb
  obtain ⟨g2, hg2, e2, m2⟩ := x2
  have x2 := e2
  clear e2
  have nm1_2 : g1 ≠ g2 := Nat.ne_of_lt (Nat.lt_of_lt_of_le lt_m1 hg2)
  have hw2 : w.heap.size ≤ g2 := Nat.le_trans bl0.size hg2
  refine wl_one (.nw w3.heap.size 23 ((hz).map V)) rfl 3 rfl (by rw [sz]; decide) (st_alloc23 rfl _ (Nat.le_refl _)) ?_
  intro f4 w4 df2 sz2 old2 new2 hb
  replace bl0 := bl
  replace x1 := (old2 1 rfl).trans x1
  replace x2 := (old2 2 rfl).trans x2
  have x3 : Fk.f (.nw w3.heap.size 23 ((hz).map V)) (f4.eval (.tmp 3)) w4 := new2
  have lt_m1 := Ob.lt m1
  replace m1 := Ob.below m1 hb
  have lt_m2 := Ob.lt m2
  replace m2 := Ob.below m2 hb
  replace bl := (bl.trans (Below.mono hb bl.size))
  replace sz := sz2.trans sz
  replace df := df2.trans df
  clear df2 sz2 old2 new2 hb
  obtain ⟨g3, hg3, e3, m3⟩ := x3
  have x3 := e3
  clear e3
  have nm1_3 : g1 ≠ g3 := Nat.ne_of_lt (Nat.lt_of_lt_of_le lt_m1 hg3)
  have nm2_3 : g2 ≠ g3 := Nat.ne_of_lt (Nat.lt_of_lt_of_le lt_m2 hg3)
  have hw3 : w.heap.size ≤ g3 := Nat.le_trans bl0.size hg3
  refine wl_one (.eq (.bool false)) rfl 4 rfl (by rw [sz]; decide) (st_assign (.const (.bool false)) rfl rfl) ?_
  intro f5 w5 df2 sz2 old2 new2 hb
  replace bl0 := bl
  replace x1 := (old2 1 rfl).trans x1
  replace x2 := (old2 2 rfl).trans x2
  replace x3 := (old2 3 rfl).trans x3
  have x4 : f5.eval (.tmp 4) = .bool false := new2
  have lt_m1 := Ob.lt m1
  replace m1 := Ob.below m1 hb
  have lt_m2 := Ob.lt m2
  replace m2 := Ob.below m2 hb
  have lt_m3 := Ob.lt m3
  replace m3 := Ob.below m3 hb
  replace bl := (bl.trans (Below.mono hb bl.size))
  replace sz := sz2.trans sz
  replace df := df2.trans df
  clear df2 sz2 old2 new2 hb
  refine wpList_nil ?_
  show Code.wp _ _ _ _ _
  refine wp_seq ?_
  refine wp_all_seq [.eq (.pointer (some ⟨g1, 0, none⟩)), .eq (.int .i64 ((m : Nat) : Int)), .eq (.pointer (some ⟨g1, 1, none⟩)), .eq (.int .i64 ((n : Nat) : Int)), .tob w.heap.size c (S), .tob w.heap.size c (S), .eq (.bool c), .ob w.heap.size (S), .eq (.bool c), .ob w.heap.size (S)] (by kernel_rfl) (by kernel_rfl) (by rw [sz]; kernel_rfl) (by kernel_rfl) ⟨fun hw ac u K => ?_, fun hw ac u K => ?_, fun hw ac u K => ?_, fun hw ac u K => ?_, fun hw ac u K => ?_, fun hw ac u K => ?_, fun hw ac u K => ?_, fun hw ac u K => ?_, fun hw ac u K => ?_, fun hw ac u K => ?_, trivial⟩ ?_
  · exact st_field 38 0 (.tmp 1) rfl ((K.old 1 rfl).trans x1) (by kernel_rfl)
  · exact st_loadc 3 (.tmp 13) rfl (by kernel_rfl) (K.dep 0 13 rfl) (ob_cell_at (Ob.below m1 K.grow) (([] : List Value)) (([.int .i64 ((n : Nat) : Int)] : List Value) ++ ((old).map V ++ ((rt).map V ++ (([.slice pA (P).length pC] : List Value))))) _ 0 (by simp) (by rfl))
  · exact st_field 38 1 (.tmp 1) rfl ((K.old 1 rfl).trans x1) (by kernel_rfl)
  · exact st_loadc 3 (.tmp 15) rfl (by kernel_rfl) (K.dep 2 15 rfl) (ob_cell_at (Ob.below m1 K.grow) (([.int .i64 ((m : Nat) : Int)] : List Value)) ((old).map V ++ ((rt).map V ++ (([.slice pA (P).length pC] : List Value)))) _ 1 (by simp) (by rfl))
  · exact st_call 31 (.func 31) _ _ #[.int .i64 ((m : Nat) : Int), .int .i64 ((n : Nat) : Int), .bool true] rfl rfl (arg3 (K.dep 1 14 rfl) (K.dep 3 16 rfl) rfl) Tryd.enter31 (fk_tob (bl.trans (Below.mono K.grow bl.size)).size hS (steps_any n m true _ (by omega) hn hm1 hm2))
  · exact st_move (.tmp 17) rfl (K.dep 4 17 rfl)
  · exact st_tob0 (.tmp 12) rfl (K.dep 5 12 rfl)
  · exact st_tob1 (.tmp 12) rfl (K.dep 5 12 rfl)
  · exact st_assign (.tmp 18) rfl (K.dep 6 18 rfl)
  · exact st_assign (.tmp 19) rfl (K.dep 7 19 rfl)
  intro f6 w6 A hb
  replace bl0 := bl
  replace x1 := (A.old 1 rfl).trans x1
  replace x2 := (A.old 2 rfl).trans x2
  replace x3 := (A.old 3 rfl).trans x3
  replace x4 := (A.old 4 rfl).trans x4
  have x5 : f6.eval (.tmp 5) = .bool c := A.has 8 5 rfl
  have x6 : Fk.f (.ob w.heap.size (S)) (f6.eval (.tmp 6)) w6 := A.has 9 6 rfl
  have lt_m1 := Ob.lt m1
  replace m1 := Ob.below m1 hb
  have lt_m2 := Ob.lt m2
  replace m2 := Ob.below m2 hb
  have lt_m3 := Ob.lt m3
  replace m3 := Ob.below m3 hb
  replace bl := (bl.trans (Below.mono hb bl.size))
  replace sz := A.size.trans sz
  replace df := A.defs.trans df
  clear A hb
  obtain ⟨v6, e6⟩ : ∃ v, f6.eval (.tmp 6) = v := ⟨_, rfl⟩
  have h6 := ob_bs x6
  rw [e6] at h6
  replace x6 := e6
  clear e6
  rw [hc] at x5
  show Code.wp _ _ _ _ _
  refine wp_seq ?_
  refine wp_all_seq [.eq (.pointer (some ⟨g1, 66, none⟩)), .eq (.slice pA (P).length pC), .eq (.slice pA (P).length pC)] (by kernel_rfl) (by kernel_rfl) (by rw [sz]; kernel_rfl) (by kernel_rfl) ⟨fun hw ac u K => ?_, fun hw ac u K => ?_, fun hw ac u K => ?_, trivial⟩ ?_
  · exact st_field 38 4 (.tmp 1) rfl ((K.old 1 rfl).trans x1) (by kernel_rfl)
  · exact st_loadc 24 (.tmp 20) rfl (by kernel_rfl) (K.dep 0 20 rfl) (ob_cell_at (Ob.below m1 K.grow) (([.int .i64 ((m : Nat) : Int), .int .i64 ((n : Nat) : Int)] : List Value) ++ ((old).map V ++ ((rt).map V))) (([] : List Value)) _ 66 (by simp) (by simp [hold, hrt]))
  · exact st_assign (.tmp 21) rfl (K.dep 1 21 rfl)
  intro f7 w7 A hb
  replace bl0 := bl
  replace x1 := (A.old 1 rfl).trans x1
  replace x2 := (A.old 2 rfl).trans x2
  replace x3 := (A.old 3 rfl).trans x3
  replace x4 := (A.old 4 rfl).trans x4
  replace x5 := (A.old 5 rfl).trans x5
  replace x6 := (A.old 6 rfl).trans x6
  have x7 : f7.eval (.tmp 7) = .slice pA (P).length pC := A.has 2 7 rfl
  have lt_m1 := Ob.lt m1
  replace m1 := Ob.below m1 hb
  have lt_m2 := Ob.lt m2
  replace m2 := Ob.below m2 hb
  have lt_m3 := Ob.lt m3
  replace m3 := Ob.below m3 hb
  replace h6 := Fk.mono _ _ _ _ h6 hb
  replace bl := (bl.trans (Below.mono hb bl.size))
  replace sz := A.size.trans sz
  replace df := A.defs.trans df
  clear A hb
  have blw := bl
  replace hv := Fk.mono _ _ _ _ hv bl
  replace hvs := Fk.mono _ _ _ _ hvs bl
  replace hvR := Fk.mono _ _ _ _ hvR bl
  replace hvRs := Fk.mono _ _ _ _ hvRs bl
  replace hK := hK.below bl
  replace bl := Below.refl w7.heap.size w7
  replace bl0 := bl
  show Code.wp _ _ _ _ _
  refine wp_seq ?_
  refine wp_region_seq [.eq (.pointer (some ⟨g1, 2, none⟩)), .eq (.agg ((old).map V).toArray)] (by kernel_rfl) (by kernel_rfl) (by rw [sz]; kernel_rfl) (by kernel_rfl) ⟨fun hw ac u K => ?_, fun hw ac u K => ?_, trivial⟩ ?_
  · exact st_field 38 2 (.tmp 1) rfl ((K.old 1 rfl).trans x1) (by kernel_rfl)
  · exact st_loadz 23 (.tmp 22) rfl (g1) 2 ((old).map V) (by kernel_rfl) (by rw [List.length_map, hold]; kernel_rfl) (K.dep 0 22 rfl) (ob_range_at (Ob.below m1 (bl.trans (Below.mono K.grow bl.size))) (([.int .i64 ((m : Nat) : Int), .int .i64 ((n : Nat) : Int)] : List Value)) ((rt).map V ++ (([.slice pA (P).length pC] : List Value))) _ 2 (by simp) (by rfl))
  intro f8 w8 A hb
  replace bl0 := bl
  replace x1 := (A.old 1 rfl).trans x1
  replace x2 := (A.old 2 rfl).trans x2
  replace x3 := (A.old 3 rfl).trans x3
  replace x4 := (A.old 4 rfl).trans x4
  replace x5 := (A.old 5 rfl).trans x5
  replace x6 := (A.old 6 rfl).trans x6
  replace x7 := (A.old 7 rfl).trans x7
  have x23 : f8.eval (.tmp 23) = .agg ((old).map V).toArray := A.has 1 23 rfl
  replace bl := (bl.trans (Below.mono hb bl.size))
  replace sz := A.size.trans sz
  replace df := A.defs.trans df
  clear A hb
  refine wl_one (.nw w8.heap.size 23 ((hz).map V)) rfl 8 rfl (by rw [sz]; decide) (st_alloc23 rfl _ (Nat.le_refl _)) ?_
  intro f9 w9 df2 sz2 old2 new2 hb
  replace bl0 := bl
  replace x1 := (old2 1 rfl).trans x1
  replace x2 := (old2 2 rfl).trans x2
  replace x3 := (old2 3 rfl).trans x3
  replace x4 := (old2 4 rfl).trans x4
  replace x5 := (old2 5 rfl).trans x5
  replace x6 := (old2 6 rfl).trans x6
  replace x7 := (old2 7 rfl).trans x7
  replace x23 := (old2 23 rfl).trans x23
  have x8 : Fk.f (.nw w8.heap.size 23 ((hz).map V)) (f9.eval (.tmp 8)) w9 := new2
  replace bl := (bl.trans (Below.mono hb bl.size))
  replace sz := sz2.trans sz
  replace df := df2.trans df
  clear df2 sz2 old2 new2 hb
  obtain ⟨g8, hg8, e8, m8⟩ := x8
  have x8 := e8
  clear e8
  have nm1_8 : g1 ≠ g8 := Nat.ne_of_lt (Nat.lt_of_lt_of_le (Ob.lt m1) (Nat.le_trans bl0.size hg8))
  have nm2_8 : g2 ≠ g8 := Nat.ne_of_lt (Nat.lt_of_lt_of_le (Ob.lt m2) (Nat.le_trans bl0.size hg8))
  have nm3_8 : g3 ≠ g8 := Nat.ne_of_lt (Nat.lt_of_lt_of_le (Ob.lt m3) (Nat.le_trans bl0.size hg8))
  have hw8 : w7.heap.size ≤ g8 := Nat.le_trans bl0.size hg8
  refine wl_store rfl (.tmp 8) (.tmp 23) rfl rfl (g8) (old) (hz) x8 x23 m8 hz_len hold ?_
  replace m8 : Ob (w9.setRow g8 ((old).map V : List Value).toArray) (g8) 23 ((old).map V) := Ob.setRow m8 ((old).map V)
  replace bl : Below w7.heap.size w7 (w9.setRow g8 ((old).map V : List Value).toArray) := bl.trans (below_setRow _ _ _ _ hw8)
  generalize w9.setRow g8 ((old).map V : List Value).toArray = w10b at bl m8 ⊢
  refine wpList_nil ?_
  clear x23
  have hw8r : w7.heap.size ≤ g8 := hw8
  show Code.wp _ _ _ _ _
  refine wp_seq ?_
  refine wp_seq ?_
  refine wp_all_seq [.eq (.bool true)] (by kernel_rfl) (by kernel_rfl) (by rw [sz]; kernel_rfl) (by kernel_rfl) ⟨fun hw ac u K => ?_, trivial⟩ ?_
  · exact st_move (.tmp 5) rfl ((K.old 5 rfl).trans x5)
  intro f11 w11 A hb
  replace bl0 := bl
  replace x1 := (A.old 1 rfl).trans x1
  replace x2 := (A.old 2 rfl).trans x2
  replace x3 := (A.old 3 rfl).trans x3
  replace x4 := (A.old 4 rfl).trans x4
  replace x5 := (A.old 5 rfl).trans x5
  replace x6 := (A.old 6 rfl).trans x6
  replace x7 := (A.old 7 rfl).trans x7
  replace x8 := (A.old 8 rfl).trans x8
  have x24 : f11.eval (.tmp 24) = .bool true := A.has 0 24 rfl
  have lt_m8 := Ob.lt m8
  replace m8 := Ob.below m8 hb
  replace bl := (bl.trans (Below.mono hb bl.size))
  replace sz := A.size.trans sz
  replace df := A.defs.trans df
  clear A hb
  clear x5
  show Code.wp _ _ _ _ _
  refine wp_cond_true x24 ?_
  refine wp_seq ?_
  refine wp_seq ?_
  refine wp_all_seq [.eq (.slice pA (P).length pC), .eq (.int .i64 (((P).length : Nat) : Int)), .eq (.bool false)] (by kernel_rfl) (by kernel_rfl) (by rw [sz]; kernel_rfl) (by kernel_rfl) ⟨fun hw ac u K => ?_, fun hw ac u K => ?_, fun hw ac u K => ?_, trivial⟩ ?_
  · exact st_move (.tmp 7) rfl ((K.old 7 rfl).trans x7)
  · exact st_lenc (.tmp 25) rfl ((P).length) rfl (fk_val (K.dep 0 25 rfl) (Fk.mono _ _ _ _ hv (bl.trans (Below.mono K.grow bl.size))))
  · exact st_eqi 3 (.tmp 26) (.const (.int .i64 0)) rfl .i64 ((((P).length : Nat) : Int)) (0) (K.dep 1 26 rfl) rfl _ (by rw [eq_comm, decide_eq_false_iff_not]; omega)
  intro f12 w12 A hb
  replace bl0 := bl
  replace x1 := (A.old 1 rfl).trans x1
  replace x2 := (A.old 2 rfl).trans x2
  replace x3 := (A.old 3 rfl).trans x3
  replace x4 := (A.old 4 rfl).trans x4
  replace x6 := (A.old 6 rfl).trans x6
  replace x7 := (A.old 7 rfl).trans x7
  replace x8 := (A.old 8 rfl).trans x8
  replace x24 := (A.old 24 rfl).trans x24
  have x27 : f12.eval (.tmp 27) = .bool false := A.has 2 27 rfl
  have lt_m8 := Ob.lt m8
  replace m8 := Ob.below m8 hb
  replace bl := (bl.trans (Below.mono hb bl.size))
  replace sz := A.size.trans sz
  replace df := A.defs.trans df
  clear A hb
  show Code.wp _ _ _ _ _
  refine wp_cond_false x27 ?_
  refine wp_skip ?_
  show Code.wp _ _ _ _ _
  obtain ⟨lb0, lo0, hA0, hlt0, hr0, _⟩ := hc_first hv hst
  refine wp_region_held_drew (S := fun W => Below w7.heap.size w7 W) Tryd.mixed bl.drew (fun hS0 => ?_)
  replace m8 : Ob w12.drew (g8) 23 ((old).map V) := m8
  clear bl bl0
  generalize w12.drew = w13 at hS0 m8 ⊢
  refine wh_take 0 30 (v := .slice pA (P).length pC) rfl rfl (by rw [sz]; decide) rfl (by kernel_rfl) (by kernel_rfl) (by kernel_rfl) (fun _ _ _ h => h) (run_mv rfl x7) hS0 ?_
  intro f14 df2 sz2 old2 new2
  replace x1 := (old2 1 rfl).trans x1
  replace x2 := (old2 2 rfl).trans x2
  replace x3 := (old2 3 rfl).trans x3
  replace x4 := (old2 4 rfl).trans x4
  replace x6 := (old2 6 rfl).trans x6
  replace x7 := (old2 7 rfl).trans x7
  replace x8 := (old2 8 rfl).trans x8
  replace x24 := (old2 24 rfl).trans x24
  replace x27 := (old2 27 rfl).trans x27
  have x30 : f14.eval (.tmp 30) = .slice pA (P).length pC := new2
  replace sz := sz2.trans sz
  replace df := df2.trans df
  clear df2 sz2 old2 new2
  refine wh_take 1 31 (v := .pointer (some ⟨lb0, lo0, none⟩)) rfl rfl (by rw [sz]; decide) rfl (by kernel_rfl) (by kernel_rfl) (by kernel_rfl) (fun _ _ _ h => h) (run_idxv rfl x30 hA0 rfl (by omega)) hS0 ?_
  intro f15 df2 sz2 old2 new2
  replace x1 := (old2 1 rfl).trans x1
  replace x2 := (old2 2 rfl).trans x2
  replace x3 := (old2 3 rfl).trans x3
  replace x4 := (old2 4 rfl).trans x4
  replace x6 := (old2 6 rfl).trans x6
  replace x7 := (old2 7 rfl).trans x7
  replace x8 := (old2 8 rfl).trans x8
  replace x24 := (old2 24 rfl).trans x24
  replace x27 := (old2 27 rfl).trans x27
  replace x30 := (old2 30 rfl).trans x30
  have x31 : f15.eval (.tmp 31) = .pointer (some ⟨lb0, lo0, none⟩) := new2
  replace sz := sz2.trans sz
  replace df := df2.trans df
  clear df2 sz2 old2 new2
  refine wh_take 2 32 (v := .agg ((st).map V).toArray) rfl rfl (by rw [sz]; decide) rfl (by kernel_rfl) (by kernel_rfl) (by kernel_rfl) (fun _ _ _ h => h) (run_ldh rfl hst0 x31 (fun W hW j v hj => (hW.cell (p := ⟨lb0, lo0 + j, none⟩) hlt0).trans (hr0 j v hj))) hS0 ?_
  intro f16 df2 sz2 old2 new2
  replace x1 := (old2 1 rfl).trans x1
  replace x2 := (old2 2 rfl).trans x2
  replace x3 := (old2 3 rfl).trans x3
  replace x4 := (old2 4 rfl).trans x4
  replace x6 := (old2 6 rfl).trans x6
  replace x7 := (old2 7 rfl).trans x7
  replace x8 := (old2 8 rfl).trans x8
  replace x24 := (old2 24 rfl).trans x24
  replace x27 := (old2 27 rfl).trans x27
  replace x30 := (old2 30 rfl).trans x30
  replace x31 := (old2 31 rfl).trans x31
  have x32 : f16.eval (.tmp 32) = .agg ((st).map V).toArray := new2
  replace sz := sz2.trans sz
  replace df := df2.trans df
  clear df2 sz2 old2 new2
  refine wh_take 3 33 (v := .slice pA (P).length pC) rfl rfl (by rw [sz]; decide) rfl (by kernel_rfl) (by kernel_rfl) (by kernel_rfl) (fun _ _ _ h => h) (run_mv rfl x7) hS0 ?_
  intro f17 df2 sz2 old2 new2
  replace x1 := (old2 1 rfl).trans x1
  replace x2 := (old2 2 rfl).trans x2
  replace x3 := (old2 3 rfl).trans x3
  replace x4 := (old2 4 rfl).trans x4
  replace x6 := (old2 6 rfl).trans x6
  replace x7 := (old2 7 rfl).trans x7
  replace x8 := (old2 8 rfl).trans x8
  replace x24 := (old2 24 rfl).trans x24
  replace x27 := (old2 27 rfl).trans x27
  replace x30 := (old2 30 rfl).trans x30
  replace x31 := (old2 31 rfl).trans x31
  replace x32 := (old2 32 rfl).trans x32
  have x33 : f17.eval (.tmp 33) = .slice pA (P).length pC := new2
  replace sz := sz2.trans sz
  replace df := df2.trans df
  clear df2 sz2 old2 new2
  refine wh_take 4 34 (v := sliced pA 1 (P).length pC 32) rfl rfl (by rw [sz]; decide) rfl (by kernel_rfl) (by kernel_rfl) (by kernel_rfl) (fun _ _ _ h => h) (run_slv rfl x33 1 rfl (by omega)) hS0 ?_
  intro f18 df2 sz2 old2 new2
  replace x1 := (old2 1 rfl).trans x1
  replace x2 := (old2 2 rfl).trans x2
  replace x3 := (old2 3 rfl).trans x3
  replace x4 := (old2 4 rfl).trans x4
  replace x6 := (old2 6 rfl).trans x6
  replace x7 := (old2 7 rfl).trans x7
  replace x8 := (old2 8 rfl).trans x8
  replace x24 := (old2 24 rfl).trans x24
  replace x27 := (old2 27 rfl).trans x27
  replace x30 := (old2 30 rfl).trans x30
  replace x31 := (old2 31 rfl).trans x31
  replace x32 := (old2 32 rfl).trans x32
  replace x33 := (old2 33 rfl).trans x33
  have x34 : f18.eval (.tmp 34) = sliced pA 1 (P).length pC 32 := new2
  replace sz := sz2.trans sz
  replace df := df2.trans df
  clear df2 sz2 old2 new2
  refine wh_store 5 rfl rfl rfl (by kernel_rfl) (.tmp 8) (.tmp 32) rfl g8 (st) (old) x8 x32 m8 hold hst0 (hS0.trans (below_setRow _ _ _ _ hw8r)) ?_
  replace m8 : Ob (w13.setRow g8 ((st).map V : List Value).toArray) (g8) 23 ((st).map V) := Ob.setRow m8 ((st).map V)
  replace hS0 : Below w7.heap.size w7 (w13.setRow g8 ((st).map V : List Value).toArray) := hS0.trans (below_setRow _ _ _ _ hw8r)
  generalize w13.setRow g8 ((st).map V : List Value).toArray = w19 at hS0 m8 ⊢
  refine wh_assign 6 7 rfl rfl (by rw [sz]; decide) rfl (by kernel_rfl) (.tmp 34) rfl hS0 ?_
  intro f20 df2 sz2 old2 new2
  replace x1 := (old2 1 rfl).trans x1
  replace x2 := (old2 2 rfl).trans x2
  replace x3 := (old2 3 rfl).trans x3
  replace x4 := (old2 4 rfl).trans x4
  replace x6 := (old2 6 rfl).trans x6
  replace x8 := (old2 8 rfl).trans x8
  replace x24 := (old2 24 rfl).trans x24
  replace x27 := (old2 27 rfl).trans x27
  replace x30 := (old2 30 rfl).trans x30
  replace x31 := (old2 31 rfl).trans x31
  replace x32 := (old2 32 rfl).trans x32
  replace x33 := (old2 33 rfl).trans x33
  replace x34 := (old2 34 rfl).trans x34
  replace x7 : f20.eval (.tmp 7) = sliced pA 1 (P).length pC 32 := new2.trans ((old2 34 rfl).symm.trans x34)
  replace sz := sz2.trans sz
  replace df := df2.trans df
  clear df2 sz2 old2 new2
  refine wpAnyH_done (by kernel_rfl) ?_ _
  have bl := hS0
  have bl0 := bl
  clear hS0
  clear x30
  clear x31
  clear x32
  clear x33
  clear x34
  show Code.wp _ _ _ _ _
  refine wp_seq ?_
  refine wp_seq ?_
  refine wp_all_seq [.eq (sliced pA 1 (P).length pC 32), .eq (.int .i64 (((R).length : Nat) : Int)), .eq (v6), .eq (.int .i64 (((S).length : Nat) : Int)), .eq (.bool false)] (by kernel_rfl) (by kernel_rfl) (by rw [sz]; kernel_rfl) (by kernel_rfl) ⟨fun hw ac u K => ?_, fun hw ac u K => ?_, fun hw ac u K => ?_, fun hw ac u K => ?_, fun hw ac u K => ?_, trivial⟩ ?_
  · exact st_move (.tmp 7) rfl ((K.old 7 rfl).trans x7)
  · exact st_lenc (.tmp 35) rfl _ rfl (fk_val (K.dep 0 35 rfl) (Fk.mono _ _ _ _ hvR (bl.trans (Below.mono K.grow bl.size))))
  · exact st_move (.tmp 6) rfl ((K.old 6 rfl).trans x6)
  · exact st_lenbs (.tmp 37) rfl (fk_val (K.dep 2 37 rfl) (Fk.mono _ _ _ _ h6 (bl.trans (Below.mono K.grow bl.size))))
  · exact st_neqi 3 (.tmp 36) (.tmp 38) rfl .i64 ((((R).length : Nat) : Int)) ((((S).length : Nat) : Int)) (K.dep 1 36 rfl) (K.dep 3 38 rfl) _ (by simp [hRl])
  intro f21 w21 A hb
  replace bl0 := bl
  replace x1 := (A.old 1 rfl).trans x1
  replace x2 := (A.old 2 rfl).trans x2
  replace x3 := (A.old 3 rfl).trans x3
  replace x4 := (A.old 4 rfl).trans x4
  replace x6 := (A.old 6 rfl).trans x6
  replace x7 := (A.old 7 rfl).trans x7
  replace x8 := (A.old 8 rfl).trans x8
  replace x24 := (A.old 24 rfl).trans x24
  replace x27 := (A.old 27 rfl).trans x27
  have x39 : f21.eval (.tmp 39) = .bool false := A.has 4 39 rfl
  have lt_m8 := Ob.lt m8
  replace m8 := Ob.below m8 hb
  replace bl := (bl.trans (Below.mono hb bl.size))
  replace sz := A.size.trans sz
  replace df := A.defs.trans df
  clear A hb
  show Code.wp _ _ _ _ _
  refine wp_cond_false x39 ?_
  refine wp_skip ?_
  show Code.wp _ _ _ _ _
  refine wp_seq ?_
  refine wp_region_seq [.eq (.agg ((st).map V).toArray)] (by kernel_rfl) (by kernel_rfl) (by rw [sz]; kernel_rfl) (by kernel_rfl) ⟨fun hw ac u K => ?_, trivial⟩ ?_
  · exact st_load23 (.tmp 8) rfl (g8) (st) ((K.old 8 rfl).trans x8) hst0 (Ob.below m8 K.grow)
  intro f22 w22 A hb
  replace bl0 := bl
  replace x1 := (A.old 1 rfl).trans x1
  replace x2 := (A.old 2 rfl).trans x2
  replace x3 := (A.old 3 rfl).trans x3
  replace x4 := (A.old 4 rfl).trans x4
  replace x6 := (A.old 6 rfl).trans x6
  replace x7 := (A.old 7 rfl).trans x7
  replace x8 := (A.old 8 rfl).trans x8
  replace x24 := (A.old 24 rfl).trans x24
  replace x27 := (A.old 27 rfl).trans x27
  replace x39 := (A.old 39 rfl).trans x39
  have x42 : f22.eval (.tmp 42) = .agg ((st).map V).toArray := A.has 0 42 rfl
  have lt_m8 := Ob.lt m8
  replace m8 := Ob.below m8 hb
  replace bl := (bl.trans (Below.mono hb bl.size))
  replace sz := A.size.trans sz
  replace df := A.defs.trans df
  clear A hb
  refine wl_one (.nw w22.heap.size 23 ((hz).map V)) rfl 9 rfl (by rw [sz]; decide) (st_alloc23 rfl _ (Nat.le_refl _)) ?_
  intro f23 w23 df2 sz2 old2 new2 hb
  replace bl0 := bl
  replace x1 := (old2 1 rfl).trans x1
  replace x2 := (old2 2 rfl).trans x2
  replace x3 := (old2 3 rfl).trans x3
  replace x4 := (old2 4 rfl).trans x4
  replace x6 := (old2 6 rfl).trans x6
  replace x7 := (old2 7 rfl).trans x7
  replace x8 := (old2 8 rfl).trans x8
  replace x24 := (old2 24 rfl).trans x24
  replace x27 := (old2 27 rfl).trans x27
  replace x39 := (old2 39 rfl).trans x39
  replace x42 := (old2 42 rfl).trans x42
  have x9 : Fk.f (.nw w22.heap.size 23 ((hz).map V)) (f23.eval (.tmp 9)) w23 := new2
  have lt_m8 := Ob.lt m8
  replace m8 := Ob.below m8 hb
  replace bl := (bl.trans (Below.mono hb bl.size))
  replace sz := sz2.trans sz
  replace df := df2.trans df
  clear df2 sz2 old2 new2 hb
  obtain ⟨g9, hg9, e9, m9⟩ := x9
  have x9 := e9
  clear e9
  have nm1_9 : g1 ≠ g9 := Nat.ne_of_lt (Nat.lt_of_lt_of_le (Ob.lt m1) (Nat.le_trans bl0.size hg9))
  have nm2_9 : g2 ≠ g9 := Nat.ne_of_lt (Nat.lt_of_lt_of_le (Ob.lt m2) (Nat.le_trans bl0.size hg9))
  have nm3_9 : g3 ≠ g9 := Nat.ne_of_lt (Nat.lt_of_lt_of_le (Ob.lt m3) (Nat.le_trans bl0.size hg9))
  have nm8_9 : g8 ≠ g9 := Nat.ne_of_lt (Nat.lt_of_lt_of_le lt_m8 hg9)
  have hw9 : w7.heap.size ≤ g9 := Nat.le_trans bl0.size hg9
  refine wl_store rfl (.tmp 9) (.tmp 42) rfl rfl (g9) (st) (hz) x9 x42 m9 hz_len hst0 ?_
  replace m8 : Ob (w23.setRow g9 ((st).map V : List Value).toArray) (g8) 23 ((st).map V) := Ob.setRow_other m8 _ nm8_9
  replace m9 : Ob (w23.setRow g9 ((st).map V : List Value).toArray) (g9) 23 ((st).map V) := Ob.setRow m9 ((st).map V)
  replace bl : Below w7.heap.size w7 (w23.setRow g9 ((st).map V : List Value).toArray) := bl.trans (below_setRow _ _ _ _ hw9)
  generalize w23.setRow g9 ((st).map V : List Value).toArray = w24b at bl m8 m9 ⊢
  refine wpList_nil ?_
  clear x42
  show Code.wp _ _ _ _ _
  refine wp_seq ?_
  refine wp_seq ?_
  refine wp_all_seq [.eq (v6), .eq (.int .i64 (((S).length : Nat) : Int)), .eq (.int .i64 0)] (by kernel_rfl) (by kernel_rfl) (by rw [sz]; kernel_rfl) (by kernel_rfl) ⟨fun hw ac u K => ?_, fun hw ac u K => ?_, fun hw ac u K => ?_, trivial⟩ ?_
  · exact st_move (.tmp 6) rfl ((K.old 6 rfl).trans x6)
  · exact st_lenbs (.tmp 43) rfl (fk_val (K.dep 0 43 rfl) (Fk.mono _ _ _ _ h6 (bl.trans (Below.mono K.grow bl.size))))
  · exact st_move (.const (.int .i64 0)) rfl rfl
  intro f25 w25 A hb
  replace bl0 := bl
  replace x1 := (A.old 1 rfl).trans x1
  replace x2 := (A.old 2 rfl).trans x2
  replace x3 := (A.old 3 rfl).trans x3
  replace x4 := (A.old 4 rfl).trans x4
  replace x6 := (A.old 6 rfl).trans x6
  replace x7 := (A.old 7 rfl).trans x7
  replace x8 := (A.old 8 rfl).trans x8
  replace x24 := (A.old 24 rfl).trans x24
  replace x27 := (A.old 27 rfl).trans x27
  replace x39 := (A.old 39 rfl).trans x39
  replace x9 := (A.old 9 rfl).trans x9
  have x43 : f25.eval (.tmp 43) = v6 := A.has 0 43 rfl
  have x44 : f25.eval (.tmp 44) = .int .i64 (((S).length : Nat) : Int) := A.has 1 44 rfl
  have x45 : f25.eval (.tmp 45) = .int .i64 0 := A.has 2 45 rfl
  have lt_m8 := Ob.lt m8
  replace m8 := Ob.below m8 hb
  have lt_m9 := Ob.lt m9
  replace m9 := Ob.below m9 hb
  replace bl := (bl.trans (Below.mono hb bl.size))
  replace sz := A.size.trans sz
  replace df := A.defs.trans df
  clear A hb
  show Code.wp _ _ _ _ _
  refine wp_block ?_
  refine wp_loop (fun f v1 => ∃ k : Nat, k ≤ (S).length ∧ f.tmps.size = 67 ∧ f.defers = [] ∧ f.eval (.tmp 1) = .pointer (some ⟨g1, 0, none⟩) ∧ f.eval (.tmp 2) = .pointer (some ⟨g2, 0, none⟩) ∧ f.eval (.tmp 3) = .pointer (some ⟨g3, 0, none⟩) ∧ f.eval (.tmp 4) = .bool false ∧ f.eval (.tmp 6) = v6 ∧ f.eval (.tmp 7) = sliced pA 1 (P).length pC 32 ∧ f.eval (.tmp 8) = .pointer (some ⟨g8, 0, none⟩) ∧ f.eval (.tmp 24) = .bool true ∧ f.eval (.tmp 27) = .bool false ∧ f.eval (.tmp 39) = .bool false ∧ f.eval (.tmp 9) = .pointer (some ⟨g9, 0, none⟩) ∧ f.eval (.tmp 43) = v6 ∧ f.eval (.tmp 44) = .int .i64 (((S).length : Nat) : Int) ∧ f.eval (.tmp 45) = .int .i64 ((k : Nat) : Int) ∧ Ob v1 (g8) 23 (((bk st R S k).1).map V) ∧ Ob v1 (g9) 23 (((bk st R S k).2).map V) ∧ Below w7.heap.size w7 (v1)) (fun f _ => (S).length - (intOf (f.eval (.tmp 45))).toNat) ⟨0, Nat.zero_le _, sz, df, x1, x2, x3, x4, x6, x7, x8, x24, x27, x39, x9, x43, x44, x45, (by rw [bk_zero]; exact m8), (by rw [bk_zero]; exact m9), bl⟩ ?_
  intro f26 w26 hI
  clear sz df bl bl0 x1 x2 x3 x4 x6 x7 x8 x24 x27 x39 x9 x43 x44 x45 m8 m9
  obtain ⟨k, hk, sz, df, x1, x2, x3, x4, x6, x7, x8, x24, x27, x39, x9, x43, x44, x45, m8, m9, bl⟩ := hI
  have bl0 := bl
  have hcnt := x45
  refine wp_seq ?_
  by_cases hlt : k < (S).length
  rotate_left
  · skip
    refine wp_all_seq [.eq (.bool false)] (by kernel_rfl) (by kernel_rfl) (by rw [sz]; kernel_rfl) (by kernel_rfl) ⟨fun hw ac u K => ?_, trivial⟩ ?_
    · exact st_lss 3 (.tmp 45) (.tmp 44) rfl .i64 (((k : Nat) : Int)) ((((S).length : Nat) : Int)) ((K.old 45 rfl).trans x45) ((K.old 44 rfl).trans x44) _ (by rw [eq_comm, decide_eq_false_iff_not]; exact fun h => hlt (Int.ofNat_lt.1 h))
    intro f27 w27 A hb
    replace bl0 := bl
    replace x1 := (A.old 1 rfl).trans x1
    replace x2 := (A.old 2 rfl).trans x2
    replace x3 := (A.old 3 rfl).trans x3
    replace x4 := (A.old 4 rfl).trans x4
    replace x6 := (A.old 6 rfl).trans x6
    replace x7 := (A.old 7 rfl).trans x7
    replace x8 := (A.old 8 rfl).trans x8
    replace x24 := (A.old 24 rfl).trans x24
    replace x27 := (A.old 27 rfl).trans x27
    replace x39 := (A.old 39 rfl).trans x39
    replace x9 := (A.old 9 rfl).trans x9
    replace x43 := (A.old 43 rfl).trans x43
    replace x44 := (A.old 44 rfl).trans x44
    replace x45 := (A.old 45 rfl).trans x45
    have x46 : f27.eval (.tmp 46) = .bool false := A.has 0 46 rfl
    have lt_m8 := Ob.lt m8
    replace m8 := Ob.below m8 hb
    have lt_m9 := Ob.lt m9
    replace m9 := Ob.below m9 hb
    replace bl := (bl.trans (Below.mono hb bl.size))
    replace sz := A.size.trans sz
    replace df := A.defs.trans df
    clear A hb
    show Code.wp _ _ _ _ _
    refine wp_seq ?_
    refine wp_cond_false x46 ?_
    refine wp_exit ?_
    show Code.wp _ _ _ _ _
    refine wp_seq ?_
    have hkS : k = (S).length := by omega
    rw [hkS, bk_all st hRl, hxy] at m8 m9
    dsimp only at m8 m9
    replace m1 := Ob.below m1 bl
    replace m2 := Ob.below m2 bl
    replace m3 := Ob.below m3 bl
    replace bl := blw.trans (Below.mono bl blw.size)
    replace bl0 := bl
    have lt2B := Ob.lt m2
    refine wp_region_held_drew (S := fun W => Ob W g8 23 ((xa).map V) ∧ Ob W g9 23 ((xb).map V)) Tryd.mixed ⟨m8, m9⟩ (fun hS0 => ?_)
    replace m2 : Ob w27.drew g2 23 ((hz).map V) := m2
    replace m3 : Ob w27.drew g3 23 ((hz).map V) := m3
    replace bl := bl.drew
    clear bl0 m8 m9
    generalize w27.drew = w28 at hS0 m2 m3 bl ⊢
    refine wh_take 0 65 (v := .agg ((xa).map V).toArray) rfl rfl (by rw [sz]; decide) rfl (by kernel_rfl) (by kernel_rfl) (by kernel_rfl) (fun _ _ _ h => h) (run_ldh rfl hxa x8 (fun W hW => Ob.range hW.1 0 _ (fun j v hj => by simpa using hj))) hS0 ?_
    intro f29 df2 sz2 old2 new2
    replace x1 := (old2 1 rfl).trans x1
    replace x2 := (old2 2 rfl).trans x2
    replace x3 := (old2 3 rfl).trans x3
    replace x4 := (old2 4 rfl).trans x4
    replace x6 := (old2 6 rfl).trans x6
    replace x7 := (old2 7 rfl).trans x7
    replace x8 := (old2 8 rfl).trans x8
    replace x24 := (old2 24 rfl).trans x24
    replace x27 := (old2 27 rfl).trans x27
    replace x39 := (old2 39 rfl).trans x39
    replace x9 := (old2 9 rfl).trans x9
    replace x43 := (old2 43 rfl).trans x43
    replace x44 := (old2 44 rfl).trans x44
    replace x45 := (old2 45 rfl).trans x45
    replace x46 := (old2 46 rfl).trans x46
    have x65 : f29.eval (.tmp 65) = .agg ((xa).map V).toArray := new2
    replace sz := sz2.trans sz
    replace df := df2.trans df
    clear df2 sz2 old2 new2
    refine wh_take 1 66 (v := .agg ((xb).map V).toArray) rfl rfl (by rw [sz]; decide) rfl (by kernel_rfl) (by kernel_rfl) (by kernel_rfl) (fun _ _ _ h => h) (run_ldh rfl hxb x9 (fun W hW => Ob.range hW.2 0 _ (fun j v hj => by simpa using hj))) hS0 ?_
    intro f30 df2 sz2 old2 new2
    replace x1 := (old2 1 rfl).trans x1
    replace x2 := (old2 2 rfl).trans x2
    replace x3 := (old2 3 rfl).trans x3
    replace x4 := (old2 4 rfl).trans x4
    replace x6 := (old2 6 rfl).trans x6
    replace x7 := (old2 7 rfl).trans x7
    replace x8 := (old2 8 rfl).trans x8
    replace x24 := (old2 24 rfl).trans x24
    replace x27 := (old2 27 rfl).trans x27
    replace x39 := (old2 39 rfl).trans x39
    replace x9 := (old2 9 rfl).trans x9
    replace x43 := (old2 43 rfl).trans x43
    replace x44 := (old2 44 rfl).trans x44
    replace x45 := (old2 45 rfl).trans x45
    replace x46 := (old2 46 rfl).trans x46
    replace x65 := (old2 65 rfl).trans x65
    have x66 : f30.eval (.tmp 66) = .agg ((xb).map V).toArray := new2
    replace sz := sz2.trans sz
    replace df := df2.trans df
    clear df2 sz2 old2 new2
    have hS1 : Ob (w28.setRow g2 ((xa).map V : List Value).toArray) g8 23 ((xa).map V) ∧ Ob (w28.setRow g2 ((xa).map V : List Value).toArray) g9 23 ((xb).map V) := ⟨Ob.setRow_other hS0.1 _ (by omega), Ob.setRow_other hS0.2 _ (by omega)⟩
    refine wh_store 2 rfl rfl rfl (by kernel_rfl) (.tmp 2) (.tmp 65) rfl g2 (xa) (hz) x2 x65 m2 hz_len hxa hS1 ?_
    replace m2 : Ob (w28.setRow g2 ((xa).map V : List Value).toArray) (g2) 23 ((xa).map V) := Ob.setRow m2 ((xa).map V)
    replace m3 : Ob (w28.setRow g2 ((xa).map V : List Value).toArray) (g3) 23 ((hz).map V) := Ob.setRow_other m3 _ (by omega)
    replace bl : Below w.heap.size w (w28.setRow g2 ((xa).map V : List Value).toArray) := bl.trans (below_setRow _ _ _ _ hw2)
    replace hS0 := hS1
    clear hS1
    generalize w28.setRow g2 ((xa).map V : List Value).toArray = w31 at hS0 m2 m3 bl ⊢
    have hS1 : Ob (w31.setRow g3 ((xb).map V : List Value).toArray) g8 23 ((xa).map V) ∧ Ob (w31.setRow g3 ((xb).map V : List Value).toArray) g9 23 ((xb).map V) := ⟨Ob.setRow_other hS0.1 _ (by omega), Ob.setRow_other hS0.2 _ (by omega)⟩
    refine wh_store 3 rfl rfl rfl (by kernel_rfl) (.tmp 3) (.tmp 66) rfl g3 (xb) (hz) x3 x66 m3 hz_len hxb hS1 ?_
    replace m3 : Ob (w31.setRow g3 ((xb).map V : List Value).toArray) (g3) 23 ((xb).map V) := Ob.setRow m3 ((xb).map V)
    replace m2 : Ob (w31.setRow g3 ((xb).map V : List Value).toArray) (g2) 23 ((xa).map V) := Ob.setRow_other m2 _ (by omega)
    replace bl : Below w.heap.size w (w31.setRow g3 ((xb).map V : List Value).toArray) := bl.trans (below_setRow _ _ _ _ hw3)
    replace hS0 := hS1
    clear hS1
    generalize w31.setRow g3 ((xb).map V : List Value).toArray = w32 at hS0 m2 m3 bl ⊢
    refine wh_assign 4 4 rfl rfl (by rw [sz]; decide) rfl (by kernel_rfl) (.const (.bool true)) rfl hS0 ?_
    intro f33 df2 sz2 old2 new2
    replace x2 := (old2 2 rfl).trans x2
    replace x3 := (old2 3 rfl).trans x3
    replace x4 : f33.eval (.tmp 4) = .bool true := new2
    replace sz := sz2.trans sz
    replace df := df2.trans df
    refine wpAnyH_done (by kernel_rfl) ?_ _
    show Code.wp _ _ _ _ _
    refine wp_ret ?_
    repeat (first | with_reducible refine then_ret ?_ | with_reducible refine block_ret ?_)
    exact bodyPost_ret (v := .tuple #[.agg ((xa).map V).toArray, .agg ((xb).map V).toArray, .bool true]) (ret_hhb rfl f33 _ g2 g3 (xa) (xb) true hxa hxb x2 x3 m2 m3 x4) df ⟨rfl, bl⟩
  obtain ⟨bb, hSk⟩ : ∃ b, S[k]? = some b := ⟨_, List.getElem?_eq_getElem hlt⟩
  obtain ⟨p, hRk⟩ : ∃ p, R[k]? = some p := ⟨_, List.getElem?_eq_getElem (by omega)⟩
  have hp : p.length = 32 := hc_len hvR p (List.mem_of_getElem? hRk)
  have hbk := bk_succ st hRk hSk
  obtain ⟨y1, ey1⟩ : ∃ y, Box (nd p (bk st R S k).1 = y) := ⟨_, ⟨rfl⟩⟩
  obtain ⟨y2, ey2⟩ : ∃ y, Box (jon (bk st R S k).2 (p, bb) = y) := ⟨_, ⟨rfl⟩⟩
  have hy1 : y1.length = 32 := by rw [← ey1.out]; exact nd_len _ _
  have hy2 : y2.length = 32 := by rw [← ey2.out]; exact jon_len _ _
  have hbk2 : (bk st R S (k + 1)).2 = y2 := by rw [hbk, bst_2]; exact ey2.out
  refine wp_all_seq [.eq (.bool true)] (by kernel_rfl) (by kernel_rfl) (by rw [sz]; kernel_rfl) (by kernel_rfl) ⟨fun hw ac u K => ?_, trivial⟩ ?_
  · exact st_lss 3 (.tmp 45) (.tmp 44) rfl .i64 (((k : Nat) : Int)) ((((S).length : Nat) : Int)) ((K.old 45 rfl).trans x45) ((K.old 44 rfl).trans x44) _ (by rw [eq_comm, decide_eq_true_iff]; exact Int.ofNat_lt.2 hlt)
  intro f27 w27 A hb
  replace bl0 := bl
  replace x1 := (A.old 1 rfl).trans x1
  replace x2 := (A.old 2 rfl).trans x2
  replace x3 := (A.old 3 rfl).trans x3
  replace x4 := (A.old 4 rfl).trans x4
  replace x6 := (A.old 6 rfl).trans x6
  replace x7 := (A.old 7 rfl).trans x7
  replace x8 := (A.old 8 rfl).trans x8
  replace x24 := (A.old 24 rfl).trans x24
  replace x27 := (A.old 27 rfl).trans x27
  replace x39 := (A.old 39 rfl).trans x39
  replace x9 := (A.old 9 rfl).trans x9
  replace x43 := (A.old 43 rfl).trans x43
  replace x44 := (A.old 44 rfl).trans x44
  replace x45 := (A.old 45 rfl).trans x45
  have x46 : f27.eval (.tmp 46) = .bool true := A.has 0 46 rfl
  have lt_m8 := Ob.lt m8
  replace m8 := Ob.below m8 hb
  have lt_m9 := Ob.lt m9
  replace m9 := Ob.below m9 hb
  replace bl := (bl.trans (Below.mono hb bl.size))
  replace sz := A.size.trans sz
  replace df := A.defs.trans df
  clear A hb
  show Code.wp _ _ _ _ _
  refine wp_seq ?_
  refine wp_cond_true x46 ?_
  refine wp_skip ?_
  show Code.wp _ _ _ _ _
  refine wp_seq ?_
  refine wp_block ?_
  refine wp_seq ?_
  refine wp_all_seq [.eq (.int .i64 ((k : Nat) : Int)), .prg [.bool bb], .eq (.bool bb), .eq (.int .i64 ((k : Nat) : Int)), .eq (.bool bb)] (by kernel_rfl) (by kernel_rfl) (by rw [sz]; kernel_rfl) (by kernel_rfl) ⟨fun hw ac u K => ?_, fun hw ac u K => ?_, fun hw ac u K => ?_, fun hw ac u K => ?_, fun hw ac u K => ?_, trivial⟩ ?_
  · exact st_move (.tmp 45) rfl ((K.old 45 rfl).trans x45)
  · exact st_idxbs (.tmp 43) (.tmp 45) rfl (fk_val ((K.old 43 rfl).trans x43) (Fk.mono _ _ _ _ h6 (bl.trans (Below.mono K.grow bl.size)))) k ((K.old 45 rfl).trans x45) bb hSk
  · exact st_loadr1 4 (.tmp 48) rfl (by kernel_rfl) (K.dep 1 48 rfl)
  · exact st_assign (.tmp 47) rfl (K.dep 0 47 rfl)
  · exact st_assign (.tmp 49) rfl (K.dep 2 49 rfl)
  intro f28 w28 A hb
  replace bl0 := bl
  replace x1 := (A.old 1 rfl).trans x1
  replace x2 := (A.old 2 rfl).trans x2
  replace x3 := (A.old 3 rfl).trans x3
  replace x4 := (A.old 4 rfl).trans x4
  replace x6 := (A.old 6 rfl).trans x6
  replace x7 := (A.old 7 rfl).trans x7
  replace x8 := (A.old 8 rfl).trans x8
  replace x24 := (A.old 24 rfl).trans x24
  replace x27 := (A.old 27 rfl).trans x27
  replace x39 := (A.old 39 rfl).trans x39
  replace x9 := (A.old 9 rfl).trans x9
  replace x43 := (A.old 43 rfl).trans x43
  replace x44 := (A.old 44 rfl).trans x44
  replace x45 := (A.old 45 rfl).trans x45
  replace x46 := (A.old 46 rfl).trans x46
  have x10 : f28.eval (.tmp 10) = .int .i64 ((k : Nat) : Int) := A.has 3 10 rfl
  have x11 : f28.eval (.tmp 11) = .bool bb := A.has 4 11 rfl
  have lt_m8 := Ob.lt m8
  replace m8 := Ob.below m8 hb
  have lt_m9 := Ob.lt m9
  replace m9 := Ob.below m9 hb
  replace bl := (bl.trans (Below.mono hb bl.size))
  replace sz := A.size.trans sz
  replace df := A.defs.trans df
  clear A hb
  show Code.wp _ _ _ _ _
  refine wp_seq ?_
  refine wp_seq ?_
  cases bb
  rotate_left
  · skip
    have hbk1 : (bk st R S (k + 1)).1 = y1 := by rw [hbk, bst_t]; exact ey1.out
    refine wp_all_seq [.eq (.bool true)] (by kernel_rfl) (by kernel_rfl) (by rw [sz]; kernel_rfl) (by kernel_rfl) ⟨fun hw ac u K => ?_, trivial⟩ ?_
    · exact st_move (.tmp 11) rfl ((K.old 11 rfl).trans x11)
    intro f29 w29 A hb
    replace bl0 := bl
    replace x1 := (A.old 1 rfl).trans x1
    replace x2 := (A.old 2 rfl).trans x2
    replace x3 := (A.old 3 rfl).trans x3
    replace x4 := (A.old 4 rfl).trans x4
    replace x6 := (A.old 6 rfl).trans x6
    replace x7 := (A.old 7 rfl).trans x7
    replace x8 := (A.old 8 rfl).trans x8
    replace x24 := (A.old 24 rfl).trans x24
    replace x27 := (A.old 27 rfl).trans x27
    replace x39 := (A.old 39 rfl).trans x39
    replace x9 := (A.old 9 rfl).trans x9
    replace x43 := (A.old 43 rfl).trans x43
    replace x44 := (A.old 44 rfl).trans x44
    replace x45 := (A.old 45 rfl).trans x45
    replace x46 := (A.old 46 rfl).trans x46
    replace x10 := (A.old 10 rfl).trans x10
    replace x11 := (A.old 11 rfl).trans x11
    have x50 : f29.eval (.tmp 50) = .bool true := A.has 0 50 rfl
    have lt_m8 := Ob.lt m8
    replace m8 := Ob.below m8 hb
    have lt_m9 := Ob.lt m9
    replace m9 := Ob.below m9 hb
    replace bl := (bl.trans (Below.mono hb bl.size))
    replace sz := A.size.trans sz
    replace df := A.defs.trans df
    clear A hb
    show Code.wp _ _ _ _ _
    refine wp_cond_true x50 ?_
    refine wp_region_tail [.eq (sliced pA 1 (P).length pC 32), .eq (.int .i64 ((k : Nat) : Int)), .ph (p), .eq (.agg ((p).map V).toArray), .eq (.agg (((bk st R S k).1).map V).toArray), .eq (.agg ((y1).map V).toArray)] [6] Tryd.mixed (by kernel_rfl) (by kernel_rfl) (by kernel_rfl) (by kernel_rfl) (by rw [sz]; kernel_rfl) (by kernel_rfl) ⟨fun hw ac u K => ?_, fun hw ac u K => ?_, fun hw ac u K => ?_, fun hw ac u K => ?_, fun hw ac u K => ?_, fun hw ac u K => ?_, trivial⟩ ?_
    · exact st_move (.tmp 7) rfl ((K.old 7 rfl).trans x7)
    · exact st_move (.tmp 10) rfl ((K.old 10 rfl).trans x10)
    · exact st_idxh (.tmp 51) (.tmp 52) rfl (fk_val (K.dep 0 51 rfl) (Fk.mono _ _ _ _ hvRs (bl.trans (Below.mono K.grow bl.size)))) (k) (p) (K.dep 1 52 rfl) hRk
    · exact st_loadh (.tmp 53) rfl (K.dep 2 53 rfl)
    · exact st_load23 (.tmp 8) rfl (g8) ((bk st R S k).1) ((K.old 8 rfl).trans x8) (bk_len hst0 R S k).1 (Ob.below m8 K.grow)
    · exact st_call 21 (.func 21) _ _ #[.agg ((p).map V).toArray, .agg (((bk st R S k).1).map V).toArray] rfl rfl (arg2 (K.dep 3 54 rfl) (K.dep 4 55 rfl)) Tryd.enter21 (fk_node hp (bk_len hst0 R S k).1 (hK.below (bl.trans (Below.mono K.grow bl.size))) ey1)
    intro f30 w30 A hb
    replace bl0 := bl
    replace x1 := (A.old 1 rfl).trans x1
    replace x2 := (A.old 2 rfl).trans x2
    replace x3 := (A.old 3 rfl).trans x3
    replace x4 := (A.old 4 rfl).trans x4
    replace x6 := (A.old 6 rfl).trans x6
    replace x7 := (A.old 7 rfl).trans x7
    replace x8 := (A.old 8 rfl).trans x8
    replace x24 := (A.old 24 rfl).trans x24
    replace x27 := (A.old 27 rfl).trans x27
    replace x39 := (A.old 39 rfl).trans x39
    replace x9 := (A.old 9 rfl).trans x9
    replace x43 := (A.old 43 rfl).trans x43
    replace x44 := (A.old 44 rfl).trans x44
    replace x45 := (A.old 45 rfl).trans x45
    replace x46 := (A.old 46 rfl).trans x46
    replace x10 := (A.old 10 rfl).trans x10
    replace x11 := (A.old 11 rfl).trans x11
    replace x50 := (A.old 50 rfl).trans x50
    have x56 : f30.eval (.tmp 56) = .agg ((y1).map V).toArray := A.has 5 56 rfl
    have lt_m8 := Ob.lt m8
    replace m8 := Ob.below m8 hb
    have lt_m9 := Ob.lt m9
    replace m9 := Ob.below m9 hb
    replace bl := (bl.trans (Below.mono hb bl.size))
    replace sz := A.size.trans sz
    replace df := A.defs.trans df
    clear A hb
    refine wl_store rfl (.tmp 8) (.tmp 56) rfl rfl (g8) (y1) ((bk st R S k).1) x8 x56 m8 (bk_len hst0 R S k).1 hy1 ?_
    replace m8 : Ob (w30.setRow g8 ((y1).map V : List Value).toArray) (g8) 23 ((y1).map V) := Ob.setRow m8 ((y1).map V)
    replace m9 : Ob (w30.setRow g8 ((y1).map V : List Value).toArray) (g9) 23 (((bk st R S k).2).map V) := Ob.setRow_other m9 _ nm8_9.symm
    replace bl : Below w7.heap.size w7 (w30.setRow g8 ((y1).map V : List Value).toArray) := bl.trans (below_setRow _ _ _ _ hw8)
    generalize w30.setRow g8 ((y1).map V : List Value).toArray = w31b at bl m8 m9 ⊢
    refine wpList_nil ?_
    clear x56
    show Code.wp _ _ _ _ _
    refine wp_region_tail [.eq (.agg (((bk st R S k).2).map V).toArray), .eq (sliced pA 1 (P).length pC 32), .eq (.int .i64 ((k : Nat) : Int)), .ph (p), .eq (.agg ((p).map V).toArray), .eq (.bool true), .eq (.agg ((y2).map V).toArray)] [7] Tryd.mixed (by kernel_rfl) (by kernel_rfl) (by kernel_rfl) (by kernel_rfl) (by rw [sz]; kernel_rfl) (by kernel_rfl) ⟨fun hw ac u K => ?_, fun hw ac u K => ?_, fun hw ac u K => ?_, fun hw ac u K => ?_, fun hw ac u K => ?_, fun hw ac u K => ?_, fun hw ac u K => ?_, trivial⟩ ?_
    · exact st_load23 (.tmp 9) rfl (g9) ((bk st R S k).2) ((K.old 9 rfl).trans x9) (bk_len hst0 R S k).2 (Ob.below m9 K.grow)
    · exact st_move (.tmp 7) rfl ((K.old 7 rfl).trans x7)
    · exact st_move (.tmp 10) rfl ((K.old 10 rfl).trans x10)
    · exact st_idxh (.tmp 58) (.tmp 59) rfl (fk_val (K.dep 1 58 rfl) (Fk.mono _ _ _ _ hvRs (bl.trans (Below.mono K.grow bl.size)))) (k) (p) (K.dep 2 59 rfl) hRk
    · exact st_loadh (.tmp 60) rfl (K.dep 3 60 rfl)
    · exact st_move (.tmp 11) rfl ((K.old 11 rfl).trans x11)
    · exact st_call 13 (.func 13) _ _ #[.agg (((bk st R S k).2).map V).toArray, .agg ((p).map V).toArray, .bool true] rfl rfl (arg3 (K.dep 0 57 rfl) (K.dep 4 61 rfl) (K.dep 5 62 rfl)) Tryd.enter13 (fk_of (join_any (bk_len hst0 R S k).2 hp true _ (hK.below (bl.trans (Below.mono K.grow bl.size))) ey2))
    intro f32 w32 A hb
    replace bl0 := bl
    replace x1 := (A.old 1 rfl).trans x1
    replace x2 := (A.old 2 rfl).trans x2
    replace x3 := (A.old 3 rfl).trans x3
    replace x4 := (A.old 4 rfl).trans x4
    replace x6 := (A.old 6 rfl).trans x6
    replace x7 := (A.old 7 rfl).trans x7
    replace x8 := (A.old 8 rfl).trans x8
    replace x24 := (A.old 24 rfl).trans x24
    replace x27 := (A.old 27 rfl).trans x27
    replace x39 := (A.old 39 rfl).trans x39
    replace x9 := (A.old 9 rfl).trans x9
    replace x43 := (A.old 43 rfl).trans x43
    replace x44 := (A.old 44 rfl).trans x44
    replace x45 := (A.old 45 rfl).trans x45
    replace x46 := (A.old 46 rfl).trans x46
    replace x10 := (A.old 10 rfl).trans x10
    replace x11 := (A.old 11 rfl).trans x11
    replace x50 := (A.old 50 rfl).trans x50
    have x63 : f32.eval (.tmp 63) = .agg ((y2).map V).toArray := A.has 6 63 rfl
    have lt_m8 := Ob.lt m8
    replace m8 := Ob.below m8 hb
    have lt_m9 := Ob.lt m9
    replace m9 := Ob.below m9 hb
    replace bl := (bl.trans (Below.mono hb bl.size))
    replace sz := A.size.trans sz
    replace df := A.defs.trans df
    clear A hb
    refine wl_store rfl (.tmp 9) (.tmp 63) rfl rfl (g9) (y2) ((bk st R S k).2) x9 x63 m9 (bk_len hst0 R S k).2 hy2 ?_
    replace m8 : Ob (w32.setRow g9 ((y2).map V : List Value).toArray) (g8) 23 ((y1).map V) := Ob.setRow_other m8 _ nm8_9
    replace m9 : Ob (w32.setRow g9 ((y2).map V : List Value).toArray) (g9) 23 ((y2).map V) := Ob.setRow m9 ((y2).map V)
    replace bl : Below w7.heap.size w7 (w32.setRow g9 ((y2).map V : List Value).toArray) := bl.trans (below_setRow _ _ _ _ hw9)
    generalize w32.setRow g9 ((y2).map V : List Value).toArray = w33b at bl m8 m9 ⊢
    refine wpList_nil ?_
    clear x63
    show Code.wp _ _ _ _ _
    refine wp_region_seq [.eq (.int .i64 ((k + 1 : Nat) : Int))] (by kernel_rfl) (by kernel_rfl) (by rw [sz]; kernel_rfl) (by kernel_rfl) ⟨fun hw ac u K => ?_, trivial⟩ ?_
    · exact st_add (.tmp 45) (.const (.int .i64 1)) rfl (k) (1) (k + 1) ((K.old 45 rfl).trans x45) rfl (by omega) (by omega)
    intro f34 w34 A hb
    replace bl0 := bl
    replace x1 := (A.old 1 rfl).trans x1
    replace x2 := (A.old 2 rfl).trans x2
    replace x3 := (A.old 3 rfl).trans x3
    replace x4 := (A.old 4 rfl).trans x4
    replace x6 := (A.old 6 rfl).trans x6
    replace x7 := (A.old 7 rfl).trans x7
    replace x8 := (A.old 8 rfl).trans x8
    replace x24 := (A.old 24 rfl).trans x24
    replace x27 := (A.old 27 rfl).trans x27
    replace x39 := (A.old 39 rfl).trans x39
    replace x9 := (A.old 9 rfl).trans x9
    replace x43 := (A.old 43 rfl).trans x43
    replace x44 := (A.old 44 rfl).trans x44
    replace x45 := (A.old 45 rfl).trans x45
    replace x46 := (A.old 46 rfl).trans x46
    replace x10 := (A.old 10 rfl).trans x10
    replace x11 := (A.old 11 rfl).trans x11
    replace x50 := (A.old 50 rfl).trans x50
    have x64 : f34.eval (.tmp 64) = .int .i64 ((k + 1 : Nat) : Int) := A.has 0 64 rfl
    have lt_m8 := Ob.lt m8
    replace m8 := Ob.below m8 hb
    have lt_m9 := Ob.lt m9
    replace m9 := Ob.below m9 hb
    replace bl := (bl.trans (Below.mono hb bl.size))
    replace sz := A.size.trans sz
    replace df := A.defs.trans df
    clear A hb
    refine wl_one (.eq (.int .i64 ((k + 1 : Nat) : Int))) rfl 45 rfl (by rw [sz]; decide) (st_move (.tmp 64) rfl x64) ?_
    intro f35 w35 df2 sz2 old2 new2 hb
    replace bl0 := bl
    replace x1 := (old2 1 rfl).trans x1
    replace x2 := (old2 2 rfl).trans x2
    replace x3 := (old2 3 rfl).trans x3
    replace x4 := (old2 4 rfl).trans x4
    replace x6 := (old2 6 rfl).trans x6
    replace x7 := (old2 7 rfl).trans x7
    replace x8 := (old2 8 rfl).trans x8
    replace x24 := (old2 24 rfl).trans x24
    replace x27 := (old2 27 rfl).trans x27
    replace x39 := (old2 39 rfl).trans x39
    replace x9 := (old2 9 rfl).trans x9
    replace x43 := (old2 43 rfl).trans x43
    replace x44 := (old2 44 rfl).trans x44
    clear x45
    replace x46 := (old2 46 rfl).trans x46
    replace x10 := (old2 10 rfl).trans x10
    replace x11 := (old2 11 rfl).trans x11
    replace x50 := (old2 50 rfl).trans x50
    replace x64 := (old2 64 rfl).trans x64
    have x45 : f35.eval (.tmp 45) = .int .i64 ((k + 1 : Nat) : Int) := new2
    have lt_m8 := Ob.lt m8
    replace m8 := Ob.below m8 hb
    have lt_m9 := Ob.lt m9
    replace m9 := Ob.below m9 hb
    replace bl := (bl.trans (Below.mono hb bl.size))
    replace sz := sz2.trans sz
    replace df := df2.trans df
    clear df2 sz2 old2 new2 hb
    refine wpList_nil ?_
    clear x64
    show (∃ _, _) ∧ _
    refine ⟨⟨k + 1, by omega, sz, df, x1, x2, x3, x4, x6, x7, x8, x24, x27, x39, x9, x43, x44, x45, (by rw [hbk1]; exact m8), (by rw [hbk2]; exact m9), bl⟩, ?_⟩
    rw [show f35.eval (.tmp 45) = _ from x45, show _ = _ from hcnt]
    simp [intOf]
    omega
  have hbk1 : (bk st R S (k + 1)).1 = (bk st R S k).1 := by rw [hbk, bst_f]
  refine wp_all_seq [.eq (.bool false)] (by kernel_rfl) (by kernel_rfl) (by rw [sz]; kernel_rfl) (by kernel_rfl) ⟨fun hw ac u K => ?_, trivial⟩ ?_
  · exact st_move (.tmp 11) rfl ((K.old 11 rfl).trans x11)
  intro f29 w29 A hb
  replace bl0 := bl
  replace x1 := (A.old 1 rfl).trans x1
  replace x2 := (A.old 2 rfl).trans x2
  replace x3 := (A.old 3 rfl).trans x3
  replace x4 := (A.old 4 rfl).trans x4
  replace x6 := (A.old 6 rfl).trans x6
  replace x7 := (A.old 7 rfl).trans x7
  replace x8 := (A.old 8 rfl).trans x8
  replace x24 := (A.old 24 rfl).trans x24
  replace x27 := (A.old 27 rfl).trans x27
  replace x39 := (A.old 39 rfl).trans x39
  replace x9 := (A.old 9 rfl).trans x9
  replace x43 := (A.old 43 rfl).trans x43
  replace x44 := (A.old 44 rfl).trans x44
  replace x45 := (A.old 45 rfl).trans x45
  replace x46 := (A.old 46 rfl).trans x46
  replace x10 := (A.old 10 rfl).trans x10
  replace x11 := (A.old 11 rfl).trans x11
  have x50 : f29.eval (.tmp 50) = .bool false := A.has 0 50 rfl
  have lt_m8 := Ob.lt m8
  replace m8 := Ob.below m8 hb
  have lt_m9 := Ob.lt m9
  replace m9 := Ob.below m9 hb
  replace bl := (bl.trans (Below.mono hb bl.size))
  replace sz := A.size.trans sz
  replace df := A.defs.trans df
  clear A hb
  show Code.wp _ _ _ _ _
  refine wp_cond_false x50 ?_
  refine wp_skip ?_
  show Code.wp _ _ _ _ _
  refine wp_region_tail [.eq (.agg (((bk st R S k).2).map V).toArray), .eq (sliced pA 1 (P).length pC 32), .eq (.int .i64 ((k : Nat) : Int)), .ph (p), .eq (.agg ((p).map V).toArray), .eq (.bool false), .eq (.agg ((y2).map V).toArray)] [7] Tryd.mixed (by kernel_rfl) (by kernel_rfl) (by kernel_rfl) (by kernel_rfl) (by rw [sz]; kernel_rfl) (by kernel_rfl) ⟨fun hw ac u K => ?_, fun hw ac u K => ?_, fun hw ac u K => ?_, fun hw ac u K => ?_, fun hw ac u K => ?_, fun hw ac u K => ?_, fun hw ac u K => ?_, trivial⟩ ?_
  · exact st_load23 (.tmp 9) rfl (g9) ((bk st R S k).2) ((K.old 9 rfl).trans x9) (bk_len hst0 R S k).2 (Ob.below m9 K.grow)
  · exact st_move (.tmp 7) rfl ((K.old 7 rfl).trans x7)
  · exact st_move (.tmp 10) rfl ((K.old 10 rfl).trans x10)
  · exact st_idxh (.tmp 58) (.tmp 59) rfl (fk_val (K.dep 1 58 rfl) (Fk.mono _ _ _ _ hvRs (bl.trans (Below.mono K.grow bl.size)))) (k) (p) (K.dep 2 59 rfl) hRk
  · exact st_loadh (.tmp 60) rfl (K.dep 3 60 rfl)
  · exact st_move (.tmp 11) rfl ((K.old 11 rfl).trans x11)
  · exact st_call 13 (.func 13) _ _ #[.agg (((bk st R S k).2).map V).toArray, .agg ((p).map V).toArray, .bool false] rfl rfl (arg3 (K.dep 0 57 rfl) (K.dep 4 61 rfl) (K.dep 5 62 rfl)) Tryd.enter13 (fk_of (join_any (bk_len hst0 R S k).2 hp false _ (hK.below (bl.trans (Below.mono K.grow bl.size))) ey2))
  intro f30 w30 A hb
  replace bl0 := bl
  replace x1 := (A.old 1 rfl).trans x1
  replace x2 := (A.old 2 rfl).trans x2
  replace x3 := (A.old 3 rfl).trans x3
  replace x4 := (A.old 4 rfl).trans x4
  replace x6 := (A.old 6 rfl).trans x6
  replace x7 := (A.old 7 rfl).trans x7
  replace x8 := (A.old 8 rfl).trans x8
  replace x24 := (A.old 24 rfl).trans x24
  replace x27 := (A.old 27 rfl).trans x27
  replace x39 := (A.old 39 rfl).trans x39
  replace x9 := (A.old 9 rfl).trans x9
  replace x43 := (A.old 43 rfl).trans x43
  replace x44 := (A.old 44 rfl).trans x44
  replace x45 := (A.old 45 rfl).trans x45
  replace x46 := (A.old 46 rfl).trans x46
  replace x10 := (A.old 10 rfl).trans x10
  replace x11 := (A.old 11 rfl).trans x11
  replace x50 := (A.old 50 rfl).trans x50
  have x63 : f30.eval (.tmp 63) = .agg ((y2).map V).toArray := A.has 6 63 rfl
  have lt_m8 := Ob.lt m8
  replace m8 := Ob.below m8 hb
  have lt_m9 := Ob.lt m9
  replace m9 := Ob.below m9 hb
  replace bl := (bl.trans (Below.mono hb bl.size))
  replace sz := A.size.trans sz
  replace df := A.defs.trans df
  clear A hb
  refine wl_store rfl (.tmp 9) (.tmp 63) rfl rfl (g9) (y2) ((bk st R S k).2) x9 x63 m9 (bk_len hst0 R S k).2 hy2 ?_
  replace m8 : Ob (w30.setRow g9 ((y2).map V : List Value).toArray) (g8) 23 (((bk st R S k).1).map V) := Ob.setRow_other m8 _ nm8_9
  replace m9 : Ob (w30.setRow g9 ((y2).map V : List Value).toArray) (g9) 23 ((y2).map V) := Ob.setRow m9 ((y2).map V)
  replace bl : Below w7.heap.size w7 (w30.setRow g9 ((y2).map V : List Value).toArray) := bl.trans (below_setRow _ _ _ _ hw9)
  generalize w30.setRow g9 ((y2).map V : List Value).toArray = w31b at bl m8 m9 ⊢
  refine wpList_nil ?_
  clear x63
  show Code.wp _ _ _ _ _
  refine wp_region_seq [.eq (.int .i64 ((k + 1 : Nat) : Int))] (by kernel_rfl) (by kernel_rfl) (by rw [sz]; kernel_rfl) (by kernel_rfl) ⟨fun hw ac u K => ?_, trivial⟩ ?_
  · exact st_add (.tmp 45) (.const (.int .i64 1)) rfl (k) (1) (k + 1) ((K.old 45 rfl).trans x45) rfl (by omega) (by omega)
  intro f32 w32 A hb
  replace bl0 := bl
  replace x1 := (A.old 1 rfl).trans x1
  replace x2 := (A.old 2 rfl).trans x2
  replace x3 := (A.old 3 rfl).trans x3
  replace x4 := (A.old 4 rfl).trans x4
  replace x6 := (A.old 6 rfl).trans x6
  replace x7 := (A.old 7 rfl).trans x7
  replace x8 := (A.old 8 rfl).trans x8
  replace x24 := (A.old 24 rfl).trans x24
  replace x27 := (A.old 27 rfl).trans x27
  replace x39 := (A.old 39 rfl).trans x39
  replace x9 := (A.old 9 rfl).trans x9
  replace x43 := (A.old 43 rfl).trans x43
  replace x44 := (A.old 44 rfl).trans x44
  replace x45 := (A.old 45 rfl).trans x45
  replace x46 := (A.old 46 rfl).trans x46
  replace x10 := (A.old 10 rfl).trans x10
  replace x11 := (A.old 11 rfl).trans x11
  replace x50 := (A.old 50 rfl).trans x50
  have x64 : f32.eval (.tmp 64) = .int .i64 ((k + 1 : Nat) : Int) := A.has 0 64 rfl
  have lt_m8 := Ob.lt m8
  replace m8 := Ob.below m8 hb
  have lt_m9 := Ob.lt m9
  replace m9 := Ob.below m9 hb
  replace bl := (bl.trans (Below.mono hb bl.size))
  replace sz := A.size.trans sz
  replace df := A.defs.trans df
  clear A hb
  refine wl_one (.eq (.int .i64 ((k + 1 : Nat) : Int))) rfl 45 rfl (by rw [sz]; decide) (st_move (.tmp 64) rfl x64) ?_
  intro f33 w33 df2 sz2 old2 new2 hb
  replace bl0 := bl
  replace x1 := (old2 1 rfl).trans x1
  replace x2 := (old2 2 rfl).trans x2
  replace x3 := (old2 3 rfl).trans x3
  replace x4 := (old2 4 rfl).trans x4
  replace x6 := (old2 6 rfl).trans x6
  replace x7 := (old2 7 rfl).trans x7
  replace x8 := (old2 8 rfl).trans x8
  replace x24 := (old2 24 rfl).trans x24
  replace x27 := (old2 27 rfl).trans x27
  replace x39 := (old2 39 rfl).trans x39
  replace x9 := (old2 9 rfl).trans x9
  replace x43 := (old2 43 rfl).trans x43
  replace x44 := (old2 44 rfl).trans x44
  clear x45
  replace x46 := (old2 46 rfl).trans x46
  replace x10 := (old2 10 rfl).trans x10
  replace x11 := (old2 11 rfl).trans x11
  replace x50 := (old2 50 rfl).trans x50
  replace x64 := (old2 64 rfl).trans x64
  have x45 : f33.eval (.tmp 45) = .int .i64 ((k + 1 : Nat) : Int) := new2
  have lt_m8 := Ob.lt m8
  replace m8 := Ob.below m8 hb
  have lt_m9 := Ob.lt m9
  replace m9 := Ob.below m9 hb
  replace bl := (bl.trans (Below.mono hb bl.size))
  replace sz := sz2.trans sz
  replace df := df2.trans df
  clear df2 sz2 old2 new2 hb
  refine wpList_nil ?_
  clear x64
  show (∃ _, _) ∧ _
  refine ⟨⟨k + 1, by omega, sz, df, x1, x2, x3, x4, x6, x7, x8, x24, x27, x39, x9, x43, x44, x45, (by rw [hbk1]; exact m8), (by rw [hbk2]; exact m9), bl⟩, ?_⟩
  rw [show f33.eval (.tmp 45) = _ from x45, show _ = _ from hcnt]
  simp [intOf]
  omega
set_option maxHeartbeats 1000000 in
theorem both_ok0 {m n : Nat} {old rt : List (BitVec 8)} {P : List (List (BitVec 8))} {pA : Option Addr} {pC : Nat} (hold : old.length = 32) (hrt : rt.length = 32) (hm1 : 1 ≤ m) (hm2 : m ≤ n) (hn : n ≤ 1152921504606846976) {c : Bool} {S : List Bool} (hS : stp m n true = (c, S)) (w : World) (hv : (Fk.hc P).f (.slice pA (P).length pC) w) (hK : Tab w) (hc : c = false) (hRl0 : P.length = S.length) {xa xb : List (BitVec 8)} (hxy0 : bth old P S = (xa, xb)) :
    Calls Tryd.prog 17 #[.agg (([.int .i64 ((m : Nat) : Int), .int .i64 ((n : Nat) : Int)] : List Value) ++ ((old).map V ++ ((rt).map V ++ (([.slice pA (P).length pC] : List Value))))).toArray] w fun e w' => e = .returned (.tuple #[.agg ((xa).map V).toArray, .agg ((xb).map V).toArray, .bool true]) ∧ Below w.heap.size w w' := by
  have hvs := hc_hs hv
  obtain ⟨R, hR⟩ : ∃ R, R = P := ⟨_, rfl⟩
  have hvR : (Fk.hc R).f (.slice pA (P).length pC) w := by rw [hR]; exact hv
  have hvRs := hc_hs hvR
  obtain ⟨st, hst⟩ : ∃ st, st = old := ⟨_, rfl⟩
  have hst0 : st.length = 32 := by rw [hst]; exact hold
  have hRl : R.length = S.length := by rw [hR]; exact hRl0
  have hxy : bth st R S = (xa, xb) := by rw [hR, hst]; exact hxy0
  have hSl : S.length ≤ 60 := by have := stp_log n m true 60 (by omega); rw [hS] at this; exact this
  have hxa : xa.length = 32 := by have := (bk_len hst0 R S S.length).1; rw [bk_all st hRl, hxy] at this; exact this
  have hxb : xb.length = 32 := by have := (bk_len hst0 R S S.length).2; rw [bk_all st hRl, hxy] at this; exact this
  go_enter Tryd.func17, Tryd.ntmps17
  refine code_both (fun f w1 => f.tmps.size = 67 ∧ f.defers = [] ∧ f.eval (.tmp 0) = .agg (([.int .i64 ((m : Nat) : Int), .int .i64 ((n : Nat) : Int)] : List Value) ++ ((old).map V ++ ((rt).map V ++ (([.slice pA (P).length pC] : List Value))))).toArray ∧ Below w.heap.size w (w1)) ⟨rfl, rfl, rfl, Below.refl _ _⟩ ?_
  rintro f0 w0 ⟨sz, df, x0, bl⟩
  have bl0 := bl
  refine wp_seq ?_
  refine wp_region_seq [] (by kernel_rfl) (by kernel_rfl) (by rw [sz]; kernel_rfl) (by kernel_rfl) trivial ?_
  intro f1 w1 A hb
  replace bl0 := bl
  replace x0 := (A.old 0 rfl).trans x0
  replace bl := (bl.trans (Below.mono hb bl.size))
  replace sz := A.size.trans sz
  replace df := A.defs.trans df
  clear A hb
  refine wl_one (.nw w1.heap.size 38 (([.int .i64 ((m : Nat) : Int), .int .i64 ((n : Nat) : Int)] : List Value) ++ ((old).map V ++ ((rt).map V ++ (([.slice pA (P).length pC] : List Value)))))) rfl 1 rfl (by rw [sz]; decide) (st_box 38 (.tmp 0) rfl _ _ (by rw [show _ = _ from x0]; kernel_rfl) (Nat.le_refl _)) ?_
  intro f2 w2 df2 sz2 old2 new2 hb
  replace bl0 := bl
  replace x0 := (old2 0 rfl).trans x0
  have x1 : Fk.f (.nw w1.heap.size 38 (([.int .i64 ((m : Nat) : Int), .int .i64 ((n : Nat) : Int)] : List Value) ++ ((old).map V ++ ((rt).map V ++ (([.slice pA (P).length pC] : List Value)))))) (f2.eval (.tmp 1)) w2 := new2
  replace bl := (bl.trans (Below.mono hb bl.size))
  replace sz := sz2.trans sz
  replace df := df2.trans df
  clear df2 sz2 old2 new2 hb
  obtain ⟨g1, hg1, e1, m1⟩ := x1
  have x1 := e1
  clear e1
  have hw1 : w.heap.size ≤ g1 := Nat.le_trans bl0.size hg1
  clear x0
  refine wl_one (.nw w2.heap.size 23 ((hz).map V)) rfl 2 rfl (by rw [sz]; decide) (st_alloc23 rfl _ (Nat.le_refl _)) ?_
  intro f3 w3 df2 sz2 old2 new2 hb
  replace bl0 := bl
  replace x1 := (old2 1 rfl).trans x1
  have x2 : Fk.f (.nw w2.heap.size 23 ((hz).map V)) (f3.eval (.tmp 2)) w3 := new2
  have lt_m1 := Ob.lt m1
  replace m1 := Ob.below m1 hb
  replace bl := (bl.trans (Below.mono hb bl.size))
  replace sz := sz2.trans sz
  replace df := df2.trans df
  clear df2 sz2 old2 new2 hb
  obtain ⟨g2, hg2, e2, m2⟩ := x2
  have x2 := e2
  clear e2
  have nm1_2 : g1 ≠ g2 := Nat.ne_of_lt (Nat.lt_of_lt_of_le lt_m1 hg2)
  have hw2 : w.heap.size ≤ g2 := Nat.le_trans bl0.size hg2
  refine wl_one (.nw w3.heap.size 23 ((hz).map V)) rfl 3 rfl (by rw [sz]; decide) (st_alloc23 rfl _ (Nat.le_refl _)) ?_
  intro f4 w4 df2 sz2 old2 new2 hb
  replace bl0 := bl
  replace x1 := (old2 1 rfl).trans x1
  replace x2 := (old2 2 rfl).trans x2
  have x3 : Fk.f (.nw w3.heap.size 23 ((hz).map V)) (f4.eval (.tmp 3)) w4 := new2
  have lt_m1 := Ob.lt m1
  replace m1 := Ob.below m1 hb
  have lt_m2 := Ob.lt m2
  replace m2 := Ob.below m2 hb
  replace bl := (bl.trans (Below.mono hb bl.size))
  replace sz := sz2.trans sz
  replace df := df2.trans df
  clear df2 sz2 old2 new2 hb
  obtain ⟨g3, hg3, e3, m3⟩ := x3
  have x3 := e3
  clear e3
  have nm1_3 : g1 ≠ g3 := Nat.ne_of_lt (Nat.lt_of_lt_of_le lt_m1 hg3)
  have nm2_3 : g2 ≠ g3 := Nat.ne_of_lt (Nat.lt_of_lt_of_le lt_m2 hg3)
  have hw3 : w.heap.size ≤ g3 := Nat.le_trans bl0.size hg3
  refine wl_one (.eq (.bool false)) rfl 4 rfl (by rw [sz]; decide) (st_assign (.const (.bool false)) rfl rfl) ?_
  intro f5 w5 df2 sz2 old2 new2 hb
  replace bl0 := bl
  replace x1 := (old2 1 rfl).trans x1
  replace x2 := (old2 2 rfl).trans x2
  replace x3 := (old2 3 rfl).trans x3
  have x4 : f5.eval (.tmp 4) = .bool false := new2
  have lt_m1 := Ob.lt m1
  replace m1 := Ob.below m1 hb
  have lt_m2 := Ob.lt m2
  replace m2 := Ob.below m2 hb
  have lt_m3 := Ob.lt m3
  replace m3 := Ob.below m3 hb
  replace bl := (bl.trans (Below.mono hb bl.size))
  replace sz := sz2.trans sz
  replace df := df2.trans df
  clear df2 sz2 old2 new2 hb
  refine wpList_nil ?_
  show Code.wp _ _ _ _ _
  refine wp_seq ?_
  refine wp_all_seq [.eq (.pointer (some ⟨g1, 0, none⟩)), .eq (.int .i64 ((m : Nat) : Int)), .eq (.pointer (some ⟨g1, 1, none⟩)), .eq (.int .i64 ((n : Nat) : Int)), .tob w.heap.size c (S), .tob w.heap.size c (S), .eq (.bool c), .ob w.heap.size (S), .eq (.bool c), .ob w.heap.size (S)] (by kernel_rfl) (by kernel_rfl) (by rw [sz]; kernel_rfl) (by kernel_rfl) ⟨fun hw ac u K => ?_, fun hw ac u K => ?_, fun hw ac u K => ?_, fun hw ac u K => ?_, fun hw ac u K => ?_, fun hw ac u K => ?_, fun hw ac u K => ?_, fun hw ac u K => ?_, fun hw ac u K => ?_, fun hw ac u K => ?_, trivial⟩ ?_
  · exact st_field 38 0 (.tmp 1) rfl ((K.old 1 rfl).trans x1) (by kernel_rfl)
  · exact st_loadc 3 (.tmp 13) rfl (by kernel_rfl) (K.dep 0 13 rfl) (ob_cell_at (Ob.below m1 K.grow) (([] : List Value)) (([.int .i64 ((n : Nat) : Int)] : List Value) ++ ((old).map V ++ ((rt).map V ++ (([.slice pA (P).length pC] : List Value))))) _ 0 (by simp) (by rfl))
  · exact st_field 38 1 (.tmp 1) rfl ((K.old 1 rfl).trans x1) (by kernel_rfl)
  · exact st_loadc 3 (.tmp 15) rfl (by kernel_rfl) (K.dep 2 15 rfl) (ob_cell_at (Ob.below m1 K.grow) (([.int .i64 ((m : Nat) : Int)] : List Value)) ((old).map V ++ ((rt).map V ++ (([.slice pA (P).length pC] : List Value)))) _ 1 (by simp) (by rfl))
  · exact st_call 31 (.func 31) _ _ #[.int .i64 ((m : Nat) : Int), .int .i64 ((n : Nat) : Int), .bool true] rfl rfl (arg3 (K.dep 1 14 rfl) (K.dep 3 16 rfl) rfl) Tryd.enter31 (fk_tob (bl.trans (Below.mono K.grow bl.size)).size hS (steps_any n m true _ (by omega) hn hm1 hm2))
  · exact st_move (.tmp 17) rfl (K.dep 4 17 rfl)
  · exact st_tob0 (.tmp 12) rfl (K.dep 5 12 rfl)
  · exact st_tob1 (.tmp 12) rfl (K.dep 5 12 rfl)
  · exact st_assign (.tmp 18) rfl (K.dep 6 18 rfl)
  · exact st_assign (.tmp 19) rfl (K.dep 7 19 rfl)
  intro f6 w6 A hb
  replace bl0 := bl
  replace x1 := (A.old 1 rfl).trans x1
  replace x2 := (A.old 2 rfl).trans x2
  replace x3 := (A.old 3 rfl).trans x3
  replace x4 := (A.old 4 rfl).trans x4
  have x5 : f6.eval (.tmp 5) = .bool c := A.has 8 5 rfl
  have x6 : Fk.f (.ob w.heap.size (S)) (f6.eval (.tmp 6)) w6 := A.has 9 6 rfl
  have lt_m1 := Ob.lt m1
  replace m1 := Ob.below m1 hb
  have lt_m2 := Ob.lt m2
  replace m2 := Ob.below m2 hb
  have lt_m3 := Ob.lt m3
  replace m3 := Ob.below m3 hb
  replace bl := (bl.trans (Below.mono hb bl.size))
  replace sz := A.size.trans sz
  replace df := A.defs.trans df
  clear A hb
  obtain ⟨v6, e6⟩ : ∃ v, f6.eval (.tmp 6) = v := ⟨_, rfl⟩
  have h6 := ob_bs x6
  rw [e6] at h6
  replace x6 := e6
  clear e6
  rw [hc] at x5
  show Code.wp _ _ _ _ _
  refine wp_seq ?_
  refine wp_all_seq [.eq (.pointer (some ⟨g1, 66, none⟩)), .eq (.slice pA (P).length pC), .eq (.slice pA (P).length pC)] (by kernel_rfl) (by kernel_rfl) (by rw [sz]; kernel_rfl) (by kernel_rfl) ⟨fun hw ac u K => ?_, fun hw ac u K => ?_, fun hw ac u K => ?_, trivial⟩ ?_
  · exact st_field 38 4 (.tmp 1) rfl ((K.old 1 rfl).trans x1) (by kernel_rfl)
  · exact st_loadc 24 (.tmp 20) rfl (by kernel_rfl) (K.dep 0 20 rfl) (ob_cell_at (Ob.below m1 K.grow) (([.int .i64 ((m : Nat) : Int), .int .i64 ((n : Nat) : Int)] : List Value) ++ ((old).map V ++ ((rt).map V))) (([] : List Value)) _ 66 (by simp) (by simp [hold, hrt]))
  · exact st_assign (.tmp 21) rfl (K.dep 1 21 rfl)
  intro f7 w7 A hb
  replace bl0 := bl
  replace x1 := (A.old 1 rfl).trans x1
  replace x2 := (A.old 2 rfl).trans x2
  replace x3 := (A.old 3 rfl).trans x3
  replace x4 := (A.old 4 rfl).trans x4
  replace x5 := (A.old 5 rfl).trans x5
  replace x6 := (A.old 6 rfl).trans x6
  have x7 : f7.eval (.tmp 7) = .slice pA (P).length pC := A.has 2 7 rfl
  have lt_m1 := Ob.lt m1
  replace m1 := Ob.below m1 hb
  have lt_m2 := Ob.lt m2
  replace m2 := Ob.below m2 hb
  have lt_m3 := Ob.lt m3
  replace m3 := Ob.below m3 hb
  replace h6 := Fk.mono _ _ _ _ h6 hb
  replace bl := (bl.trans (Below.mono hb bl.size))
  replace sz := A.size.trans sz
  replace df := A.defs.trans df
  clear A hb
  have blw := bl
  replace hvR := Fk.mono _ _ _ _ hvR bl
  replace hvRs := Fk.mono _ _ _ _ hvRs bl
  replace hK := hK.below bl
  replace bl := Below.refl w7.heap.size w7
  replace bl0 := bl
  show Code.wp _ _ _ _ _
  refine wp_seq ?_
  refine wp_region_seq [.eq (.pointer (some ⟨g1, 2, none⟩)), .eq (.agg ((old).map V).toArray)] (by kernel_rfl) (by kernel_rfl) (by rw [sz]; kernel_rfl) (by kernel_rfl) ⟨fun hw ac u K => ?_, fun hw ac u K => ?_, trivial⟩ ?_
  · exact st_field 38 2 (.tmp 1) rfl ((K.old 1 rfl).trans x1) (by kernel_rfl)
  · exact st_loadz 23 (.tmp 22) rfl (g1) 2 ((old).map V) (by kernel_rfl) (by rw [List.length_map, hold]; kernel_rfl) (K.dep 0 22 rfl) (ob_range_at (Ob.below m1 (bl.trans (Below.mono K.grow bl.size))) (([.int .i64 ((m : Nat) : Int), .int .i64 ((n : Nat) : Int)] : List Value)) ((rt).map V ++ (([.slice pA (P).length pC] : List Value))) _ 2 (by simp) (by rfl))
  intro f8 w8 A hb
  replace bl0 := bl
  replace x1 := (A.old 1 rfl).trans x1
  replace x2 := (A.old 2 rfl).trans x2
  replace x3 := (A.old 3 rfl).trans x3
  replace x4 := (A.old 4 rfl).trans x4
  replace x5 := (A.old 5 rfl).trans x5
  replace x6 := (A.old 6 rfl).trans x6
  replace x7 := (A.old 7 rfl).trans x7
  have x23 : f8.eval (.tmp 23) = .agg ((old).map V).toArray := A.has 1 23 rfl
  replace bl := (bl.trans (Below.mono hb bl.size))
  replace sz := A.size.trans sz
  replace df := A.defs.trans df
  clear A hb
  refine wl_one (.nw w8.heap.size 23 ((hz).map V)) rfl 8 rfl (by rw [sz]; decide) (st_alloc23 rfl _ (Nat.le_refl _)) ?_
  intro f9 w9 df2 sz2 old2 new2 hb
  replace bl0 := bl
  replace x1 := (old2 1 rfl).trans x1
  replace x2 := (old2 2 rfl).trans x2
  replace x3 := (old2 3 rfl).trans x3
  replace x4 := (old2 4 rfl).trans x4
  replace x5 := (old2 5 rfl).trans x5
  replace x6 := (old2 6 rfl).trans x6
  replace x7 := (old2 7 rfl).trans x7
  replace x23 := (old2 23 rfl).trans x23
  have x8 : Fk.f (.nw w8.heap.size 23 ((hz).map V)) (f9.eval (.tmp 8)) w9 := new2
  replace bl := (bl.trans (Below.mono hb bl.size))
  replace sz := sz2.trans sz
  replace df := df2.trans df
  clear df2 sz2 old2 new2 hb
  obtain ⟨g8, hg8, e8, m8⟩ := x8
  have x8 := e8
  clear e8
  have nm1_8 : g1 ≠ g8 := Nat.ne_of_lt (Nat.lt_of_lt_of_le (Ob.lt m1) (Nat.le_trans bl0.size hg8))
  have nm2_8 : g2 ≠ g8 := Nat.ne_of_lt (Nat.lt_of_lt_of_le (Ob.lt m2) (Nat.le_trans bl0.size hg8))
  have nm3_8 : g3 ≠ g8 := Nat.ne_of_lt (Nat.lt_of_lt_of_le (Ob.lt m3) (Nat.le_trans bl0.size hg8))
  have hw8 : w7.heap.size ≤ g8 := Nat.le_trans bl0.size hg8
  refine wl_store rfl (.tmp 8) (.tmp 23) rfl rfl (g8) (old) (hz) x8 x23 m8 hz_len hold ?_
  replace m8 : Ob (w9.setRow g8 ((old).map V : List Value).toArray) (g8) 23 ((old).map V) := Ob.setRow m8 ((old).map V)
  replace bl : Below w7.heap.size w7 (w9.setRow g8 ((old).map V : List Value).toArray) := bl.trans (below_setRow _ _ _ _ hw8)
  generalize w9.setRow g8 ((old).map V : List Value).toArray = w10b at bl m8 ⊢
  refine wpList_nil ?_
  clear x23
  have hw8r : w7.heap.size ≤ g8 := hw8
  show Code.wp _ _ _ _ _
  refine wp_seq ?_
  refine wp_seq ?_
  refine wp_all_seq [.eq (.bool false)] (by kernel_rfl) (by kernel_rfl) (by rw [sz]; kernel_rfl) (by kernel_rfl) ⟨fun hw ac u K => ?_, trivial⟩ ?_
  · exact st_move (.tmp 5) rfl ((K.old 5 rfl).trans x5)
  intro f11 w11 A hb
  replace bl0 := bl
  replace x1 := (A.old 1 rfl).trans x1
  replace x2 := (A.old 2 rfl).trans x2
  replace x3 := (A.old 3 rfl).trans x3
  replace x4 := (A.old 4 rfl).trans x4
  replace x5 := (A.old 5 rfl).trans x5
  replace x6 := (A.old 6 rfl).trans x6
  replace x7 := (A.old 7 rfl).trans x7
  replace x8 := (A.old 8 rfl).trans x8
  have x24 : f11.eval (.tmp 24) = .bool false := A.has 0 24 rfl
  have lt_m8 := Ob.lt m8
  replace m8 := Ob.below m8 hb
  replace bl := (bl.trans (Below.mono hb bl.size))
  replace sz := A.size.trans sz
  replace df := A.defs.trans df
  clear A hb
  clear x5
  show Code.wp _ _ _ _ _
  refine wp_cond_false x24 ?_
  refine wp_skip ?_
  show Code.wp _ _ _ _ _
  refine wp_seq ?_
  refine wp_seq ?_
  refine wp_all_seq [.eq (.slice pA (P).length pC), .eq (.int .i64 (((R).length : Nat) : Int)), .eq (v6), .eq (.int .i64 (((S).length : Nat) : Int)), .eq (.bool false)] (by kernel_rfl) (by kernel_rfl) (by rw [sz]; kernel_rfl) (by kernel_rfl) ⟨fun hw ac u K => ?_, fun hw ac u K => ?_, fun hw ac u K => ?_, fun hw ac u K => ?_, fun hw ac u K => ?_, trivial⟩ ?_
  · exact st_move (.tmp 7) rfl ((K.old 7 rfl).trans x7)
  · exact st_lenc (.tmp 35) rfl _ rfl (fk_val (K.dep 0 35 rfl) (Fk.mono _ _ _ _ hvR (bl.trans (Below.mono K.grow bl.size))))
  · exact st_move (.tmp 6) rfl ((K.old 6 rfl).trans x6)
  · exact st_lenbs (.tmp 37) rfl (fk_val (K.dep 2 37 rfl) (Fk.mono _ _ _ _ h6 (bl.trans (Below.mono K.grow bl.size))))
  · exact st_neqi 3 (.tmp 36) (.tmp 38) rfl .i64 ((((R).length : Nat) : Int)) ((((S).length : Nat) : Int)) (K.dep 1 36 rfl) (K.dep 3 38 rfl) _ (by simp [hRl])
  intro f12 w12 A hb
  replace bl0 := bl
  replace x1 := (A.old 1 rfl).trans x1
  replace x2 := (A.old 2 rfl).trans x2
  replace x3 := (A.old 3 rfl).trans x3
  replace x4 := (A.old 4 rfl).trans x4
  replace x6 := (A.old 6 rfl).trans x6
  replace x7 := (A.old 7 rfl).trans x7
  replace x8 := (A.old 8 rfl).trans x8
  replace x24 := (A.old 24 rfl).trans x24
  have x39 : f12.eval (.tmp 39) = .bool false := A.has 4 39 rfl
  have lt_m8 := Ob.lt m8
  replace m8 := Ob.below m8 hb
  replace bl := (bl.trans (Below.mono hb bl.size))
  replace sz := A.size.trans sz
  replace df := A.defs.trans df
  clear A hb
  show Code.wp _ _ _ _ _
  refine wp_cond_false x39 ?_
  refine wp_skip ?_
  show Code.wp _ _ _ _ _
  refine wp_seq ?_
  refine wp_region_seq [.eq (.agg ((old).map V).toArray)] (by kernel_rfl) (by kernel_rfl) (by rw [sz]; kernel_rfl) (by kernel_rfl) ⟨fun hw ac u K => ?_, trivial⟩ ?_
  · exact st_load23 (.tmp 8) rfl (g8) (old) ((K.old 8 rfl).trans x8) hold (Ob.below m8 K.grow)
  intro f13 w13 A hb
  replace bl0 := bl
  replace x1 := (A.old 1 rfl).trans x1
  replace x2 := (A.old 2 rfl).trans x2
  replace x3 := (A.old 3 rfl).trans x3
  replace x4 := (A.old 4 rfl).trans x4
  replace x6 := (A.old 6 rfl).trans x6
  replace x7 := (A.old 7 rfl).trans x7
  replace x8 := (A.old 8 rfl).trans x8
  replace x24 := (A.old 24 rfl).trans x24
  replace x39 := (A.old 39 rfl).trans x39
  have x42 : f13.eval (.tmp 42) = .agg ((old).map V).toArray := A.has 0 42 rfl
  have lt_m8 := Ob.lt m8
  replace m8 := Ob.below m8 hb
  replace bl := (bl.trans (Below.mono hb bl.size))
  replace sz := A.size.trans sz
  replace df := A.defs.trans df
  clear A hb
  refine wl_one (.nw w13.heap.size 23 ((hz).map V)) rfl 9 rfl (by rw [sz]; decide) (st_alloc23 rfl _ (Nat.le_refl _)) ?_
  intro f14 w14 df2 sz2 old2 new2 hb
  replace bl0 := bl
  replace x1 := (old2 1 rfl).trans x1
  replace x2 := (old2 2 rfl).trans x2
  replace x3 := (old2 3 rfl).trans x3
  replace x4 := (old2 4 rfl).trans x4
  replace x6 := (old2 6 rfl).trans x6
  replace x7 := (old2 7 rfl).trans x7
  replace x8 := (old2 8 rfl).trans x8
  replace x24 := (old2 24 rfl).trans x24
  replace x39 := (old2 39 rfl).trans x39
  replace x42 := (old2 42 rfl).trans x42
  have x9 : Fk.f (.nw w13.heap.size 23 ((hz).map V)) (f14.eval (.tmp 9)) w14 := new2
  have lt_m8 := Ob.lt m8
  replace m8 := Ob.below m8 hb
  replace bl := (bl.trans (Below.mono hb bl.size))
  replace sz := sz2.trans sz
  replace df := df2.trans df
  clear df2 sz2 old2 new2 hb
  obtain ⟨g9, hg9, e9, m9⟩ := x9
  have x9 := e9
  clear e9
  have nm1_9 : g1 ≠ g9 := Nat.ne_of_lt (Nat.lt_of_lt_of_le (Ob.lt m1) (Nat.le_trans bl0.size hg9))
  have nm2_9 : g2 ≠ g9 := Nat.ne_of_lt (Nat.lt_of_lt_of_le (Ob.lt m2) (Nat.le_trans bl0.size hg9))
  have nm3_9 : g3 ≠ g9 := Nat.ne_of_lt (Nat.lt_of_lt_of_le (Ob.lt m3) (Nat.le_trans bl0.size hg9))
  have nm8_9 : g8 ≠ g9 := Nat.ne_of_lt (Nat.lt_of_lt_of_le lt_m8 hg9)
  have hw9 : w7.heap.size ≤ g9 := Nat.le_trans bl0.size hg9
  refine wl_store rfl (.tmp 9) (.tmp 42) rfl rfl (g9) (old) (hz) x9 x42 m9 hz_len hold ?_
  replace m8 : Ob (w14.setRow g9 ((old).map V : List Value).toArray) (g8) 23 ((old).map V) := Ob.setRow_other m8 _ nm8_9
  replace m9 : Ob (w14.setRow g9 ((old).map V : List Value).toArray) (g9) 23 ((old).map V) := Ob.setRow m9 ((old).map V)
  replace bl : Below w7.heap.size w7 (w14.setRow g9 ((old).map V : List Value).toArray) := bl.trans (below_setRow _ _ _ _ hw9)
  generalize w14.setRow g9 ((old).map V : List Value).toArray = w15b at bl m8 m9 ⊢
  refine wpList_nil ?_
  clear x42
  show Code.wp _ _ _ _ _
  refine wp_seq ?_
  refine wp_seq ?_
  refine wp_all_seq [.eq (v6), .eq (.int .i64 (((S).length : Nat) : Int)), .eq (.int .i64 0)] (by kernel_rfl) (by kernel_rfl) (by rw [sz]; kernel_rfl) (by kernel_rfl) ⟨fun hw ac u K => ?_, fun hw ac u K => ?_, fun hw ac u K => ?_, trivial⟩ ?_
  · exact st_move (.tmp 6) rfl ((K.old 6 rfl).trans x6)
  · exact st_lenbs (.tmp 43) rfl (fk_val (K.dep 0 43 rfl) (Fk.mono _ _ _ _ h6 (bl.trans (Below.mono K.grow bl.size))))
  · exact st_move (.const (.int .i64 0)) rfl rfl
  intro f16 w16 A hb
  replace bl0 := bl
  replace x1 := (A.old 1 rfl).trans x1
  replace x2 := (A.old 2 rfl).trans x2
  replace x3 := (A.old 3 rfl).trans x3
  replace x4 := (A.old 4 rfl).trans x4
  replace x6 := (A.old 6 rfl).trans x6
  replace x7 := (A.old 7 rfl).trans x7
  replace x8 := (A.old 8 rfl).trans x8
  replace x24 := (A.old 24 rfl).trans x24
  replace x39 := (A.old 39 rfl).trans x39
  replace x9 := (A.old 9 rfl).trans x9
  have x43 : f16.eval (.tmp 43) = v6 := A.has 0 43 rfl
  have x44 : f16.eval (.tmp 44) = .int .i64 (((S).length : Nat) : Int) := A.has 1 44 rfl
  have x45 : f16.eval (.tmp 45) = .int .i64 0 := A.has 2 45 rfl
  have lt_m8 := Ob.lt m8
  replace m8 := Ob.below m8 hb
  have lt_m9 := Ob.lt m9
  replace m9 := Ob.below m9 hb
  replace bl := (bl.trans (Below.mono hb bl.size))
  replace sz := A.size.trans sz
  replace df := A.defs.trans df
  clear A hb
  show Code.wp _ _ _ _ _
  refine wp_block ?_
  refine wp_loop (fun f v1 => ∃ k : Nat, k ≤ (S).length ∧ f.tmps.size = 67 ∧ f.defers = [] ∧ f.eval (.tmp 1) = .pointer (some ⟨g1, 0, none⟩) ∧ f.eval (.tmp 2) = .pointer (some ⟨g2, 0, none⟩) ∧ f.eval (.tmp 3) = .pointer (some ⟨g3, 0, none⟩) ∧ f.eval (.tmp 4) = .bool false ∧ f.eval (.tmp 6) = v6 ∧ f.eval (.tmp 7) = .slice pA (P).length pC ∧ f.eval (.tmp 8) = .pointer (some ⟨g8, 0, none⟩) ∧ f.eval (.tmp 24) = .bool false ∧ f.eval (.tmp 39) = .bool false ∧ f.eval (.tmp 9) = .pointer (some ⟨g9, 0, none⟩) ∧ f.eval (.tmp 43) = v6 ∧ f.eval (.tmp 44) = .int .i64 (((S).length : Nat) : Int) ∧ f.eval (.tmp 45) = .int .i64 ((k : Nat) : Int) ∧ Ob v1 (g8) 23 (((bk st R S k).1).map V) ∧ Ob v1 (g9) 23 (((bk st R S k).2).map V) ∧ Below w7.heap.size w7 (v1)) (fun f _ => (S).length - (intOf (f.eval (.tmp 45))).toNat) ⟨0, Nat.zero_le _, sz, df, x1, x2, x3, x4, x6, x7, x8, x24, x39, x9, x43, x44, x45, (by rw [bk_zero, hst]; exact m8), (by rw [bk_zero, hst]; exact m9), bl⟩ ?_
  intro f17 w17 hI
  clear sz df bl bl0 x1 x2 x3 x4 x6 x7 x8 x24 x39 x9 x43 x44 x45 m8 m9
  obtain ⟨k, hk, sz, df, x1, x2, x3, x4, x6, x7, x8, x24, x39, x9, x43, x44, x45, m8, m9, bl⟩ := hI
  have bl0 := bl
  have hcnt := x45
  refine wp_seq ?_
  by_cases hlt : k < (S).length
  rotate_left
  · skip
    refine wp_all_seq [.eq (.bool false)] (by kernel_rfl) (by kernel_rfl) (by rw [sz]; kernel_rfl) (by kernel_rfl) ⟨fun hw ac u K => ?_, trivial⟩ ?_
    · exact st_lss 3 (.tmp 45) (.tmp 44) rfl .i64 (((k : Nat) : Int)) ((((S).length : Nat) : Int)) ((K.old 45 rfl).trans x45) ((K.old 44 rfl).trans x44) _ (by rw [eq_comm, decide_eq_false_iff_not]; exact fun h => hlt (Int.ofNat_lt.1 h))
    intro f18 w18 A hb
    replace bl0 := bl
    replace x1 := (A.old 1 rfl).trans x1
    replace x2 := (A.old 2 rfl).trans x2
    replace x3 := (A.old 3 rfl).trans x3
    replace x4 := (A.old 4 rfl).trans x4
    replace x6 := (A.old 6 rfl).trans x6
    replace x7 := (A.old 7 rfl).trans x7
    replace x8 := (A.old 8 rfl).trans x8
    replace x24 := (A.old 24 rfl).trans x24
    replace x39 := (A.old 39 rfl).trans x39
    replace x9 := (A.old 9 rfl).trans x9
    replace x43 := (A.old 43 rfl).trans x43
    replace x44 := (A.old 44 rfl).trans x44
    replace x45 := (A.old 45 rfl).trans x45
    have x46 : f18.eval (.tmp 46) = .bool false := A.has 0 46 rfl
    have lt_m8 := Ob.lt m8
    replace m8 := Ob.below m8 hb
    have lt_m9 := Ob.lt m9
    replace m9 := Ob.below m9 hb
    replace bl := (bl.trans (Below.mono hb bl.size))
    replace sz := A.size.trans sz
    replace df := A.defs.trans df
    clear A hb
    show Code.wp _ _ _ _ _
    refine wp_seq ?_
    refine wp_cond_false x46 ?_
    refine wp_exit ?_
    show Code.wp _ _ _ _ _
    refine wp_seq ?_
    have hkS : k = (S).length := by omega
    rw [hkS, bk_all st hRl, hxy] at m8 m9
    dsimp only at m8 m9
    replace m1 := Ob.below m1 bl
    replace m2 := Ob.below m2 bl
    replace m3 := Ob.below m3 bl
    replace bl := blw.trans (Below.mono bl blw.size)
    replace bl0 := bl
    have lt2B := Ob.lt m2
    refine wp_region_held_drew (S := fun W => Ob W g8 23 ((xa).map V) ∧ Ob W g9 23 ((xb).map V)) Tryd.mixed ⟨m8, m9⟩ (fun hS0 => ?_)
    replace m2 : Ob w18.drew g2 23 ((hz).map V) := m2
    replace m3 : Ob w18.drew g3 23 ((hz).map V) := m3
    replace bl := bl.drew
    clear bl0 m8 m9
    generalize w18.drew = w19 at hS0 m2 m3 bl ⊢
    refine wh_take 0 65 (v := .agg ((xa).map V).toArray) rfl rfl (by rw [sz]; decide) rfl (by kernel_rfl) (by kernel_rfl) (by kernel_rfl) (fun _ _ _ h => h) (run_ldh rfl hxa x8 (fun W hW => Ob.range hW.1 0 _ (fun j v hj => by simpa using hj))) hS0 ?_
    intro f20 df2 sz2 old2 new2
    replace x1 := (old2 1 rfl).trans x1
    replace x2 := (old2 2 rfl).trans x2
    replace x3 := (old2 3 rfl).trans x3
    replace x4 := (old2 4 rfl).trans x4
    replace x6 := (old2 6 rfl).trans x6
    replace x7 := (old2 7 rfl).trans x7
    replace x8 := (old2 8 rfl).trans x8
    replace x24 := (old2 24 rfl).trans x24
    replace x39 := (old2 39 rfl).trans x39
    replace x9 := (old2 9 rfl).trans x9
    replace x43 := (old2 43 rfl).trans x43
    replace x44 := (old2 44 rfl).trans x44
    replace x45 := (old2 45 rfl).trans x45
    replace x46 := (old2 46 rfl).trans x46
    have x65 : f20.eval (.tmp 65) = .agg ((xa).map V).toArray := new2
    replace sz := sz2.trans sz
    replace df := df2.trans df
    clear df2 sz2 old2 new2
    refine wh_take 1 66 (v := .agg ((xb).map V).toArray) rfl rfl (by rw [sz]; decide) rfl (by kernel_rfl) (by kernel_rfl) (by kernel_rfl) (fun _ _ _ h => h) (run_ldh rfl hxb x9 (fun W hW => Ob.range hW.2 0 _ (fun j v hj => by simpa using hj))) hS0 ?_
    intro f21 df2 sz2 old2 new2
    replace x1 := (old2 1 rfl).trans x1
    replace x2 := (old2 2 rfl).trans x2
    replace x3 := (old2 3 rfl).trans x3
    replace x4 := (old2 4 rfl).trans x4
    replace x6 := (old2 6 rfl).trans x6
    replace x7 := (old2 7 rfl).trans x7
    replace x8 := (old2 8 rfl).trans x8
    replace x24 := (old2 24 rfl).trans x24
    replace x39 := (old2 39 rfl).trans x39
    replace x9 := (old2 9 rfl).trans x9
    replace x43 := (old2 43 rfl).trans x43
    replace x44 := (old2 44 rfl).trans x44
    replace x45 := (old2 45 rfl).trans x45
    replace x46 := (old2 46 rfl).trans x46
    replace x65 := (old2 65 rfl).trans x65
    have x66 : f21.eval (.tmp 66) = .agg ((xb).map V).toArray := new2
    replace sz := sz2.trans sz
    replace df := df2.trans df
    clear df2 sz2 old2 new2
    have hS1 : Ob (w19.setRow g2 ((xa).map V : List Value).toArray) g8 23 ((xa).map V) ∧ Ob (w19.setRow g2 ((xa).map V : List Value).toArray) g9 23 ((xb).map V) := ⟨Ob.setRow_other hS0.1 _ (by omega), Ob.setRow_other hS0.2 _ (by omega)⟩
    refine wh_store 2 rfl rfl rfl (by kernel_rfl) (.tmp 2) (.tmp 65) rfl g2 (xa) (hz) x2 x65 m2 hz_len hxa hS1 ?_
    replace m2 : Ob (w19.setRow g2 ((xa).map V : List Value).toArray) (g2) 23 ((xa).map V) := Ob.setRow m2 ((xa).map V)
    replace m3 : Ob (w19.setRow g2 ((xa).map V : List Value).toArray) (g3) 23 ((hz).map V) := Ob.setRow_other m3 _ (by omega)
    replace bl : Below w.heap.size w (w19.setRow g2 ((xa).map V : List Value).toArray) := bl.trans (below_setRow _ _ _ _ hw2)
    replace hS0 := hS1
    clear hS1
    generalize w19.setRow g2 ((xa).map V : List Value).toArray = w22 at hS0 m2 m3 bl ⊢
    have hS1 : Ob (w22.setRow g3 ((xb).map V : List Value).toArray) g8 23 ((xa).map V) ∧ Ob (w22.setRow g3 ((xb).map V : List Value).toArray) g9 23 ((xb).map V) := ⟨Ob.setRow_other hS0.1 _ (by omega), Ob.setRow_other hS0.2 _ (by omega)⟩
    refine wh_store 3 rfl rfl rfl (by kernel_rfl) (.tmp 3) (.tmp 66) rfl g3 (xb) (hz) x3 x66 m3 hz_len hxb hS1 ?_
    replace m3 : Ob (w22.setRow g3 ((xb).map V : List Value).toArray) (g3) 23 ((xb).map V) := Ob.setRow m3 ((xb).map V)
    replace m2 : Ob (w22.setRow g3 ((xb).map V : List Value).toArray) (g2) 23 ((xa).map V) := Ob.setRow_other m2 _ (by omega)
    replace bl : Below w.heap.size w (w22.setRow g3 ((xb).map V : List Value).toArray) := bl.trans (below_setRow _ _ _ _ hw3)
    replace hS0 := hS1
    clear hS1
    generalize w22.setRow g3 ((xb).map V : List Value).toArray = w23 at hS0 m2 m3 bl ⊢
    refine wh_assign 4 4 rfl rfl (by rw [sz]; decide) rfl (by kernel_rfl) (.const (.bool true)) rfl hS0 ?_
    intro f24 df2 sz2 old2 new2
    replace x2 := (old2 2 rfl).trans x2
    replace x3 := (old2 3 rfl).trans x3
    replace x4 : f24.eval (.tmp 4) = .bool true := new2
    replace sz := sz2.trans sz
    replace df := df2.trans df
    refine wpAnyH_done (by kernel_rfl) ?_ _
    show Code.wp _ _ _ _ _
    refine wp_ret ?_
    repeat (first | with_reducible refine then_ret ?_ | with_reducible refine block_ret ?_)
    exact bodyPost_ret (v := .tuple #[.agg ((xa).map V).toArray, .agg ((xb).map V).toArray, .bool true]) (ret_hhb rfl f24 _ g2 g3 (xa) (xb) true hxa hxb x2 x3 m2 m3 x4) df ⟨rfl, bl⟩
  obtain ⟨bb, hSk⟩ : ∃ b, S[k]? = some b := ⟨_, List.getElem?_eq_getElem hlt⟩
  obtain ⟨p, hRk⟩ : ∃ p, R[k]? = some p := ⟨_, List.getElem?_eq_getElem (by omega)⟩
  have hp : p.length = 32 := hc_len hvR p (List.mem_of_getElem? hRk)
  have hbk := bk_succ st hRk hSk
  obtain ⟨y1, ey1⟩ : ∃ y, Box (nd p (bk st R S k).1 = y) := ⟨_, ⟨rfl⟩⟩
  obtain ⟨y2, ey2⟩ : ∃ y, Box (jon (bk st R S k).2 (p, bb) = y) := ⟨_, ⟨rfl⟩⟩
  have hy1 : y1.length = 32 := by rw [← ey1.out]; exact nd_len _ _
  have hy2 : y2.length = 32 := by rw [← ey2.out]; exact jon_len _ _
  have hbk2 : (bk st R S (k + 1)).2 = y2 := by rw [hbk, bst_2]; exact ey2.out
  refine wp_all_seq [.eq (.bool true)] (by kernel_rfl) (by kernel_rfl) (by rw [sz]; kernel_rfl) (by kernel_rfl) ⟨fun hw ac u K => ?_, trivial⟩ ?_
  · exact st_lss 3 (.tmp 45) (.tmp 44) rfl .i64 (((k : Nat) : Int)) ((((S).length : Nat) : Int)) ((K.old 45 rfl).trans x45) ((K.old 44 rfl).trans x44) _ (by rw [eq_comm, decide_eq_true_iff]; exact Int.ofNat_lt.2 hlt)
  intro f18 w18 A hb
  replace bl0 := bl
  replace x1 := (A.old 1 rfl).trans x1
  replace x2 := (A.old 2 rfl).trans x2
  replace x3 := (A.old 3 rfl).trans x3
  replace x4 := (A.old 4 rfl).trans x4
  replace x6 := (A.old 6 rfl).trans x6
  replace x7 := (A.old 7 rfl).trans x7
  replace x8 := (A.old 8 rfl).trans x8
  replace x24 := (A.old 24 rfl).trans x24
  replace x39 := (A.old 39 rfl).trans x39
  replace x9 := (A.old 9 rfl).trans x9
  replace x43 := (A.old 43 rfl).trans x43
  replace x44 := (A.old 44 rfl).trans x44
  replace x45 := (A.old 45 rfl).trans x45
  have x46 : f18.eval (.tmp 46) = .bool true := A.has 0 46 rfl
  have lt_m8 := Ob.lt m8
  replace m8 := Ob.below m8 hb
  have lt_m9 := Ob.lt m9
  replace m9 := Ob.below m9 hb
  replace bl := (bl.trans (Below.mono hb bl.size))
  replace sz := A.size.trans sz
  replace df := A.defs.trans df
  clear A hb
  show Code.wp _ _ _ _ _
  refine wp_seq ?_
  refine wp_cond_true x46 ?_
  refine wp_skip ?_
  show Code.wp _ _ _ _ _
  refine wp_seq ?_
  refine wp_block ?_
  refine wp_seq ?_
  refine wp_all_seq [.eq (.int .i64 ((k : Nat) : Int)), .prg [.bool bb], .eq (.bool bb), .eq (.int .i64 ((k : Nat) : Int)), .eq (.bool bb)] (by kernel_rfl) (by kernel_rfl) (by rw [sz]; kernel_rfl) (by kernel_rfl) ⟨fun hw ac u K => ?_, fun hw ac u K => ?_, fun hw ac u K => ?_, fun hw ac u K => ?_, fun hw ac u K => ?_, trivial⟩ ?_
  · exact st_move (.tmp 45) rfl ((K.old 45 rfl).trans x45)
  · exact st_idxbs (.tmp 43) (.tmp 45) rfl (fk_val ((K.old 43 rfl).trans x43) (Fk.mono _ _ _ _ h6 (bl.trans (Below.mono K.grow bl.size)))) k ((K.old 45 rfl).trans x45) bb hSk
  · exact st_loadr1 4 (.tmp 48) rfl (by kernel_rfl) (K.dep 1 48 rfl)
  · exact st_assign (.tmp 47) rfl (K.dep 0 47 rfl)
  · exact st_assign (.tmp 49) rfl (K.dep 2 49 rfl)
  intro f19 w19 A hb
  replace bl0 := bl
  replace x1 := (A.old 1 rfl).trans x1
  replace x2 := (A.old 2 rfl).trans x2
  replace x3 := (A.old 3 rfl).trans x3
  replace x4 := (A.old 4 rfl).trans x4
  replace x6 := (A.old 6 rfl).trans x6
  replace x7 := (A.old 7 rfl).trans x7
  replace x8 := (A.old 8 rfl).trans x8
  replace x24 := (A.old 24 rfl).trans x24
  replace x39 := (A.old 39 rfl).trans x39
  replace x9 := (A.old 9 rfl).trans x9
  replace x43 := (A.old 43 rfl).trans x43
  replace x44 := (A.old 44 rfl).trans x44
  replace x45 := (A.old 45 rfl).trans x45
  replace x46 := (A.old 46 rfl).trans x46
  have x10 : f19.eval (.tmp 10) = .int .i64 ((k : Nat) : Int) := A.has 3 10 rfl
  have x11 : f19.eval (.tmp 11) = .bool bb := A.has 4 11 rfl
  have lt_m8 := Ob.lt m8
  replace m8 := Ob.below m8 hb
  have lt_m9 := Ob.lt m9
  replace m9 := Ob.below m9 hb
  replace bl := (bl.trans (Below.mono hb bl.size))
  replace sz := A.size.trans sz
  replace df := A.defs.trans df
  clear A hb
  show Code.wp _ _ _ _ _
  refine wp_seq ?_
  refine wp_seq ?_
  cases bb
  rotate_left
  · skip
    have hbk1 : (bk st R S (k + 1)).1 = y1 := by rw [hbk, bst_t]; exact ey1.out
    refine wp_all_seq [.eq (.bool true)] (by kernel_rfl) (by kernel_rfl) (by rw [sz]; kernel_rfl) (by kernel_rfl) ⟨fun hw ac u K => ?_, trivial⟩ ?_
    · exact st_move (.tmp 11) rfl ((K.old 11 rfl).trans x11)
    intro f20 w20 A hb
    replace bl0 := bl
    replace x1 := (A.old 1 rfl).trans x1
    replace x2 := (A.old 2 rfl).trans x2
    replace x3 := (A.old 3 rfl).trans x3
    replace x4 := (A.old 4 rfl).trans x4
    replace x6 := (A.old 6 rfl).trans x6
    replace x7 := (A.old 7 rfl).trans x7
    replace x8 := (A.old 8 rfl).trans x8
    replace x24 := (A.old 24 rfl).trans x24
    replace x39 := (A.old 39 rfl).trans x39
    replace x9 := (A.old 9 rfl).trans x9
    replace x43 := (A.old 43 rfl).trans x43
    replace x44 := (A.old 44 rfl).trans x44
    replace x45 := (A.old 45 rfl).trans x45
    replace x46 := (A.old 46 rfl).trans x46
    replace x10 := (A.old 10 rfl).trans x10
    replace x11 := (A.old 11 rfl).trans x11
    have x50 : f20.eval (.tmp 50) = .bool true := A.has 0 50 rfl
    have lt_m8 := Ob.lt m8
    replace m8 := Ob.below m8 hb
    have lt_m9 := Ob.lt m9
    replace m9 := Ob.below m9 hb
    replace bl := (bl.trans (Below.mono hb bl.size))
    replace sz := A.size.trans sz
    replace df := A.defs.trans df
    clear A hb
    show Code.wp _ _ _ _ _
    refine wp_cond_true x50 ?_
    refine wp_region_tail [.eq (.slice pA (P).length pC), .eq (.int .i64 ((k : Nat) : Int)), .ph (p), .eq (.agg ((p).map V).toArray), .eq (.agg (((bk st R S k).1).map V).toArray), .eq (.agg ((y1).map V).toArray)] [6] Tryd.mixed (by kernel_rfl) (by kernel_rfl) (by kernel_rfl) (by kernel_rfl) (by rw [sz]; kernel_rfl) (by kernel_rfl) ⟨fun hw ac u K => ?_, fun hw ac u K => ?_, fun hw ac u K => ?_, fun hw ac u K => ?_, fun hw ac u K => ?_, fun hw ac u K => ?_, trivial⟩ ?_
    · exact st_move (.tmp 7) rfl ((K.old 7 rfl).trans x7)
    · exact st_move (.tmp 10) rfl ((K.old 10 rfl).trans x10)
    · exact st_idxh (.tmp 51) (.tmp 52) rfl (fk_val (K.dep 0 51 rfl) (Fk.mono _ _ _ _ hvRs (bl.trans (Below.mono K.grow bl.size)))) (k) (p) (K.dep 1 52 rfl) hRk
    · exact st_loadh (.tmp 53) rfl (K.dep 2 53 rfl)
    · exact st_load23 (.tmp 8) rfl (g8) ((bk st R S k).1) ((K.old 8 rfl).trans x8) (bk_len hst0 R S k).1 (Ob.below m8 K.grow)
    · exact st_call 21 (.func 21) _ _ #[.agg ((p).map V).toArray, .agg (((bk st R S k).1).map V).toArray] rfl rfl (arg2 (K.dep 3 54 rfl) (K.dep 4 55 rfl)) Tryd.enter21 (fk_node hp (bk_len hst0 R S k).1 (hK.below (bl.trans (Below.mono K.grow bl.size))) ey1)
    intro f21 w21 A hb
    replace bl0 := bl
    replace x1 := (A.old 1 rfl).trans x1
    replace x2 := (A.old 2 rfl).trans x2
    replace x3 := (A.old 3 rfl).trans x3
    replace x4 := (A.old 4 rfl).trans x4
    replace x6 := (A.old 6 rfl).trans x6
    replace x7 := (A.old 7 rfl).trans x7
    replace x8 := (A.old 8 rfl).trans x8
    replace x24 := (A.old 24 rfl).trans x24
    replace x39 := (A.old 39 rfl).trans x39
    replace x9 := (A.old 9 rfl).trans x9
    replace x43 := (A.old 43 rfl).trans x43
    replace x44 := (A.old 44 rfl).trans x44
    replace x45 := (A.old 45 rfl).trans x45
    replace x46 := (A.old 46 rfl).trans x46
    replace x10 := (A.old 10 rfl).trans x10
    replace x11 := (A.old 11 rfl).trans x11
    replace x50 := (A.old 50 rfl).trans x50
    have x56 : f21.eval (.tmp 56) = .agg ((y1).map V).toArray := A.has 5 56 rfl
    have lt_m8 := Ob.lt m8
    replace m8 := Ob.below m8 hb
    have lt_m9 := Ob.lt m9
    replace m9 := Ob.below m9 hb
    replace bl := (bl.trans (Below.mono hb bl.size))
    replace sz := A.size.trans sz
    replace df := A.defs.trans df
    clear A hb
    refine wl_store rfl (.tmp 8) (.tmp 56) rfl rfl (g8) (y1) ((bk st R S k).1) x8 x56 m8 (bk_len hst0 R S k).1 hy1 ?_
    replace m8 : Ob (w21.setRow g8 ((y1).map V : List Value).toArray) (g8) 23 ((y1).map V) := Ob.setRow m8 ((y1).map V)
    replace m9 : Ob (w21.setRow g8 ((y1).map V : List Value).toArray) (g9) 23 (((bk st R S k).2).map V) := Ob.setRow_other m9 _ nm8_9.symm
    replace bl : Below w7.heap.size w7 (w21.setRow g8 ((y1).map V : List Value).toArray) := bl.trans (below_setRow _ _ _ _ hw8)
    generalize w21.setRow g8 ((y1).map V : List Value).toArray = w22b at bl m8 m9 ⊢
    refine wpList_nil ?_
    clear x56
    show Code.wp _ _ _ _ _
    refine wp_region_tail [.eq (.agg (((bk st R S k).2).map V).toArray), .eq (.slice pA (P).length pC), .eq (.int .i64 ((k : Nat) : Int)), .ph (p), .eq (.agg ((p).map V).toArray), .eq (.bool true), .eq (.agg ((y2).map V).toArray)] [7] Tryd.mixed (by kernel_rfl) (by kernel_rfl) (by kernel_rfl) (by kernel_rfl) (by rw [sz]; kernel_rfl) (by kernel_rfl) ⟨fun hw ac u K => ?_, fun hw ac u K => ?_, fun hw ac u K => ?_, fun hw ac u K => ?_, fun hw ac u K => ?_, fun hw ac u K => ?_, fun hw ac u K => ?_, trivial⟩ ?_
    · exact st_load23 (.tmp 9) rfl (g9) ((bk st R S k).2) ((K.old 9 rfl).trans x9) (bk_len hst0 R S k).2 (Ob.below m9 K.grow)
    · exact st_move (.tmp 7) rfl ((K.old 7 rfl).trans x7)
    · exact st_move (.tmp 10) rfl ((K.old 10 rfl).trans x10)
    · exact st_idxh (.tmp 58) (.tmp 59) rfl (fk_val (K.dep 1 58 rfl) (Fk.mono _ _ _ _ hvRs (bl.trans (Below.mono K.grow bl.size)))) (k) (p) (K.dep 2 59 rfl) hRk
    · exact st_loadh (.tmp 60) rfl (K.dep 3 60 rfl)
    · exact st_move (.tmp 11) rfl ((K.old 11 rfl).trans x11)
    · exact st_call 13 (.func 13) _ _ #[.agg (((bk st R S k).2).map V).toArray, .agg ((p).map V).toArray, .bool true] rfl rfl (arg3 (K.dep 0 57 rfl) (K.dep 4 61 rfl) (K.dep 5 62 rfl)) Tryd.enter13 (fk_of (join_any (bk_len hst0 R S k).2 hp true _ (hK.below (bl.trans (Below.mono K.grow bl.size))) ey2))
    intro f23 w23 A hb
    replace bl0 := bl
    replace x1 := (A.old 1 rfl).trans x1
    replace x2 := (A.old 2 rfl).trans x2
    replace x3 := (A.old 3 rfl).trans x3
    replace x4 := (A.old 4 rfl).trans x4
    replace x6 := (A.old 6 rfl).trans x6
    replace x7 := (A.old 7 rfl).trans x7
    replace x8 := (A.old 8 rfl).trans x8
    replace x24 := (A.old 24 rfl).trans x24
    replace x39 := (A.old 39 rfl).trans x39
    replace x9 := (A.old 9 rfl).trans x9
    replace x43 := (A.old 43 rfl).trans x43
    replace x44 := (A.old 44 rfl).trans x44
    replace x45 := (A.old 45 rfl).trans x45
    replace x46 := (A.old 46 rfl).trans x46
    replace x10 := (A.old 10 rfl).trans x10
    replace x11 := (A.old 11 rfl).trans x11
    replace x50 := (A.old 50 rfl).trans x50
    have x63 : f23.eval (.tmp 63) = .agg ((y2).map V).toArray := A.has 6 63 rfl
    have lt_m8 := Ob.lt m8
    replace m8 := Ob.below m8 hb
    have lt_m9 := Ob.lt m9
    replace m9 := Ob.below m9 hb
    replace bl := (bl.trans (Below.mono hb bl.size))
    replace sz := A.size.trans sz
    replace df := A.defs.trans df
    clear A hb
    refine wl_store rfl (.tmp 9) (.tmp 63) rfl rfl (g9) (y2) ((bk st R S k).2) x9 x63 m9 (bk_len hst0 R S k).2 hy2 ?_
    replace m8 : Ob (w23.setRow g9 ((y2).map V : List Value).toArray) (g8) 23 ((y1).map V) := Ob.setRow_other m8 _ nm8_9
    replace m9 : Ob (w23.setRow g9 ((y2).map V : List Value).toArray) (g9) 23 ((y2).map V) := Ob.setRow m9 ((y2).map V)
    replace bl : Below w7.heap.size w7 (w23.setRow g9 ((y2).map V : List Value).toArray) := bl.trans (below_setRow _ _ _ _ hw9)
    generalize w23.setRow g9 ((y2).map V : List Value).toArray = w24b at bl m8 m9 ⊢
    refine wpList_nil ?_
    clear x63
    show Code.wp _ _ _ _ _
    refine wp_region_seq [.eq (.int .i64 ((k + 1 : Nat) : Int))] (by kernel_rfl) (by kernel_rfl) (by rw [sz]; kernel_rfl) (by kernel_rfl) ⟨fun hw ac u K => ?_, trivial⟩ ?_
    · exact st_add (.tmp 45) (.const (.int .i64 1)) rfl (k) (1) (k + 1) ((K.old 45 rfl).trans x45) rfl (by omega) (by omega)
    intro f25 w25 A hb
    replace bl0 := bl
    replace x1 := (A.old 1 rfl).trans x1
    replace x2 := (A.old 2 rfl).trans x2
    replace x3 := (A.old 3 rfl).trans x3
    replace x4 := (A.old 4 rfl).trans x4
    replace x6 := (A.old 6 rfl).trans x6
    replace x7 := (A.old 7 rfl).trans x7
    replace x8 := (A.old 8 rfl).trans x8
    replace x24 := (A.old 24 rfl).trans x24
    replace x39 := (A.old 39 rfl).trans x39
    replace x9 := (A.old 9 rfl).trans x9
    replace x43 := (A.old 43 rfl).trans x43
    replace x44 := (A.old 44 rfl).trans x44
    replace x45 := (A.old 45 rfl).trans x45
    replace x46 := (A.old 46 rfl).trans x46
    replace x10 := (A.old 10 rfl).trans x10
    replace x11 := (A.old 11 rfl).trans x11
    replace x50 := (A.old 50 rfl).trans x50
    have x64 : f25.eval (.tmp 64) = .int .i64 ((k + 1 : Nat) : Int) := A.has 0 64 rfl
    have lt_m8 := Ob.lt m8
    replace m8 := Ob.below m8 hb
    have lt_m9 := Ob.lt m9
    replace m9 := Ob.below m9 hb
    replace bl := (bl.trans (Below.mono hb bl.size))
    replace sz := A.size.trans sz
    replace df := A.defs.trans df
    clear A hb
    refine wl_one (.eq (.int .i64 ((k + 1 : Nat) : Int))) rfl 45 rfl (by rw [sz]; decide) (st_move (.tmp 64) rfl x64) ?_
    intro f26 w26 df2 sz2 old2 new2 hb
    replace bl0 := bl
    replace x1 := (old2 1 rfl).trans x1
    replace x2 := (old2 2 rfl).trans x2
    replace x3 := (old2 3 rfl).trans x3
    replace x4 := (old2 4 rfl).trans x4
    replace x6 := (old2 6 rfl).trans x6
    replace x7 := (old2 7 rfl).trans x7
    replace x8 := (old2 8 rfl).trans x8
    replace x24 := (old2 24 rfl).trans x24
    replace x39 := (old2 39 rfl).trans x39
    replace x9 := (old2 9 rfl).trans x9
    replace x43 := (old2 43 rfl).trans x43
    replace x44 := (old2 44 rfl).trans x44
    clear x45
    replace x46 := (old2 46 rfl).trans x46
    replace x10 := (old2 10 rfl).trans x10
    replace x11 := (old2 11 rfl).trans x11
    replace x50 := (old2 50 rfl).trans x50
    replace x64 := (old2 64 rfl).trans x64
    have x45 : f26.eval (.tmp 45) = .int .i64 ((k + 1 : Nat) : Int) := new2
    have lt_m8 := Ob.lt m8
    replace m8 := Ob.below m8 hb
    have lt_m9 := Ob.lt m9
    replace m9 := Ob.below m9 hb
    replace bl := (bl.trans (Below.mono hb bl.size))
    replace sz := sz2.trans sz
    replace df := df2.trans df
    clear df2 sz2 old2 new2 hb
    refine wpList_nil ?_
    clear x64
    show (∃ _, _) ∧ _
    refine ⟨⟨k + 1, by omega, sz, df, x1, x2, x3, x4, x6, x7, x8, x24, x39, x9, x43, x44, x45, (by rw [hbk1]; exact m8), (by rw [hbk2]; exact m9), bl⟩, ?_⟩
    rw [show f26.eval (.tmp 45) = _ from x45, show _ = _ from hcnt]
    simp [intOf]
    omega
  have hbk1 : (bk st R S (k + 1)).1 = (bk st R S k).1 := by rw [hbk, bst_f]
  refine wp_all_seq [.eq (.bool false)] (by kernel_rfl) (by kernel_rfl) (by rw [sz]; kernel_rfl) (by kernel_rfl) ⟨fun hw ac u K => ?_, trivial⟩ ?_
  · exact st_move (.tmp 11) rfl ((K.old 11 rfl).trans x11)
  intro f20 w20 A hb
  replace bl0 := bl
  replace x1 := (A.old 1 rfl).trans x1
  replace x2 := (A.old 2 rfl).trans x2
  replace x3 := (A.old 3 rfl).trans x3
  replace x4 := (A.old 4 rfl).trans x4
  replace x6 := (A.old 6 rfl).trans x6
  replace x7 := (A.old 7 rfl).trans x7
  replace x8 := (A.old 8 rfl).trans x8
  replace x24 := (A.old 24 rfl).trans x24
  replace x39 := (A.old 39 rfl).trans x39
  replace x9 := (A.old 9 rfl).trans x9
  replace x43 := (A.old 43 rfl).trans x43
  replace x44 := (A.old 44 rfl).trans x44
  replace x45 := (A.old 45 rfl).trans x45
  replace x46 := (A.old 46 rfl).trans x46
  replace x10 := (A.old 10 rfl).trans x10
  replace x11 := (A.old 11 rfl).trans x11
  have x50 : f20.eval (.tmp 50) = .bool false := A.has 0 50 rfl
  have lt_m8 := Ob.lt m8
  replace m8 := Ob.below m8 hb
  have lt_m9 := Ob.lt m9
  replace m9 := Ob.below m9 hb
  replace bl := (bl.trans (Below.mono hb bl.size))
  replace sz := A.size.trans sz
  replace df := A.defs.trans df
  clear A hb
  show Code.wp _ _ _ _ _
  refine wp_cond_false x50 ?_
  refine wp_skip ?_
  show Code.wp _ _ _ _ _
  refine wp_region_tail [.eq (.agg (((bk st R S k).2).map V).toArray), .eq (.slice pA (P).length pC), .eq (.int .i64 ((k : Nat) : Int)), .ph (p), .eq (.agg ((p).map V).toArray), .eq (.bool false), .eq (.agg ((y2).map V).toArray)] [7] Tryd.mixed (by kernel_rfl) (by kernel_rfl) (by kernel_rfl) (by kernel_rfl) (by rw [sz]; kernel_rfl) (by kernel_rfl) ⟨fun hw ac u K => ?_, fun hw ac u K => ?_, fun hw ac u K => ?_, fun hw ac u K => ?_, fun hw ac u K => ?_, fun hw ac u K => ?_, fun hw ac u K => ?_, trivial⟩ ?_
  · exact st_load23 (.tmp 9) rfl (g9) ((bk st R S k).2) ((K.old 9 rfl).trans x9) (bk_len hst0 R S k).2 (Ob.below m9 K.grow)
  · exact st_move (.tmp 7) rfl ((K.old 7 rfl).trans x7)
  · exact st_move (.tmp 10) rfl ((K.old 10 rfl).trans x10)
  · exact st_idxh (.tmp 58) (.tmp 59) rfl (fk_val (K.dep 1 58 rfl) (Fk.mono _ _ _ _ hvRs (bl.trans (Below.mono K.grow bl.size)))) (k) (p) (K.dep 2 59 rfl) hRk
  · exact st_loadh (.tmp 60) rfl (K.dep 3 60 rfl)
  · exact st_move (.tmp 11) rfl ((K.old 11 rfl).trans x11)
  · exact st_call 13 (.func 13) _ _ #[.agg (((bk st R S k).2).map V).toArray, .agg ((p).map V).toArray, .bool false] rfl rfl (arg3 (K.dep 0 57 rfl) (K.dep 4 61 rfl) (K.dep 5 62 rfl)) Tryd.enter13 (fk_of (join_any (bk_len hst0 R S k).2 hp false _ (hK.below (bl.trans (Below.mono K.grow bl.size))) ey2))
  intro f21 w21 A hb
  replace bl0 := bl
  replace x1 := (A.old 1 rfl).trans x1
  replace x2 := (A.old 2 rfl).trans x2
  replace x3 := (A.old 3 rfl).trans x3
  replace x4 := (A.old 4 rfl).trans x4
  replace x6 := (A.old 6 rfl).trans x6
  replace x7 := (A.old 7 rfl).trans x7
  replace x8 := (A.old 8 rfl).trans x8
  replace x24 := (A.old 24 rfl).trans x24
  replace x39 := (A.old 39 rfl).trans x39
  replace x9 := (A.old 9 rfl).trans x9
  replace x43 := (A.old 43 rfl).trans x43
  replace x44 := (A.old 44 rfl).trans x44
  replace x45 := (A.old 45 rfl).trans x45
  replace x46 := (A.old 46 rfl).trans x46
  replace x10 := (A.old 10 rfl).trans x10
  replace x11 := (A.old 11 rfl).trans x11
  replace x50 := (A.old 50 rfl).trans x50
  have x63 : f21.eval (.tmp 63) = .agg ((y2).map V).toArray := A.has 6 63 rfl
  have lt_m8 := Ob.lt m8
  replace m8 := Ob.below m8 hb
  have lt_m9 := Ob.lt m9
  replace m9 := Ob.below m9 hb
  replace bl := (bl.trans (Below.mono hb bl.size))
  replace sz := A.size.trans sz
  replace df := A.defs.trans df
  clear A hb
  refine wl_store rfl (.tmp 9) (.tmp 63) rfl rfl (g9) (y2) ((bk st R S k).2) x9 x63 m9 (bk_len hst0 R S k).2 hy2 ?_
  replace m8 : Ob (w21.setRow g9 ((y2).map V : List Value).toArray) (g8) 23 (((bk st R S k).1).map V) := Ob.setRow_other m8 _ nm8_9
  replace m9 : Ob (w21.setRow g9 ((y2).map V : List Value).toArray) (g9) 23 ((y2).map V) := Ob.setRow m9 ((y2).map V)
  replace bl : Below w7.heap.size w7 (w21.setRow g9 ((y2).map V : List Value).toArray) := bl.trans (below_setRow _ _ _ _ hw9)
  generalize w21.setRow g9 ((y2).map V : List Value).toArray = w22b at bl m8 m9 ⊢
  refine wpList_nil ?_
  clear x63
  show Code.wp _ _ _ _ _
  refine wp_region_seq [.eq (.int .i64 ((k + 1 : Nat) : Int))] (by kernel_rfl) (by kernel_rfl) (by rw [sz]; kernel_rfl) (by kernel_rfl) ⟨fun hw ac u K => ?_, trivial⟩ ?_
  · exact st_add (.tmp 45) (.const (.int .i64 1)) rfl (k) (1) (k + 1) ((K.old 45 rfl).trans x45) rfl (by omega) (by omega)
  intro f23 w23 A hb
  replace bl0 := bl
  replace x1 := (A.old 1 rfl).trans x1
  replace x2 := (A.old 2 rfl).trans x2
  replace x3 := (A.old 3 rfl).trans x3
  replace x4 := (A.old 4 rfl).trans x4
  replace x6 := (A.old 6 rfl).trans x6
  replace x7 := (A.old 7 rfl).trans x7
  replace x8 := (A.old 8 rfl).trans x8
  replace x24 := (A.old 24 rfl).trans x24
  replace x39 := (A.old 39 rfl).trans x39
  replace x9 := (A.old 9 rfl).trans x9
  replace x43 := (A.old 43 rfl).trans x43
  replace x44 := (A.old 44 rfl).trans x44
  replace x45 := (A.old 45 rfl).trans x45
  replace x46 := (A.old 46 rfl).trans x46
  replace x10 := (A.old 10 rfl).trans x10
  replace x11 := (A.old 11 rfl).trans x11
  replace x50 := (A.old 50 rfl).trans x50
  have x64 : f23.eval (.tmp 64) = .int .i64 ((k + 1 : Nat) : Int) := A.has 0 64 rfl
  have lt_m8 := Ob.lt m8
  replace m8 := Ob.below m8 hb
  have lt_m9 := Ob.lt m9
  replace m9 := Ob.below m9 hb
  replace bl := (bl.trans (Below.mono hb bl.size))
  replace sz := A.size.trans sz
  replace df := A.defs.trans df
  clear A hb
  refine wl_one (.eq (.int .i64 ((k + 1 : Nat) : Int))) rfl 45 rfl (by rw [sz]; decide) (st_move (.tmp 64) rfl x64) ?_
  intro f24 w24 df2 sz2 old2 new2 hb
  replace bl0 := bl
  replace x1 := (old2 1 rfl).trans x1
  replace x2 := (old2 2 rfl).trans x2
  replace x3 := (old2 3 rfl).trans x3
  replace x4 := (old2 4 rfl).trans x4
  replace x6 := (old2 6 rfl).trans x6
  replace x7 := (old2 7 rfl).trans x7
  replace x8 := (old2 8 rfl).trans x8
  replace x24 := (old2 24 rfl).trans x24
  replace x39 := (old2 39 rfl).trans x39
  replace x9 := (old2 9 rfl).trans x9
  replace x43 := (old2 43 rfl).trans x43
  replace x44 := (old2 44 rfl).trans x44
  clear x45
  replace x46 := (old2 46 rfl).trans x46
  replace x10 := (old2 10 rfl).trans x10
  replace x11 := (old2 11 rfl).trans x11
  replace x50 := (old2 50 rfl).trans x50
  replace x64 := (old2 64 rfl).trans x64
  have x45 : f24.eval (.tmp 45) = .int .i64 ((k + 1 : Nat) : Int) := new2
  have lt_m8 := Ob.lt m8
  replace m8 := Ob.below m8 hb
  have lt_m9 := Ob.lt m9
  replace m9 := Ob.below m9 hb
  replace bl := (bl.trans (Below.mono hb bl.size))
  replace sz := sz2.trans sz
  replace df := df2.trans df
  clear df2 sz2 old2 new2 hb
  refine wpList_nil ?_
  clear x64
  show (∃ _, _) ∧ _
  refine ⟨⟨k + 1, by omega, sz, df, x1, x2, x3, x4, x6, x7, x8, x24, x39, x9, x43, x44, x45, (by rw [hbk1]; exact m8), (by rw [hbk2]; exact m9), bl⟩, ?_⟩
  rw [show f24.eval (.tmp 45) = _ from x45, show _ = _ from hcnt]
  simp [intOf]
  omega
end Go.Proofs.YthhnlemldpgbeaaDoor
