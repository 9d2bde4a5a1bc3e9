/- Plain words of layer 8: sides and steps, where a path leads, where a proof leads. Sides, Steps, join. slices.Reverse and slices.Contains at bools: the contracts of the shelf, laid at this dump. -/
import Derived.Test.YthhnlemldpgbeaaDoorM4
import Derived.Ground.SlgnProg
import Derived.Shelf.SlicesE.Index
import Derived.Shelf.SlicesE.Reverse
import Derived.Lib.OwnBridge
namespace Go.Proofs.YthhnlemldpgbeaaDoor
set_option maxRecDepth 100000
/-- Of the leaf i of n, from it up: does the hash beside stand on the left? -/
def sds (i n : Nat) : List Bool :=
  if _h : n ≤ 1 then []
  else if i < spl n then sds i (spl n) ++ [false] else sds (i - spl n) (n - spl n) ++ [true]
  termination_by n
  decreasing_by
    · exact spl_lt (by omega)
    · have := spl_pos n
      omega
theorem sds_one {n : Nat} (h : n ≤ 1) (i : Nat) : sds i n = [] := by rw [sds, dif_pos h]
theorem sds_left {i n : Nat} (h : 2 ≤ n) (hi : i < spl n) : sds i n = sds i (spl n) ++ [false] := by rw [sds, dif_neg (by omega), if_pos hi]
theorem sds_right {i n : Nat} (h : 2 ≤ n) (hi : ¬ i < spl n) : sds i n = sds (i - spl n) (n - spl n) ++ [true] := by rw [sds, dif_neg (by omega), if_neg hi]
/-- A hash, and the next one, on its left or right. -/
def jon (h : List (BitVec 8)) (p : List (BitVec 8) × Bool) : List (BitVec 8) := if p.2 then nd p.1 h else nd h p.1
/-- Where a path leads. -/
def ldt (leaf : List (BitVec 8)) (P : List (List (BitVec 8))) (S : List Bool) : List (BitVec 8) := (P.zip S).foldl jon leaf
theorem ldt_snoc (leaf : List (BitVec 8)) {P : List (List (BitVec 8))} {S : List Bool} (h : P.length = S.length) (x : List (BitVec 8)) (b : Bool) : ldt leaf (P ++ [x]) (S ++ [b]) = jon (ldt leaf P S) (x, b) := by
  unfold ldt
  rw [List.zip_append h, List.foldl_append]
  rfl
/-- No more than 61 of them up to 2^60. -/
theorem sds_log (n : Nat) : ∀ i j, n ≤ 2 ^ j → (sds i n).length ≤ j := by
  induction n using Nat.strongRecOn with
  | ind n ih =>
    intro i j hj
    by_cases h1 : n ≤ 1
    · rw [sds_one h1]; exact Nat.zero_le _
    · have hs := spl_lt (n := n) (by omega)
      have hp := spl_pos n
      have hg := spl_ge (n := n) (by omega)
      cases j with
      | zero => simp at hj; omega
      | succ j =>
        have hk : spl n ≤ 2 ^ j := by
          unfold spl
          apply Nat.pow_le_pow_right (by decide)
          have : Nat.log2 (n - 1) < j + 1 := (Nat.log2_lt (by omega)).2 (by omega)
          omega
        by_cases hi : i < spl n
        · have := ih (spl n) hs i j hk
          rw [sds_left (by omega) hi, List.length_append, List.length_singleton]; omega
        · have := ih (n - spl n) (by omega) (i - spl n) j (by rw [Nat.pow_succ] at hj; omega)
          rw [sds_right (by omega) hi, List.length_append, List.length_singleton]; omega
/-- Of a proof from m to n: does it begin with a hash of its own; then, step by step, does the next hash stand on the left of both roots? -/
def stp (m n : Nat) (whole : Bool) : Bool × List Bool :=
  if m = n then (!whole, [])
  else if _h : n ≤ 1 then (!whole, [])
  else if m ≤ spl n then ((stp m (spl n) whole).1, (stp m (spl n) whole).2 ++ [false])
  else ((stp (m - spl n) (n - spl n) false).1, (stp (m - spl n) (n - spl n) false).2 ++ [true])
  termination_by n
  decreasing_by
    all_goals first | exact spl_lt (by omega) | (have := spl_pos n; omega)
theorem stp_same (n : Nat) (w : Bool) : stp n n w = (!w, []) := by rw [stp, if_pos rfl]
theorem stp_left {m n : Nat} {w : Bool} (h : 2 ≤ n) (hm : m ≠ n) (hk : m ≤ spl n) : stp m n w = ((stp m (spl n) w).1, (stp m (spl n) w).2 ++ [false]) := by rw [stp, if_neg hm, dif_neg (by omega), if_pos hk]
theorem stp_right {m n : Nat} {w : Bool} (h : 2 ≤ n) (hm : m ≠ n) (hk : ¬ m ≤ spl n) : stp m n w = ((stp (m - spl n) (n - spl n) false).1, (stp (m - spl n) (n - spl n) false).2 ++ [true]) := by rw [stp, if_neg hm, dif_neg (by omega), if_neg hk]
/-- One step of both roots. -/
def bst (ab : List (BitVec 8) × List (BitVec 8)) (p : List (BitVec 8) × Bool) : List (BitVec 8) × List (BitVec 8) := (if p.2 then nd p.1 ab.1 else ab.1, jon ab.2 p)
/-- Where the hashes of a proof lead, from two roots that are one. -/
def bth (a : List (BitVec 8)) (P : List (List (BitVec 8))) (S : List Bool) : List (BitVec 8) × List (BitVec 8) := (P.zip S).foldl bst (a, a)
theorem stp_false (n : Nat) : ∀ m, (stp m n false).1 = true := by
  induction n using Nat.strongRecOn with
  | ind n ih =>
    intro m
    by_cases hm : m = n
    · subst hm; rw [stp_same]; rfl
    · by_cases h1 : n ≤ 1
      · rw [stp, if_neg hm, dif_pos h1]; rfl
      · have hs := spl_lt (n := n) (by omega)
        have hp := spl_pos n
        by_cases hk : m ≤ spl n
        · rw [stp_left (by omega) hm hk]; exact ih _ hs _
        · rw [stp_right (by omega) hm hk]; exact ih _ (by omega) _
end Go.Proofs.YthhnlemldpgbeaaDoor
namespace Go.Proofs.YthhnlemldpgbeaaDoor
set_option maxRecDepth 100000
open Go.RowKit
theorem join_true {h p : List (BitVec 8)} (hh : h.length = 32) (hp : p.length = 32) (w : World) (hK : Tab w) {y : List (BitVec 8)} (ey : Box (nd p h = y)) :
    Calls Tryd.prog 13 #[.agg ((h).map V).toArray, .agg ((p).map V).toArray, .bool true] w fun e w' => e = .returned (.agg ((y).map V).toArray) ∧ Below w.heap.size w w' := by
  have hy : y.length = 32 := by rw [← ey.out]; exact nd_len _ _
  go_enter Tryd.func13, Tryd.ntmps13
  refine code_both (fun f w1 => f.tmps.size = 14 ∧ f.defers = [] ∧ f.eval (.tmp 0) = .agg ((h).map V).toArray ∧ f.eval (.tmp 1) = .agg ((p).map V).toArray ∧ f.eval (.tmp 2) = .bool true ∧ Below w.heap.size w (w1)) ⟨rfl, rfl, rfl, rfl, rfl, Below.refl _ _⟩ ?_
  rintro f0 w0 ⟨sz, df, x0, x1, x2, bl⟩
  have bl0 := bl
  refine wp_seq ?_
  refine wp_region_seq [] (by kernel_rfl) (by kernel_rfl) (by rw [sz]; kernel_rfl) (by kernel_rfl) trivial ?_
  intro f1 w1 A hb
  replace bl0 := bl
  replace x0 := (A.old 0 rfl).trans x0
  replace x1 := (A.old 1 rfl).trans x1
  replace x2 := (A.old 2 rfl).trans x2
  replace bl := (bl.trans (Below.mono hb bl.size))
  replace sz := A.size.trans sz
  replace df := A.defs.trans df
  clear A hb
  refine wl_one (.nw w1.heap.size 23 ((h).map V)) rfl 3 rfl (by rw [sz]; decide) (st_box 23 (.tmp 0) rfl _ _ (by rw [show _ = _ from x0]; kernel_rfl) (Nat.le_refl _)) ?_
  intro f2 w2 df2 sz2 old2 new2 hb
  replace bl0 := bl
  replace x0 := (old2 0 rfl).trans x0
  replace x1 := (old2 1 rfl).trans x1
  replace x2 := (old2 2 rfl).trans x2
  have x3 : Fk.f (.nw w1.heap.size 23 ((h).map V)) (f2.eval (.tmp 3)) w2 := new2
  replace bl := (bl.trans (Below.mono hb bl.size))
  replace sz := sz2.trans sz
  replace df := df2.trans df
  clear df2 sz2 old2 new2 hb
  obtain ⟨g3, hg3, e3, m3⟩ := x3
  have x3 := e3
  clear e3
  have hw3 : w.heap.size ≤ g3 := Nat.le_trans bl0.size hg3
  clear x0
  refine wl_one (.nw w2.heap.size 23 ((p).map V)) rfl 4 rfl (by rw [sz]; decide) (st_box 23 (.tmp 1) rfl _ _ (by rw [show _ = _ from x1]; kernel_rfl) (Nat.le_refl _)) ?_
  intro f3 w3 df2 sz2 old2 new2 hb
  replace bl0 := bl
  replace x1 := (old2 1 rfl).trans x1
  replace x2 := (old2 2 rfl).trans x2
  replace x3 := (old2 3 rfl).trans x3
  have x4 : Fk.f (.nw w2.heap.size 23 ((p).map V)) (f3.eval (.tmp 4)) w3 := new2
  have lt_m3 := Ob.lt m3
  replace m3 := Ob.below m3 hb
  replace bl := (bl.trans (Below.mono hb bl.size))
  replace sz := sz2.trans sz
  replace df := df2.trans df
  clear df2 sz2 old2 new2 hb
  obtain ⟨g4, hg4, e4, m4⟩ := x4
  have x4 := e4
  clear e4
  have nm3_4 : g3 ≠ g4 := Nat.ne_of_lt (Nat.lt_of_lt_of_le lt_m3 hg4)
  have hw4 : w.heap.size ≤ g4 := Nat.le_trans bl0.size hg4
  clear x1
  refine wl_one (.nw w3.heap.size 23 ((hz).map V)) rfl 6 rfl (by rw [sz]; decide) (st_alloc23 rfl _ (Nat.le_refl _)) ?_
  intro f4 w4 df2 sz2 old2 new2 hb
  replace bl0 := bl
  replace x2 := (old2 2 rfl).trans x2
  replace x3 := (old2 3 rfl).trans x3
  replace x4 := (old2 4 rfl).trans x4
  have x6 : Fk.f (.nw w3.heap.size 23 ((hz).map V)) (f4.eval (.tmp 6)) w4 := new2
  have lt_m3 := Ob.lt m3
  replace m3 := Ob.below m3 hb
  have lt_m4 := Ob.lt m4
  replace m4 := Ob.below m4 hb
  replace bl := (bl.trans (Below.mono hb bl.size))
  replace sz := sz2.trans sz
  replace df := df2.trans df
  clear df2 sz2 old2 new2 hb
  obtain ⟨g6, hg6, e6, m6⟩ := x6
  have x6 := e6
  clear e6
  have nm3_6 : g3 ≠ g6 := Nat.ne_of_lt (Nat.lt_of_lt_of_le lt_m3 hg6)
  have nm4_6 : g4 ≠ g6 := Nat.ne_of_lt (Nat.lt_of_lt_of_le lt_m4 hg6)
  have hw6 : w.heap.size ≤ g6 := Nat.le_trans bl0.size hg6
  refine wpList_nil ?_
  show Code.wp _ _ _ _ _
  refine wp_seq ?_
  refine wp_seq ?_
  refine wp_all_seq [.eq (.bool true)] (by kernel_rfl) (by kernel_rfl) (by rw [sz]; kernel_rfl) (by kernel_rfl) ⟨fun hw ac u K => ?_, trivial⟩ ?_
  · exact st_move (.tmp 2) rfl ((K.old 2 rfl).trans x2)
  intro f5 w5 A hb
  replace bl0 := bl
  replace x2 := (A.old 2 rfl).trans x2
  replace x3 := (A.old 3 rfl).trans x3
  replace x4 := (A.old 4 rfl).trans x4
  replace x6 := (A.old 6 rfl).trans x6
  have x7 : f5.eval (.tmp 7) = .bool true := A.has 0 7 rfl
  have lt_m3 := Ob.lt m3
  replace m3 := Ob.below m3 hb
  have lt_m4 := Ob.lt m4
  replace m4 := Ob.below m4 hb
  have lt_m6 := Ob.lt m6
  replace m6 := Ob.below m6 hb
  replace bl := (bl.trans (Below.mono hb bl.size))
  replace sz := A.size.trans sz
  replace df := A.defs.trans df
  clear A hb
  clear x2
  show Code.wp _ _ _ _ _
  refine wp_cond_true x7 ?_
  refine wp_seq ?_
  refine wp_region_seq [.eq (.agg ((p).map V).toArray), .eq (.agg ((h).map V).toArray), .eq (.agg ((y).map V).toArray)] (by kernel_rfl) (by kernel_rfl) (by rw [sz]; kernel_rfl) (by kernel_rfl) ⟨fun hw ac u K => ?_, fun hw ac u K => ?_, fun hw ac u K => ?_, trivial⟩ ?_
  · exact st_load23 (.tmp 4) rfl (g4) (p) ((K.old 4 rfl).trans x4) hp (Ob.below m4 K.grow)
  · exact st_load23 (.tmp 3) rfl (g3) (h) ((K.old 3 rfl).trans x3) hh (Ob.below m3 K.grow)
  · exact st_call 21 (.func 21) _ _ #[.agg ((p).map V).toArray, .agg ((h).map V).toArray] rfl rfl (arg2 (K.dep 0 8 rfl) (K.dep 1 9 rfl)) Tryd.enter21 (fk_node hp hh (hK.below (bl.trans (Below.mono K.grow bl.size))) ey)
  intro f6 w6 A hb
  replace bl0 := bl
  replace x3 := (A.old 3 rfl).trans x3
  replace x4 := (A.old 4 rfl).trans x4
  replace x6 := (A.old 6 rfl).trans x6
  replace x7 := (A.old 7 rfl).trans x7
  have x10 : f6.eval (.tmp 10) = .agg ((y).map V).toArray := A.has 2 10 rfl
  have lt_m3 := Ob.lt m3
  replace m3 := Ob.below m3 hb
  have lt_m4 := Ob.lt m4
  replace m4 := Ob.below m4 hb
  have lt_m6 := Ob.lt m6
  replace m6 := Ob.below m6 hb
  replace bl := (bl.trans (Below.mono hb bl.size))
  replace sz := A.size.trans sz
  replace df := A.defs.trans df
  clear A hb
  refine wl_store rfl (.tmp 6) (.tmp 10) rfl rfl (g6) (y) (hz) x6 x10 m6 hz_len hy ?_
  replace m3 : Ob (w6.setRow g6 ((y).map V : List Value).toArray) (g3) 23 ((h).map V) := Ob.setRow_other m3 _ nm3_6
  replace m4 : Ob (w6.setRow g6 ((y).map V : List Value).toArray) (g4) 23 ((p).map V) := Ob.setRow_other m4 _ nm4_6
  replace m6 : Ob (w6.setRow g6 ((y).map V : List Value).toArray) (g6) 23 ((y).map V) := Ob.setRow m6 ((y).map V)
  replace bl : Below w.heap.size w (w6.setRow g6 ((y).map V : List Value).toArray) := bl.trans (below_setRow _ _ _ _ hw6)
  generalize w6.setRow g6 ((y).map V : List Value).toArray = w7b at bl m3 m4 m6 ⊢
  refine wpList_nil ?_
  clear x10
  show Code.wp _ _ _ _ _
  refine wp_ret ?_
  repeat (first | with_reducible refine then_ret ?_ | with_reducible refine block_ret ?_)
  exact bodyPost_ret (v := .agg ((y).map V).toArray) (ret_hash rfl f6 _ g6 (y) hy x6 m6) df ⟨rfl, bl⟩
theorem join_false {h p : List (BitVec 8)} (hh : h.length = 32) (hp : p.length = 32) (w : World) (hK : Tab w) {y : List (BitVec 8)} (ey : Box (nd h p = y)) :
    Calls Tryd.prog 13 #[.agg ((h).map V).toArray, .agg ((p).map V).toArray, .bool false] w fun e w' => e = .returned (.agg ((y).map V).toArray) ∧ Below w.heap.size w w' := by
  have hy : y.length = 32 := by rw [← ey.out]; exact nd_len _ _
  go_enter Tryd.func13, Tryd.ntmps13
  refine code_both (fun f w1 => f.tmps.size = 14 ∧ f.defers = [] ∧ f.eval (.tmp 0) = .agg ((h).map V).toArray ∧ f.eval (.tmp 1) = .agg ((p).map V).toArray ∧ f.eval (.tmp 2) = .bool false ∧ Below w.heap.size w (w1)) ⟨rfl, rfl, rfl, rfl, rfl, Below.refl _ _⟩ ?_
  rintro f0 w0 ⟨sz, df, x0, x1, x2, bl⟩
  have bl0 := bl
  refine wp_seq ?_
  refine wp_region_seq [] (by kernel_rfl) (by kernel_rfl) (by rw [sz]; kernel_rfl) (by kernel_rfl) trivial ?_
  intro f1 w1 A hb
  replace bl0 := bl
  replace x0 := (A.old 0 rfl).trans x0
  replace x1 := (A.old 1 rfl).trans x1
  replace x2 := (A.old 2 rfl).trans x2
  replace bl := (bl.trans (Below.mono hb bl.size))
  replace sz := A.size.trans sz
  replace df := A.defs.trans df
  clear A hb
  refine wl_one (.nw w1.heap.size 23 ((h).map V)) rfl 3 rfl (by rw [sz]; decide) (st_box 23 (.tmp 0) rfl _ _ (by rw [show _ = _ from x0]; kernel_rfl) (Nat.le_refl _)) ?_
  intro f2 w2 df2 sz2 old2 new2 hb
  replace bl0 := bl
  replace x0 := (old2 0 rfl).trans x0
  replace x1 := (old2 1 rfl).trans x1
  replace x2 := (old2 2 rfl).trans x2
  have x3 : Fk.f (.nw w1.heap.size 23 ((h).map V)) (f2.eval (.tmp 3)) w2 := new2
  replace bl := (bl.trans (Below.mono hb bl.size))
  replace sz := sz2.trans sz
  replace df := df2.trans df
  clear df2 sz2 old2 new2 hb
  obtain ⟨g3, hg3, e3, m3⟩ := x3
  have x3 := e3
  clear e3
  have hw3 : w.heap.size ≤ g3 := Nat.le_trans bl0.size hg3
  clear x0
  refine wl_one (.nw w2.heap.size 23 ((p).map V)) rfl 4 rfl (by rw [sz]; decide) (st_box 23 (.tmp 1) rfl _ _ (by rw [show _ = _ from x1]; kernel_rfl) (Nat.le_refl _)) ?_
  intro f3 w3 df2 sz2 old2 new2 hb
  replace bl0 := bl
  replace x1 := (old2 1 rfl).trans x1
  replace x2 := (old2 2 rfl).trans x2
  replace x3 := (old2 3 rfl).trans x3
  have x4 : Fk.f (.nw w2.heap.size 23 ((p).map V)) (f3.eval (.tmp 4)) w3 := new2
  have lt_m3 := Ob.lt m3
  replace m3 := Ob.below m3 hb
  replace bl := (bl.trans (Below.mono hb bl.size))
  replace sz := sz2.trans sz
  replace df := df2.trans df
  clear df2 sz2 old2 new2 hb
  obtain ⟨g4, hg4, e4, m4⟩ := x4
  have x4 := e4
  clear e4
  have nm3_4 : g3 ≠ g4 := Nat.ne_of_lt (Nat.lt_of_lt_of_le lt_m3 hg4)
  have hw4 : w.heap.size ≤ g4 := Nat.le_trans bl0.size hg4
  clear x1
  refine wl_one (.nw w3.heap.size 23 ((hz).map V)) rfl 6 rfl (by rw [sz]; decide) (st_alloc23 rfl _ (Nat.le_refl _)) ?_
  intro f4 w4 df2 sz2 old2 new2 hb
  replace bl0 := bl
  replace x2 := (old2 2 rfl).trans x2
  replace x3 := (old2 3 rfl).trans x3
  replace x4 := (old2 4 rfl).trans x4
  have x6 : Fk.f (.nw w3.heap.size 23 ((hz).map V)) (f4.eval (.tmp 6)) w4 := new2
  have lt_m3 := Ob.lt m3
  replace m3 := Ob.below m3 hb
  have lt_m4 := Ob.lt m4
  replace m4 := Ob.below m4 hb
  replace bl := (bl.trans (Below.mono hb bl.size))
  replace sz := sz2.trans sz
  replace df := df2.trans df
  clear df2 sz2 old2 new2 hb
  obtain ⟨g6, hg6, e6, m6⟩ := x6
  have x6 := e6
  clear e6
  have nm3_6 : g3 ≠ g6 := Nat.ne_of_lt (Nat.lt_of_lt_of_le lt_m3 hg6)
  have nm4_6 : g4 ≠ g6 := Nat.ne_of_lt (Nat.lt_of_lt_of_le lt_m4 hg6)
  have hw6 : w.heap.size ≤ g6 := Nat.le_trans bl0.size hg6
  refine wpList_nil ?_
  show Code.wp _ _ _ _ _
  refine wp_seq ?_
  refine wp_seq ?_
  refine wp_all_seq [.eq (.bool false)] (by kernel_rfl) (by kernel_rfl) (by rw [sz]; kernel_rfl) (by kernel_rfl) ⟨fun hw ac u K => ?_, trivial⟩ ?_
  · exact st_move (.tmp 2) rfl ((K.old 2 rfl).trans x2)
  intro f5 w5 A hb
  replace bl0 := bl
  replace x2 := (A.old 2 rfl).trans x2
  replace x3 := (A.old 3 rfl).trans x3
  replace x4 := (A.old 4 rfl).trans x4
  replace x6 := (A.old 6 rfl).trans x6
  have x7 : f5.eval (.tmp 7) = .bool false := A.has 0 7 rfl
  have lt_m3 := Ob.lt m3
  replace m3 := Ob.below m3 hb
  have lt_m4 := Ob.lt m4
  replace m4 := Ob.below m4 hb
  have lt_m6 := Ob.lt m6
  replace m6 := Ob.below m6 hb
  replace bl := (bl.trans (Below.mono hb bl.size))
  replace sz := A.size.trans sz
  replace df := A.defs.trans df
  clear A hb
  clear x2
  show Code.wp _ _ _ _ _
  refine wp_cond_false x7 ?_
  refine wp_skip ?_
  show Code.wp _ _ _ _ _
  refine wp_seq ?_
  refine wp_region_seq [.eq (.agg ((h).map V).toArray), .eq (.agg ((p).map V).toArray), .eq (.agg ((y).map V).toArray)] (by kernel_rfl) (by kernel_rfl) (by rw [sz]; kernel_rfl) (by kernel_rfl) ⟨fun hw ac u K => ?_, fun hw ac u K => ?_, fun hw ac u K => ?_, trivial⟩ ?_
  · exact st_load23 (.tmp 3) rfl (g3) (h) ((K.old 3 rfl).trans x3) hh (Ob.below m3 K.grow)
  · exact st_load23 (.tmp 4) rfl (g4) (p) ((K.old 4 rfl).trans x4) hp (Ob.below m4 K.grow)
  · exact st_call 21 (.func 21) _ _ #[.agg ((h).map V).toArray, .agg ((p).map V).toArray] rfl rfl (arg2 (K.dep 0 11 rfl) (K.dep 1 12 rfl)) Tryd.enter21 (fk_node hh hp (hK.below (bl.trans (Below.mono K.grow bl.size))) ey)
  intro f6 w6 A hb
  replace bl0 := bl
  replace x3 := (A.old 3 rfl).trans x3
  replace x4 := (A.old 4 rfl).trans x4
  replace x6 := (A.old 6 rfl).trans x6
  replace x7 := (A.old 7 rfl).trans x7
  have x13 : f6.eval (.tmp 13) = .agg ((y).map V).toArray := A.has 2 13 rfl
  have lt_m3 := Ob.lt m3
  replace m3 := Ob.below m3 hb
  have lt_m4 := Ob.lt m4
  replace m4 := Ob.below m4 hb
  have lt_m6 := Ob.lt m6
  replace m6 := Ob.below m6 hb
  replace bl := (bl.trans (Below.mono hb bl.size))
  replace sz := A.size.trans sz
  replace df := A.defs.trans df
  clear A hb
  refine wl_store rfl (.tmp 6) (.tmp 13) rfl rfl (g6) (y) (hz) x6 x13 m6 hz_len hy ?_
  replace m3 : Ob (w6.setRow g6 ((y).map V : List Value).toArray) (g3) 23 ((h).map V) := Ob.setRow_other m3 _ nm3_6
  replace m4 : Ob (w6.setRow g6 ((y).map V : List Value).toArray) (g4) 23 ((p).map V) := Ob.setRow_other m4 _ nm4_6
  replace m6 : Ob (w6.setRow g6 ((y).map V : List Value).toArray) (g6) 23 ((y).map V) := Ob.setRow m6 ((y).map V)
  replace bl : Below w.heap.size w (w6.setRow g6 ((y).map V : List Value).toArray) := bl.trans (below_setRow _ _ _ _ hw6)
  generalize w6.setRow g6 ((y).map V : List Value).toArray = w7b at bl m3 m4 m6 ⊢
  refine wpList_nil ?_
  clear x13
  show Code.wp _ _ _ _ _
  refine wp_ret ?_
  repeat (first | with_reducible refine then_ret ?_ | with_reducible refine block_ret ?_)
  exact bodyPost_ret (v := .agg ((y).map V).toArray) (ret_hash rfl f6 _ g6 (y) hy x6 m6) df ⟨rfl, bl⟩
theorem join_any {h p : List (BitVec 8)} (hh : h.length = 32) (hp : p.length = 32) (b : Bool) (w : World) (hK : Tab w) {y : List (BitVec 8)} (ey : Box (jon h (p, b) = y)) :
    Calls Tryd.prog 13 #[.agg ((h).map V).toArray, .agg ((p).map V).toArray, .bool b] w fun e w' => e = .returned (.agg ((y).map V).toArray) ∧ Below w.heap.size w w' := by
  cases b
  · exact join_false hh hp w hK ⟨ey.out⟩
  · exact join_true hh hp w hK ⟨ey.out⟩
theorem jon_len (h : List (BitVec 8)) (p : List (BitVec 8) × Bool) : (jon h p).length = 32 := by unfold jon; split <;> exact nd_len _ _
/-- No more than j steps up to 2^j. -/
theorem stp_log (n : Nat) : ∀ m b j, n ≤ 2 ^ j → (stp m n b).2.length ≤ j := by
  induction n using Nat.strongRecOn with
  | ind n ih =>
    intro m b j hj
    by_cases hm : m = n
    · subst hm; rw [stp_same]; exact Nat.zero_le _
    · by_cases h1 : n ≤ 1
      · rw [stp, if_neg hm, dif_pos h1]; exact Nat.zero_le _
      · have hs := spl_lt (n := n) (by omega)
        have hp := spl_pos n
        have hg := spl_ge (n := n) (by omega)
        cases j with
        | zero => simp at hj; omega
        | succ j =>
          have hk : spl n ≤ 2 ^ j := by
            unfold spl
            apply Nat.pow_le_pow_right (by decide)
            have : Nat.log2 (n - 1) < j + 1 := (Nat.log2_lt (by omega)).2 (by omega)
            omega
          by_cases hi : m ≤ spl n
          · have := ih (spl n) hs m b j hk
            rw [stp_left (by omega) hm hi]
            simp only [List.length_append, List.length_singleton]
            omega
          · have := ih (n - spl n) (by omega) (m - spl n) false j (by rw [Nat.pow_succ] at hj; omega)
            rw [stp_right (by omega) hm hi]
            simp only [List.length_append, List.length_singleton]
            omega
/-- A bool, and bools of the call's own. -/
def Fk.tob (base : Nat) (c : Bool) (T1 : List Bool) : Fk := .inr (.inl ⟨fun v w => ∃ r, v = .tuple #[.bool c, r] ∧ (Fk.ob base T1).f r w, by
  rintro v w w' ⟨r, e, h⟩ hb
  exact ⟨r, e, Fk.mono _ _ _ _ h hb⟩⟩)
theorem st_tob0 {P : Program} {Q : Exit → Act → World → Prop} {o : Oper} {a : Act} {w : World} (x : Operand) (ho : o.op = .extract x 0) {base : Nat} {c : Bool} {T1 : List Bool} (h : (Fk.tob base c T1).f (a.eval x) w) : o.wp P a w (Ends a o.dst w (Fk.eq (.bool c)).f) Q := by
  obtain ⟨r, e, _⟩ := h
  refine st_pure (v := .bool c) ?_ rfl
  unfold execOp
  rw [ho]
  simp [e, Instr.extract]
theorem st_tob1 {P : Program} {Q : Exit → Act → World → Prop} {o : Oper} {a : Act} {w : World} (x : Operand) (ho : o.op = .extract x 1) {base : Nat} {c : Bool} {T1 : List Bool} (h : (Fk.tob base c T1).f (a.eval x) w) : o.wp P a w (Ends a o.dst w (Fk.ob base T1).f) Q := by
  obtain ⟨r, e, h1⟩ := h
  refine st_pure (v := r) ?_ h1
  unfold execOp
  rw [ho]
  simp [e, Instr.extract]
theorem fk_tob {f : FuncId} {args : Array Value} {w : World} {g0 : Nat} {S : Bool × List Bool} {c : Bool} {T1 : List Bool} (hg : g0 ≤ w.heap.size) (hs : S = (c, T1)) (h : Calls Tryd.prog f args w fun e w' => ∃ r, e = .returned (.tuple #[.bool S.1, r]) ∧ (Fk.ob w.heap.size S.2).f r w' ∧ Below w.heap.size w w') :
    Calls Tryd.prog f args w fun e w' => ∃ u, e = .returned u ∧ (Fk.tob g0 c T1).f u w' ∧ Below w.heap.size w w' := by
  subst hs
  refine h.mono ?_
  rintro e w' ⟨r, rfl, h1, h3⟩
  exact ⟨_, rfl, ⟨r, rfl, orw_le hg h1⟩, h3⟩
theorem steps_any (n : Nat) : ∀ (m : Nat) (b : Bool) (w : World), 1 ≤ n → n ≤ 1152921504606846976 → 1 ≤ m → m ≤ n → Calls Tryd.prog 31 #[.int .i64 ((m : Nat) : Int), .int .i64 ((n : Nat) : Int), .bool b] w fun e w' => ∃ r, e = .returned (.tuple #[.bool (stp m n b).1, r]) ∧ (Fk.ob w.heap.size (stp m n b).2).f r w' ∧ Below w.heap.size w w' := by
  induction n using Nat.strongRecOn with
  | ind n ih =>
  intro m b w hn1 hle hm1 hm2
  by_cases hmn : m = n
  · skip
    go_enter Tryd.func31, Tryd.ntmps31
    refine code_both (fun f w1 => f.tmps.size = 48 ∧ f.defers = [] ∧ f.eval (.tmp 0) = .int .i64 ((m : Nat) : Int) ∧ f.eval (.tmp 1) = .int .i64 ((n : Nat) : Int) ∧ f.eval (.tmp 2) = .bool b ∧ Below w.heap.size w (w1)) ⟨rfl, rfl, rfl, rfl, rfl, Below.refl _ _⟩ ?_
    rintro f0 w0 ⟨sz, df, x0, x1, x2, bl⟩
    have bl0 := bl
    refine wp_seq ?_
    refine wp_region_seq [] (by kernel_rfl) (by kernel_rfl) (by rw [sz]; kernel_rfl) (by kernel_rfl) trivial ?_
    intro f1 w1 A hb
    replace bl0 := bl
    replace x0 := (A.old 0 rfl).trans x0
    replace x1 := (A.old 1 rfl).trans x1
    replace x2 := (A.old 2 rfl).trans x2
    replace bl := (bl.trans (Below.mono hb bl.size))
    replace sz := A.size.trans sz
    replace df := A.defs.trans df
    clear A hb
    refine wl_one (.eq (.bool false)) rfl 6 rfl (by rw [sz]; decide) (st_assign (.const (.bool false)) rfl rfl) ?_
    intro f2 w2 df2 sz2 old2 new2 hb
    replace bl0 := bl
    replace x0 := (old2 0 rfl).trans x0
    replace x1 := (old2 1 rfl).trans x1
    replace x2 := (old2 2 rfl).trans x2
    have x6 : f2.eval (.tmp 6) = .bool false := new2
    replace bl := (bl.trans (Below.mono hb bl.size))
    replace sz := sz2.trans sz
    replace df := df2.trans df
    clear df2 sz2 old2 new2 hb
    refine wl_one (.eq (.slice none 0 0)) rfl 7 rfl (by rw [sz]; decide) (st_assign (.const (.slice none 0 0)) rfl rfl) ?_
    intro f3 w3 df2 sz2 old2 new2 hb
    replace bl0 := bl
    replace x0 := (old2 0 rfl).trans x0
    replace x1 := (old2 1 rfl).trans x1
    replace x2 := (old2 2 rfl).trans x2
    replace x6 := (old2 6 rfl).trans x6
    have x7 : f3.eval (.tmp 7) = .slice none 0 0 := new2
    replace bl := (bl.trans (Below.mono hb bl.size))
    replace sz := sz2.trans sz
    replace df := df2.trans df
    clear df2 sz2 old2 new2 hb
    refine wpList_nil ?_
    show Code.wp _ _ _ _ _
    refine wp_seq ?_
    refine wp_seq ?_
    refine wp_all_seq [.eq (.int .i64 ((m : Nat) : Int)), .eq (.int .i64 ((n : Nat) : Int)), .eq (.bool true)] (by kernel_rfl) (by kernel_rfl) (by rw [sz]; kernel_rfl) (by kernel_rfl) ⟨fun hw ac u K => ?_, fun hw ac u K => ?_, fun hw ac u K => ?_, trivial⟩ ?_
    · exact st_move (.tmp 0) rfl ((K.old 0 rfl).trans x0)
    · exact st_move (.tmp 1) rfl ((K.old 1 rfl).trans x1)
    · exact st_eqi 3 (.tmp 13) (.tmp 14) rfl .i64 (((m : Nat) : Int)) (((n : Nat) : Int)) (K.dep 0 13 rfl) (K.dep 1 14 rfl) _ (by rw [eq_comm, decide_eq_true_iff]; omega)
    intro f4 w4 A hb
    replace bl0 := bl
    replace x0 := (A.old 0 rfl).trans x0
    replace x1 := (A.old 1 rfl).trans x1
    replace x2 := (A.old 2 rfl).trans x2
    replace x6 := (A.old 6 rfl).trans x6
    replace x7 := (A.old 7 rfl).trans x7
    have x15 : f4.eval (.tmp 15) = .bool true := A.has 2 15 rfl
    replace bl := (bl.trans (Below.mono hb bl.size))
    replace sz := A.size.trans sz
    replace df := A.defs.trans df
    clear A hb
    show Code.wp _ _ _ _ _
    refine wp_cond_true x15 ?_
    refine wp_seq ?_
    refine wp_all_seq [.eq (.bool b), .eq (.bool (!b)), .eq (.bool (!b)), .eq (.slice none 0 0)] (by kernel_rfl) (by kernel_rfl) (by rw [sz]; kernel_rfl) (by kernel_rfl) ⟨fun hw ac u K => ?_, fun hw ac u K => ?_, fun hw ac u K => ?_, fun hw ac u K => ?_, trivial⟩ ?_
    · exact st_move (.tmp 2) rfl ((K.old 2 rfl).trans x2)
    · exact st_not (.tmp 16) rfl b (K.dep 0 16 rfl)
    · exact st_assign (.tmp 17) rfl (K.dep 1 17 rfl)
    · exact st_assign (.const (.slice none 0 0)) rfl rfl
    intro f5 w5 A hb
    replace bl0 := bl
    replace x0 := (A.old 0 rfl).trans x0
    replace x1 := (A.old 1 rfl).trans x1
    replace x2 := (A.old 2 rfl).trans x2
    clear x6
    clear x7
    replace x15 := (A.old 15 rfl).trans x15
    have x6 : f5.eval (.tmp 6) = .bool (!b) := A.has 2 6 rfl
    have x7 : f5.eval (.tmp 7) = .slice none 0 0 := A.has 3 7 rfl
    replace bl := (bl.trans (Below.mono hb bl.size))
    replace sz := A.size.trans sz
    replace df := A.defs.trans df
    clear A hb
    show Code.wp _ _ _ _ _
    refine wp_ret ?_
    repeat (first | with_reducible refine then_ret ?_ | with_reducible refine block_ret ?_)
    rw [hmn, stp_same]
    exact bodyPost_ret (v := .tuple #[.bool (!b), .slice none 0 0]) (ret_two rfl f5 _ _ x6 x7 _ _) df ⟨_, rfl, ob_nil _ _, bl⟩
  · skip
    have h2 : 2 ≤ n := by omega
    obtain ⟨k, hk⟩ : ∃ k, spl n = k := ⟨_, rfl⟩
    have hk1 : k < n := by rw [← hk]; exact spl_lt h2
    have hk2 : 1 ≤ k := by rw [← hk]; exact spl_pos _
    go_enter Tryd.func31, Tryd.ntmps31
    refine code_both (fun f w1 => f.tmps.size = 48 ∧ f.defers = [] ∧ f.eval (.tmp 0) = .int .i64 ((m : Nat) : Int) ∧ f.eval (.tmp 1) = .int .i64 ((n : Nat) : Int) ∧ f.eval (.tmp 2) = .bool b ∧ Below w.heap.size w (w1)) ⟨rfl, rfl, rfl, rfl, rfl, Below.refl _ _⟩ ?_
    rintro f0 w0 ⟨sz, df, x0, x1, x2, bl⟩
    have bl0 := bl
    refine wp_seq ?_
    refine wp_region_seq [] (by kernel_rfl) (by kernel_rfl) (by rw [sz]; kernel_rfl) (by kernel_rfl) trivial ?_
    intro f1 w1 A hb
    replace bl0 := bl
    replace x0 := (A.old 0 rfl).trans x0
    replace x1 := (A.old 1 rfl).trans x1
    replace x2 := (A.old 2 rfl).trans x2
    replace bl := (bl.trans (Below.mono hb bl.size))
    replace sz := A.size.trans sz
    replace df := A.defs.trans df
    clear A hb
    refine wl_one (.eq (.bool false)) rfl 6 rfl (by rw [sz]; decide) (st_assign (.const (.bool false)) rfl rfl) ?_
    intro f2 w2 df2 sz2 old2 new2 hb
    replace bl0 := bl
    replace x0 := (old2 0 rfl).trans x0
    replace x1 := (old2 1 rfl).trans x1
    replace x2 := (old2 2 rfl).trans x2
    have x6 : f2.eval (.tmp 6) = .bool false := new2
    replace bl := (bl.trans (Below.mono hb bl.size))
    replace sz := sz2.trans sz
    replace df := df2.trans df
    clear df2 sz2 old2 new2 hb
    refine wl_one (.eq (.slice none 0 0)) rfl 7 rfl (by rw [sz]; decide) (st_assign (.const (.slice none 0 0)) rfl rfl) ?_
    intro f3 w3 df2 sz2 old2 new2 hb
    replace bl0 := bl
    replace x0 := (old2 0 rfl).trans x0
    replace x1 := (old2 1 rfl).trans x1
    replace x2 := (old2 2 rfl).trans x2
    replace x6 := (old2 6 rfl).trans x6
    have x7 : f3.eval (.tmp 7) = .slice none 0 0 := new2
    replace bl := (bl.trans (Below.mono hb bl.size))
    replace sz := sz2.trans sz
    replace df := df2.trans df
    clear df2 sz2 old2 new2 hb
    refine wpList_nil ?_
    show Code.wp _ _ _ _ _
    refine wp_seq ?_
    refine wp_seq ?_
    refine wp_all_seq [.eq (.int .i64 ((m : Nat) : Int)), .eq (.int .i64 ((n : Nat) : Int)), .eq (.bool false)] (by kernel_rfl) (by kernel_rfl) (by rw [sz]; kernel_rfl) (by kernel_rfl) ⟨fun hw ac u K => ?_, fun hw ac u K => ?_, fun hw ac u K => ?_, trivial⟩ ?_
    · exact st_move (.tmp 0) rfl ((K.old 0 rfl).trans x0)
    · exact st_move (.tmp 1) rfl ((K.old 1 rfl).trans x1)
    · exact st_eqi 3 (.tmp 13) (.tmp 14) rfl .i64 (((m : Nat) : Int)) (((n : Nat) : Int)) (K.dep 0 13 rfl) (K.dep 1 14 rfl) _ (by rw [eq_comm, decide_eq_false_iff_not]; omega)
    intro f4 w4 A hb
    replace bl0 := bl
    replace x0 := (A.old 0 rfl).trans x0
    replace x1 := (A.old 1 rfl).trans x1
    replace x2 := (A.old 2 rfl).trans x2
    replace x6 := (A.old 6 rfl).trans x6
    replace x7 := (A.old 7 rfl).trans x7
    have x15 : f4.eval (.tmp 15) = .bool false := A.has 2 15 rfl
    replace bl := (bl.trans (Below.mono hb bl.size))
    replace sz := A.size.trans sz
    replace df := A.defs.trans df
    clear A hb
    show Code.wp _ _ _ _ _
    refine wp_cond_false x15 ?_
    refine wp_skip ?_
    show Code.wp _ _ _ _ _
    refine wp_seq ?_
    refine wp_all_seq [.eq (.int .i64 ((n : Nat) : Int)), .eq (.int .i64 ((k : Nat) : Int)), .eq (.int .i64 ((k : Nat) : Int))] (by kernel_rfl) (by kernel_rfl) (by rw [sz]; kernel_rfl) (by kernel_rfl) ⟨fun hw ac u K => ?_, fun hw ac u K => ?_, fun hw ac u K => ?_, trivial⟩ ?_
    · exact st_move (.tmp 1) rfl ((K.old 1 rfl).trans x1)
    · exact st_call 24 (.func 24) _ _ #[.int .i64 ((n : Nat) : Int)] rfl rfl (one_arg (K.dep 0 18 rfl)) Tryd.enter24 (by rw [← hk]; exact fk_of (rsplit_any n h2 (by omega) _))
    · exact st_assign (.tmp 19) rfl (K.dep 1 19 rfl)
    intro f5 w5 A hb
    replace bl0 := bl
    replace x0 := (A.old 0 rfl).trans x0
    replace x1 := (A.old 1 rfl).trans x1
    replace x2 := (A.old 2 rfl).trans x2
    replace x6 := (A.old 6 rfl).trans x6
    replace x7 := (A.old 7 rfl).trans x7
    replace x15 := (A.old 15 rfl).trans x15
    have x8 : f5.eval (.tmp 8) = .int .i64 ((k : Nat) : Int) := A.has 2 8 rfl
    replace bl := (bl.trans (Below.mono hb bl.size))
    replace sz := A.size.trans sz
    replace df := A.defs.trans df
    clear A hb
    show Code.wp _ _ _ _ _
    refine wp_seq ?_
    refine wp_seq ?_
    by_cases hik : m ≤ k
    rotate_left
    · skip
      have hl1 := stp_log (n - k) (m - k) false 60 (by omega)
      obtain ⟨c, T1, hst⟩ : ∃ c T1, stp (m - k) (n - k) false = (c, T1) := ⟨_, _, rfl⟩
      rw [hst] at hl1
      refine wp_all_seq [.eq (.int .i64 ((m : Nat) : Int)), .eq (.int .i64 ((k : Nat) : Int)), .eq (.bool false)] (by kernel_rfl) (by kernel_rfl) (by rw [sz]; kernel_rfl) (by kernel_rfl) ⟨fun hw ac u K => ?_, fun hw ac u K => ?_, fun hw ac u K => ?_, trivial⟩ ?_
      · exact st_move (.tmp 0) rfl ((K.old 0 rfl).trans x0)
      · exact st_move (.tmp 8) rfl ((K.old 8 rfl).trans x8)
      · exact st_leq 3 (.tmp 20) (.tmp 21) rfl .i64 (((m : Nat) : Int)) (((k : Nat) : Int)) (K.dep 0 20 rfl) (K.dep 1 21 rfl) _ (by first | (simp; done) | (simp; omega))
      intro f6 w6 A hb
      replace bl0 := bl
      replace x0 := (A.old 0 rfl).trans x0
      replace x1 := (A.old 1 rfl).trans x1
      replace x2 := (A.old 2 rfl).trans x2
      replace x6 := (A.old 6 rfl).trans x6
      replace x7 := (A.old 7 rfl).trans x7
      replace x15 := (A.old 15 rfl).trans x15
      replace x8 := (A.old 8 rfl).trans x8
      have x22 : f6.eval (.tmp 22) = .bool false := A.has 2 22 rfl
      replace bl := (bl.trans (Below.mono hb bl.size))
      replace sz := A.size.trans sz
      replace df := A.defs.trans df
      clear A hb
      show Code.wp _ _ _ _ _
      refine wp_cond_false x22 ?_
      refine wp_skip ?_
      show Code.wp _ _ _ _ _
      refine wp_seq ?_
      refine wp_all_seq [.eq (.int .i64 ((m : Nat) : Int)), .eq (.int .i64 ((k : Nat) : Int)), .eq (.int .i64 ((m - k : Nat) : Int)), .eq (.int .i64 ((n : Nat) : Int)), .eq (.int .i64 ((k : Nat) : Int)), .eq (.int .i64 ((n - k : Nat) : Int)), .tob w.heap.size c (T1), .tob w.heap.size c (T1), .eq (.bool c), .ob w.heap.size (T1), .eq (.bool c), .ob w.heap.size (T1)] (by kernel_rfl) (by kernel_rfl) (by rw [sz]; kernel_rfl) (by kernel_rfl) ⟨fun hw ac u K => ?_, fun hw ac u K => ?_, fun hw ac u K => ?_, fun hw ac u K => ?_, fun hw ac u K => ?_, fun hw ac u K => ?_, fun hw ac u K => ?_, fun hw ac u K => ?_, fun hw ac u K => ?_, fun hw ac u K => ?_, fun hw ac u K => ?_, fun hw ac u K => ?_, trivial⟩ ?_
      · exact st_move (.tmp 0) rfl ((K.old 0 rfl).trans x0)
      · exact st_move (.tmp 8) rfl ((K.old 8 rfl).trans x8)
      · exact st_subz (.tmp 35) (.tmp 36) rfl _ _ _ (K.dep 0 35 rfl) (K.dep 1 36 rfl) (by omega) (by omega) (by omega)
      · exact st_move (.tmp 1) rfl ((K.old 1 rfl).trans x1)
      · exact st_move (.tmp 8) rfl ((K.old 8 rfl).trans x8)
      · exact st_subz (.tmp 38) (.tmp 39) rfl _ _ _ (K.dep 3 38 rfl) (K.dep 4 39 rfl) (by omega) (by omega) (by omega)
      · exact st_call 31 (.func 31) _ _ #[.int .i64 ((m - k : Nat) : Int), .int .i64 ((n - k : Nat) : Int), .bool false] rfl rfl (arg3 (K.dep 2 37 rfl) (K.dep 5 40 rfl) rfl) Tryd.enter31 (fk_tob (bl.trans (Below.mono K.grow bl.size)).size hst (ih (n - k) (by omega) (m - k) false _ (by omega) (by omega) (by omega) (by omega)))
      · exact st_move (.tmp 41) rfl (K.dep 6 41 rfl)
      · exact st_tob0 (.tmp 34) rfl (K.dep 7 34 rfl)
      · exact st_tob1 (.tmp 34) rfl (K.dep 7 34 rfl)
      · exact st_assign (.tmp 42) rfl (K.dep 8 42 rfl)
      · exact st_assign (.tmp 43) rfl (K.dep 9 43 rfl)
      intro f7 w7 A hb
      replace bl0 := bl
      replace x0 := (A.old 0 rfl).trans x0
      replace x1 := (A.old 1 rfl).trans x1
      replace x2 := (A.old 2 rfl).trans x2
      replace x6 := (A.old 6 rfl).trans x6
      replace x7 := (A.old 7 rfl).trans x7
      replace x15 := (A.old 15 rfl).trans x15
      replace x8 := (A.old 8 rfl).trans x8
      replace x22 := (A.old 22 rfl).trans x22
      have x11 : f7.eval (.tmp 11) = .bool c := A.has 10 11 rfl
      have x12 : Fk.f (.ob w.heap.size (T1)) (f7.eval (.tmp 12)) w7 := A.has 11 12 rfl
      replace bl := (bl.trans (Below.mono hb bl.size))
      replace sz := A.size.trans sz
      replace df := A.defs.trans df
      clear A hb
      show Code.wp _ _ _ _ _
      refine wp_seq ?_
      refine wp_region_seq [.eq (.bool c), .ob w.heap.size (T1), .ob w.heap.size ([true])] (by kernel_rfl) (by kernel_rfl) (by rw [sz]; kernel_rfl) (by kernel_rfl) ⟨fun hw ac u K => ?_, fun hw ac u K => ?_, fun hw ac u K => ?_, trivial⟩ ?_
      · exact st_move (.tmp 11) rfl ((K.old 11 rfl).trans x11)
      · exact st_move (.tmp 12) rfl (f_at (K.old 12 rfl) (Fk.mono _ _ _ _ x12 K.grow))
      · exact st_bo1b (.const (.bool true)) rfl _ rfl _ (bl.trans (Below.mono K.grow bl.size)).size
      intro f8 w8 A hb
      replace bl0 := bl
      replace x0 := (A.old 0 rfl).trans x0
      replace x1 := (A.old 1 rfl).trans x1
      replace x2 := (A.old 2 rfl).trans x2
      replace x6 := (A.old 6 rfl).trans x6
      replace x7 := (A.old 7 rfl).trans x7
      replace x15 := (A.old 15 rfl).trans x15
      replace x8 := (A.old 8 rfl).trans x8
      replace x22 := (A.old 22 rfl).trans x22
      replace x11 := (A.old 11 rfl).trans x11
      replace x12 := f_at (A.old 12 rfl) (Fk.mono _ _ _ _ x12 hb)
      have x44 : f8.eval (.tmp 44) = .bool c := A.has 0 44 rfl
      have x45 : Fk.f (.ob w.heap.size (T1)) (f8.eval (.tmp 45)) w8 := A.has 1 45 rfl
      have x46 : Fk.f (.ob w.heap.size ([true])) (f8.eval (.tmp 46)) w8 := A.has 2 46 rfl
      replace bl := (bl.trans (Below.mono hb bl.size))
      replace sz := A.size.trans sz
      replace df := A.defs.trans df
      clear A hb
      clear x11
      clear x12
      refine wl_appendo rfl (.tmp 45) (.tmp 46) rfl 47 rfl (by rw [sz]; decide) x45 x46 (by simp) bl (by simp only [List.length_cons, List.length_nil] at *; omega) ?_
      intro f9 w9 df2 sz2 old2 new2 bl2
      clear x45
      clear x46
      replace x0 := (old2 0 rfl).trans x0
      replace x1 := (old2 1 rfl).trans x1
      replace x2 := (old2 2 rfl).trans x2
      replace x6 := (old2 6 rfl).trans x6
      replace x7 := (old2 7 rfl).trans x7
      replace x15 := (old2 15 rfl).trans x15
      replace x8 := (old2 8 rfl).trans x8
      replace x22 := (old2 22 rfl).trans x22
      replace x44 := (old2 44 rfl).trans x44
      have x47 : Fk.f (.ob w.heap.size (T1 ++ [true])) (f9.eval (.tmp 47)) w9 := new2
      replace bl := bl2
      replace bl0 := bl
      replace sz := sz2.trans sz
      replace df := df2.trans df
      clear df2 sz2 old2 new2 bl2
      refine wl_one (.eq (.bool c)) rfl 6 rfl (by rw [sz]; decide) (st_assign (.tmp 44) rfl x44) ?_
      intro f10 w10 df2 sz2 old2 new2 hb
      replace bl0 := bl
      replace x0 := (old2 0 rfl).trans x0
      replace x1 := (old2 1 rfl).trans x1
      replace x2 := (old2 2 rfl).trans x2
      clear x6
      replace x7 := (old2 7 rfl).trans x7
      replace x15 := (old2 15 rfl).trans x15
      replace x8 := (old2 8 rfl).trans x8
      replace x22 := (old2 22 rfl).trans x22
      replace x44 := (old2 44 rfl).trans x44
      replace x47 := f_at (old2 47 rfl) (Fk.mono _ _ _ _ x47 hb)
      have x6 : f10.eval (.tmp 6) = .bool c := new2
      replace bl := (bl.trans (Below.mono hb bl.size))
      replace sz := sz2.trans sz
      replace df := df2.trans df
      clear df2 sz2 old2 new2 hb
      clear x44
      refine wl_one (.ob w.heap.size (T1 ++ [true])) rfl 7 rfl (by rw [sz]; decide) (st_assign (.tmp 47) rfl x47) ?_
      intro f11 w11 df2 sz2 old2 new2 hb
      replace bl0 := bl
      replace x0 := (old2 0 rfl).trans x0
      replace x1 := (old2 1 rfl).trans x1
      replace x2 := (old2 2 rfl).trans x2
      clear x7
      replace x15 := (old2 15 rfl).trans x15
      replace x8 := (old2 8 rfl).trans x8
      replace x22 := (old2 22 rfl).trans x22
      replace x47 := f_at (old2 47 rfl) (Fk.mono _ _ _ _ x47 hb)
      replace x6 := (old2 6 rfl).trans x6
      have x7 : Fk.f (.ob w.heap.size (T1 ++ [true])) (f11.eval (.tmp 7)) w11 := new2
      replace bl := (bl.trans (Below.mono hb bl.size))
      replace sz := sz2.trans sz
      replace df := df2.trans df
      clear df2 sz2 old2 new2 hb
      refine wpList_nil ?_
      clear x47
      show Code.wp _ _ _ _ _
      refine wp_ret ?_
      repeat (first | with_reducible refine then_ret ?_ | with_reducible refine block_ret ?_)
      rw [stp_right h2 hmn (by rw [hk]; exact hik), hk, hst]
      exact bodyPost_ret (v := .tuple #[.bool c, f11.eval (.tmp 7)]) (ret_two rfl f11 _ _ x6 rfl _ _) df ⟨_, rfl, x7, bl⟩
    have hl1 := stp_log k m b 60 (by omega)
    obtain ⟨c, T1, hst⟩ : ∃ c T1, stp m k b = (c, T1) := ⟨_, _, rfl⟩
    rw [hst] at hl1
    refine wp_all_seq [.eq (.int .i64 ((m : Nat) : Int)), .eq (.int .i64 ((k : Nat) : Int)), .eq (.bool true)] (by kernel_rfl) (by kernel_rfl) (by rw [sz]; kernel_rfl) (by kernel_rfl) ⟨fun hw ac u K => ?_, fun hw ac u K => ?_, fun hw ac u K => ?_, trivial⟩ ?_
    · exact st_move (.tmp 0) rfl ((K.old 0 rfl).trans x0)
    · exact st_move (.tmp 8) rfl ((K.old 8 rfl).trans x8)
    · exact st_leq 3 (.tmp 20) (.tmp 21) rfl .i64 (((m : Nat) : Int)) (((k : Nat) : Int)) (K.dep 0 20 rfl) (K.dep 1 21 rfl) _ (by first | (simp; done) | (simp; omega))
    intro f6 w6 A hb
    replace bl0 := bl
    replace x0 := (A.old 0 rfl).trans x0
    replace x1 := (A.old 1 rfl).trans x1
    replace x2 := (A.old 2 rfl).trans x2
    replace x6 := (A.old 6 rfl).trans x6
    replace x7 := (A.old 7 rfl).trans x7
    replace x15 := (A.old 15 rfl).trans x15
    replace x8 := (A.old 8 rfl).trans x8
    have x22 : f6.eval (.tmp 22) = .bool true := A.has 2 22 rfl
    replace bl := (bl.trans (Below.mono hb bl.size))
    replace sz := A.size.trans sz
    replace df := A.defs.trans df
    clear A hb
    show Code.wp _ _ _ _ _
    refine wp_cond_true x22 ?_
    refine wp_seq ?_
    refine wp_all_seq [.eq (.int .i64 ((m : Nat) : Int)), .eq (.int .i64 ((k : Nat) : Int)), .eq (.bool b), .tob w.heap.size c (T1), .tob w.heap.size c (T1), .eq (.bool c), .ob w.heap.size (T1), .eq (.bool c), .ob w.heap.size (T1)] (by kernel_rfl) (by kernel_rfl) (by rw [sz]; kernel_rfl) (by kernel_rfl) ⟨fun hw ac u K => ?_, fun hw ac u K => ?_, fun hw ac u K => ?_, fun hw ac u K => ?_, fun hw ac u K => ?_, fun hw ac u K => ?_, fun hw ac u K => ?_, fun hw ac u K => ?_, fun hw ac u K => ?_, trivial⟩ ?_
    · exact st_move (.tmp 0) rfl ((K.old 0 rfl).trans x0)
    · exact st_move (.tmp 8) rfl ((K.old 8 rfl).trans x8)
    · exact st_move (.tmp 2) rfl ((K.old 2 rfl).trans x2)
    · exact st_call 31 (.func 31) _ _ #[.int .i64 ((m : Nat) : Int), .int .i64 ((k : Nat) : Int), .bool b] rfl rfl (arg3 (K.dep 0 24 rfl) (K.dep 1 25 rfl) (K.dep 2 26 rfl)) Tryd.enter31 (fk_tob (bl.trans (Below.mono K.grow bl.size)).size hst (ih k (by omega) m b _ hk2 (by omega) hm1 hik))
    · exact st_move (.tmp 27) rfl (K.dep 3 27 rfl)
    · exact st_tob0 (.tmp 23) rfl (K.dep 4 23 rfl)
    · exact st_tob1 (.tmp 23) rfl (K.dep 4 23 rfl)
    · exact st_assign (.tmp 28) rfl (K.dep 5 28 rfl)
    · exact st_assign (.tmp 29) rfl (K.dep 6 29 rfl)
    intro f7 w7 A hb
    replace bl0 := bl
    replace x0 := (A.old 0 rfl).trans x0
    replace x1 := (A.old 1 rfl).trans x1
    replace x2 := (A.old 2 rfl).trans x2
    replace x6 := (A.old 6 rfl).trans x6
    replace x7 := (A.old 7 rfl).trans x7
    replace x15 := (A.old 15 rfl).trans x15
    replace x8 := (A.old 8 rfl).trans x8
    replace x22 := (A.old 22 rfl).trans x22
    have x9 : f7.eval (.tmp 9) = .bool c := A.has 7 9 rfl
    have x10 : Fk.f (.ob w.heap.size (T1)) (f7.eval (.tmp 10)) w7 := A.has 8 10 rfl
    replace bl := (bl.trans (Below.mono hb bl.size))
    replace sz := A.size.trans sz
    replace df := A.defs.trans df
    clear A hb
    show Code.wp _ _ _ _ _
    refine wp_seq ?_
    refine wp_region_seq [.eq (.bool c), .ob w.heap.size (T1), .ob w.heap.size ([false])] (by kernel_rfl) (by kernel_rfl) (by rw [sz]; kernel_rfl) (by kernel_rfl) ⟨fun hw ac u K => ?_, fun hw ac u K => ?_, fun hw ac u K => ?_, trivial⟩ ?_
    · exact st_move (.tmp 9) rfl ((K.old 9 rfl).trans x9)
    · exact st_move (.tmp 10) rfl (f_at (K.old 10 rfl) (Fk.mono _ _ _ _ x10 K.grow))
    · exact st_bo1b (.const (.bool false)) rfl _ rfl _ (bl.trans (Below.mono K.grow bl.size)).size
    intro f8 w8 A hb
    replace bl0 := bl
    replace x0 := (A.old 0 rfl).trans x0
    replace x1 := (A.old 1 rfl).trans x1
    replace x2 := (A.old 2 rfl).trans x2
    replace x6 := (A.old 6 rfl).trans x6
    replace x7 := (A.old 7 rfl).trans x7
    replace x15 := (A.old 15 rfl).trans x15
    replace x8 := (A.old 8 rfl).trans x8
    replace x22 := (A.old 22 rfl).trans x22
    replace x9 := (A.old 9 rfl).trans x9
    replace x10 := f_at (A.old 10 rfl) (Fk.mono _ _ _ _ x10 hb)
    have x30 : f8.eval (.tmp 30) = .bool c := A.has 0 30 rfl
    have x31 : Fk.f (.ob w.heap.size (T1)) (f8.eval (.tmp 31)) w8 := A.has 1 31 rfl
    have x32 : Fk.f (.ob w.heap.size ([false])) (f8.eval (.tmp 32)) w8 := A.has 2 32 rfl
    replace bl := (bl.trans (Below.mono hb bl.size))
    replace sz := A.size.trans sz
    replace df := A.defs.trans df
    clear A hb
    clear x9
    clear x10
    refine wl_appendo rfl (.tmp 31) (.tmp 32) rfl 33 rfl (by rw [sz]; decide) x31 x32 (by simp) bl (by simp only [List.length_cons, List.length_nil] at *; omega) ?_
    intro f9 w9 df2 sz2 old2 new2 bl2
    clear x31
    clear x32
    replace x0 := (old2 0 rfl).trans x0
    replace x1 := (old2 1 rfl).trans x1
    replace x2 := (old2 2 rfl).trans x2
    replace x6 := (old2 6 rfl).trans x6
    replace x7 := (old2 7 rfl).trans x7
    replace x15 := (old2 15 rfl).trans x15
    replace x8 := (old2 8 rfl).trans x8
    replace x22 := (old2 22 rfl).trans x22
    replace x30 := (old2 30 rfl).trans x30
    have x33 : Fk.f (.ob w.heap.size (T1 ++ [false])) (f9.eval (.tmp 33)) w9 := new2
    replace bl := bl2
    replace bl0 := bl
    replace sz := sz2.trans sz
    replace df := df2.trans df
    clear df2 sz2 old2 new2 bl2
    refine wl_one (.eq (.bool c)) rfl 6 rfl (by rw [sz]; decide) (st_assign (.tmp 30) rfl x30) ?_
    intro f10 w10 df2 sz2 old2 new2 hb
    replace bl0 := bl
    replace x0 := (old2 0 rfl).trans x0
    replace x1 := (old2 1 rfl).trans x1
    replace x2 := (old2 2 rfl).trans x2
    clear x6
    replace x7 := (old2 7 rfl).trans x7
    replace x15 := (old2 15 rfl).trans x15
    replace x8 := (old2 8 rfl).trans x8
    replace x22 := (old2 22 rfl).trans x22
    replace x30 := (old2 30 rfl).trans x30
    replace x33 := f_at (old2 33 rfl) (Fk.mono _ _ _ _ x33 hb)
    have x6 : f10.eval (.tmp 6) = .bool c := new2
    replace bl := (bl.trans (Below.mono hb bl.size))
    replace sz := sz2.trans sz
    replace df := df2.trans df
    clear df2 sz2 old2 new2 hb
    clear x30
    refine wl_one (.ob w.heap.size (T1 ++ [false])) rfl 7 rfl (by rw [sz]; decide) (st_assign (.tmp 33) rfl x33) ?_
    intro f11 w11 df2 sz2 old2 new2 hb
    replace bl0 := bl
    replace x0 := (old2 0 rfl).trans x0
    replace x1 := (old2 1 rfl).trans x1
    replace x2 := (old2 2 rfl).trans x2
    clear x7
    replace x15 := (old2 15 rfl).trans x15
    replace x8 := (old2 8 rfl).trans x8
    replace x22 := (old2 22 rfl).trans x22
    replace x33 := f_at (old2 33 rfl) (Fk.mono _ _ _ _ x33 hb)
    replace x6 := (old2 6 rfl).trans x6
    have x7 : Fk.f (.ob w.heap.size (T1 ++ [false])) (f11.eval (.tmp 7)) w11 := new2
    replace bl := (bl.trans (Below.mono hb bl.size))
    replace sz := sz2.trans sz
    replace df := df2.trans df
    clear df2 sz2 old2 new2 hb
    refine wpList_nil ?_
    clear x33
    show Code.wp _ _ _ _ _
    refine wp_ret ?_
    repeat (first | with_reducible refine then_ret ?_ | with_reducible refine block_ret ?_)
    rw [stp_left h2 hmn (by rw [hk]; exact hik), hk, hst]
    exact bodyPost_ret (v := .tuple #[.bool c, f11.eval (.tmp 7)]) (ret_two rfl f11 _ _ x6 rfl _ _) df ⟨_, rfl, x7, bl⟩
end Go.Proofs.YthhnlemldpgbeaaDoor
namespace Go.Proofs.YthhnlemldpgbeaaDoor
set_option maxRecDepth 100000
open Go.RowKit
open Go.Shelf Go.Lib Go.Sort
def Tryd.laysSlE31_f26_ren : Go.Shelf.Ren := ⟨fun | 31 => 26 | 29 => 39 | n => n, fun | 22 => 33 | 23 => 4 | 4 => 4 | 3 => 3 | 0 => 0 | n => n, fun | n => n⟩
theorem Tryd.laysSlE31_f26 : Go.Proofs.SlLaysE.n31 Tryd.prog Tryd.laysSlE31_f26_ren := {
  mixed := by kernel_rfl
  f29 := ⟨Tryd.f39.name, by decide, Tryd.func39.trans (congrArg some (by kernel_rfl))⟩
  f31 := ⟨Tryd.f26.name, by decide, Tryd.func26.trans (congrArg some (by kernel_rfl))⟩
  t0 := Tryd.underlying0
  a0 := Tryd.isAgg0
  z0 := Tryd.sizeOf0
  v0 := Tryd.zeroValue0
  t3 := Tryd.underlying3
  a3 := Tryd.isAgg3
  z3 := Tryd.sizeOf3
  v3 := Tryd.zeroValue3
  t4 := Tryd.underlying4
  a4 := Tryd.isAgg4
  z4 := Tryd.sizeOf4
  v4 := Tryd.zeroValue4
  t22 := Tryd.underlying33
  a22 := Tryd.isAgg33
  z22 := Tryd.sizeOf33
  v22 := Tryd.zeroValue33
  a23 := Tryd.isAgg4
  z23 := Tryd.sizeOf4 }
theorem Tryd.slices_Contains {α : Type} [Inhabited α] (enc : α → Value) (eq : α → α → Bool) (heq : EqlAt Tryd.prog 4 enc eq) (b off n c : Nat) (zs : List α) (x : α) (w : World) (hz : n ≤ zs.length) (hbig : n ≤ 9223372036854775807) (hc : ∀ j, j < zs.length → w.cell? ⟨b, off + j, none⟩ = some (enc zs[j]!)) :
    Calls Tryd.prog 26 #[.slice (some ⟨b, off, none⟩) n c, enc x] w fun e w' => e = .returned (.bool ((zs.take n).any fun y => eq x y)) ∧ w' = w := AnyE.slices_Contains Tryd.laysSlE31_f26 enc eq heq b off n c zs x w hz hbig hc
theorem Tryd.slices_Contains_empty {α : Type} [Inhabited α] (a : Option Addr) (c : Nat) (xv : Value) (w : World) :
    Calls Tryd.prog 26 #[.slice a 0 c, xv] w fun e w' => e = .returned (.bool false) ∧ w' = w := AnyE.slices_Contains_empty Tryd.laysSlE31_f26 a c xv w
def Tryd.laysSlE35_f38_ren : Go.Shelf.Ren := ⟨fun | 35 => 38 | n => n, fun | 22 => 33 | 23 => 4 | 3 => 3 | 4 => 4 | 0 => 0 | n => n, fun | n => n⟩
theorem Tryd.laysSlE35_f38 : Go.Proofs.SlLaysE.n35 Tryd.prog Tryd.laysSlE35_f38_ren := {
  mixed := by kernel_rfl
  f35 := ⟨Tryd.f38.name, by decide, Tryd.func38.trans (congrArg some (by kernel_rfl))⟩
  t0 := Tryd.underlying0
  a0 := Tryd.isAgg0
  z0 := Tryd.sizeOf0
  v0 := Tryd.zeroValue0
  t3 := Tryd.underlying3
  a3 := Tryd.isAgg3
  z3 := Tryd.sizeOf3
  v3 := Tryd.zeroValue3
  t4 := Tryd.underlying4
  a4 := Tryd.isAgg4
  z4 := Tryd.sizeOf4
  v4 := Tryd.zeroValue4
  t22 := Tryd.underlying33
  a22 := Tryd.isAgg33
  z22 := Tryd.sizeOf33
  v22 := Tryd.zeroValue33
  a23 := Tryd.isAgg4
  z23 := Tryd.sizeOf4 }
theorem Tryd.slices_Reverse {α : Type} [Inhabited α] (enc : α → Value) (h1 : OneCell enc) (blk off cap : Nat) (zs : List α) (w : World) (hH : Holds enc w blk off zs.toArray) (hsz : zs.length ≤ 9223372036854775807) :
    Calls Tryd.prog 38 #[.slice (some ⟨blk, off, none⟩) zs.length cap] w fun e w' => e = .returned (.tuple #[]) ∧ ∃ n, w' = putRow enc (Sort.ahead w n) blk off zs.reverse.toArray := AnyE.slices_Reverse Tryd.laysSlE35_f38 enc h1 blk off cap zs w hH hsz
theorem Tryd.slices_Reverse_empty {α : Type} [Inhabited α] (a : Option Addr) (cap : Nat) (w : World) :
    Calls Tryd.prog 38 #[.slice a 0 cap] w fun e w' => e = .returned (.tuple #[]) ∧ w' = w := AnyE.slices_Reverse_empty Tryd.laysSlE35_f38 a cap w
/-- slices.Reverse turns round a slice of bools of the call's own. -/
theorem reverse_any {base : Nat} {S : List Bool} {v : Value} {w : World} (hv : (Fk.ob base S).f v w) (hl : S.length ≤ 1000000) :
    Calls Tryd.prog 38 #[v] w fun e w' => e = .returned (.tuple #[]) ∧ (Fk.ob base S.reverse).f v w' ∧ Below base w w' := by
  have ho : w.ownsRow base 4 1 v S.length (S.map Value.bool) := hv
  by_cases hn : v = .slice none 0 0
  · subst hn
    have h0 : S = [] := by
      have h1 := ho.1
      rcases ho.2 with ⟨_, h⟩ | ⟨g, cap, cur, e, _⟩
      · exact List.eq_nil_of_length_eq_zero h
      · cases e
    subst h0
    refine (Tryd.slices_Reverse_empty (α := Bool) none 0 w).mono ?_
    rintro e w' ⟨rfl, rfl⟩
    exact ⟨rfl, hv, Below.refl _ _⟩
  · obtain ⟨g, cap, rfl, hb, hg, hc, hm, hz, hH⟩ := holds_of_ownsRow ho hn
    refine (Tryd.slices_Reverse Value.bool (fun _ => rfl) g 0 cap S w hH (by omega)).mono ?_
    rintro e w' ⟨rfl, q, rfl⟩
    have h1 := ownsRow_putRow (q := q) (k := S.length) (ys := S.reverse) ho (by simp) (Nat.le_refl _)
    refine ⟨rfl, ?_, below_putRow (Below.refl _ _) hb⟩
    rw [List.take_of_length_le (by simp)] at h1
    show (putRow Value.bool (Sort.ahead w q) g 0 S.reverse.toArray).ownsRow base 4 1 _ S.reverse.length (S.reverse.map Value.bool)
    rw [List.length_reverse]
    exact h1
end Go.Proofs.YthhnlemldpgbeaaDoor
