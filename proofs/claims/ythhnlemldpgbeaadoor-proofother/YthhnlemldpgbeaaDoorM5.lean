/- Plain words of layer 8: sides and steps, where a path leads, where a proof leads. Sides, Steps, join. slices.Reverse and slices.Contains at bools: the contracts of the shelf, laid at this dump. The turns of package proof. Root. -/
import Derived.Test.YthhnlemldpgbeaaDoorM4
import Derived.Ground.SlgnProg
import Derived.Shelf.SlicesE.Index
import Derived.Shelf.SlicesE.Reverse
import Derived.Lib.OwnBridge
namespace Go.Proofs.YthhnlemldpgbeaaDoor
set_option maxRecDepth 100000
/-- Of the leaf i of n, from it up: does the hash beside stand on the left? -/
def sds (i n : Nat) : List Bool :=
  if _h : n ≤ 1 then []
  else if i < spl n then sds i (spl n) ++ [false] else sds (i - spl n) (n - spl n) ++ [true]
  termination_by n
  decreasing_by
    · exact spl_lt (by omega)
    · have := spl_pos n
      omega
theorem sds_one {n : Nat} (h : n ≤ 1) (i : Nat) : sds i n = [] := by rw [sds, dif_pos h]
theorem sds_left {i n : Nat} (h : 2 ≤ n) (hi : i < spl n) : sds i n = sds i (spl n) ++ [false] := by rw [sds, dif_neg (by omega), if_pos hi]
theorem sds_right {i n : Nat} (h : 2 ≤ n) (hi : ¬ i < spl n) : sds i n = sds (i - spl n) (n - spl n) ++ [true] := by rw [sds, dif_neg (by omega), if_neg hi]
/-- A hash, and the next one, on its left or right. -/
def jon (h : List (BitVec 8)) (p : List (BitVec 8) × Bool) : List (BitVec 8) := if p.2 then nd p.1 h else nd h p.1
/-- Where a path leads. -/
def ldt (leaf : List (BitVec 8)) (P : List (List (BitVec 8))) (S : List Bool) : List (BitVec 8) := (P.zip S).foldl jon leaf
theorem ldt_nil (leaf : List (BitVec 8)) : ldt leaf [] [] = leaf := rfl
theorem ldt_snoc (leaf : List (BitVec 8)) {P : List (List (BitVec 8))} {S : List Bool} (h : P.length = S.length) (x : List (BitVec 8)) (b : Bool) : ldt leaf (P ++ [x]) (S ++ [b]) = jon (ldt leaf P S) (x, b) := by
  unfold ldt
  rw [List.zip_append h, List.foldl_append]
  rfl
theorem sds_len (n : Nat) : ∀ i, (sds i n).length ≤ n := by
  induction n using Nat.strongRecOn with
  | ind n ih =>
    intro i
    by_cases h1 : n ≤ 1
    · rw [sds_one h1]; exact Nat.zero_le _
    · have hs := spl_lt (n := n) (by omega)
      have hp := spl_pos n
      by_cases hi : i < spl n
      · have := ih (spl n) hs i
        rw [sds_left (by omega) hi, List.length_append, List.length_singleton]; omega
      · have := ih (n - spl n) (by omega) (i - spl n)
        rw [sds_right (by omega) hi, List.length_append, List.length_singleton]; omega
/-- No more than 61 of them up to 2^60. -/
theorem sds_log (n : Nat) : ∀ i j, n ≤ 2 ^ j → (sds i n).length ≤ j := by
  induction n using Nat.strongRecOn with
  | ind n ih =>
    intro i j hj
    by_cases h1 : n ≤ 1
    · rw [sds_one h1]; exact Nat.zero_le _
    · have hs := spl_lt (n := n) (by omega)
      have hp := spl_pos n
      have hg := spl_ge (n := n) (by omega)
      cases j with
      | zero => simp at hj; omega
      | succ j =>
        have hk : spl n ≤ 2 ^ j := by
          unfold spl
          apply Nat.pow_le_pow_right (by decide)
          have : Nat.log2 (n - 1) < j + 1 := (Nat.log2_lt (by omega)).2 (by omega)
          omega
        by_cases hi : i < spl n
        · have := ih (spl n) hs i j hk
          rw [sds_left (by omega) hi, List.length_append, List.length_singleton]; omega
        · have := ih (n - spl n) (by omega) (i - spl n) j (by rw [Nat.pow_succ] at hj; omega)
          rw [sds_right (by omega) hi, List.length_append, List.length_singleton]; omega
theorem path_sides (n : Nat) : ∀ (l : List (List (BitVec 8))) (i : Nat), l.length = n → i < n → (mpath l i).length = (sds i n).length ∧ ∀ x, l[i]? = some x → ldt x (mpath l i) (sds i n) = mroot l := by
  induction n using Nat.strongRecOn with
  | ind n ih =>
    intro l i hl hi
    by_cases h1 : n ≤ 1
    · rw [mpath_one (by omega), sds_one h1]
      refine ⟨rfl, fun x hx => ?_⟩
      match l, hl with
      | [y], _ =>
        obtain rfl : i = 0 := by omega
        obtain rfl : y = x := by simpa using hx
        rw [ldt_nil, mroot_one]
      | [], hl => exact absurd hl (by simp; omega)
      | a :: b :: r, hl => exact absurd hl (by simp; omega)
    · have h2 : 2 ≤ l.length := by omega
      have hs := spl_lt (n := n) (by omega)
      have hp := spl_pos n
      by_cases hk : i < spl n
      · obtain ⟨e1, e2⟩ := ih (spl n) hs (l.take (spl n)) i (by rw [List.length_take]; omega) hk
        rw [mpath_left h2 (by rw [hl]; exact hk), sds_left (by omega) hk, hl]
        refine ⟨by rw [List.length_append, List.length_append, e1, List.length_singleton, List.length_singleton], fun x hx => ?_⟩
        rw [ldt_snoc _ e1, e2 x (by rw [List.getElem?_take, if_pos hk]; exact hx), mroot_two h2, hl]
        rfl
      · obtain ⟨e1, e2⟩ := ih (n - spl n) (by omega) (l.drop (spl n)) (i - spl n) (by rw [List.length_drop]; omega) (by omega)
        rw [mpath_right h2 (by rw [hl]; exact hk), sds_right (by omega) hk, hl]
        refine ⟨by rw [List.length_append, List.length_append, e1, List.length_singleton, List.length_singleton], fun x hx => ?_⟩
        rw [ldt_snoc _ e1, e2 x (by rw [List.getElem?_drop, show spl n + (i - spl n) = i by omega]; exact hx), mroot_two h2, hl]
        rfl
/-- One step of both roots. -/
def bst (ab : List (BitVec 8) × List (BitVec 8)) (p : List (BitVec 8) × Bool) : List (BitVec 8) × List (BitVec 8) := (if p.2 then nd p.1 ab.1 else ab.1, jon ab.2 p)
end Go.Proofs.YthhnlemldpgbeaaDoor
namespace Go.Proofs.YthhnlemldpgbeaaDoor
set_option maxRecDepth 100000
open Go.RowKit
theorem jon_len (h : List (BitVec 8)) (p : List (BitVec 8) × Bool) : (jon h p).length = 32 := by unfold jon; split <;> exact nd_len _ _
end Go.Proofs.YthhnlemldpgbeaaDoor
namespace Go.Proofs.YthhnlemldpgbeaaDoor
set_option maxRecDepth 100000
open Go.RowKit
open Go.Shelf Go.Lib Go.Sort
def Tryd.laysSlE35_f38_ren : Go.Shelf.Ren := ⟨fun | 35 => 38 | n => n, fun | 22 => 33 | 23 => 4 | 3 => 3 | 4 => 4 | 0 => 0 | n => n, fun | n => n⟩
theorem Tryd.laysSlE35_f38 : Go.Proofs.SlLaysE.n35 Tryd.prog Tryd.laysSlE35_f38_ren := {
  mixed := by kernel_rfl
  f35 := ⟨Tryd.f38.name, by decide, Tryd.func38.trans (congrArg some (by kernel_rfl))⟩
  t0 := Tryd.underlying0
  a0 := Tryd.isAgg0
  z0 := Tryd.sizeOf0
  v0 := Tryd.zeroValue0
  t3 := Tryd.underlying3
  a3 := Tryd.isAgg3
  z3 := Tryd.sizeOf3
  v3 := Tryd.zeroValue3
  t4 := Tryd.underlying4
  a4 := Tryd.isAgg4
  z4 := Tryd.sizeOf4
  v4 := Tryd.zeroValue4
  t22 := Tryd.underlying33
  a22 := Tryd.isAgg33
  z22 := Tryd.sizeOf33
  v22 := Tryd.zeroValue33
  a23 := Tryd.isAgg4
  z23 := Tryd.sizeOf4 }
theorem Tryd.slices_Reverse {α : Type} [Inhabited α] (enc : α → Value) (h1 : OneCell enc) (blk off cap : Nat) (zs : List α) (w : World) (hH : Holds enc w blk off zs.toArray) (hsz : zs.length ≤ 9223372036854775807) :
    Calls Tryd.prog 38 #[.slice (some ⟨blk, off, none⟩) zs.length cap] w fun e w' => e = .returned (.tuple #[]) ∧ ∃ n, w' = putRow enc (Sort.ahead w n) blk off zs.reverse.toArray := AnyE.slices_Reverse Tryd.laysSlE35_f38 enc h1 blk off cap zs w hH hsz
theorem Tryd.slices_Reverse_empty {α : Type} [Inhabited α] (a : Option Addr) (cap : Nat) (w : World) :
    Calls Tryd.prog 38 #[.slice a 0 cap] w fun e w' => e = .returned (.tuple #[]) ∧ w' = w := AnyE.slices_Reverse_empty Tryd.laysSlE35_f38 a cap w
/-- slices.Reverse turns round a slice of bools of the call's own. -/
theorem reverse_any {base : Nat} {S : List Bool} {v : Value} {w : World} (hv : (Fk.ob base S).f v w) (hl : S.length ≤ 1000000) :
    Calls Tryd.prog 38 #[v] w fun e w' => e = .returned (.tuple #[]) ∧ (Fk.ob base S.reverse).f v w' ∧ Below base w w' := by
  have ho : w.ownsRow base 4 1 v S.length (S.map Value.bool) := hv
  by_cases hn : v = .slice none 0 0
  · subst hn
    have h0 : S = [] := by
      have h1 := ho.1
      rcases ho.2 with ⟨_, h⟩ | ⟨g, cap, cur, e, _⟩
      · exact List.eq_nil_of_length_eq_zero h
      · cases e
    subst h0
    refine (Tryd.slices_Reverse_empty (α := Bool) none 0 w).mono ?_
    rintro e w' ⟨rfl, rfl⟩
    exact ⟨rfl, hv, Below.refl _ _⟩
  · obtain ⟨g, cap, rfl, hb, hg, hc, hm, hz, hH⟩ := holds_of_ownsRow ho hn
    refine (Tryd.slices_Reverse Value.bool (fun _ => rfl) g 0 cap S w hH (by omega)).mono ?_
    rintro e w' ⟨rfl, q, rfl⟩
    have h1 := ownsRow_putRow (q := q) (k := S.length) (ys := S.reverse) ho (by simp) (Nat.le_refl _)
    refine ⟨rfl, ?_, below_putRow (Below.refl _ _) hb⟩
    rw [List.take_of_length_le (by simp)] at h1
    show (putRow Value.bool (Sort.ahead w q) g 0 S.reverse.toArray).ownsRow base 4 1 _ S.reverse.length (S.reverse.map Value.bool)
    rw [List.length_reverse]
    exact h1
end Go.Proofs.YthhnlemldpgbeaaDoor
namespace Go.Proofs.YthhnlemldpgbeaaDoor
set_option maxRecDepth 100000
open Go.RowKit
theorem st_tri0 {Q : Exit → Act → World → Prop} {o : Oper} {a : Act} {w : World} (x : Operand) (ho : o.op = .extract x 0) {u v z : Value} (hx : a.eval x = .tuple #[u, v, z]) : o.wp Tryd.prog a w (Ends a o.dst w (Fk.eq (u)).f) Q := by
  refine st_pure (v := u) ?_ rfl
  unfold execOp
  rw [ho]
  simp [hx, Instr.extract]
theorem st_tri1 {Q : Exit → Act → World → Prop} {o : Oper} {a : Act} {w : World} (x : Operand) (ho : o.op = .extract x 1) {u v z : Value} (hx : a.eval x = .tuple #[u, v, z]) : o.wp Tryd.prog a w (Ends a o.dst w (Fk.eq (v)).f) Q := by
  refine st_pure (v := v) ?_ rfl
  unfold execOp
  rw [ho]
  simp [hx, Instr.extract]
theorem st_tri2 {Q : Exit → Act → World → Prop} {o : Oper} {a : Act} {w : World} (x : Operand) (ho : o.op = .extract x 2) {u v z : Value} (hx : a.eval x = .tuple #[u, v, z]) : o.wp Tryd.prog a w (Ends a o.dst w (Fk.eq (z)).f) Q := by
  refine st_pure (v := z) ?_ rfl
  unfold execOp
  rw [ho]
  simp [hx, Instr.extract]
theorem ret_three {fn : Func} {t u s : Tmp} (h : fn.results = #[.tmp t, .tmp u, .tmp s]) (a : Act) (x y z : Value) (ht : a.eval (.tmp t) = x) (hu : a.eval (.tmp u) = y) (hs : a.eval (.tmp s) = z) (P : Program) (w : World) : (results fn a.tmps).run P w = .ok (.tuple #[x, y, z]) w := by
  have h1 : a.tmps.getD t undef = x := ht
  have h2 : a.tmps.getD u undef = y := hu
  have h3 : a.tmps.getD s undef = z := hs
  rw [← h1, ← h2, ← h3]
  simp [results, h]
/-- The turns above the leaf i of n, from the top down: in the left half? -/
def tdn (i n : Nat) : List Bool :=
  if _h : n ≤ 1 then [] else if i < spl n then true :: tdn i (spl n) else false :: tdn (i - spl n) (n - spl n)
termination_by n
decreasing_by
  · exact spl_lt (by omega)
  · have := spl_pos n
    omega
theorem tdn_one {n : Nat} (h : n ≤ 1) (i : Nat) : tdn i n = [] := by rw [tdn, dif_pos h]
theorem tdn_left {i n : Nat} (h : 2 ≤ n) (hi : i < spl n) : tdn i n = true :: tdn i (spl n) := by rw [tdn, dif_neg (by omega), if_pos hi]
theorem tdn_right {i n : Nat} (h : 2 ≤ n) (hi : ¬ i < spl n) : tdn i n = false :: tdn (i - spl n) (n - spl n) := by rw [tdn, dif_neg (by omega), if_neg hi]
theorem tdn_sds (n : Nat) : ∀ i, (tdn i n).reverse = (sds i n).map (!·) := by
  induction n using Nat.strongRecOn with
  | ind n ih =>
    intro i
    by_cases h1 : n ≤ 1
    · rw [tdn_one h1, sds_one h1]; rfl
    · have h2 : 2 ≤ n := by omega
      have hs := spl_lt h2
      have hp := spl_pos n
      by_cases hi : i < spl n
      · rw [tdn_left h2 hi, sds_left h2 hi, List.reverse_cons, ih _ hs, List.map_append]; rfl
      · rw [tdn_right h2 hi, sds_right h2 hi, List.reverse_cons, ih _ (by omega), List.map_append]; rfl
theorem tdn_len (i n : Nat) : (tdn i n).length = (sds i n).length := by
  have := congrArg List.length (tdn_sds n i)
  rw [List.length_reverse, List.length_map] at this
  exact this
theorem psplit_any (n : Nat) (h2 : 2 ≤ n) (h3 : n ≤ 9223372036854775807) (w : World) :
    Calls Tryd.prog 46 #[.int .i64 ((n : Nat) : Int)] w fun e w' => e = .returned (.int .i64 ((spl n : Nat) : Int)) ∧ Below w.heap.size w w' := by
  go_enter Tryd.func46, Tryd.ntmps46
  refine code_both (fun f w1 => f.tmps.size = 9 ∧ f.defers = [] ∧ f.eval (.tmp 0) = .int .i64 ((n : Nat) : Int) ∧ Below w.heap.size w (w1)) ⟨rfl, rfl, rfl, Below.refl _ _⟩ ?_
  rintro f0 w0 ⟨sz, df, x0, bl⟩
  have bl0 := bl
  refine wp_seq ?_
  refine wp_all_seq [.eq (.int .i64 0)] (by kernel_rfl) (by kernel_rfl) (by rw [sz]; kernel_rfl) (by kernel_rfl) ⟨fun hw ac u K => ?_, trivial⟩ ?_
  · exact st_assign (.const (.int .i64 0)) rfl rfl
  intro f1 w1 A hb
  replace bl0 := bl
  replace x0 := (A.old 0 rfl).trans x0
  have x2 : f1.eval (.tmp 2) = .int .i64 0 := A.has 0 2 rfl
  replace bl := (bl.trans (Below.mono hb bl.size))
  replace sz := A.size.trans sz
  replace df := A.defs.trans df
  clear A hb
  show Code.wp _ _ _ _ _
  refine wp_seq ?_
  refine wp_all_seq [.eq (.int .i64 ((n : Nat) : Int)), .eq (.int .i64 ((n - 1 : Nat) : Int)), .eq (.int .u64 ((n - 1 : Nat) : Int)), .eq (.int .i64 ((bln (n - 1) : Nat) : Int)), .eq (.int .i64 ((Nat.log2 (n - 1) : Nat) : Int)), .eq (.int .i64 ((spl n : Nat) : Int)), .eq (.int .i64 ((spl n : Nat) : Int))] (by kernel_rfl) (by kernel_rfl) (by rw [sz]; kernel_rfl) (by kernel_rfl) ⟨fun hw ac u K => ?_, fun hw ac u K => ?_, fun hw ac u K => ?_, fun hw ac u K => ?_, fun hw ac u K => ?_, fun hw ac u K => ?_, fun hw ac u K => ?_, trivial⟩ ?_
  · exact st_move (.tmp 0) rfl ((K.old 0 rfl).trans x0)
  · exact st_subz (.tmp 3) (.const (.int .i64 1)) rfl (n : Int) 1 _ (K.dep 0 3 rfl) rfl (by omega) (by omega) (by omega)
  · exact st_conv 3 81 (.tmp 4) rfl .i64 .u64 _ _ (K.dep 1 4 rfl) Tryd.under3 Tryd.under81 (by rw [IntKind.wrap_u64]; omega)
  · exact st_call 44 (.func 44) _ _ #[.int .u64 ((n - 1 : Nat) : Int)] rfl rfl (one_arg (K.dep 2 5 rfl)) Tryd.enter44 (fk_of (len_any (n - 1) (by omega) _))
  · exact st_subz (.tmp 6) (.const (.int .i64 1)) rfl _ 1 _ (K.dep 3 6 rfl) rfl (by rw [spl_bln h2]; omega) (by omega) (by have := log_le h2 h3; omega)
  · exact st_shl1 (.const (.int .i64 1)) (.tmp 7) rfl (Nat.log2 (n - 1)) rfl (K.dep 4 7 rfl) (spl n) rfl (log_le h2 h3)
  · exact st_assign (.tmp 8) rfl (K.dep 5 8 rfl)
  intro f2 w2 A hb
  replace bl0 := bl
  replace x0 := (A.old 0 rfl).trans x0
  clear x2
  have x2 : f2.eval (.tmp 2) = .int .i64 ((spl n : Nat) : Int) := A.has 6 2 rfl
  replace bl := (bl.trans (Below.mono hb bl.size))
  replace sz := A.size.trans sz
  replace df := A.defs.trans df
  clear A hb
  clear x0
  show Code.wp _ _ _ _ _
  refine wp_ret ?_
  repeat (first | with_reducible refine then_ret ?_ | with_reducible refine block_ret ?_)
  exact bodyPost_ret (v := .int .i64 ((spl n : Nat) : Int)) (ret_slot rfl f2 _ x2 _ _) df ⟨rfl, bl⟩
theorem half_left {i n : Nat} (h2 : 2 ≤ n) (h3 : n ≤ 1152921504606846976) (_hin : i < n) (hi : i < spl n) (w : World) :
    Calls Tryd.prog 37 #[.int .i64 ((i : Nat) : Int), .int .i64 ((n : Nat) : Int)] w fun e w' => e = .returned (.tuple #[.bool true, .int .i64 ((i : Nat) : Int), .int .i64 ((spl n : Nat) : Int)]) ∧ Below w.heap.size w w' := by
  have hsl := spl_lt h2
  go_enter Tryd.func37, Tryd.ntmps37
  refine code_both (fun f w1 => f.tmps.size = 21 ∧ f.defers = [] ∧ f.eval (.tmp 0) = .int .i64 ((i : Nat) : Int) ∧ f.eval (.tmp 1) = .int .i64 ((n : Nat) : Int) ∧ Below w.heap.size w (w1)) ⟨rfl, rfl, rfl, rfl, Below.refl _ _⟩ ?_
  rintro f0 w0 ⟨sz, df, x0, x1, bl⟩
  have bl0 := bl
  refine wp_seq ?_
  refine wp_all_seq [.eq (.bool false), .eq (.int .i64 0), .eq (.int .i64 0)] (by kernel_rfl) (by kernel_rfl) (by rw [sz]; kernel_rfl) (by kernel_rfl) ⟨fun hw ac u K => ?_, fun hw ac u K => ?_, fun hw ac u K => ?_, trivial⟩ ?_
  · exact st_assign (.const (.bool false)) rfl rfl
  · exact st_assign (.const (.int .i64 0)) rfl rfl
  · exact st_assign (.const (.int .i64 0)) rfl rfl
  intro f1 w1 A hb
  replace bl0 := bl
  replace x0 := (A.old 0 rfl).trans x0
  replace x1 := (A.old 1 rfl).trans x1
  have x4 : f1.eval (.tmp 4) = .bool false := A.has 0 4 rfl
  have x5 : f1.eval (.tmp 5) = .int .i64 0 := A.has 1 5 rfl
  have x6 : f1.eval (.tmp 6) = .int .i64 0 := A.has 2 6 rfl
  replace bl := (bl.trans (Below.mono hb bl.size))
  replace sz := A.size.trans sz
  replace df := A.defs.trans df
  clear A hb
  show Code.wp _ _ _ _ _
  refine wp_seq ?_
  refine wp_all_seq [.eq (.int .i64 ((n : Nat) : Int)), .eq (.int .i64 ((spl n : Nat) : Int)), .eq (.int .i64 ((spl n : Nat) : Int))] (by kernel_rfl) (by kernel_rfl) (by rw [sz]; kernel_rfl) (by kernel_rfl) ⟨fun hw ac u K => ?_, fun hw ac u K => ?_, fun hw ac u K => ?_, trivial⟩ ?_
  · exact st_move (.tmp 1) rfl ((K.old 1 rfl).trans x1)
  · exact st_call 46 (.func 46) _ _ #[.int .i64 ((n : Nat) : Int)] rfl rfl (one_arg (K.dep 0 8 rfl)) Tryd.enter46 (fk_of (psplit_any n h2 (by omega) _))
  · exact st_assign (.tmp 9) rfl (K.dep 1 9 rfl)
  intro f2 w2 A hb
  replace bl0 := bl
  replace x0 := (A.old 0 rfl).trans x0
  replace x1 := (A.old 1 rfl).trans x1
  replace x4 := (A.old 4 rfl).trans x4
  replace x5 := (A.old 5 rfl).trans x5
  replace x6 := (A.old 6 rfl).trans x6
  have x7 : f2.eval (.tmp 7) = .int .i64 ((spl n : Nat) : Int) := A.has 2 7 rfl
  replace bl := (bl.trans (Below.mono hb bl.size))
  replace sz := A.size.trans sz
  replace df := A.defs.trans df
  clear A hb
  show Code.wp _ _ _ _ _
  refine wp_seq ?_
  refine wp_seq ?_
  refine wp_all_seq [.eq (.int .i64 ((i : Nat) : Int)), .eq (.int .i64 ((spl n : Nat) : Int)), .eq (.bool true)] (by kernel_rfl) (by kernel_rfl) (by rw [sz]; kernel_rfl) (by kernel_rfl) ⟨fun hw ac u K => ?_, fun hw ac u K => ?_, fun hw ac u K => ?_, trivial⟩ ?_
  · exact st_move (.tmp 0) rfl ((K.old 0 rfl).trans x0)
  · exact st_move (.tmp 7) rfl ((K.old 7 rfl).trans x7)
  · exact st_lss 3 (.tmp 10) (.tmp 11) rfl .i64 (((i : Nat) : Int)) (((spl n : Nat) : Int)) (K.dep 0 10 rfl) (K.dep 1 11 rfl) _ (by rw [eq_comm, decide_eq_true_iff]; omega)
  intro f3 w3 A hb
  replace bl0 := bl
  replace x0 := (A.old 0 rfl).trans x0
  replace x1 := (A.old 1 rfl).trans x1
  replace x4 := (A.old 4 rfl).trans x4
  replace x5 := (A.old 5 rfl).trans x5
  replace x6 := (A.old 6 rfl).trans x6
  replace x7 := (A.old 7 rfl).trans x7
  have x12 : f3.eval (.tmp 12) = .bool true := A.has 2 12 rfl
  replace bl := (bl.trans (Below.mono hb bl.size))
  replace sz := A.size.trans sz
  replace df := A.defs.trans df
  clear A hb
  show Code.wp _ _ _ _ _
  refine wp_cond_true x12 ?_
  refine wp_seq ?_
  refine wp_all_seq [.eq (.int .i64 ((i : Nat) : Int)), .eq (.int .i64 ((spl n : Nat) : Int)), .eq (.bool true), .eq (.int .i64 ((i : Nat) : Int)), .eq (.int .i64 ((spl n : Nat) : Int))] (by kernel_rfl) (by kernel_rfl) (by rw [sz]; kernel_rfl) (by kernel_rfl) ⟨fun hw ac u K => ?_, fun hw ac u K => ?_, fun hw ac u K => ?_, fun hw ac u K => ?_, fun hw ac u K => ?_, trivial⟩ ?_
  · exact st_move (.tmp 0) rfl ((K.old 0 rfl).trans x0)
  · exact st_move (.tmp 7) rfl ((K.old 7 rfl).trans x7)
  · exact st_assign (.const (.bool true)) rfl rfl
  · exact st_assign (.tmp 13) rfl (K.dep 0 13 rfl)
  · exact st_assign (.tmp 14) rfl (K.dep 1 14 rfl)
  intro f4 w4 A hb
  replace bl0 := bl
  replace x0 := (A.old 0 rfl).trans x0
  replace x1 := (A.old 1 rfl).trans x1
  clear x4
  clear x5
  clear x6
  replace x7 := (A.old 7 rfl).trans x7
  replace x12 := (A.old 12 rfl).trans x12
  have x4 : f4.eval (.tmp 4) = .bool true := A.has 2 4 rfl
  have x5 : f4.eval (.tmp 5) = .int .i64 ((i : Nat) : Int) := A.has 3 5 rfl
  have x6 : f4.eval (.tmp 6) = .int .i64 ((spl n : Nat) : Int) := A.has 4 6 rfl
  replace bl := (bl.trans (Below.mono hb bl.size))
  replace sz := A.size.trans sz
  replace df := A.defs.trans df
  clear A hb
  show Code.wp _ _ _ _ _
  refine wp_ret ?_
  repeat (first | with_reducible refine then_ret ?_ | with_reducible refine block_ret ?_)
  exact bodyPost_ret (v := .tuple #[.bool true, .int .i64 ((i : Nat) : Int), .int .i64 ((spl n : Nat) : Int)]) (ret_three rfl f4 _ _ _ x4 x5 x6 _ _) df ⟨rfl, bl⟩
theorem half_right {i n : Nat} (h2 : 2 ≤ n) (h3 : n ≤ 1152921504606846976) (hin : i < n) (hi : ¬ i < spl n) (w : World) :
    Calls Tryd.prog 37 #[.int .i64 ((i : Nat) : Int), .int .i64 ((n : Nat) : Int)] w fun e w' => e = .returned (.tuple #[.bool false, .int .i64 ((i - spl n : Nat) : Int), .int .i64 ((n - spl n : Nat) : Int)]) ∧ Below w.heap.size w w' := by
  have hsl := spl_lt h2
  go_enter Tryd.func37, Tryd.ntmps37
  refine code_both (fun f w1 => f.tmps.size = 21 ∧ f.defers = [] ∧ f.eval (.tmp 0) = .int .i64 ((i : Nat) : Int) ∧ f.eval (.tmp 1) = .int .i64 ((n : Nat) : Int) ∧ Below w.heap.size w (w1)) ⟨rfl, rfl, rfl, rfl, Below.refl _ _⟩ ?_
  rintro f0 w0 ⟨sz, df, x0, x1, bl⟩
  have bl0 := bl
  refine wp_seq ?_
  refine wp_all_seq [.eq (.bool false), .eq (.int .i64 0), .eq (.int .i64 0)] (by kernel_rfl) (by kernel_rfl) (by rw [sz]; kernel_rfl) (by kernel_rfl) ⟨fun hw ac u K => ?_, fun hw ac u K => ?_, fun hw ac u K => ?_, trivial⟩ ?_
  · exact st_assign (.const (.bool false)) rfl rfl
  · exact st_assign (.const (.int .i64 0)) rfl rfl
  · exact st_assign (.const (.int .i64 0)) rfl rfl
  intro f1 w1 A hb
  replace bl0 := bl
  replace x0 := (A.old 0 rfl).trans x0
  replace x1 := (A.old 1 rfl).trans x1
  have x4 : f1.eval (.tmp 4) = .bool false := A.has 0 4 rfl
  have x5 : f1.eval (.tmp 5) = .int .i64 0 := A.has 1 5 rfl
  have x6 : f1.eval (.tmp 6) = .int .i64 0 := A.has 2 6 rfl
  replace bl := (bl.trans (Below.mono hb bl.size))
  replace sz := A.size.trans sz
  replace df := A.defs.trans df
  clear A hb
  show Code.wp _ _ _ _ _
  refine wp_seq ?_
  refine wp_all_seq [.eq (.int .i64 ((n : Nat) : Int)), .eq (.int .i64 ((spl n : Nat) : Int)), .eq (.int .i64 ((spl n : Nat) : Int))] (by kernel_rfl) (by kernel_rfl) (by rw [sz]; kernel_rfl) (by kernel_rfl) ⟨fun hw ac u K => ?_, fun hw ac u K => ?_, fun hw ac u K => ?_, trivial⟩ ?_
  · exact st_move (.tmp 1) rfl ((K.old 1 rfl).trans x1)
  · exact st_call 46 (.func 46) _ _ #[.int .i64 ((n : Nat) : Int)] rfl rfl (one_arg (K.dep 0 8 rfl)) Tryd.enter46 (fk_of (psplit_any n h2 (by omega) _))
  · exact st_assign (.tmp 9) rfl (K.dep 1 9 rfl)
  intro f2 w2 A hb
  replace bl0 := bl
  replace x0 := (A.old 0 rfl).trans x0
  replace x1 := (A.old 1 rfl).trans x1
  replace x4 := (A.old 4 rfl).trans x4
  replace x5 := (A.old 5 rfl).trans x5
  replace x6 := (A.old 6 rfl).trans x6
  have x7 : f2.eval (.tmp 7) = .int .i64 ((spl n : Nat) : Int) := A.has 2 7 rfl
  replace bl := (bl.trans (Below.mono hb bl.size))
  replace sz := A.size.trans sz
  replace df := A.defs.trans df
  clear A hb
  show Code.wp _ _ _ _ _
  refine wp_seq ?_
  refine wp_seq ?_
  refine wp_all_seq [.eq (.int .i64 ((i : Nat) : Int)), .eq (.int .i64 ((spl n : Nat) : Int)), .eq (.bool false)] (by kernel_rfl) (by kernel_rfl) (by rw [sz]; kernel_rfl) (by kernel_rfl) ⟨fun hw ac u K => ?_, fun hw ac u K => ?_, fun hw ac u K => ?_, trivial⟩ ?_
  · exact st_move (.tmp 0) rfl ((K.old 0 rfl).trans x0)
  · exact st_move (.tmp 7) rfl ((K.old 7 rfl).trans x7)
  · exact st_lss 3 (.tmp 10) (.tmp 11) rfl .i64 (((i : Nat) : Int)) (((spl n : Nat) : Int)) (K.dep 0 10 rfl) (K.dep 1 11 rfl) _ (by rw [eq_comm, decide_eq_false_iff_not]; omega)
  intro f3 w3 A hb
  replace bl0 := bl
  replace x0 := (A.old 0 rfl).trans x0
  replace x1 := (A.old 1 rfl).trans x1
  replace x4 := (A.old 4 rfl).trans x4
  replace x5 := (A.old 5 rfl).trans x5
  replace x6 := (A.old 6 rfl).trans x6
  replace x7 := (A.old 7 rfl).trans x7
  have x12 : f3.eval (.tmp 12) = .bool false := A.has 2 12 rfl
  replace bl := (bl.trans (Below.mono hb bl.size))
  replace sz := A.size.trans sz
  replace df := A.defs.trans df
  clear A hb
  show Code.wp _ _ _ _ _
  refine wp_cond_false x12 ?_
  refine wp_skip ?_
  show Code.wp _ _ _ _ _
  refine wp_seq ?_
  refine wp_all_seq [.eq (.int .i64 ((i : Nat) : Int)), .eq (.int .i64 ((spl n : Nat) : Int)), .eq (.int .i64 ((i - spl n : Nat) : Int)), .eq (.int .i64 ((n : Nat) : Int)), .eq (.int .i64 ((spl n : Nat) : Int)), .eq (.int .i64 ((n - spl n : Nat) : Int)), .eq (.bool false), .eq (.int .i64 ((i - spl n : Nat) : Int)), .eq (.int .i64 ((n - spl n : Nat) : Int))] (by kernel_rfl) (by kernel_rfl) (by rw [sz]; kernel_rfl) (by kernel_rfl) ⟨fun hw ac u K => ?_, fun hw ac u K => ?_, fun hw ac u K => ?_, fun hw ac u K => ?_, fun hw ac u K => ?_, fun hw ac u K => ?_, fun hw ac u K => ?_, fun hw ac u K => ?_, fun hw ac u K => ?_, trivial⟩ ?_
  · exact st_move (.tmp 0) rfl ((K.old 0 rfl).trans x0)
  · exact st_move (.tmp 7) rfl ((K.old 7 rfl).trans x7)
  · exact st_subz (.tmp 15) (.tmp 16) rfl _ _ _ (K.dep 0 15 rfl) (K.dep 1 16 rfl) (by omega) (by omega) (by omega)
  · exact st_move (.tmp 1) rfl ((K.old 1 rfl).trans x1)
  · exact st_move (.tmp 7) rfl ((K.old 7 rfl).trans x7)
  · exact st_subz (.tmp 18) (.tmp 19) rfl _ _ _ (K.dep 3 18 rfl) (K.dep 4 19 rfl) (by omega) (by omega) (by omega)
  · exact st_assign (.const (.bool false)) rfl rfl
  · exact st_assign (.tmp 17) rfl (K.dep 2 17 rfl)
  · exact st_assign (.tmp 20) rfl (K.dep 5 20 rfl)
  intro f4 w4 A hb
  replace bl0 := bl
  replace x0 := (A.old 0 rfl).trans x0
  replace x1 := (A.old 1 rfl).trans x1
  clear x4
  clear x5
  clear x6
  replace x7 := (A.old 7 rfl).trans x7
  replace x12 := (A.old 12 rfl).trans x12
  have x4 : f4.eval (.tmp 4) = .bool false := A.has 6 4 rfl
  have x5 : f4.eval (.tmp 5) = .int .i64 ((i - spl n : Nat) : Int) := A.has 7 5 rfl
  have x6 : f4.eval (.tmp 6) = .int .i64 ((n - spl n : Nat) : Int) := A.has 8 6 rfl
  replace bl := (bl.trans (Below.mono hb bl.size))
  replace sz := A.size.trans sz
  replace df := A.defs.trans df
  clear A hb
  show Code.wp _ _ _ _ _
  refine wp_ret ?_
  repeat (first | with_reducible refine then_ret ?_ | with_reducible refine block_ret ?_)
  exact bodyPost_ret (v := .tuple #[.bool false, .int .i64 ((i - spl n : Nat) : Int), .int .i64 ((n - spl n : Nat) : Int)]) (ret_three rfl f4 _ _ _ x4 x5 x6 _ _) df ⟨rfl, bl⟩
theorem pturns_any {i n : Nat} (hi : i < n) (h3 : n ≤ 1152921504606846976) (w : World) :
    Calls Tryd.prog 23 #[.int .i64 ((i : Nat) : Int), .int .i64 ((n : Nat) : Int)] w fun e w' => ∃ u, e = .returned u ∧ (Fk.ob w.heap.size (tdn i n).reverse).f u w' ∧ Below w.heap.size w w' := by
  have htl : (tdn i n).length ≤ 60 := by rw [tdn_len]; exact sds_log n i 60 (by omega)
  go_enter Tryd.func23, Tryd.ntmps23
  refine code_both (fun f w1 => f.tmps.size = 23 ∧ f.defers = [] ∧ f.eval (.tmp 0) = .int .i64 ((i : Nat) : Int) ∧ f.eval (.tmp 1) = .int .i64 ((n : Nat) : Int) ∧ Below w.heap.size w (w1)) ⟨rfl, rfl, rfl, rfl, Below.refl _ _⟩ ?_
  rintro f0 w0 ⟨sz, df, x0, x1, bl⟩
  have bl0 := bl
  refine wp_seq ?_
  refine wp_all_seq [.eq (.slice none 0 0)] (by kernel_rfl) (by kernel_rfl) (by rw [sz]; kernel_rfl) (by kernel_rfl) ⟨fun hw ac u K => ?_, trivial⟩ ?_
  · exact st_assign (.const (.slice none 0 0)) rfl rfl
  intro f1 w1 A hb
  replace bl0 := bl
  replace x0 := (A.old 0 rfl).trans x0
  replace x1 := (A.old 1 rfl).trans x1
  have x4 : f1.eval (.tmp 4) = .slice none 0 0 := A.has 0 4 rfl
  replace bl := (bl.trans (Below.mono hb bl.size))
  replace sz := A.size.trans sz
  replace df := A.defs.trans df
  clear A hb
  show Code.wp _ _ _ _ _
  refine wp_seq ?_
  refine wp_all_seq [.eq (.slice none 0 0)] (by kernel_rfl) (by kernel_rfl) (by rw [sz]; kernel_rfl) (by kernel_rfl) ⟨fun hw ac u K => ?_, trivial⟩ ?_
  · exact st_assign (.const (.slice none 0 0)) rfl rfl
  intro f2 w2 A hb
  replace bl0 := bl
  replace x0 := (A.old 0 rfl).trans x0
  replace x1 := (A.old 1 rfl).trans x1
  replace x4 := (A.old 4 rfl).trans x4
  have x5 : f2.eval (.tmp 5) = .slice none 0 0 := A.has 0 5 rfl
  replace bl := (bl.trans (Below.mono hb bl.size))
  replace sz := A.size.trans sz
  replace df := A.defs.trans df
  clear A hb
  show Code.wp _ _ _ _ _
  refine wp_seq ?_
  refine wp_block ?_
  refine wp_loop (fun f v1 => ∃ (i2 n2 : Nat) (acc : List Bool), acc ++ tdn i2 n2 = tdn i n ∧ i2 < n2 ∧ n2 ≤ n ∧ f.tmps.size = 23 ∧ f.defers = [] ∧ f.eval (.tmp 4) = .slice none 0 0 ∧ f.eval (.tmp 0) = .int .i64 ((i2 : Nat) : Int) ∧ f.eval (.tmp 1) = .int .i64 ((n2 : Nat) : Int) ∧ Fk.f (.ob w.heap.size (acc)) (f.eval (.tmp 5)) v1 ∧ Below w.heap.size w (v1)) (fun f _ => (intOf (f.eval (.tmp 1))).toNat) ⟨i, n, [], rfl, hi, Nat.le_refl _, sz, df, x4, x0, x1, (fk_val x5 (ob_nil _ _)), bl⟩ ?_
  intro f3 w3 hI
  clear sz df bl bl0 x0 x1 x4 x5
  obtain ⟨i2, n2, acc, hc, hin, hn2, sz, df, x4, x0, x1, x5, bl⟩ := hI
  have bl0 := bl
  refine wp_seq ?_
  refine wp_seq ?_
  have hcnt := x1
  have hal : acc.length ≤ 60 := by have h1 := congrArg List.length hc; rw [List.length_append] at h1; omega
  by_cases hgo : 1 < n2
  rotate_left
  · skip
    refine wp_all_seq [.eq (.int .i64 ((n2 : Nat) : Int)), .eq (.bool false)] (by kernel_rfl) (by kernel_rfl) (by rw [sz]; kernel_rfl) (by kernel_rfl) ⟨fun hw ac u K => ?_, fun hw ac u K => ?_, trivial⟩ ?_
    · exact st_move (.tmp 1) rfl ((K.old 1 rfl).trans x1)
    · exact st_gtr 3 (.tmp 7) (.const (.int .i64 1)) rfl .i64 (((n2 : Nat) : Int)) (1) (K.dep 0 7 rfl) rfl _ (by rw [eq_comm, decide_eq_false_iff_not]; omega)
    intro f4 w4 A hb
    replace bl0 := bl
    replace x0 := (A.old 0 rfl).trans x0
    replace x1 := (A.old 1 rfl).trans x1
    replace x4 := (A.old 4 rfl).trans x4
    replace x5 := f_at (A.old 5 rfl) (Fk.mono _ _ _ _ x5 hb)
    have x8 : f4.eval (.tmp 8) = .bool false := A.has 1 8 rfl
    replace bl := (bl.trans (Below.mono hb bl.size))
    replace sz := A.size.trans sz
    replace df := A.defs.trans df
    clear A hb
    show Code.wp _ _ _ _ _
    refine wp_cond_false x8 ?_
    refine wp_exit ?_
    show Code.wp _ _ _ _ _
    refine wp_seq ?_
    rw [tdn_one (by omega), List.append_nil] at hc
    rw [hc] at x5
    obtain ⟨v5, e5⟩ : ∃ v, f4.eval (.tmp 5) = v := ⟨_, rfl⟩
    have h5 := x5
    rw [e5] at h5
    replace x5 := e5
    clear e5
    refine wp_region_seq [.eq (v5)] (by kernel_rfl) (by kernel_rfl) (by rw [sz]; kernel_rfl) (by kernel_rfl) ⟨fun hw ac u K => ?_, trivial⟩ ?_
    · exact st_move (.tmp 5) rfl ((K.old 5 rfl).trans x5)
    intro f5 w5 A hb
    replace bl0 := bl
    replace x0 := (A.old 0 rfl).trans x0
    replace x1 := (A.old 1 rfl).trans x1
    replace x4 := (A.old 4 rfl).trans x4
    replace x5 := (A.old 5 rfl).trans x5
    replace x8 := (A.old 8 rfl).trans x8
    have x20 : f5.eval (.tmp 20) = v5 := A.has 0 20 rfl
    replace h5 := Fk.mono _ _ _ _ h5 hb
    replace bl := (bl.trans (Below.mono hb bl.size))
    replace sz := A.size.trans sz
    replace df := A.defs.trans df
    clear A hb
    refine wl_call 38 (.func 38) _ _ #[v5] rfl 21 rfl (by rw [sz]; decide) rfl rfl (one_arg x20) Tryd.enter38 (fun u W' => (Fk.ob w.heap.size (tdn i n).reverse).f v5 W' ∧ Below w.heap.size w5 W') ((reverse_any h5 (by omega)).mono (by rintro e w' ⟨rfl, h1, h2⟩; exact ⟨_, rfl, h1, h2⟩)) ?_
    intro f6 w6 df2 sz2 old2 hR2
    replace x0 := (old2 0 rfl).trans x0
    replace x1 := (old2 1 rfl).trans x1
    replace x4 := (old2 4 rfl).trans x4
    replace x5 := (old2 5 rfl).trans x5
    replace x8 := (old2 8 rfl).trans x8
    replace x20 := (old2 20 rfl).trans x20
    replace h5 := hR2.1
    replace bl := bl.trans hR2.2
    replace bl0 := bl
    replace sz := sz2.trans sz
    replace df := df2.trans df
    clear df2 sz2 old2 hR2
    refine wpList_nil ?_
    clear x20
    show Code.wp _ _ _ _ _
    refine wp_seq ?_
    refine wp_all_seq [.eq (v5), .eq (v5)] (by kernel_rfl) (by kernel_rfl) (by rw [sz]; kernel_rfl) (by kernel_rfl) ⟨fun hw ac u K => ?_, fun hw ac u K => ?_, trivial⟩ ?_
    · exact st_move (.tmp 5) rfl ((K.old 5 rfl).trans x5)
    · exact st_assign (.tmp 22) rfl (K.dep 0 22 rfl)
    intro f7 w7 A hb
    replace bl0 := bl
    replace x0 := (A.old 0 rfl).trans x0
    replace x1 := (A.old 1 rfl).trans x1
    clear x4
    replace x5 := (A.old 5 rfl).trans x5
    replace x8 := (A.old 8 rfl).trans x8
    have x4 : f7.eval (.tmp 4) = v5 := A.has 1 4 rfl
    replace h5 := Fk.mono _ _ _ _ h5 hb
    replace bl := (bl.trans (Below.mono hb bl.size))
    replace sz := A.size.trans sz
    replace df := A.defs.trans df
    clear A hb
    show Code.wp _ _ _ _ _
    refine wp_ret ?_
    repeat (first | with_reducible refine then_ret ?_ | with_reducible refine block_ret ?_)
    exact bodyPost_ret (v := v5) (ret_slot rfl f7 _ x4 _ _) df ⟨_, rfl, h5, bl⟩
  have h2 : 2 ≤ n2 := by omega
  have hs := spl_lt h2
  have hp := spl_pos n2
  refine wp_all_seq [.eq (.int .i64 ((n2 : Nat) : Int)), .eq (.bool true)] (by kernel_rfl) (by kernel_rfl) (by rw [sz]; kernel_rfl) (by kernel_rfl) ⟨fun hw ac u K => ?_, fun hw ac u K => ?_, trivial⟩ ?_
  · exact st_move (.tmp 1) rfl ((K.old 1 rfl).trans x1)
  · exact st_gtr 3 (.tmp 7) (.const (.int .i64 1)) rfl .i64 (((n2 : Nat) : Int)) (1) (K.dep 0 7 rfl) rfl _ (by rw [eq_comm, decide_eq_true_iff]; omega)
  intro f4 w4 A hb
  replace bl0 := bl
  replace x0 := (A.old 0 rfl).trans x0
  replace x1 := (A.old 1 rfl).trans x1
  replace x4 := (A.old 4 rfl).trans x4
  replace x5 := f_at (A.old 5 rfl) (Fk.mono _ _ _ _ x5 hb)
  have x8 : f4.eval (.tmp 8) = .bool true := A.has 1 8 rfl
  replace bl := (bl.trans (Below.mono hb bl.size))
  replace sz := A.size.trans sz
  replace df := A.defs.trans df
  clear A hb
  show Code.wp _ _ _ _ _
  refine wp_cond_true x8 ?_
  refine wp_skip ?_
  show Code.wp _ _ _ _ _
  refine wp_block ?_
  refine wp_seq ?_
  refine wp_all_seq [.eq (.bool false)] (by kernel_rfl) (by kernel_rfl) (by rw [sz]; kernel_rfl) (by kernel_rfl) ⟨fun hw ac u K => ?_, trivial⟩ ?_
  · exact st_assign (.const (.bool false)) rfl rfl
  intro f5 w5 A hb
  replace bl0 := bl
  replace x0 := (A.old 0 rfl).trans x0
  replace x1 := (A.old 1 rfl).trans x1
  replace x4 := (A.old 4 rfl).trans x4
  replace x5 := f_at (A.old 5 rfl) (Fk.mono _ _ _ _ x5 hb)
  replace x8 := (A.old 8 rfl).trans x8
  have x6 : f5.eval (.tmp 6) = .bool false := A.has 0 6 rfl
  replace bl := (bl.trans (Below.mono hb bl.size))
  replace sz := A.size.trans sz
  replace df := A.defs.trans df
  clear A hb
  show Code.wp _ _ _ _ _
  refine wp_seq ?_
  by_cases hlt : i2 < spl n2
  rotate_left
  · skip
    refine wp_region_seq [.eq (.int .i64 ((i2 : Nat) : Int)), .eq (.int .i64 ((n2 : Nat) : Int)), .eq (.tuple #[.bool false, .int .i64 ((i2 - spl n2 : Nat) : Int), .int .i64 ((n2 - spl n2 : Nat) : Int)]), .eq (.tuple #[.bool false, .int .i64 ((i2 - spl n2 : Nat) : Int), .int .i64 ((n2 - spl n2 : Nat) : Int)]), .eq (.bool false), .eq (.int .i64 ((i2 - spl n2 : Nat) : Int)), .eq (.int .i64 ((n2 - spl n2 : Nat) : Int)), .eq (.bool false)] (by kernel_rfl) (by kernel_rfl) (by rw [sz]; kernel_rfl) (by kernel_rfl) ⟨fun hw ac u K => ?_, fun hw ac u K => ?_, fun hw ac u K => ?_, fun hw ac u K => ?_, fun hw ac u K => ?_, fun hw ac u K => ?_, fun hw ac u K => ?_, fun hw ac u K => ?_, trivial⟩ ?_
    · exact st_move (.tmp 0) rfl ((K.old 0 rfl).trans x0)
    · exact st_move (.tmp 1) rfl ((K.old 1 rfl).trans x1)
    · exact st_call 37 (.func 37) _ _ #[.int .i64 ((i2 : Nat) : Int), .int .i64 ((n2 : Nat) : Int)] rfl rfl (arg2 (K.dep 0 10 rfl) (K.dep 1 11 rfl)) Tryd.enter37 (fk_of (half_right h2 (by omega) hin hlt _))
    · exact st_move (.tmp 12) rfl (K.dep 2 12 rfl)
    · exact st_tri0 (.tmp 9) rfl (K.dep 3 9 rfl)
    · exact st_tri1 (.tmp 9) rfl (K.dep 3 9 rfl)
    · exact st_tri2 (.tmp 9) rfl (K.dep 3 9 rfl)
    · exact st_assign (.tmp 13) rfl (K.dep 4 13 rfl)
    intro f6 w6 A hb
    replace bl0 := bl
    replace x0 := (A.old 0 rfl).trans x0
    replace x1 := (A.old 1 rfl).trans x1
    replace x4 := (A.old 4 rfl).trans x4
    replace x5 := f_at (A.old 5 rfl) (Fk.mono _ _ _ _ x5 hb)
    replace x8 := (A.old 8 rfl).trans x8
    clear x6
    have x6 : f6.eval (.tmp 6) = .bool false := A.has 7 6 rfl
    have x14 : f6.eval (.tmp 14) = .int .i64 ((i2 - spl n2 : Nat) : Int) := A.has 5 14 rfl
    have x15 : f6.eval (.tmp 15) = .int .i64 ((n2 - spl n2 : Nat) : Int) := A.has 6 15 rfl
    replace bl := (bl.trans (Below.mono hb bl.size))
    replace sz := A.size.trans sz
    replace df := A.defs.trans df
    clear A hb
    refine wl_one (.eq (.int .i64 ((i2 - spl n2 : Nat) : Int))) rfl 0 rfl (by rw [sz]; decide) (st_assign (.tmp 14) rfl x14) ?_
    intro f7 w7 df2 sz2 old2 new2 hb
    replace bl0 := bl
    clear x0
    replace x1 := (old2 1 rfl).trans x1
    replace x4 := (old2 4 rfl).trans x4
    replace x5 := f_at (old2 5 rfl) (Fk.mono _ _ _ _ x5 hb)
    replace x8 := (old2 8 rfl).trans x8
    replace x6 := (old2 6 rfl).trans x6
    replace x14 := (old2 14 rfl).trans x14
    replace x15 := (old2 15 rfl).trans x15
    have x0 : f7.eval (.tmp 0) = .int .i64 ((i2 - spl n2 : Nat) : Int) := new2
    replace bl := (bl.trans (Below.mono hb bl.size))
    replace sz := sz2.trans sz
    replace df := df2.trans df
    clear df2 sz2 old2 new2 hb
    clear x14
    refine wl_one (.eq (.int .i64 ((n2 - spl n2 : Nat) : Int))) rfl 1 rfl (by rw [sz]; decide) (st_assign (.tmp 15) rfl x15) ?_
    intro f8 w8 df2 sz2 old2 new2 hb
    replace bl0 := bl
    clear x1
    replace x4 := (old2 4 rfl).trans x4
    replace x5 := f_at (old2 5 rfl) (Fk.mono _ _ _ _ x5 hb)
    replace x8 := (old2 8 rfl).trans x8
    replace x6 := (old2 6 rfl).trans x6
    replace x15 := (old2 15 rfl).trans x15
    replace x0 := (old2 0 rfl).trans x0
    have x1 : f8.eval (.tmp 1) = .int .i64 ((n2 - spl n2 : Nat) : Int) := new2
    replace bl := (bl.trans (Below.mono hb bl.size))
    replace sz := sz2.trans sz
    replace df := df2.trans df
    clear df2 sz2 old2 new2 hb
    refine wpList_nil ?_
    clear x15
    show Code.wp _ _ _ _ _
    refine wp_region_seq [.ob w.heap.size (acc), .eq (.bool false), .ob w.heap.size ([false])] (by kernel_rfl) (by kernel_rfl) (by rw [sz]; kernel_rfl) (by kernel_rfl) ⟨fun hw ac u K => ?_, fun hw ac u K => ?_, fun hw ac u K => ?_, trivial⟩ ?_
    · exact st_move (.tmp 5) rfl (f_at (K.old 5 rfl) (Fk.mono _ _ _ _ x5 K.grow))
    · exact st_move (.tmp 6) rfl ((K.old 6 rfl).trans x6)
    · exact st_bo1b (.tmp 17) rfl _ (K.dep 1 17 rfl) _ (bl.trans (Below.mono K.grow bl.size)).size
    intro f9 w9 A hb
    replace bl0 := bl
    replace x4 := (A.old 4 rfl).trans x4
    replace x5 := f_at (A.old 5 rfl) (Fk.mono _ _ _ _ x5 hb)
    replace x8 := (A.old 8 rfl).trans x8
    replace x6 := (A.old 6 rfl).trans x6
    replace x0 := (A.old 0 rfl).trans x0
    replace x1 := (A.old 1 rfl).trans x1
    have x16 : Fk.f (.ob w.heap.size (acc)) (f9.eval (.tmp 16)) w9 := A.has 0 16 rfl
    have x18 : Fk.f (.ob w.heap.size ([false])) (f9.eval (.tmp 18)) w9 := A.has 2 18 rfl
    replace bl := (bl.trans (Below.mono hb bl.size))
    replace sz := A.size.trans sz
    replace df := A.defs.trans df
    clear A hb
    clear x6
    refine wl_appendo rfl (.tmp 16) (.tmp 18) rfl 19 rfl (by rw [sz]; decide) x16 x18 (by simp) bl (by simp only [List.length_cons, List.length_nil]; omega) ?_
    intro f10 w10 df2 sz2 old2 new2 bl2
    clear x5
    clear x16
    clear x18
    replace x4 := (old2 4 rfl).trans x4
    replace x8 := (old2 8 rfl).trans x8
    replace x0 := (old2 0 rfl).trans x0
    replace x1 := (old2 1 rfl).trans x1
    have x19 : Fk.f (.ob w.heap.size (acc ++ [false])) (f10.eval (.tmp 19)) w10 := new2
    replace bl := bl2
    replace bl0 := bl
    replace sz := sz2.trans sz
    replace df := df2.trans df
    clear df2 sz2 old2 new2 bl2
    refine wl_one (.ob w.heap.size (acc ++ [false])) rfl 5 rfl (by rw [sz]; decide) (st_assign (.tmp 19) rfl x19) ?_
    intro f11 w11 df2 sz2 old2 new2 hb
    replace bl0 := bl
    replace x4 := (old2 4 rfl).trans x4
    replace x8 := (old2 8 rfl).trans x8
    replace x0 := (old2 0 rfl).trans x0
    replace x1 := (old2 1 rfl).trans x1
    replace x19 := f_at (old2 19 rfl) (Fk.mono _ _ _ _ x19 hb)
    have x5 : Fk.f (.ob w.heap.size (acc ++ [false])) (f11.eval (.tmp 5)) w11 := new2
    replace bl := (bl.trans (Below.mono hb bl.size))
    replace sz := sz2.trans sz
    replace df := df2.trans df
    clear df2 sz2 old2 new2 hb
    refine wpList_nil ?_
    clear x19
    show (∃ _, _) ∧ _
    refine ⟨⟨i2 - spl n2, n2 - spl n2, acc ++ [false], by rw [← hc, tdn_right h2 hlt, List.append_assoc]; rfl, by omega, by omega, sz, df, x4, x0, x1, x5, bl⟩, ?_⟩
    rw [show f11.eval (.tmp 1) = _ from x1, show _ = _ from hcnt]
    simp only [intOf, Int.toNat_natCast]
    omega
  refine wp_region_seq [.eq (.int .i64 ((i2 : Nat) : Int)), .eq (.int .i64 ((n2 : Nat) : Int)), .eq (.tuple #[.bool true, .int .i64 ((i2 : Nat) : Int), .int .i64 ((spl n2 : Nat) : Int)]), .eq (.tuple #[.bool true, .int .i64 ((i2 : Nat) : Int), .int .i64 ((spl n2 : Nat) : Int)]), .eq (.bool true), .eq (.int .i64 ((i2 : Nat) : Int)), .eq (.int .i64 ((spl n2 : Nat) : Int)), .eq (.bool true)] (by kernel_rfl) (by kernel_rfl) (by rw [sz]; kernel_rfl) (by kernel_rfl) ⟨fun hw ac u K => ?_, fun hw ac u K => ?_, fun hw ac u K => ?_, fun hw ac u K => ?_, fun hw ac u K => ?_, fun hw ac u K => ?_, fun hw ac u K => ?_, fun hw ac u K => ?_, trivial⟩ ?_
  · exact st_move (.tmp 0) rfl ((K.old 0 rfl).trans x0)
  · exact st_move (.tmp 1) rfl ((K.old 1 rfl).trans x1)
  · exact st_call 37 (.func 37) _ _ #[.int .i64 ((i2 : Nat) : Int), .int .i64 ((n2 : Nat) : Int)] rfl rfl (arg2 (K.dep 0 10 rfl) (K.dep 1 11 rfl)) Tryd.enter37 (fk_of (half_left h2 (by omega) hin hlt _))
  · exact st_move (.tmp 12) rfl (K.dep 2 12 rfl)
  · exact st_tri0 (.tmp 9) rfl (K.dep 3 9 rfl)
  · exact st_tri1 (.tmp 9) rfl (K.dep 3 9 rfl)
  · exact st_tri2 (.tmp 9) rfl (K.dep 3 9 rfl)
  · exact st_assign (.tmp 13) rfl (K.dep 4 13 rfl)
  intro f6 w6 A hb
  replace bl0 := bl
  replace x0 := (A.old 0 rfl).trans x0
  replace x1 := (A.old 1 rfl).trans x1
  replace x4 := (A.old 4 rfl).trans x4
  replace x5 := f_at (A.old 5 rfl) (Fk.mono _ _ _ _ x5 hb)
  replace x8 := (A.old 8 rfl).trans x8
  clear x6
  have x6 : f6.eval (.tmp 6) = .bool true := A.has 7 6 rfl
  have x14 : f6.eval (.tmp 14) = .int .i64 ((i2 : Nat) : Int) := A.has 5 14 rfl
  have x15 : f6.eval (.tmp 15) = .int .i64 ((spl n2 : Nat) : Int) := A.has 6 15 rfl
  replace bl := (bl.trans (Below.mono hb bl.size))
  replace sz := A.size.trans sz
  replace df := A.defs.trans df
  clear A hb
  refine wl_one (.eq (.int .i64 ((i2 : Nat) : Int))) rfl 0 rfl (by rw [sz]; decide) (st_assign (.tmp 14) rfl x14) ?_
  intro f7 w7 df2 sz2 old2 new2 hb
  replace bl0 := bl
  clear x0
  replace x1 := (old2 1 rfl).trans x1
  replace x4 := (old2 4 rfl).trans x4
  replace x5 := f_at (old2 5 rfl) (Fk.mono _ _ _ _ x5 hb)
  replace x8 := (old2 8 rfl).trans x8
  replace x6 := (old2 6 rfl).trans x6
  replace x14 := (old2 14 rfl).trans x14
  replace x15 := (old2 15 rfl).trans x15
  have x0 : f7.eval (.tmp 0) = .int .i64 ((i2 : Nat) : Int) := new2
  replace bl := (bl.trans (Below.mono hb bl.size))
  replace sz := sz2.trans sz
  replace df := df2.trans df
  clear df2 sz2 old2 new2 hb
  clear x14
  refine wl_one (.eq (.int .i64 ((spl n2 : Nat) : Int))) rfl 1 rfl (by rw [sz]; decide) (st_assign (.tmp 15) rfl x15) ?_
  intro f8 w8 df2 sz2 old2 new2 hb
  replace bl0 := bl
  clear x1
  replace x4 := (old2 4 rfl).trans x4
  replace x5 := f_at (old2 5 rfl) (Fk.mono _ _ _ _ x5 hb)
  replace x8 := (old2 8 rfl).trans x8
  replace x6 := (old2 6 rfl).trans x6
  replace x15 := (old2 15 rfl).trans x15
  replace x0 := (old2 0 rfl).trans x0
  have x1 : f8.eval (.tmp 1) = .int .i64 ((spl n2 : Nat) : Int) := new2
  replace bl := (bl.trans (Below.mono hb bl.size))
  replace sz := sz2.trans sz
  replace df := df2.trans df
  clear df2 sz2 old2 new2 hb
  refine wpList_nil ?_
  clear x15
  show Code.wp _ _ _ _ _
  refine wp_region_seq [.ob w.heap.size (acc), .eq (.bool true), .ob w.heap.size ([true])] (by kernel_rfl) (by kernel_rfl) (by rw [sz]; kernel_rfl) (by kernel_rfl) ⟨fun hw ac u K => ?_, fun hw ac u K => ?_, fun hw ac u K => ?_, trivial⟩ ?_
  · exact st_move (.tmp 5) rfl (f_at (K.old 5 rfl) (Fk.mono _ _ _ _ x5 K.grow))
  · exact st_move (.tmp 6) rfl ((K.old 6 rfl).trans x6)
  · exact st_bo1b (.tmp 17) rfl _ (K.dep 1 17 rfl) _ (bl.trans (Below.mono K.grow bl.size)).size
  intro f9 w9 A hb
  replace bl0 := bl
  replace x4 := (A.old 4 rfl).trans x4
  replace x5 := f_at (A.old 5 rfl) (Fk.mono _ _ _ _ x5 hb)
  replace x8 := (A.old 8 rfl).trans x8
  replace x6 := (A.old 6 rfl).trans x6
  replace x0 := (A.old 0 rfl).trans x0
  replace x1 := (A.old 1 rfl).trans x1
  have x16 : Fk.f (.ob w.heap.size (acc)) (f9.eval (.tmp 16)) w9 := A.has 0 16 rfl
  have x18 : Fk.f (.ob w.heap.size ([true])) (f9.eval (.tmp 18)) w9 := A.has 2 18 rfl
  replace bl := (bl.trans (Below.mono hb bl.size))
  replace sz := A.size.trans sz
  replace df := A.defs.trans df
  clear A hb
  clear x6
  refine wl_appendo rfl (.tmp 16) (.tmp 18) rfl 19 rfl (by rw [sz]; decide) x16 x18 (by simp) bl (by simp only [List.length_cons, List.length_nil]; omega) ?_
  intro f10 w10 df2 sz2 old2 new2 bl2
  clear x5
  clear x16
  clear x18
  replace x4 := (old2 4 rfl).trans x4
  replace x8 := (old2 8 rfl).trans x8
  replace x0 := (old2 0 rfl).trans x0
  replace x1 := (old2 1 rfl).trans x1
  have x19 : Fk.f (.ob w.heap.size (acc ++ [true])) (f10.eval (.tmp 19)) w10 := new2
  replace bl := bl2
  replace bl0 := bl
  replace sz := sz2.trans sz
  replace df := df2.trans df
  clear df2 sz2 old2 new2 bl2
  refine wl_one (.ob w.heap.size (acc ++ [true])) rfl 5 rfl (by rw [sz]; decide) (st_assign (.tmp 19) rfl x19) ?_
  intro f11 w11 df2 sz2 old2 new2 hb
  replace bl0 := bl
  replace x4 := (old2 4 rfl).trans x4
  replace x8 := (old2 8 rfl).trans x8
  replace x0 := (old2 0 rfl).trans x0
  replace x1 := (old2 1 rfl).trans x1
  replace x19 := f_at (old2 19 rfl) (Fk.mono _ _ _ _ x19 hb)
  have x5 : Fk.f (.ob w.heap.size (acc ++ [true])) (f11.eval (.tmp 5)) w11 := new2
  replace bl := (bl.trans (Below.mono hb bl.size))
  replace sz := sz2.trans sz
  replace df := df2.trans df
  clear df2 sz2 old2 new2 hb
  refine wpList_nil ?_
  clear x19
  show (∃ _, _) ∧ _
  refine ⟨⟨i2, spl n2, acc ++ [true], by rw [← hc, tdn_left h2 hlt, List.append_assoc]; rfl, by omega, by omega, sz, df, x4, x0, x1, x5, bl⟩, ?_⟩
  rw [show f11.eval (.tmp 1) = _ from x1, show _ = _ from hcnt]
  simp only [intOf, Int.toNat_natCast]
  omega
end Go.Proofs.YthhnlemldpgbeaaDoor
namespace Go.Proofs.YthhnlemldpgbeaaDoor
set_option maxRecDepth 100000
open Go.RowKit
theorem sl_nil (w : World) : (Fk.sl []).f (.slice none 0 0) w := ⟨none, 0, 0, 0, 0, rfl, ⟨rfl, Nat.le_refl _, fun _ => ⟨rfl, rfl⟩, fun h => absurd h (by decide)⟩⟩
theorem hc_len {l : List (List (BitVec 8))} {v : Value} {w : World} (h : (Fk.hc l).f v w) : ∀ x ∈ l, x.length = 32 := by
  intro x hx
  obtain ⟨i, hi, rfl⟩ := List.getElem_of_mem hx
  obtain ⟨A, C, lb, lo, e, _, hl⟩ := h
  exact (hl.all i _ (List.getElem?_eq_getElem hi)).1
theorem mroot_len {l : List (List (BitVec 8))} (h : ∀ x ∈ l, x.length = 32) : (mroot l).length = 32 := by
  match l, h with
  | [], _ => rw [mroot_nil]; exact shaOf_len _
  | [x], h => rw [mroot_one]; exact h x (by simp)
  | x :: y :: r, _ => rw [mroot_two (by simp)]; exact nd_len _ _
theorem mroot_le1 {l : List (List (BitVec 8))} (h : l.length = 1) : ∃ x, l = [x] := by
  match l, h with
  | [x], _ => exact ⟨x, rfl⟩
theorem root_any (l : List (List (BitVec 8))) (w : World) (v : Value) (h1000 : l.length ≤ 1000) (hv : (Fk.hc l).f v w) (hK : Tab w) {y : List (BitVec 8)} (ey : Box (mroot l = y)) :
    Calls Tryd.prog 18 #[v] w fun e w' => e = .returned (.agg ((y).map V).toArray) ∧ Below w.heap.size w w' := by
  suffices H : ∀ (n : Nat) (l : List (List (BitVec 8))), l.length = n → ∀ (w : World) (v : Value), l.length ≤ 1000 → (Fk.hc l).f v w → Tab w → ∀ {y : List (BitVec 8)}, Box (mroot l = y) → Calls Tryd.prog 18 #[v] w fun e w' => e = .returned (.agg ((y).map V).toArray) ∧ Below w.heap.size w w' from H _ l rfl w v h1000 hv hK ey
  intro n
  induction n using Nat.strongRecOn with
  | ind n ih0 =>
  intro l hn w v h1000 hv hK y ey
  have ih : ∀ (l' : List (List (BitVec 8))), l'.length < n → ∀ (w : World) (v : Value), l'.length ≤ 1000 → (Fk.hc l').f v w → Tab w → ∀ {y : List (BitVec 8)}, Box (mroot l' = y) → Calls Tryd.prog 18 #[v] w fun e w' => e = .returned (.agg ((y).map V).toArray) ∧ Below w.heap.size w w' := fun l' hl' => ih0 _ hl' l' rfl
  clear ih0
  have hy : y.length = 32 := by rw [← ey.out]; exact mroot_len (hc_len hv)
  have hvs := hc_hs hv
  have hnil := sl_nil w
  by_cases h0 : l.length = 0
  · obtain rfl := List.eq_nil_of_length_eq_zero h0
    have eys : shaOf [] = y := by rw [← ey.out, mroot_nil]
    go_enter Tryd.func18, Tryd.ntmps18
    refine code_both (fun f w1 => f.tmps.size = 26 ∧ f.defers = [] ∧ f.eval (.tmp 0) = v ∧ Below w.heap.size w (w1)) ⟨rfl, rfl, rfl, Below.refl _ _⟩ ?_
    rintro f0 w0 ⟨sz, df, x0, bl⟩
    have bl0 := bl
    refine wp_seq ?_
    refine wp_all_seq [.nw w0.heap.size 23 ((hz).map V)] (by kernel_rfl) (by kernel_rfl) (by rw [sz]; kernel_rfl) (by kernel_rfl) ⟨fun hw ac u K => ?_, trivial⟩ ?_
    · exact st_alloc23 rfl _ K.grow.size
    intro f1 w1 A hb
    replace bl0 := bl
    replace x0 := (A.old 0 rfl).trans x0
    have x2 : Fk.f (.nw w0.heap.size 23 ((hz).map V)) (f1.eval (.tmp 2)) w1 := A.has 0 2 rfl
    replace bl := (bl.trans (Below.mono hb bl.size))
    replace sz := A.size.trans sz
    replace df := A.defs.trans df
    clear A hb
    obtain ⟨g2, hg2, e2, m2⟩ := x2
    have x2 := e2
    clear e2
    have hw2 : w.heap.size ≤ g2 := Nat.le_trans bl0.size hg2
    show Code.wp _ _ _ _ _
    refine wp_seq ?_
    refine wp_seq ?_
    refine wp_all_seq [.eq (v), .eq (.int .i64 ((0 : Nat) : Int))] (by kernel_rfl) (by kernel_rfl) (by rw [sz]; kernel_rfl) (by kernel_rfl) ⟨fun hw ac u K => ?_, fun hw ac u K => ?_, trivial⟩ ?_
    · exact st_move (.tmp 0) rfl ((K.old 0 rfl).trans x0)
    · exact st_lenc (.tmp 4) rfl (0) rfl (fk_val (K.dep 0 4 rfl) (Fk.mono _ _ _ _ hv (bl.trans (Below.mono K.grow bl.size))))
    intro f2 w2 A hb
    replace bl0 := bl
    replace x0 := (A.old 0 rfl).trans x0
    replace x2 := (A.old 2 rfl).trans x2
    have x5 : f2.eval (.tmp 5) = .int .i64 ((0 : Nat) : Int) := A.has 1 5 rfl
    have lt_m2 := Ob.lt m2
    replace m2 := Ob.below m2 hb
    replace bl := (bl.trans (Below.mono hb bl.size))
    replace sz := A.size.trans sz
    replace df := A.defs.trans df
    clear A hb
    show Code.wp _ _ _ _ _
    refine wp_block ?_
    refine wp_seq ?_
    refine wp_all_seq [.eq (.bool true), .eq (.bool true)] (by kernel_rfl) (by kernel_rfl) (by rw [sz]; kernel_rfl) (by kernel_rfl) ⟨fun hw ac u K => ?_, fun hw ac u K => ?_, trivial⟩ ?_
    · exact st_eqi 3 (.tmp 5) (.const (.int .i64 0)) rfl .i64 (((0 : Nat) : Int)) (0) ((K.old 5 rfl).trans x5) rfl _ (by simp)
    · exact st_assign (.tmp 7) rfl (K.dep 0 7 rfl)
    intro f3 w3 A hb
    replace bl0 := bl
    replace x0 := (A.old 0 rfl).trans x0
    replace x2 := (A.old 2 rfl).trans x2
    replace x5 := (A.old 5 rfl).trans x5
    have x6 : f3.eval (.tmp 6) = .bool true := A.has 1 6 rfl
    have lt_m2 := Ob.lt m2
    replace m2 := Ob.below m2 hb
    replace bl := (bl.trans (Below.mono hb bl.size))
    replace sz := A.size.trans sz
    replace df := A.defs.trans df
    clear A hb
    show Code.wp _ _ _ _ _
    refine wp_cond_true x6 ?_
    refine wp_seq ?_
    refine wp_region_seq [.eq (.agg ((y).map V).toArray)] (by kernel_rfl) (by kernel_rfl) (by rw [sz]; kernel_rfl) (by kernel_rfl) ⟨fun hw ac u K => ?_, trivial⟩ ?_
    · exact st_call 16 (.func 16) _ _ #[.slice none 0 0] rfl rfl (one_arg rfl) Tryd.enter16 (by rw [← eys]; exact fk_sum (by simp) (hK.below (bl.trans (Below.mono K.grow bl.size))) (Fk.mono _ _ _ _ hnil (bl.trans (Below.mono K.grow bl.size))))
    intro f4 w4 A hb
    replace bl0 := bl
    replace x0 := (A.old 0 rfl).trans x0
    replace x2 := (A.old 2 rfl).trans x2
    replace x5 := (A.old 5 rfl).trans x5
    replace x6 := (A.old 6 rfl).trans x6
    have x8 : f4.eval (.tmp 8) = .agg ((y).map V).toArray := A.has 0 8 rfl
    have lt_m2 := Ob.lt m2
    replace m2 := Ob.below m2 hb
    replace bl := (bl.trans (Below.mono hb bl.size))
    replace sz := A.size.trans sz
    replace df := A.defs.trans df
    clear A hb
    refine wl_store rfl (.tmp 2) (.tmp 8) rfl rfl (g2) (y) (hz) x2 x8 m2 hz_len hy ?_
    replace m2 : Ob (w4.setRow g2 ((y).map V : List Value).toArray) (g2) 23 ((y).map V) := Ob.setRow m2 ((y).map V)
    replace bl : Below w.heap.size w (w4.setRow g2 ((y).map V : List Value).toArray) := bl.trans (below_setRow _ _ _ _ hw2)
    generalize w4.setRow g2 ((y).map V : List Value).toArray = w5b at bl m2 ⊢
    refine wpList_nil ?_
    clear x8
    show Code.wp _ _ _ _ _
    refine wp_ret ?_
    repeat (first | with_reducible refine then_ret ?_ | with_reducible refine block_ret ?_)
    exact bodyPost_ret (v := .agg ((y).map V).toArray) (ret_hash rfl f4 _ g2 (y) hy x2 m2) df ⟨rfl, bl⟩
  by_cases h1 : l.length = 1
  · obtain ⟨x, rfl⟩ := mroot_le1 h1
    obtain rfl : x = y := by rw [← ey.out, mroot_one]
    go_enter Tryd.func18, Tryd.ntmps18
    refine code_both (fun f w1 => f.tmps.size = 26 ∧ f.defers = [] ∧ f.eval (.tmp 0) = v ∧ Below w.heap.size w (w1)) ⟨rfl, rfl, rfl, Below.refl _ _⟩ ?_
    rintro f0 w0 ⟨sz, df, x0, bl⟩
    have bl0 := bl
    refine wp_seq ?_
    refine wp_all_seq [.nw w0.heap.size 23 ((hz).map V)] (by kernel_rfl) (by kernel_rfl) (by rw [sz]; kernel_rfl) (by kernel_rfl) ⟨fun hw ac u K => ?_, trivial⟩ ?_
    · exact st_alloc23 rfl _ K.grow.size
    intro f1 w1 A hb
    replace bl0 := bl
    replace x0 := (A.old 0 rfl).trans x0
    have x2 : Fk.f (.nw w0.heap.size 23 ((hz).map V)) (f1.eval (.tmp 2)) w1 := A.has 0 2 rfl
    replace bl := (bl.trans (Below.mono hb bl.size))
    replace sz := A.size.trans sz
    replace df := A.defs.trans df
    clear A hb
    obtain ⟨g2, hg2, e2, m2⟩ := x2
    have x2 := e2
    clear e2
    have hw2 : w.heap.size ≤ g2 := Nat.le_trans bl0.size hg2
    show Code.wp _ _ _ _ _
    refine wp_seq ?_
    refine wp_seq ?_
    refine wp_all_seq [.eq (v), .eq (.int .i64 ((1 : Nat) : Int))] (by kernel_rfl) (by kernel_rfl) (by rw [sz]; kernel_rfl) (by kernel_rfl) ⟨fun hw ac u K => ?_, fun hw ac u K => ?_, trivial⟩ ?_
    · exact st_move (.tmp 0) rfl ((K.old 0 rfl).trans x0)
    · exact st_lenc (.tmp 4) rfl (1) rfl (fk_val (K.dep 0 4 rfl) (Fk.mono _ _ _ _ hv (bl.trans (Below.mono K.grow bl.size))))
    intro f2 w2 A hb
    replace bl0 := bl
    replace x0 := (A.old 0 rfl).trans x0
    replace x2 := (A.old 2 rfl).trans x2
    have x5 : f2.eval (.tmp 5) = .int .i64 ((1 : Nat) : Int) := A.has 1 5 rfl
    have lt_m2 := Ob.lt m2
    replace m2 := Ob.below m2 hb
    replace bl := (bl.trans (Below.mono hb bl.size))
    replace sz := A.size.trans sz
    replace df := A.defs.trans df
    clear A hb
    show Code.wp _ _ _ _ _
    refine wp_block ?_
    refine wp_seq ?_
    refine wp_all_seq [.eq (.bool false), .eq (.bool false)] (by kernel_rfl) (by kernel_rfl) (by rw [sz]; kernel_rfl) (by kernel_rfl) ⟨fun hw ac u K => ?_, fun hw ac u K => ?_, trivial⟩ ?_
    · exact st_eqi 3 (.tmp 5) (.const (.int .i64 0)) rfl .i64 (((1 : Nat) : Int)) (0) ((K.old 5 rfl).trans x5) rfl _ (by simp)
    · exact st_assign (.tmp 7) rfl (K.dep 0 7 rfl)
    intro f3 w3 A hb
    replace bl0 := bl
    replace x0 := (A.old 0 rfl).trans x0
    replace x2 := (A.old 2 rfl).trans x2
    replace x5 := (A.old 5 rfl).trans x5
    have x6 : f3.eval (.tmp 6) = .bool false := A.has 1 6 rfl
    have lt_m2 := Ob.lt m2
    replace m2 := Ob.below m2 hb
    replace bl := (bl.trans (Below.mono hb bl.size))
    replace sz := A.size.trans sz
    replace df := A.defs.trans df
    clear A hb
    show Code.wp _ _ _ _ _
    refine wp_cond_false x6 ?_
    refine wp_seq ?_
    refine wp_all_seq [.eq (.bool true), .eq (.bool true)] (by kernel_rfl) (by kernel_rfl) (by rw [sz]; kernel_rfl) (by kernel_rfl) ⟨fun hw ac u K => ?_, fun hw ac u K => ?_, trivial⟩ ?_
    · exact st_eqi 3 (.tmp 5) (.const (.int .i64 1)) rfl .i64 (((1 : Nat) : Int)) (1) ((K.old 5 rfl).trans x5) rfl _ (by simp)
    · exact st_assign (.tmp 10) rfl (K.dep 0 10 rfl)
    intro f4 w4 A hb
    replace bl0 := bl
    replace x0 := (A.old 0 rfl).trans x0
    replace x2 := (A.old 2 rfl).trans x2
    replace x5 := (A.old 5 rfl).trans x5
    replace x6 := (A.old 6 rfl).trans x6
    have x9 : f4.eval (.tmp 9) = .bool true := A.has 1 9 rfl
    have lt_m2 := Ob.lt m2
    replace m2 := Ob.below m2 hb
    replace bl := (bl.trans (Below.mono hb bl.size))
    replace sz := A.size.trans sz
    replace df := A.defs.trans df
    clear A hb
    show Code.wp _ _ _ _ _
    refine wp_cond_true x9 ?_
    refine wp_seq ?_
    refine wp_region_seq [.eq (v), .ph (x), .eq (.agg ((x).map V).toArray)] (by kernel_rfl) (by kernel_rfl) (by rw [sz]; kernel_rfl) (by kernel_rfl) ⟨fun hw ac u K => ?_, fun hw ac u K => ?_, fun hw ac u K => ?_, trivial⟩ ?_
    · exact st_move (.tmp 0) rfl ((K.old 0 rfl).trans x0)
    · exact st_idxh (.tmp 11) (.const (.int .i64 0)) rfl (fk_val (K.dep 0 11 rfl) (Fk.mono _ _ _ _ hvs (bl.trans (Below.mono K.grow bl.size)))) (0) (x) rfl rfl
    · exact st_loadh (.tmp 12) rfl (K.dep 1 12 rfl)
    intro f5 w5 A hb
    replace bl0 := bl
    replace x0 := (A.old 0 rfl).trans x0
    replace x2 := (A.old 2 rfl).trans x2
    replace x5 := (A.old 5 rfl).trans x5
    replace x6 := (A.old 6 rfl).trans x6
    replace x9 := (A.old 9 rfl).trans x9
    have x13 : f5.eval (.tmp 13) = .agg ((x).map V).toArray := A.has 2 13 rfl
    have lt_m2 := Ob.lt m2
    replace m2 := Ob.below m2 hb
    replace bl := (bl.trans (Below.mono hb bl.size))
    replace sz := A.size.trans sz
    replace df := A.defs.trans df
    clear A hb
    refine wl_store rfl (.tmp 2) (.tmp 13) rfl rfl (g2) (x) (hz) x2 x13 m2 hz_len hy ?_
    replace m2 : Ob (w5.setRow g2 ((x).map V : List Value).toArray) (g2) 23 ((x).map V) := Ob.setRow m2 ((x).map V)
    replace bl : Below w.heap.size w (w5.setRow g2 ((x).map V : List Value).toArray) := bl.trans (below_setRow _ _ _ _ hw2)
    generalize w5.setRow g2 ((x).map V : List Value).toArray = w6b at bl m2 ⊢
    refine wpList_nil ?_
    clear x13
    show Code.wp _ _ _ _ _
    refine wp_ret ?_
    repeat (first | with_reducible refine then_ret ?_ | with_reducible refine block_ret ?_)
    exact bodyPost_ret (v := .agg ((x).map V).toArray) (ret_hash rfl f5 _ g2 (x) hy x2 m2) df ⟨rfl, bl⟩
  · have h2 : 2 ≤ l.length := by omega
    obtain ⟨k, hk⟩ : ∃ k, spl l.length = k := ⟨_, rfl⟩
    have hk1 : k < l.length := by rw [← hk]; exact spl_lt h2
    have hk2 : 1 ≤ k := by rw [← hk]; exact spl_pos _
    obtain ⟨y1, ey1⟩ : ∃ p, Box (mroot (l.take k) = p) := ⟨_, ⟨rfl⟩⟩
    obtain ⟨y2, ey2⟩ : ∃ p, Box (mroot (l.drop k) = p) := ⟨_, ⟨rfl⟩⟩
    have hy1 : y1.length = 32 := by rw [← ey1.out]; exact mroot_len (fun x hx => hc_len hv x (List.mem_of_mem_take hx))
    have hy2 : y2.length = 32 := by rw [← ey2.out]; exact mroot_len (fun x hx => hc_len hv x (List.mem_of_mem_drop hx))
    have eyn : Box (nd y1 y2 = y) := ⟨by rw [← ey1.out, ← ey2.out, ← ey.out, mroot_two h2, hk]⟩
    go_enter Tryd.func18, Tryd.ntmps18
    refine code_both (fun f w1 => f.tmps.size = 26 ∧ f.defers = [] ∧ f.eval (.tmp 0) = v ∧ Below w.heap.size w (w1)) ⟨rfl, rfl, rfl, Below.refl _ _⟩ ?_
    rintro f0 w0 ⟨sz, df, x0, bl⟩
    have bl0 := bl
    refine wp_seq ?_
    refine wp_all_seq [.nw w0.heap.size 23 ((hz).map V)] (by kernel_rfl) (by kernel_rfl) (by rw [sz]; kernel_rfl) (by kernel_rfl) ⟨fun hw ac u K => ?_, trivial⟩ ?_
    · exact st_alloc23 rfl _ K.grow.size
    intro f1 w1 A hb
    replace bl0 := bl
    replace x0 := (A.old 0 rfl).trans x0
    have x2 : Fk.f (.nw w0.heap.size 23 ((hz).map V)) (f1.eval (.tmp 2)) w1 := A.has 0 2 rfl
    replace bl := (bl.trans (Below.mono hb bl.size))
    replace sz := A.size.trans sz
    replace df := A.defs.trans df
    clear A hb
    obtain ⟨g2, hg2, e2, m2⟩ := x2
    have x2 := e2
    clear e2
    have hw2 : w.heap.size ≤ g2 := Nat.le_trans bl0.size hg2
    show Code.wp _ _ _ _ _
    refine wp_seq ?_
    refine wp_seq ?_
    refine wp_all_seq [.eq (v), .eq (.int .i64 (((l).length : Nat) : Int))] (by kernel_rfl) (by kernel_rfl) (by rw [sz]; kernel_rfl) (by kernel_rfl) ⟨fun hw ac u K => ?_, fun hw ac u K => ?_, trivial⟩ ?_
    · exact st_move (.tmp 0) rfl ((K.old 0 rfl).trans x0)
    · exact st_lenc (.tmp 4) rfl ((l).length) rfl (fk_val (K.dep 0 4 rfl) (Fk.mono _ _ _ _ hv (bl.trans (Below.mono K.grow bl.size))))
    intro f2 w2 A hb
    replace bl0 := bl
    replace x0 := (A.old 0 rfl).trans x0
    replace x2 := (A.old 2 rfl).trans x2
    have x5 : f2.eval (.tmp 5) = .int .i64 (((l).length : Nat) : Int) := A.has 1 5 rfl
    have lt_m2 := Ob.lt m2
    replace m2 := Ob.below m2 hb
    replace bl := (bl.trans (Below.mono hb bl.size))
    replace sz := A.size.trans sz
    replace df := A.defs.trans df
    clear A hb
    show Code.wp _ _ _ _ _
    refine wp_block ?_
    refine wp_seq ?_
    refine wp_all_seq [.eq (.bool false), .eq (.bool false)] (by kernel_rfl) (by kernel_rfl) (by rw [sz]; kernel_rfl) (by kernel_rfl) ⟨fun hw ac u K => ?_, fun hw ac u K => ?_, trivial⟩ ?_
    · exact st_eqi 3 (.tmp 5) (.const (.int .i64 0)) rfl .i64 ((((l).length : Nat) : Int)) (0) ((K.old 5 rfl).trans x5) rfl _ (by rw [eq_comm, decide_eq_false_iff_not]; omega)
    · exact st_assign (.tmp 7) rfl (K.dep 0 7 rfl)
    intro f3 w3 A hb
    replace bl0 := bl
    replace x0 := (A.old 0 rfl).trans x0
    replace x2 := (A.old 2 rfl).trans x2
    replace x5 := (A.old 5 rfl).trans x5
    have x6 : f3.eval (.tmp 6) = .bool false := A.has 1 6 rfl
    have lt_m2 := Ob.lt m2
    replace m2 := Ob.below m2 hb
    replace bl := (bl.trans (Below.mono hb bl.size))
    replace sz := A.size.trans sz
    replace df := A.defs.trans df
    clear A hb
    show Code.wp _ _ _ _ _
    refine wp_cond_false x6 ?_
    refine wp_seq ?_
    refine wp_all_seq [.eq (.bool false), .eq (.bool false)] (by kernel_rfl) (by kernel_rfl) (by rw [sz]; kernel_rfl) (by kernel_rfl) ⟨fun hw ac u K => ?_, fun hw ac u K => ?_, trivial⟩ ?_
    · exact st_eqi 3 (.tmp 5) (.const (.int .i64 1)) rfl .i64 ((((l).length : Nat) : Int)) (1) ((K.old 5 rfl).trans x5) rfl _ (by rw [eq_comm, decide_eq_false_iff_not]; omega)
    · exact st_assign (.tmp 10) rfl (K.dep 0 10 rfl)
    intro f4 w4 A hb
    replace bl0 := bl
    replace x0 := (A.old 0 rfl).trans x0
    replace x2 := (A.old 2 rfl).trans x2
    replace x5 := (A.old 5 rfl).trans x5
    replace x6 := (A.old 6 rfl).trans x6
    have x9 : f4.eval (.tmp 9) = .bool false := A.has 1 9 rfl
    have lt_m2 := Ob.lt m2
    replace m2 := Ob.below m2 hb
    replace bl := (bl.trans (Below.mono hb bl.size))
    replace sz := A.size.trans sz
    replace df := A.defs.trans df
    clear A hb
    show Code.wp _ _ _ _ _
    refine wp_cond_false x9 ?_
    refine wp_skip ?_
    show Code.wp _ _ _ _ _
    refine wp_seq ?_
    refine wp_all_seq [.eq (v), .eq (.int .i64 (((l).length : Nat) : Int)), .eq (.int .i64 ((k : Nat) : Int)), .eq (.int .i64 ((k : Nat) : Int))] (by kernel_rfl) (by kernel_rfl) (by rw [sz]; kernel_rfl) (by kernel_rfl) ⟨fun hw ac u K => ?_, fun hw ac u K => ?_, fun hw ac u K => ?_, fun hw ac u K => ?_, trivial⟩ ?_
    · exact st_move (.tmp 0) rfl ((K.old 0 rfl).trans x0)
    · exact st_lenc (.tmp 14) rfl ((l).length) rfl (fk_val (K.dep 0 14 rfl) (Fk.mono _ _ _ _ hv (bl.trans (Below.mono K.grow bl.size))))
    · exact st_call 32 (.func 32) _ _ #[.int .i64 (((l).length : Nat) : Int)] rfl rfl (one_arg (K.dep 1 15 rfl)) Tryd.enter32 (by rw [← hk]; exact fk_of (split_hi l.length (by omega) (by omega) _))
    · exact st_assign (.tmp 16) rfl (K.dep 2 16 rfl)
    intro f5 w5 A hb
    replace bl0 := bl
    replace x0 := (A.old 0 rfl).trans x0
    replace x2 := (A.old 2 rfl).trans x2
    replace x5 := (A.old 5 rfl).trans x5
    replace x6 := (A.old 6 rfl).trans x6
    replace x9 := (A.old 9 rfl).trans x9
    have x3 : f5.eval (.tmp 3) = .int .i64 ((k : Nat) : Int) := A.has 3 3 rfl
    have lt_m2 := Ob.lt m2
    replace m2 := Ob.below m2 hb
    replace bl := (bl.trans (Below.mono hb bl.size))
    replace sz := A.size.trans sz
    replace df := A.defs.trans df
    clear A hb
    show Code.wp _ _ _ _ _
    refine wp_seq ?_
    refine wp_region_tail [.eq (v), .eq (.int .i64 ((k : Nat) : Int)), .hc ((l).take (k)), .eq (.agg ((y1).map V).toArray), .eq (v), .eq (.int .i64 ((k : Nat) : Int)), .hc ((l).drop (k)), .eq (.agg ((y2).map V).toArray), .eq (.agg ((y).map V).toArray)] [9] Tryd.mixed (by kernel_rfl) (by kernel_rfl) (by kernel_rfl) (by kernel_rfl) (by rw [sz]; kernel_rfl) (by kernel_rfl) ⟨fun hw ac u K => ?_, fun hw ac u K => ?_, fun hw ac u K => ?_, fun hw ac u K => ?_, fun hw ac u K => ?_, fun hw ac u K => ?_, fun hw ac u K => ?_, fun hw ac u K => ?_, fun hw ac u K => ?_, trivial⟩ ?_
    · exact st_move (.tmp 0) rfl ((K.old 0 rfl).trans x0)
    · exact st_move (.tmp 3) rfl ((K.old 3 rfl).trans x3)
    · exact st_cuth (.tmp 17) (.tmp 18) rfl (fk_val (K.dep 0 17 rfl) (Fk.mono _ _ _ _ hv (bl.trans (Below.mono K.grow bl.size)))) (k) (K.dep 1 18 rfl) (by omega)
    · exact st_call 18 (.func 18) _ _ #[ac.eval (.tmp 19)] rfl rfl (one_arg rfl) Tryd.enter18 (fk_of (ih (l.take k) (by rw [List.length_take]; omega) _ _ (by rw [List.length_take]; omega) (K.dep 2 19 rfl) (hK.below (bl.trans (Below.mono K.grow bl.size))) ey1))
    · exact st_move (.tmp 0) rfl ((K.old 0 rfl).trans x0)
    · exact st_move (.tmp 3) rfl ((K.old 3 rfl).trans x3)
    · exact st_restc (.tmp 21) (.tmp 22) rfl (fk_val (K.dep 4 21 rfl) (Fk.mono _ _ _ _ hv (bl.trans (Below.mono K.grow bl.size)))) (k) (K.dep 5 22 rfl) (by omega)
    · exact st_call 18 (.func 18) _ _ #[ac.eval (.tmp 23)] rfl rfl (one_arg rfl) Tryd.enter18 (fk_of (ih (l.drop k) (by rw [List.length_drop]; omega) _ _ (by rw [List.length_drop]; omega) (K.dep 6 23 rfl) (hK.below (bl.trans (Below.mono K.grow bl.size))) ey2))
    · exact st_call 21 (.func 21) _ _ #[.agg ((y1).map V).toArray, .agg ((y2).map V).toArray] rfl rfl (arg2 (K.dep 3 20 rfl) (K.dep 7 24 rfl)) Tryd.enter21 (fk_node hy1 hy2 (hK.below (bl.trans (Below.mono K.grow bl.size))) eyn)
    intro f6 w6 A hb
    replace bl0 := bl
    replace x0 := (A.old 0 rfl).trans x0
    replace x2 := (A.old 2 rfl).trans x2
    replace x5 := (A.old 5 rfl).trans x5
    replace x6 := (A.old 6 rfl).trans x6
    replace x9 := (A.old 9 rfl).trans x9
    replace x3 := (A.old 3 rfl).trans x3
    have x25 : f6.eval (.tmp 25) = .agg ((y).map V).toArray := A.has 8 25 rfl
    have lt_m2 := Ob.lt m2
    replace m2 := Ob.below m2 hb
    replace bl := (bl.trans (Below.mono hb bl.size))
    replace sz := A.size.trans sz
    replace df := A.defs.trans df
    clear A hb
    clear x3
    refine wl_store rfl (.tmp 2) (.tmp 25) rfl rfl (g2) (y) (hz) x2 x25 m2 hz_len hy ?_
    replace m2 : Ob (w6.setRow g2 ((y).map V : List Value).toArray) (g2) 23 ((y).map V) := Ob.setRow m2 ((y).map V)
    replace bl : Below w.heap.size w (w6.setRow g2 ((y).map V : List Value).toArray) := bl.trans (below_setRow _ _ _ _ hw2)
    generalize w6.setRow g2 ((y).map V : List Value).toArray = w7b at bl m2 ⊢
    refine wpList_nil ?_
    clear x25
    show Code.wp _ _ _ _ _
    refine wp_ret ?_
    repeat (first | with_reducible refine then_ret ?_ | with_reducible refine block_ret ?_)
    exact bodyPost_ret (v := .agg ((y).map V).toArray) (ret_hash rfl f6 _ g2 (y) hy x2 m2) df ⟨rfl, bl⟩
end Go.Proofs.YthhnlemldpgbeaaDoor
