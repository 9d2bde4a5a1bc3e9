/- Rows of texts that grow; the reference's New. What the rows of this seat share: what the listed variable gives a walk, an array of bytes opened, the start that fits. A slice of bytes that came in, opened. A slice of hashes that came in, opened. Signatures and structs with them that came in, opened. Arguments opened: numbers with their bounds, slices of hashes with their room. Lists of slices of bytes in memory. Lists of slices of bytes that came in, opened: with the bounds of their sizes. Lists of calls of layer 11 that came in, opened. The laws' own functions over calls that came in: small. Own bytes written byte by byte; the law's full. -/
import Derived.Test.YtjdpomilifnlaaaM3
import Derived.Test.YtjdpomilifnlaaaM4
import Derived.Test.YtjdpomilifnlaaaM2
import Derived.Laws.AppendOwnNone
import Derived.Test.YtjdpomilifnlaaaRows
import Derived.Test.YtjdpomilifnlaaaM1
import Derived.ProofKit
import Derived.LaidMore
import Derived.OpenShut
import Derived.ShutString
import Derived.ChangeOld
import Derived.Lib.LaidTab
import Derived.SevenTiedAt
import Derived.Deep.Slices
import Derived.Deep.Strs
namespace Go.Proofs.Ytjdpomilifnlaaa
set_option maxRecDepth 100000
open Go.RowKit
theorem append_where {P : Program} (w : World) (base : Nat) (t ty e : TypeId) (i : TypeInfo) (z : Value) (size bytes : Nat) (ht : P.underlying t = some (.slice e)) (hi : P.info? e = some i) (hz : i.zero = some z)
    (hsize : i.size = size) (hby : i.bytes = bytes)
    (v : Value) (n : Nat) (xs : List Value) (hown : w.ownsRow base e size v n xs)
    (a : Addr) (m c : Nat) (news : List Value) (hl : news.length = m * size) (hnews : ∀ j u, news[j]? = some u → w.cell? (a.add j) = some u) (h1 : ∀ u ∈ news, u.oneCell' = true)
    (h63 : n + m ≤ maxLen) (hbytes : (n + m) * bytes ≤ 140737488355328) :
    ∀ v' w', (Builtin.append_ #[t, t] ty #[v, .slice (some a) m c]).run P w = .ok v' w' → v'.ownBlock = v.ownBlock ∨ v'.ownBlock = some w.heap.size := by
  subst hsize
  subst hby
  intro v' w' hr
  have hsmall : n + m ≤ 9223372036854775807 := by simp only [maxLen] at h63; omega
  rcases hown.2 with ⟨rfl, rfl⟩ | ⟨g, cap, cur, rfl, hbg, hg, hnc, hcm, hcs, htake⟩
  · by_cases hm : m = 0
    · subst hm
      left
      have : (Builtin.append_ #[t, t] ty #[.slice none 0 0, .slice (some a) 0 c]).run P w = .ok (.slice none 0 0) w := by
        simp [Builtin.append_, run_underlying ht, sizeOf, typeInfo, hi, Builtin.lenOf, Builtin.firstCells, loadCells, loadCellsFrom]
      rw [this] at hr
      obtain ⟨rfl, _⟩ := Result.ok.inj hr
      rfl
    · right
      rw [run_append_nil (P := P) w t ty e i z ht hi hz a m c news hl hnews (by omega) (by omega) (by have hb := hbytes; simp only [Nat.zero_add] at hb; omega)] at hr
      obtain ⟨rfl, _⟩ := Result.ok.inj hr
      rfl
  · by_cases hroom : n + m ≤ cap
    · left
      rw [run_append_room (P := P) w t ty e i ht hi g n cap cur hg a m c news hl hnews h1 hroom (by rw [hl, hcs, ← Nat.add_mul]; exact Nat.mul_le_mul_right _ hroom)] at hr
      obtain ⟨rfl, _⟩ := Result.ok.inj hr
      rfl
    · right
      rw [run_append_grow (P := P) w t ty e i z ht hi hz ⟨g, 0, none⟩ n cap xs hown.1 (hown.cells (g := g) rfl) a m c news hl hnews (by omega) (by omega) (growslice_fits (by omega) hbytes)] at hr
      obtain ⟨rfl, _⟩ := Result.ok.inj hr
      rfl
/-- Texts in cells. -/
def sv (l : List (List (BitVec 8))) : List Value := l.map fun x => .string (str x)
theorem sv_one (l : List (List (BitVec 8))) : ∀ u ∈ sv l, u.oneCell' = true := by
  intro u hu
  obtain ⟨z, _, rfl⟩ := List.mem_map.1 hu
  rfl
/-- Texts of the call's own. -/
def Fk.os (base : Nat) (l : List (List (BitVec 8))) : Fk := Fk.orw base 9 1 l.length (sv l)
theorem os_nil (base : Nat) (w : World) : (Fk.os base []).f (.slice none 0 0) w := orw_nil _ _ _ _
theorem os_slice {base : Nat} {l : List (List (BitVec 8))} {v : Value} {w : World} (h : (Fk.os base l).f v w) : ∃ a c, v = .slice a l.length c := by
  obtain ⟨_, h2⟩ := h
  rcases h2 with ⟨e, h0⟩ | ⟨b, cap, cur, e, _⟩
  · exact ⟨none, 0, by rw [e, h0]⟩
  · exact ⟨_, _, e⟩
theorem Try.info9s : (Try.prog.info? 9).map (fun i => (i.zero, i.size, i.bytes)) = some (some (.string ByteArray.empty), 1, 16) := by kernel_rfl
theorem Try.under45s : Try.prog.underlying 45 = some (.slice 9) := by kernel_rfl
theorem Try.bld45s (t : ByteArray) (w : World) : (Instr.buildSlice 45 1 #[(0, .string t)]).run Try.prog w = .ok (.slice (some ⟨w.heap.size, 0, none⟩) 1 1) (w.alloc (.cells #[.string t] 9)) := by kernel_rfl
theorem run_appS (ty : TypeId) {B : Nat} {P : List (List (BitVec 8))} {y : List (BitVec 8)} {v u : Value} {w : World} (hB : B ≤ w.heap.size) (hs1 : (Fk.os B P).f v w) (hx : (Fk.os 0 [y]).f u w) (hN : P.length ≤ 100000) :
    ∃ v' w', (Builtin.append_ #[45, 45] ty #[v, u]).run Try.prog w = .ok v' w' ∧ (Fk.os B (P ++ [y])).f v' w' ∧ w.grownBy w' v.ownBlock ∧ (v'.ownBlock = v.ownBlock ∨ v'.ownBlock = some w.heap.size) := by
  obtain ⟨i0, hi, hz0, hz1, hz2⟩ := info_parts Try.info9s
  obtain ⟨A, C, lb, lo, e, hp, hl, hr⟩ := orw_rdw hx
  have hp := hp (by simp)
  subst hp
  subst e
  have hown : w.ownsRow B 9 1 v P.length (sv P) := hs1
  have hnews : ∀ (j : Nat) (u : Value), (sv [y])[j]? = some u → w.cell? ((⟨lb, lo, none⟩ : Addr).add j) = some u := fun j u hj => by rw [Addr.add_mid]; exact hr j u hj
  obtain ⟨v', w', hrun, h2, h3, _⟩ := run_append_own (P := Try.prog) w B 45 ty 9 i0 _ 1 16 Try.under45s hi hz0 hz1 hz2 (by rfl) (by decide) v P.length (sv P) hown ⟨lb, lo, none⟩ 1 C (sv [y]) (by simp [sv]) hnews (sv_one _) (by unfold maxLen; omega) (by omega) (by omega)
  have h4 := append_where (P := Try.prog) w B 45 ty 9 i0 _ 1 16 Try.under45s hi hz0 hz1 hz2 v P.length (sv P) hown ⟨lb, lo, none⟩ 1 C (sv [y]) (by simp [sv]) hnews (sv_one _) (by unfold maxLen; omega) (by omega) v' w' hrun
  refine ⟨v', w', hrun, ?_, h3, h4⟩
  show w'.ownsRow B 9 1 v' (P ++ [y]).length (sv (P ++ [y]))
  rw [List.length_append, show sv (P ++ [y]) = sv P ++ sv [y] from List.map_append]
  exact h2
section
variable {Q : Exit → Act → World → Prop} {o : Oper} {a : Act} {w : World} {ops : Array Oper} {rest : List Oper}
theorem wl_appS (hgd : o.guard = none) (s x : Operand) (ho : o.op = .call { callee := .builtin .append, args := #[s, x], argTypes := #[45, 45] }) (d : Nat) (hd : o.dst = some d) (hsz : d < a.tmps.size)
    {B : Nat} {P : List (List (BitVec 8))} {y : List (BitVec 8)} {v : Value} (hB : B ≤ w.heap.size) (e : a.eval s = v) (hs1 : (Fk.os B P).f v w) (hx : (Fk.os 0 [y]).f (a.eval x) w) (hN : P.length ≤ 100000)
    (h : ∀ a2 w2 v2, a2.defers = a.defers → a2.tmps.size = a.tmps.size → (∀ t, (t == d) = false → a2.eval (.tmp t) = a.eval (.tmp t)) → a2.eval (.tmp d) = v2 → (Fk.os B (P ++ [y])).f v2 w2 → w.grownBy w2 v.ownBlock → (v2.ownBlock = v.ownBlock ∨ v2.ownBlock = some w.heap.size) → wpList Try.prog ops Q rest a2 w2) : wpList Try.prog ops Q (o :: rest) a w := by
  obtain ⟨v', w', hr, h2, h3, h4⟩ := run_appS o.type hB hs1 hx hN
  unfold wpList
  rw [if_pos (by unfold Region.wanted; rw [hgd])]
  refine .inl ?_
  unfold Oper.wp execOp
  simp only [ho, resolve, invoke, builtin, Sem.run_bind, Sem.run_pure, Result.andThen_ok, List.map_toArray, List.map_cons, List.map_nil, e, hr]
  refine h _ _ v' (put_def _ _ _) (put_size _ _ _) (fun t ht => ?_) ?_ h2 h3 h4
  · rw [hd]
    exact put_eval_other _ _ _ _ (fun e => by subst e; simp at ht)
  · rw [hd, put_eval_same _ _ _ hsz]
theorem st_blds (x : Operand) (ho : o.op = .buildSlice 45 1 #[(0, x)]) {y : List (BitVec 8)} (hx : a.eval x = .string (str y)) : o.wp Try.prog a w (Ends a o.dst w (Fk.os 0 [y]).f) Q := st_bldr 45 9 1 x ho (sv [y]) hx (fun w => Try.bld45s (str y) w) (by rfl) 0 (Nat.zero_le _)
end
theorem os_ne {B g : Nat} {T : TypeId} {l : List (List (BitVec 8))} {v : Value} {w : World} {cs : List Value} (h : (Fk.os B l).f v w) (m : Ob w g T cs) (hT : T ≠ 9) : some g ≠ v.ownBlock := by
  obtain ⟨_, h2⟩ := h
  rcases h2 with ⟨rfl, _⟩ | ⟨b, cap, cur, rfl, _, hg, _⟩
  · intro e; cases e
  · intro e
    obtain rfl : g = b := Option.some.inj e
    unfold Ob at m
    rw [hg] at m
    injection m with m
    injection m with _ e2
    exact hT e2.symm
theorem os_kept {B : Nat} {l : List (List (BitVec 8))} {v : Value} {w w' : World} {row : Option Nat} (h : (Fk.os B l).f v w) (hg : w.grownBy w' row) (hne : v.ownBlock = none ∨ v.ownBlock ≠ row) : (Fk.os B l).f v w' := World.ownsRow.kept h hg hne
theorem os_setCell {B g i : Nat} {T : TypeId} {l : List (List (BitVec 8))} {v u : Value} {w : World} {cs : List Value} (h : (Fk.os B l).f v w) (m : Ob w g T cs) (hT : T ≠ 9) : (Fk.os B l).f v (w.setCell ⟨g, i, none⟩ u) := by
  have hne := os_ne h m hT
  have O := (Only.refl g w).setCell i u
  obtain ⟨h1, h2⟩ := h
  refine ⟨h1, ?_⟩
  rcases h2 with h2 | ⟨b, cap, cur, rfl, hb, hg, r⟩
  · exact .inl h2
  · refine .inr ⟨b, cap, cur, rfl, hb, ?_, r⟩
    rw [O.block b (Array.getElem?_eq_some_iff.1 hg).1 (fun e => hne (by rw [e]; rfl))]
    exact hg
theorem grown_ob {w w' : World} {b : Nat} {T : TypeId} {cs : List Value} {r : Option Nat} (h : Ob w b T cs) (hg : w.grownBy w' r) (hne : some b ≠ r) : Ob w' b T cs := by
  have := hg.block b (Ob.lt h) hne
  unfold Ob at *
  rw [this]
  exact h
theorem os_rs {B : Nat} {l : List (List (BitVec 8))} {a : Option Addr} {n c : Nat} {w : World} (h : (Fk.os B l).f (.slice a n c) w) (hl : 0 < l.length) : ∃ b, a = some ⟨b, 0, none⟩ ∧ B ≤ b ∧ Rs w b l := by
  obtain ⟨_, h2⟩ := h
  rcases h2 with ⟨_, h0⟩ | ⟨b, cap, cur, e, hb, hg, hn, hm, hs, ht⟩
  · omega
  · injection e with e1
    refine ⟨b, e1, hb, cur, hg, fun i x hi => ?_⟩
    have hlt := (List.getElem?_eq_some_iff.1 hi).1
    have h3 : (sv l)[i]? = some (.string (str x)) := by unfold sv; rw [List.getElem?_map, hi]; rfl
    rw [← ht, List.getElem?_take, if_pos (by omega)] at h3
    rw [Array.getElem?_toList] at h3
    exact h3
section
variable {Q : Exit → Act → World → Prop} {o : Oper} {a : Act} {w : World}
theorem st_makeb (x y : Operand) (ho : o.op = .makeSlice 29 x y) (n : Nat) (hn : n ≤ 100000) (hx : a.eval x = .int .i64 (n : Int)) (hy : a.eval y = .int .i64 (n : Int)) : o.wp Try.prog a w (Ends a o.dst w (Fk.sl (zs n)).f) Q := by
  have hr : (Instr.makeSlice 29 (.int .i64 (n : Int)) (.int .i64 (n : Int))).run Try.prog w = .ok (.slice (some ⟨w.heap.size, 0, none⟩) n n) (w.alloc (.cells ((zs n).map V).toArray 5)) := by
    obtain ⟨i0, hi, hz0, hz1, hz2⟩ := info_parts Try.info5
    have := run_make (P := Try.prog) w 29 5 i0 (.int .u8 0) Try.under29 hi hz0 .i64 .i64 (n : Int) (n : Int) (by omega) (by omega) (by rw [hz2]; omega) (by omega)
    rw [hz1, Int.toNat_natCast, Nat.mul_one, made_eq] at this
    exact this
  refine st_run (v := .slice (some ⟨w.heap.size, 0, none⟩) n n) (w' := w.alloc (.cells ((zs n).map V).toArray 5)) ?_ ((Below.refl _ _).alloc (Nat.le_refl _) _) ⟨_, _, _, w.heap.size, 0, rfl, (zs_len n).symm, Nat.le_refl _, (fun e => by cases e), fun _ => ⟨rfl, Ob.lt (T := 5) (cs := (zs n).map V) (heap_alloc_new _ _), ?_⟩⟩
  · unfold execOp
    rw [ho]
    simp [hx, hy, hr]
  · exact Ob.bytes (T := 5) (cs := []) (by rw [List.append_nil]; exact heap_alloc_new _ _)
end
theorem ref_new {n z : Nat} (h1 : 1 ≤ n) (hn : n ≤ 1000) (hz : z ≤ 100000) (w : World) :
    Calls Try.prog 11 #[.int .i64 (n : Int), .int .i64 (z : Int)] w fun e w' => ∃ x h c, e = .returned (.pointer (some ⟨x, 0, none⟩)) ∧ w.heap.size ≤ x ∧ w.heap.size ≤ h ∧ w.heap.size ≤ c ∧ HX w' x h c ⟨List.replicate n (zs z), List.replicate n [], z, 0, 0, false, false⟩ ∧ Below w.heap.size w w' := by
  go_enter Try.func11, Try.ntmps11
  refine code_both (fun f w1 => f.tmps.size = 39 ∧ f.defers = [] ∧ f.eval (.tmp 0) = .int .i64 (n : Int) ∧ f.eval (.tmp 1) = .int .i64 (z : Int) ∧ Below w.heap.size w (w1)) ⟨rfl, rfl, rfl, rfl, Below.refl _ _⟩ ?_
  rintro f0 w0 ⟨sz, df, x0, x1, bl⟩
  have sd := And.intro sz df
  clear sz df
  have bl0 := bl
  refine wp_seq ?_
  refine wr_a [.eq (.pointer none)] (by rw [sd.1]; kernel_rfl) ⟨fun hw ac u K => ?_, trivial⟩ ?_
  · exact st_assign (.const (.pointer none)) rfl rfl
  intro f1 w1 A hb
  replace x0 := A.t x0 rfl
  replace x1 := A.t x1 rfl
  replace bl := bgo bl hb
  replace sd := A.sd sd
  clear A hb
  show Code.wp _ _ _ _ _
  refine wp_seq ?_
  refine wr_a [.eq (.int .i64 (z : Int)), .eq (.agg ([.slice none 0 0, .slice none 0 0, .int .i64 (z : Int), .int .i64 0, .int .i64 0, .bool false, .bool false] : List Value).toArray), .nw w1.heap.size 66 ([.slice none 0 0, .slice none 0 0, .int .i64 (z : Int), .int .i64 0, .int .i64 0, .bool false, .bool false] : List Value), .nw w1.heap.size 66 ([.slice none 0 0, .slice none 0 0, .int .i64 (z : Int), .int .i64 0, .int .i64 0, .bool false, .bool false] : List Value)] (by rw [sd.1]; kernel_rfl) ⟨fun hw ac u K => ?_, fun hw ac u K => ?_, fun hw ac u K => ?_, fun hw ac u K => ?_, trivial⟩ ?_
  · exact st_move (.tmp 1) rfl (K.t x1 rfl)
  · exact st_build 66 _ rfl (by simp only [List.map_toArray, List.map_cons, List.map_nil, show ac.eval (.tmp 8) = _ from (K.dep 0 8 rfl)]; kernel_rfl)
  · exact st_box 66 (.tmp 9) rfl _ _ (by rw [show _ = _ from (K.dep 1 9 rfl)]; kernel_rfl) K.grow.size
  · exact st_assign (.tmp 10) rfl (K.dep 2 10 rfl)
  intro f2 w2 A hb
  replace bl0 := bl
  replace x0 := A.t x0 rfl
  replace x1 := A.t x1 rfl
  have x5 : Fk.f (.nw w1.heap.size 66 ([.slice none 0 0, .slice none 0 0, .int .i64 (z : Int), .int .i64 0, .int .i64 0, .bool false, .bool false] : List Value)) (f2.eval (.tmp 5)) w2 := A.has 3 5 rfl
  replace bl := bgo bl hb
  replace sd := A.sd sd
  clear A hb
  obtain ⟨g5, hg5, e5, m5⟩ := x5
  have x5 := e5
  clear e5
  have hw5 : w.heap.size ≤ g5 := Nat.le_trans bl0.size hg5
  show Code.wp _ _ _ _ _
  refine wp_seq ?_
  refine wr_a [.eq (.int .i64 (z : Int)), .sl (zs z), .eq (.string (str (zs z))), .eq (.string (str (zs z)))] (by rw [sd.1]; kernel_rfl) ⟨fun hw ac u K => ?_, fun hw ac u K => ?_, fun hw ac u K => ?_, fun hw ac u K => ?_, trivial⟩ ?_
  · exact st_move (.tmp 1) rfl (K.t x1 rfl)
  · exact st_makeb (.tmp 11) (.tmp 11) rfl z (by omega) (K.dep 0 11 rfl) (K.dep 0 11 rfl)
  · exact st_stra (.tmp 12) rfl (K.dep 1 12 rfl)
  · exact st_assign (.tmp 13) rfl (K.dep 2 13 rfl)
  intro f3 w3 A hb
  replace x0 := A.t x0 rfl
  replace x1 := A.t x1 rfl
  replace x5 := A.t x5 rfl
  have x6 := A.e 3 6 rfl rfl
  replace m5 := Ob.below m5 hb
  replace bl := bgo bl hb
  replace sd := A.sd sd
  clear A hb
  clear x1
  show Code.wp _ _ _ _ _
  refine wp_seq ?_
  refine wp_seq ?_
  refine wr_a [.eq (.int .i64 0)] (by rw [sd.1]; kernel_rfl) ⟨fun hw ac u K => ?_, trivial⟩ ?_
  · exact st_assign (.const (.int .i64 0)) rfl rfl
  intro f4 w4 A hb
  replace x0 := A.t x0 rfl
  replace x5 := A.t x5 rfl
  replace x6 := A.t x6 rfl
  have x7 := A.e 0 7 rfl rfl
  replace m5 := Ob.below m5 hb
  replace bl := bgo bl hb
  replace sd := A.sd sd
  clear A hb
  show Code.wp _ _ _ _ _
  refine wp_block ?_
  refine wp_loop (fun f v1 => ∃ (k : Nat) (a1 a2 : Option Addr) (c1 c2 : Nat), k ≤ n ∧ (∀ b, (Value.slice a1 k c1).ownBlock = some b → (Value.slice a2 k c2).ownBlock ≠ some b) ∧ f.tmps.size = 39 ∧ f.defers = [] ∧ f.eval (.tmp 0) = .int .i64 (n : Int) ∧ f.eval (.tmp 5) = .pointer (some ⟨g5, 0, none⟩) ∧ f.eval (.tmp 6) = .string (str (zs z)) ∧ f.eval (.tmp 7) = .int .i64 (k : Int) ∧ Ob v1 (g5) 66 ([.slice a1 k c1, .slice a2 k c2, .int .i64 (z : Int), .int .i64 0, .int .i64 0, .bool false, .bool false]) ∧ (Fk.os w.heap.size (List.replicate k (zs z))).f (.slice a1 k c1) v1 ∧ (Fk.os w.heap.size (List.replicate k ([] : List (BitVec 8)))).f (.slice a2 k c2) v1 ∧ Below w.heap.size w (v1)) (fun f _ => n - (intOf (f.eval (.tmp 7))).toNat) ⟨0, none, none, 0, 0, Nat.zero_le _, (fun b hb => by cases hb), sd.1, sd.2, x0, x5, x6, x7, m5, os_nil _ _, os_nil _ _, bl⟩ ?_
  intro f5 w5 hI
  clear sd bl bl0 x0 x5 x6 x7 m5
  obtain ⟨k, a1, a2, c1, c2, hk8, hap, sz, df, x0, x5, x6, x7, m5, o1, o2, bl⟩ := hI
  have sd := And.intro sz df
  clear sz df
  have bl0 := bl
  have hcnt := x7
  refine wp_seq ?_
  refine wp_seq ?_
  by_cases hlt : k < n
  rotate_left
  · skip
    refine wr_a [.eq (.int .i64 (k : Int)), .eq (.int .i64 (n : Int)), .eq (.bool false)] (by rw [sd.1]; kernel_rfl) ⟨fun hw ac u K => ?_, fun hw ac u K => ?_, fun hw ac u K => ?_, trivial⟩ ?_
    · exact st_move (.tmp 7) rfl (K.t x7 rfl)
    · exact st_move (.tmp 0) rfl (K.t x0 rfl)
    · exact st_lss 3 (.tmp 14) (.tmp 15) rfl .i64 ((k : Int)) ((n : Int)) (K.dep 0 14 rfl) (K.dep 1 15 rfl) _ (by rw [eq_comm, decide_eq_false_iff_not]; omega)
    intro f6 w6 A hb
    replace x0 := A.t x0 rfl
    replace x5 := A.t x5 rfl
    replace x6 := A.t x6 rfl
    replace x7 := A.t x7 rfl
    have x16 := A.e 2 16 rfl rfl
    replace m5 := Ob.below m5 hb
    replace o1 := Fk.mono _ _ _ _ o1 hb
    replace o2 := Fk.mono _ _ _ _ o2 hb
    replace bl := bgo bl hb
    replace sd := A.sd sd
    clear A hb
    show Code.wp _ _ _ _ _
    refine wp_cond_false x16 ?_
    refine wp_exit ?_
    show Code.wp _ _ _ _ _
    refine wp_seq ?_
    refine wr_a [.eq (.pointer (some ⟨g5, 0, none⟩)), .eq (.pointer (some ⟨g5, 0, none⟩))] (by rw [sd.1]; kernel_rfl) ⟨fun hw ac u K => ?_, fun hw ac u K => ?_, trivial⟩ ?_
    · exact st_move (.tmp 5) rfl (K.t x5 rfl)
    · exact st_assign (.tmp 38) rfl (K.dep 0 38 rfl)
    intro f7 w7 A hb
    replace x0 := A.t x0 rfl
    replace x5 := A.t x5 rfl
    replace x6 := A.t x6 rfl
    replace x7 := A.t x7 rfl
    replace x16 := A.t x16 rfl
    have x4 := A.e 1 4 rfl rfl
    replace m5 := Ob.below m5 hb
    replace o1 := Fk.mono _ _ _ _ o1 hb
    replace o2 := Fk.mono _ _ _ _ o2 hb
    replace bl := bgo bl hb
    replace sd := A.sd sd
    clear A hb
    clear x16
    show Code.wp _ _ _ _ _
    refine wp_ret ?_
    repeat (first | with_reducible refine then_ret ?_ | with_reducible refine block_ret ?_)
    obtain rfl : k = n := by omega
    have q1 := os_ne o1 m5 (by decide)
    have q2 := os_ne o2 m5 (by decide)
    obtain ⟨b1, rfl, hb1, r1⟩ := os_rs o1 (by rw [List.length_replicate]; omega)
    obtain ⟨b2, rfl, hb2, r2⟩ := os_rs o2 (by rw [List.length_replicate]; omega)
    have nn : b1 ≠ b2 := fun e => hap b1 rfl (by rw [e]; rfl)
    exact bodyPost_ret (v := .pointer (some ⟨g5, 0, none⟩)) (ret_slot rfl f7 _ x4 _ _) sd.2 ⟨g5, b1, b2, rfl, hw5, hb1, hb2, ⟨c1, c2, by rw [List.length_replicate]; exact m5, r1, r2, by rw [List.length_replicate, List.length_replicate], (fun e => q1 (by rw [e]; rfl)), (fun e => q2 (by rw [e]; rfl)), nn, (fun e => by cases e), by show (0 : Int) ≤ _; omega⟩, bl⟩
  refine wr_a [.eq (.int .i64 (k : Int)), .eq (.int .i64 (n : Int)), .eq (.bool true)] (by rw [sd.1]; kernel_rfl) ⟨fun hw ac u K => ?_, fun hw ac u K => ?_, fun hw ac u K => ?_, trivial⟩ ?_
  · exact st_move (.tmp 7) rfl (K.t x7 rfl)
  · exact st_move (.tmp 0) rfl (K.t x0 rfl)
  · exact st_lss 3 (.tmp 14) (.tmp 15) rfl .i64 ((k : Int)) ((n : Int)) (K.dep 0 14 rfl) (K.dep 1 15 rfl) _ (by rw [eq_comm, decide_eq_true_iff]; omega)
  intro f6 w6 A hb
  replace x0 := A.t x0 rfl
  replace x5 := A.t x5 rfl
  replace x6 := A.t x6 rfl
  replace x7 := A.t x7 rfl
  have x16 := A.e 2 16 rfl rfl
  replace m5 := Ob.below m5 hb
  replace o1 := Fk.mono _ _ _ _ o1 hb
  replace o2 := Fk.mono _ _ _ _ o2 hb
  replace bl := bgo bl hb
  replace sd := A.sd sd
  clear A hb
  show Code.wp _ _ _ _ _
  refine wp_cond_true x16 ?_
  refine wp_skip ?_
  show Code.wp _ _ _ _ _
  refine wp_seq ?_
  refine wp_block ?_
  refine wp_seq ?_
  refine wr_s [.eq (.pointer (some ⟨g5, 0, none⟩)), .eq (.pointer (some ⟨g5, 0, none⟩)), .eq (.pointer (some ⟨g5, 0, none⟩)), .eq (.pointer (some ⟨g5, 0, none⟩)), .eq (.slice a1 k c1), .eq (.string (str (zs z))), .os 0 ([zs z])] (by rw [sd.1]; kernel_rfl) ⟨fun hw ac u K => ?_, fun hw ac u K => ?_, fun hw ac u K => ?_, fun hw ac u K => ?_, fun hw ac u K => ?_, fun hw ac u K => ?_, fun hw ac u K => ?_, trivial⟩ ?_
  · exact st_move (.tmp 5) rfl (K.t x5 rfl)
  · exact st_move (.tmp 5) rfl (K.t x5 rfl)
  · exact st_nil (.tmp 20) rfl (K.dep 1 20 rfl)
  · exact st_field 66 0 (.tmp 21) rfl (K.dep 2 21 rfl) (by kernel_rfl)
  · exact st_loadc 45 (.tmp 22) rfl (by kernel_rfl) (K.dep 3 22 rfl) (Ob.cell (Ob.below m5 K.grow) 0 rfl)
  · exact st_move (.tmp 6) rfl (K.t x6 rfl)
  · exact st_blds (.tmp 24) rfl (K.dep 5 24 rfl)
  intro f7 w7 A hb
  replace x0 := A.t x0 rfl
  replace x5 := A.t x5 rfl
  replace x6 := A.t x6 rfl
  replace x7 := A.t x7 rfl
  replace x16 := A.t x16 rfl
  have x19 := A.e 0 19 rfl rfl
  have x23 := A.e 4 23 rfl rfl
  have x25 : Fk.f (.os 0 ([zs z])) (f7.eval (.tmp 25)) w7 := A.has 6 25 rfl
  replace m5 := Ob.below m5 hb
  replace o1 := Fk.mono _ _ _ _ o1 hb
  replace o2 := Fk.mono _ _ _ _ o2 hb
  replace bl := bgo bl hb
  replace sd := A.sd sd
  clear A hb
  clear x16
  refine wl_appS rfl (.tmp 23) (.tmp 25) rfl 26 rfl (by rw [sd.1]; decide) bl.size x23 o1 x25 (by rw [List.length_replicate]; omega) ?_
  intro f8 w8 v26 df2 sz2 old2 x26 o9 hgr hwh
  clear x25
  replace x0 := tr old2 x0 rfl
  replace x5 := tr old2 x5 rfl
  replace x6 := tr old2 x6 rfl
  replace x7 := tr old2 x7 rfl
  replace x19 := tr old2 x19 rfl
  replace x23 := tr old2 x23 rfl
  have hsz := bl.size
  have hlx := World.ownsRow.lt o1
  have olt := World.ownsRow.lt o2
  have m5b := grown_ob m5 hgr (os_ne o1 m5 (by decide))
  clear m5
  have m5 := m5b
  clear m5b
  have hkeep : (Value.slice a2 k c2).ownBlock = none ∨ (Value.slice a2 k c2).ownBlock ≠ (Value.slice a1 k c1).ownBlock := by
    cases hb : (Value.slice a2 k c2).ownBlock with
    | none => exact .inl rfl
    | some b => exact .inr (fun e => hap b e.symm hb)
  replace o2 := os_kept o2 hgr hkeep
  replace bl := bl.grown hgr bl.size (fun q e => (hlx q e).1)
  replace bl0 := bl
  replace sd := sd2 sz2 df2 sd
  clear df2 sz2 old2
  obtain ⟨a3, c3, e9⟩ := os_slice o9
  rw [List.length_append, List.length_replicate, List.length_singleton] at e9
  subst e9
  rw [show (List.replicate k (zs z)) ++ [zs z] = List.replicate (k + 1) (zs z) from (List.replicate_succ' ..).symm] at o9
  have hap3 : ∀ b, (Value.slice a2 k c2).ownBlock = some b → (Value.slice a3 (k + 1) c3).ownBlock ≠ some b := by
    intro b hb e
    rcases hwh with h9 | h9
    · rw [h9] at e; exact hap b e hb
    · rw [h9] at e
      have := (olt b hb).2
      have := Option.some.inj e
      omega
  clear hkeep hwh hgr hsz hlx olt o1
  have o1 := o9
  clear o9
  clear x23
  refine wl_one (.eq (.pointer (some ⟨g5, 0, none⟩))) rfl 27 rfl (by rw [sd.1]; decide) (st_nil (.tmp 19) rfl x19) ?_
  intro f9 w9 df2 sz2 old2 new2 hb
  replace x0 := tr old2 x0 rfl
  replace x5 := tr old2 x5 rfl
  replace x6 := tr old2 x6 rfl
  replace x7 := tr old2 x7 rfl
  replace x19 := tr old2 x19 rfl
  replace x26 := tr old2 x26 rfl
  have x27 := Fk.e new2
  replace m5 := Ob.below m5 hb
  replace o1 := Fk.mono _ _ _ _ o1 hb
  replace o2 := Fk.mono _ _ _ _ o2 hb
  replace bl := bgo bl hb
  replace sd := sd2 sz2 df2 sd
  clear df2 sz2 old2 new2 hb
  clear x19
  refine wl_one (.eq (.pointer (some ⟨g5, 0, none⟩))) rfl 28 rfl (by rw [sd.1]; decide) (st_field 66 0 (.tmp 27) rfl x27 (by kernel_rfl)) ?_
  intro f10 w10 df2 sz2 old2 new2 hb
  replace x0 := tr old2 x0 rfl
  replace x5 := tr old2 x5 rfl
  replace x6 := tr old2 x6 rfl
  replace x7 := tr old2 x7 rfl
  replace x26 := tr old2 x26 rfl
  replace x27 := tr old2 x27 rfl
  have x28 := Fk.e new2
  replace m5 := Ob.below m5 hb
  replace o1 := Fk.mono _ _ _ _ o1 hb
  replace o2 := Fk.mono _ _ _ _ o2 hb
  replace bl := bgo bl hb
  replace sd := sd2 sz2 df2 sd
  clear df2 sz2 old2 new2 hb
  clear x27
  refine wl_stc 45 rfl (.tmp 28) (.tmp 26) rfl rfl (by kernel_rfl) (g5) 0 (.slice a3 (k + 1) c3) x28 x26 rfl rfl (Ob.there m5 0 (by simp)) ?_
  replace o1 := os_setCell (i := 0) (u := .slice a3 (k + 1) c3) o1 m5 (by decide)
  replace o2 := os_setCell (i := 0) (u := .slice a3 (k + 1) c3) o2 m5 (by decide)
  replace m5 : Ob (w10.setCell ⟨g5, 0, none⟩ (.slice a3 (k + 1) c3)) (g5) 66 ([.slice a3 (k + 1) c3, .slice a2 k c2, .int .i64 (z : Int), .int .i64 0, .int .i64 0, .bool false, .bool false]) := Ob.set m5 0 (.slice a3 (k + 1) c3)
  replace bl : Below w.heap.size w (w10.setCell ⟨g5, 0, none⟩ (.slice a3 (k + 1) c3)) := bl.trans (below_setCell _ _ _ _ _ hw5)
  generalize w10.setCell ⟨g5, 0, none⟩ (.slice a3 (k + 1) c3) = w11b at bl m5 o1 o2 ⊢
  refine wpList_nil ?_
  clear x26
  clear x28
  show Code.wp _ _ _ _ _
  refine wr_s [.eq (.pointer (some ⟨g5, 0, none⟩)), .eq (.pointer (some ⟨g5, 0, none⟩)), .eq (.pointer (some ⟨g5, 0, none⟩)), .eq (.pointer (some ⟨g5, 1, none⟩)), .eq (.slice a2 k c2), .os 0 ([[]])] (by rw [sd.1]; kernel_rfl) ⟨fun hw ac u K => ?_, fun hw ac u K => ?_, fun hw ac u K => ?_, fun hw ac u K => ?_, fun hw ac u K => ?_, fun hw ac u K => ?_, trivial⟩ ?_
  · exact st_move (.tmp 5) rfl (K.t x5 rfl)
  · exact st_move (.tmp 5) rfl (K.t x5 rfl)
  · exact st_nil (.tmp 30) rfl (K.dep 1 30 rfl)
  · exact st_field 66 1 (.tmp 31) rfl (K.dep 2 31 rfl) (by kernel_rfl)
  · exact st_loadc 45 (.tmp 32) rfl (by kernel_rfl) (K.dep 3 32 rfl) (Ob.cell (Ob.below m5 K.grow) 1 rfl)
  · exact st_blds (.const (.string { data := #[] })) rfl (y := []) rfl
  intro f12 w12 A hb
  replace x0 := A.t x0 rfl
  replace x5 := A.t x5 rfl
  replace x6 := A.t x6 rfl
  replace x7 := A.t x7 rfl
  have x29 := A.e 0 29 rfl rfl
  have x33 := A.e 4 33 rfl rfl
  have x34 : Fk.f (.os 0 ([[]])) (f12.eval (.tmp 34)) w12 := A.has 5 34 rfl
  replace m5 := Ob.below m5 hb
  replace o1 := Fk.mono _ _ _ _ o1 hb
  replace o2 := Fk.mono _ _ _ _ o2 hb
  replace bl := bgo bl hb
  replace sd := A.sd sd
  clear A hb
  refine wl_appS rfl (.tmp 33) (.tmp 34) rfl 35 rfl (by rw [sd.1]; decide) bl.size x33 o2 x34 (by rw [List.length_replicate]; omega) ?_
  intro f13 w13 v35 df2 sz2 old2 x35 o9 hgr hwh
  clear x34
  replace x0 := tr old2 x0 rfl
  replace x5 := tr old2 x5 rfl
  replace x6 := tr old2 x6 rfl
  replace x7 := tr old2 x7 rfl
  replace x29 := tr old2 x29 rfl
  replace x33 := tr old2 x33 rfl
  have hsz := bl.size
  have hlx := World.ownsRow.lt o2
  have olt := World.ownsRow.lt o1
  have m5b := grown_ob m5 hgr (os_ne o2 m5 (by decide))
  clear m5
  have m5 := m5b
  clear m5b
  have hkeep : (Value.slice a3 (k + 1) c3).ownBlock = none ∨ (Value.slice a3 (k + 1) c3).ownBlock ≠ (Value.slice a2 k c2).ownBlock := by
    cases hb : (Value.slice a3 (k + 1) c3).ownBlock with
    | none => exact .inl rfl
    | some b => exact .inr (fun e => hap3 b e.symm hb)
  replace o1 := os_kept o1 hgr hkeep
  replace bl := bl.grown hgr bl.size (fun q e => (hlx q e).1)
  replace bl0 := bl
  replace sd := sd2 sz2 df2 sd
  clear df2 sz2 old2
  obtain ⟨a4, c4, e9⟩ := os_slice o9
  rw [List.length_append, List.length_replicate, List.length_singleton] at e9
  subst e9
  rw [show (List.replicate k ([] : List (BitVec 8))) ++ [[]] = List.replicate (k + 1) ([] : List (BitVec 8)) from (List.replicate_succ' ..).symm] at o9
  have hap4 : ∀ b, (Value.slice a3 (k + 1) c3).ownBlock = some b → (Value.slice a4 (k + 1) c4).ownBlock ≠ some b := by
    intro b hb e
    rcases hwh with h9 | h9
    · rw [h9] at e; exact hap3 b e hb
    · rw [h9] at e
      have := (olt b hb).2
      have := Option.some.inj e
      omega
  clear hkeep hwh hgr hsz hlx olt o2
  have o2 := o9
  clear o9
  clear x33
  refine wl_one (.eq (.pointer (some ⟨g5, 0, none⟩))) rfl 36 rfl (by rw [sd.1]; decide) (st_nil (.tmp 29) rfl x29) ?_
  intro f14 w14 df2 sz2 old2 new2 hb
  replace x0 := tr old2 x0 rfl
  replace x5 := tr old2 x5 rfl
  replace x6 := tr old2 x6 rfl
  replace x7 := tr old2 x7 rfl
  replace x29 := tr old2 x29 rfl
  replace x35 := tr old2 x35 rfl
  have x36 := Fk.e new2
  replace m5 := Ob.below m5 hb
  replace o1 := Fk.mono _ _ _ _ o1 hb
  replace o2 := Fk.mono _ _ _ _ o2 hb
  replace bl := bgo bl hb
  replace sd := sd2 sz2 df2 sd
  clear df2 sz2 old2 new2 hb
  clear x29
  refine wl_one (.eq (.pointer (some ⟨g5, 1, none⟩))) rfl 37 rfl (by rw [sd.1]; decide) (st_field 66 1 (.tmp 36) rfl x36 (by kernel_rfl)) ?_
  intro f15 w15 df2 sz2 old2 new2 hb
  replace x0 := tr old2 x0 rfl
  replace x5 := tr old2 x5 rfl
  replace x6 := tr old2 x6 rfl
  replace x7 := tr old2 x7 rfl
  replace x35 := tr old2 x35 rfl
  replace x36 := tr old2 x36 rfl
  have x37 := Fk.e new2
  replace m5 := Ob.below m5 hb
  replace o1 := Fk.mono _ _ _ _ o1 hb
  replace o2 := Fk.mono _ _ _ _ o2 hb
  replace bl := bgo bl hb
  replace sd := sd2 sz2 df2 sd
  clear df2 sz2 old2 new2 hb
  clear x36
  refine wl_stc 45 rfl (.tmp 37) (.tmp 35) rfl rfl (by kernel_rfl) (g5) 1 (.slice a4 (k + 1) c4) x37 x35 rfl rfl (Ob.there m5 1 (by simp)) ?_
  replace o1 := os_setCell (i := 1) (u := .slice a4 (k + 1) c4) o1 m5 (by decide)
  replace o2 := os_setCell (i := 1) (u := .slice a4 (k + 1) c4) o2 m5 (by decide)
  replace m5 : Ob (w15.setCell ⟨g5, 1, none⟩ (.slice a4 (k + 1) c4)) (g5) 66 ([.slice a3 (k + 1) c3, .slice a4 (k + 1) c4, .int .i64 (z : Int), .int .i64 0, .int .i64 0, .bool false, .bool false]) := Ob.set m5 1 (.slice a4 (k + 1) c4)
  replace bl : Below w.heap.size w (w15.setCell ⟨g5, 1, none⟩ (.slice a4 (k + 1) c4)) := bl.trans (below_setCell _ _ _ _ _ hw5)
  generalize w15.setCell ⟨g5, 1, none⟩ (.slice a4 (k + 1) c4) = w16b at bl m5 o1 o2 ⊢
  refine wpList_nil ?_
  clear x35
  clear x37
  show Code.wp _ _ _ _ _
  refine wr_s [.eq (.int .i64 (k : Int)), .eq (.int .i64 ((k + 1 : Nat) : Int))] (by rw [sd.1]; kernel_rfl) ⟨fun hw ac u K => ?_, fun hw ac u K => ?_, trivial⟩ ?_
  · exact st_move (.tmp 7) rfl (K.t x7 rfl)
  · exact st_add (.tmp 17) (.const (.int .i64 1)) rfl (k) (1) (k + 1) (K.dep 0 17 rfl) rfl (by omega) (by omega)
  intro f17 w17 A hb
  replace x0 := A.t x0 rfl
  replace x5 := A.t x5 rfl
  replace x6 := A.t x6 rfl
  replace x7 := A.t x7 rfl
  have x18 := A.e 1 18 rfl rfl
  replace m5 := Ob.below m5 hb
  replace o1 := Fk.mono _ _ _ _ o1 hb
  replace o2 := Fk.mono _ _ _ _ o2 hb
  replace bl := bgo bl hb
  replace sd := A.sd sd
  clear A hb
  refine wl_one (.eq (.int .i64 ((k + 1 : Nat) : Int))) rfl 7 rfl (by rw [sd.1]; decide) (st_assign (.tmp 18) rfl x18) ?_
  intro f18 w18 df2 sz2 old2 new2 hb
  replace x0 := tr old2 x0 rfl
  replace x5 := tr old2 x5 rfl
  replace x6 := tr old2 x6 rfl
  clear x7
  replace x18 := tr old2 x18 rfl
  have x7 := Fk.e new2
  replace m5 := Ob.below m5 hb
  replace o1 := Fk.mono _ _ _ _ o1 hb
  replace o2 := Fk.mono _ _ _ _ o2 hb
  replace bl := bgo bl hb
  replace sd := sd2 sz2 df2 sd
  clear df2 sz2 old2 new2 hb
  refine wpList_nil ?_
  clear x18
  show (∃ _, _) ∧ _
  refine ⟨⟨k + 1, a3, a4, c3, c4, (by omega), hap4, sd.1, sd.2, x0, x5, x6, x7, m5, o1, o2, bl⟩, ?_⟩
  rw [show f18.eval (.tmp 7) = _ from x7, show _ = _ from hcnt]
  first | (simp [intOf]; done) | (simp [intOf]; omega)
end Go.Proofs.Ytjdpomilifnlaaa
namespace Go.Proofs.Ytjdpomilifnlaaa
set_option maxRecDepth 100000
open Go.ChangeShapes Go.WideShapes Go.ChangeAt Go.RowKit

theorem own : ownKnob Try.prog.godebug = none := by kernel_rfl
theorem laidOut : laidOutB Try.prog = true := by kernel_rfl
end Go.Proofs.Ytjdpomilifnlaaa
namespace Go.Proofs.Ytjdpomilifnlaaa
set_option maxRecDepth 100000
open Go.ChangeShapes Go.WideShapes Go.ChangeAt Go.RowKit
theorem bv_ofInt (z : Int) (h0 : 0 ≤ z) (h1 : z < 256) : bv (BitVec.ofInt 8 z) = z := by
  unfold bv
  rw [BitVec.toNat_ofInt]
  omega
theorem sl_of {H : Type} {enc : TypeId × Value → H} {W : World} {a : Option Addr} {len cap : Nat} {d : DataW H} {p : List MemPlace}
    (h : DataW.Trod enc Try.prog W 0 (fun _ => true) true 29 (.slice a len cap) d p) : ∃ bs b o, Sl W a len cap bs b o ∧ len ≤ maxLen := by
  obtain ⟨fuel, hf⟩ := h
  rcases open_ints Try.under29 Try.under5 (by kernel_rfl) hf with ⟨hcs, _⟩ | ⟨x, l, c, zs, hcs, _, hl, hm, hz, _, hcell, hwz⟩
  · simp [Value.cells] at hcs
    obtain ⟨rfl, rfl, rfl⟩ := hcs
    exact ⟨[], 0, 0, ⟨rfl, Nat.le_refl _, fun _ => ⟨rfl, rfl⟩, fun h => absurd h (by omega)⟩, by unfold maxLen; omega⟩
  · simp [Value.cells] at hcs
    obtain ⟨rfl, rfl, rfl⟩ := hcs
    have hlen : zs.length = cap := by simpa using hz
    refine ⟨(zs.take len).map (BitVec.ofInt 8), x.block, x.off, ⟨?_, hl, fun h => by (cases h), fun hp => ?_⟩, by unfold maxLen at *; omega⟩
    · rw [List.length_map, List.length_take]; omega
    · have hspot : x.spot = none := by
        have := hcell 0 (by omega)
        simp only [Addr.add, if_true] at this
        unfold World.cell? at this
        split at this
        · split at this
          · cases this
          · rename_i h; simpa using h
        · cases this
      have hx : x = ⟨x.block, x.off, none⟩ := by rw [← hspot]
      have hadd : ∀ i, x.add i = ⟨x.block, x.off + i, none⟩ := fun i => by
        unfold Addr.add
        split
        · rename_i h; subst h; rw [Nat.add_zero]; exact hx
        · rfl
      refine ⟨by rw [← hx], ?_, ?_⟩
      · have := block_lt_of_cell (hcell 0 (by omega))
        simpa [Addr.add] using this
      · intro i hi
        have hil : i < zs.length := by rw [List.length_map, List.length_take] at hi; omega
        have hin : i < len := by rw [List.length_map, List.length_take] at hi; omega
        rw [← hadd, hcell i hil]
        have hb := bounds_u8 (hwz (zs[i]) (List.getElem_mem hil))
        have e1 : zs.getD i 0 = zs[i] := by simp [hil]
        have e2 : ((zs.take len).map (BitVec.ofInt 8)).getD i 0 = BitVec.ofInt 8 zs[i] := by simp [hil, hin]
        rw [e1, e2, bv_ofInt _ (by omega) (by omega)]
end Go.Proofs.Ytjdpomilifnlaaa
namespace Go.Proofs.Ytjdpomilifnlaaa
set_option maxRecDepth 100000
open Go.ChangeShapes Go.WideShapes Go.ChangeAt Go.RowKit
theorem add_plain {w : World} {x : Addr} {v : Value} (h : w.cell? x = some v) : ∀ i, x.add i = ⟨x.block, x.off + i, none⟩ := by
  have hspot : x.spot = none := by
    unfold World.cell? at h
    split at h
    · split at h
      · cases h
      · rename_i h2; simpa using h2
    · cases h
  intro i
  unfold Addr.add
  split
  · rename_i h2; subst h2; rw [Nat.add_zero, ← hspot]
  · rfl
end Go.Proofs.Ytjdpomilifnlaaa
namespace Go.Proofs.Ytjdpomilifnlaaa
set_option maxRecDepth 100000
open Go.ChangeShapes Go.WideShapes Go.ChangeAt Go.RowKit
/-- The types and places of a struct's fields. -/
def fldS (P : Program) (t : TypeId) : Option (List (TypeId × Nat)) := match P.underlying t with | some (.struct fs) => some (fs.toList.map fun f => (f.type, f.offset)) | _ => none
section
variable {H : Type} {enc : TypeId × Value → H} {W : World}
theorem parts_of {t : TypeId} {l : List (TypeId × Nat)} (hF : fldS Try.prog t = some l) {fuel : Nat} {cs : List Value} {x : DataW H × List MemPlace} (h : DataW.trod enc Try.prog W 0 (fun _ => true) true fuel t cs = some x) :
    cs.length = Try.prog.cellsOf t ∧ ∀ (i : Nat) (ty : TypeId) (off : Nat), l[i]? = some (ty, off) → ∃ n y, DataW.trod enc Try.prog W 0 (fun _ => true) true n ty ((cs.drop off).take (Try.prog.cellsOf ty)) = some y := by
  unfold fldS at hF
  cases hu : Try.prog.underlying t with
  | none => rw [hu] at hF; simp at hF
  | some td =>
    rw [hu] at hF
    cases td <;> simp only [] at hF <;> try (cases hF)
    rename_i fs
    obtain ⟨xs, n, _, rfl, hl, hlen, hf⟩ := DataW.trod_struct hu h
    refine ⟨hl, fun i ty off hi => ?_⟩
    rw [List.getElem?_map] at hi
    cases hfi : fs.toList[i]? with
    | none => rw [hfi] at hi; cases hi
    | some f =>
      rw [hfi] at hi
      obtain ⟨rfl, rfl⟩ : f.type = ty ∧ f.offset = off := by simpa using hi
      have hi2 : i < fs.toList.length := (List.getElem?_eq_some_iff.1 hfi).1
      have hi3 : i < xs.length := by simp only [Array.length_toList] at hi2; omega
      exact ⟨n, xs[i], (hf i f (by simpa using hfi)).trans (List.getElem?_eq_getElem hi3)⟩
theorem int_part {n : Nat} {cs : List Value} {y : DataW H × List MemPlace} (h : DataW.trod enc Try.prog W 0 (fun _ => true) true n 3 cs = some y) : ∃ z : Int, cs = [.int .i64 z] ∧ -9223372036854775808 ≤ z ∧ z ≤ 9223372036854775807 := by
  obtain ⟨z, hc, _, hw⟩ := DataW.trod_int Try.under3 h
  refine ⟨z, by simpa [Value.cells] using hc, ?_⟩
  have := bounds_i64 hw
  omega
theorem sl_part {n : Nat} {cs : List Value} {y : DataW H × List MemPlace} (h : DataW.trod enc Try.prog W 0 (fun _ => true) true n 29 cs = some y) : ∃ v bs, cs = [v] ∧ (Fk.sl bs).f v W := by
  have key : ∀ A N C, cs = [.slice A N C] → ∃ v bs, cs = [v] ∧ (Fk.sl bs).f v W := by
    intro A N C e
    obtain ⟨bs, b, o, hs, _⟩ := sl_of (a := A) (len := N) (cap := C) (d := y.1) (p := y.2) ⟨n, by rw [show (Value.slice A N C).cells.toList = cs from by rw [e]; rfl]; exact h⟩
    exact ⟨_, bs, e, A, N, C, b, o, rfl, hs⟩
  rcases Deep.open_slice Try.under29 h with ⟨hcs, _⟩ | ⟨a, len, cap, m, n', D, Pl, hcs, _⟩
  · exact key _ _ _ hcs
  · exact key _ _ _ hcs
theorem cells3 : Try.prog.cellsOf 3 = 1 := by kernel_rfl
theorem cells29 : Try.prog.cellsOf 29 = 1 := by kernel_rfl
end
end Go.Proofs.Ytjdpomilifnlaaa
namespace Go.Proofs.Ytjdpomilifnlaaa
set_option maxRecDepth 100000
set_option maxRecDepth 100000
open Go.ChangeShapes Go.WideShapes Go.ChangeAt Go.RowKit
variable {H : Type} {enc : TypeId × Value → H} {W : World}
end Go.Proofs.Ytjdpomilifnlaaa
namespace Go.Proofs.Ytjdpomilifnlaaa
set_option maxRecDepth 100000
open Go.RowKit
/-- A slice that has these slices of bytes. -/
def Fk.mg (ps : List Pt) : Fk := .inr (.inl ⟨fun v w => ∃ A C lb lo, v = .slice A ps.length C ∧ (0 < ps.length → A = some ⟨lb, lo, none⟩) ∧ Ls w lb lo ps, by
  rintro v w w' ⟨A, C, lb, lo, e, hg, h⟩ hb
  exact ⟨A, C, lb, lo, e, hg, h.below hb⟩⟩)
section
variable {Q : Exit → Act → World → Prop} {o : Oper} {a : Act} {w : World}
end
end Go.Proofs.Ytjdpomilifnlaaa
namespace Go.Proofs.Ytjdpomilifnlaaa
set_option maxRecDepth 100000
open Go.ChangeShapes Go.WideShapes Go.ChangeAt Go.RowKit
section
variable {H : Type} {enc : TypeId × Value → H} {W : World}
end
section
variable {H : Type} {enc : TypeId × Value → H} {W : World}
end
end Go.Proofs.Ytjdpomilifnlaaa
namespace Go.Proofs.Ytjdpomilifnlaaa
set_option maxRecDepth 100000
set_option maxRecDepth 100000
open Go.ChangeShapes Go.WideShapes Go.ChangeAt Go.RowKit
/-- One call that came in. -/
structure Opn where
  k : Int
  s : Int
  n : Int
  bs : List (BitVec 8)
  ls : List Int
  ab : Option Addr
  nb : Nat
  cb : Nat
  al : Option Addr
  cl : Nat
def Opn.vb (o : Opn) : Value := .slice o.ab o.nb o.cb
def Opn.vl (o : Opn) : Value := .slice o.al o.ls.length o.cl
def Opn.cells (o : Opn) : List Value := [.int .i64 o.k, .int .i64 o.s, .int .i64 o.n, o.vb, o.vl]
def Opn.val (o : Opn) : Value := .agg o.cells.toArray
structure Opn.ok (W : World) (o : Opn) : Prop where
  b : (Fk.sl o.bs).f o.vb W
  l : (Fk.is o.ls).f o.vl W
  n : o.n ≤ 9223372036854775807
  w : ∀ z ∈ o.ls, (Lit.int .i64 z).wf = true
theorem Opn.ok.below {w w' : World} {o : Opn} (h : o.ok w) (hb : Below w.heap.size w w') : o.ok w' := ⟨Fk.mono _ _ _ _ h.b hb, Fk.mono _ _ _ _ h.l hb, h.n, h.w⟩
/-- A slice that holds these calls. -/
def Fk.ol (l : List Opn) : Fk := .inr (.inl ⟨fun v w => ∃ A C lb lo, v = .slice A l.length C ∧ (0 < l.length → A = some ⟨lb, lo, none⟩) ∧ ∀ (i : Nat) (o : Opn), l[i]? = some o → o.ok w ∧ ∀ (j : Nat) (u : Value), o.cells[j]? = some u → w.cell? ⟨lb, lo + i * 5 + j, none⟩ = some u, by
  rintro v w w' ⟨A, C, lb, lo, e, h1, h2⟩ hb
  exact ⟨A, C, lb, lo, e, h1, fun i o hi => ⟨(h2 i o hi).1.below hb, fun j u hj => by have := (h2 i o hi).2 j u hj; rw [hb.cell (block_lt_of_cell this)]; exact this⟩⟩⟩)
theorem list_ofA {α : Type} {P : Nat → α → Prop} (n : Nat) (h : ∀ k, k < n → ∃ p, P k p) : ∃ ps : List α, ps.length = n ∧ ∀ k p, ps[k]? = some p → P k p := by
  induction n with
  | zero => exact ⟨[], rfl, fun k p hk => by simp at hk⟩
  | succ n ih =>
    obtain ⟨ps, hl, hp⟩ := ih (fun k hk => h k (by omega))
    obtain ⟨q, hq⟩ := h n (by omega)
    refine ⟨ps ++ [q], by simp [hl], fun k p hk => ?_⟩
    rw [List.getElem?_append] at hk
    split at hk
    · exact hp k p hk
    · rename_i hge
      have hkn : k - ps.length = 0 := by
        by_cases h0 : k - ps.length = 0
        · exact h0
        · rw [List.getElem?_eq_none (by simp; omega)] at hk
          cases hk
      rw [hkn] at hk
      obtain rfl : q = p := by simpa using hk
      obtain rfl : k = n := by omega
      exact hq
variable {H : Type} {enc : TypeId × Value → H} {W : World}
theorem is_part {n : Nat} {cs : List Value} {y : DataW H × List MemPlace} (hf : DataW.trod enc Try.prog W 0 (fun _ => true) true n 30 cs = some y) : ∃ (xs : List Int) (A : Option Addr) (C : Nat), cs = [.slice A xs.length C] ∧ (Fk.is xs).f (.slice A xs.length C) W ∧ ∀ z ∈ xs, (Lit.int .i64 z).wf = true := by
  rcases open_ints Try.under30z Try.under3 (by kernel_rfl) hf with ⟨hcs, _⟩ | ⟨x, l, c, zs, hcs, _, hl, hm, hz, _, hcell, hwz⟩
  · exact ⟨[], none, 0, hcs, ⟨none, 0, 0, 0, rfl, fun h => absurd h (by simp), rfl, fun j v hj => by simp [zv] at hj⟩, fun z hz => by cases hz⟩
  · have hlen : zs.length = c := by simpa using hz
    have hN : (zs.take l).length = l := by rw [List.length_take]; omega
    refine ⟨zs.take l, some x, c, by rw [hcs, hN], ?_, fun z hz => hwz z (List.mem_of_mem_take hz)⟩
    by_cases h0 : l = 0
    · subst h0
      exact ⟨some x, c, 0, 0, rfl, fun h => absurd h (by simp), rfl, fun j v hj => by simp [zv] at hj⟩
    · have hspot : x.spot = none := by
        have := hcell 0 (by omega)
        simp only [Addr.add, if_true] at this
        unfold World.cell? at this
        split at this
        · split at this
          · cases this
          · rename_i h; simpa using h
        · cases this
      have hx : x = ⟨x.block, x.off, none⟩ := by rw [← hspot]
      have hadd : ∀ i, x.add i = ⟨x.block, x.off + i, none⟩ := fun i => by
        unfold Addr.add
        split
        · rename_i h; subst h; rw [Nat.add_zero]; exact hx
        · rfl
      refine ⟨some x, c, x.block, x.off, rfl, fun _ => by rw [← hx], by rw [zv_len, Nat.mul_one], fun j u hj => ?_⟩
      unfold zv at hj
      rw [List.getElem?_map, List.getElem?_take] at hj
      split at hj
      · rename_i hjN
        have hjl : j < zs.length := by omega
        rw [List.getElem?_eq_getElem hjl] at hj
        obtain rfl := Option.some.inj hj
        rw [← hadd, hcell j hjl]
        simp [hjl]
      · simp at hj
theorem cut_next (l : List Value) (i n : Nat) : l.drop i = (l.drop i).take n ++ l.drop (i + n) := by
  conv => lhs; rw [← List.take_append_drop n (l.drop i)]
  rw [List.drop_drop]
theorem cut_last (l : List Value) (i n : Nat) (h : l.length = i + n) : l.drop i = (l.drop i).take n := (List.take_of_length_le (by rw [List.length_drop]; omega)).symm
theorem cells32 : Try.prog.cellsOf 32 = 5 := by kernel_rfl
theorem cellsI : Try.prog.cellsOf 30 = 1 := by kernel_rfl
theorem fld32 : fldS Try.prog 32 = some [(3, 0), (3, 1), (3, 2), (29, 3), (30, 4)] := by kernel_rfl
theorem under22 : Try.prog.underlying 22 = some (.slice 32) := by kernel_rfl
theorem op_part {n : Nat} {cs : List Value} {y : DataW H × List MemPlace} (h : DataW.trod enc Try.prog W 0 (fun _ => true) true n 32 cs = some y) : ∃ o : Opn, cs = o.cells ∧ o.ok W := by
  obtain ⟨hl, hp⟩ := parts_of fld32 h
  rw [cells32] at hl
  obtain ⟨_, _, p0⟩ := hp 0 3 0 rfl
  obtain ⟨_, _, p1⟩ := hp 1 3 1 rfl
  obtain ⟨_, _, p2⟩ := hp 2 3 2 rfl
  obtain ⟨_, _, p3⟩ := hp 3 29 3 rfl
  obtain ⟨_, _, p4⟩ := hp 4 30 4 rfl
  rw [cells3] at p0 p1 p2
  rw [cells29] at p3
  rw [cellsI] at p4
  obtain ⟨k, e0, _⟩ := int_part p0
  obtain ⟨s, e1, _⟩ := int_part p1
  obtain ⟨m, e2, _, hm9⟩ := int_part p2
  obtain ⟨vb, bs, e3, v3⟩ := sl_part p3
  obtain ⟨ls, A, C, e4, v4, w4⟩ := is_part p4
  obtain ⟨ab, nb, cb, _, _, rfl, _⟩ := id v3
  refine ⟨⟨k, s, m, bs, ls, ab, nb, cb, A, C⟩, ?_, v3, v4, hm9, w4⟩
  have hsp : cs = (cs.drop 0).take 1 ++ ((cs.drop 1).take 1 ++ ((cs.drop 2).take 1 ++ ((cs.drop 3).take 1 ++ (cs.drop 4).take 1))) := by
    generalize cs = l at hl ⊢
    rw [← cut_last l 4 1 hl, ← cut_next l 3 1, ← cut_next l 2 1, ← cut_next l 1 1, ← cut_next l 0 1]
    rfl
  rw [hsp, e0, e1, e2, e3, e4]
  rfl
theorem open_ops {r : Reach} {b0 : Nat} {v : Value} {d : DataW H} {p : List MemPlace} (hv : Value.okWide Try.prog W r b0 22 v) (h : DataW.Trod enc Try.prog W 0 (fun _ => true) true 22 v d p) : ∃ (l : List Opn) (A : Option Addr) (C : Nat), v = .slice A l.length C ∧ (Fk.ol l).f (.slice A l.length C) W ∧ l.length ≤ maxLen := by
  obtain ⟨A, N, C, rfl⟩ := okWide_slice under22 hv
  obtain ⟨fuel, hf⟩ := h
  rcases Deep.open_slice under22 hf with ⟨hcs, _⟩ | ⟨a, len, cap, m, n', D, Pl, hcs, _, hl, hm, hmm, _, hel⟩
  · have e : Value.slice A N C = .slice none 0 0 := by simpa [Value.cells] using hcs
    exact ⟨[], none, 0, e, ⟨none, 0, 0, 0, rfl, fun h => absurd h (by simp), fun i o hi => by simp at hi⟩, Nat.zero_le _⟩
  · have e : Value.slice A N C = .slice (some a) len cap := by simpa [Value.cells] using hcs
    have hmc : m = cap := by simpa using hmm
    subst hmc
    have hE : ∀ k, k < len → ∃ o : Opn, o.ok W ∧ ∀ (j : Nat) (u : Value), o.cells[j]? = some u → W.cell? ⟨a.block, a.off + k * 5 + j, none⟩ = some u := by
      intro k hk
      obtain ⟨c0, h0, _⟩ := hel 0 (by omega)
      obtain ⟨ck, hck, ht⟩ := hel k (by omega)
      rw [cells32] at h0 hck
      obtain ⟨o, rfl, hok⟩ := op_part ht
      refine ⟨o, hok, fun j u hj => ?_⟩
      have e0 : a.add (0 * 5) = a := by simp [Addr.add]
      rw [e0] at h0
      obtain ⟨_, hl0, g0⟩ := World.cells?_some h0
      obtain ⟨_, _, gk⟩ := World.cells?_some hck
      have hc0 : W.cell? a = some c0[0] := by
        have := g0 0 (by omega)
        rw [show a.add 0 = a by simp [Addr.add]] at this
        rw [this]
        exact List.getElem?_eq_getElem _
      have hj5 : j < 5 := (List.getElem?_eq_some_iff.1 hj).1
      have h9 := gk j hj5
      rw [add_plain hc0 (k * 5), Addr.add_mid, hj] at h9
      exact h9
    obtain ⟨l, hlen, hp⟩ := list_ofA len hE
    subst hlen
    refine ⟨l, some a, m, e, ⟨some a, m, a.block, a.off, rfl, fun h0 => ?_, hp⟩, by omega⟩
    obtain ⟨c0, h1, _⟩ := hel 0 (by omega)
    rw [cells32] at h1
    have e0 : a.add (0 * 5) = a := by simp [Addr.add]
    rw [e0] at h1
    obtain ⟨_, hl0, g0⟩ := World.cells?_some h1
    have hc0 : W.cell? a = some c0[0] := by
      have := g0 0 (by omega)
      rw [show a.add 0 = a by simp [Addr.add]] at this
      rw [this]
      exact List.getElem?_eq_getElem _
    have := add_plain hc0 0
    rw [show a.add 0 = a by simp [Addr.add], Nat.add_zero] at this
    rw [← this]
end Go.Proofs.Ytjdpomilifnlaaa
namespace Go.Proofs.Ytjdpomilifnlaaa
set_option maxRecDepth 100000
open Go.RowKit
theorem take_one {α : Type} {l : List α} {k : Nat} {x : α} (h : l[k]? = some x) : l.take (k + 1) = l.take k ++ [x] := by rw [List.take_add_one, h]; rfl
/-- A list of calls that the laws go through. -/
def smallO (l : List Opn) (n : Int) : Prop := (∀ o ∈ l, o.bs.length ≤ 200 ∧ o.ls.length ≤ 40) ∧ (l.length : Int) ≤ n
instance (l : List Opn) (n : Int) : Decidable (smallO l n) := by unfold smallO; infer_instance
theorem o_small {l : List Opn} {n : Int} (hs : smallO l n) {i : Nat} {o : Opn} (h : l[i]? = some o) : o.bs.length ≤ 200 ∧ o.ls.length ≤ 40 := hs.1 o (List.mem_of_getElem? h)
/-- Where a call lies. -/
def Fk.oq (o : Opn) : Fk := .inr (.inl ⟨fun v w => ∃ b i, v = .pointer (some ⟨b, i, none⟩) ∧ ∀ (j : Nat) (u : Value), o.cells[j]? = some u → w.cell? ⟨b, i + j, none⟩ = some u, by
  rintro v w w' ⟨b, i, e, h⟩ hb
  exact ⟨b, i, e, fun j u hj => by have := h j u hj; rw [hb.cell (block_lt_of_cell this)]; exact this⟩⟩)
theorem ol_ok {l : List Opn} {v : Value} {w : World} (h : (Fk.ol l).f v w) {i : Nat} {o : Opn} (hi : l[i]? = some o) : o.ok w := by
  obtain ⟨_, _, _, _, _, _, h2⟩ := h
  exact (h2 i o hi).1
section
variable {Q : Exit → Act → World → Prop} {o : Oper} {a : Act} {w : World}
theorem st_leno (x : Operand) (ho : o.op = .call { callee := .builtin .len, args := #[x], argTypes := #[22] }) {l : List Opn} (h : (Fk.ol l).f (a.eval x) w) : o.wp Try.prog a w (Ends a o.dst w (Fk.eq (.int .i64 (l.length : Int))).f) Q := by
  obtain ⟨A, C, lb, lo, e, _⟩ := h
  refine st_pure (v := .int .i64 (l.length : Int)) ?_ rfl
  have h1 := run_len_slice (P := Try.prog) (w := w) 22 o.type A l.length C (by rw [show Try.prog.elem 22 = 32 by kernel_rfl]; kernel_rfl)
  unfold execOp
  simp [ho, resolve, invoke, builtin, e, h1, goInt]
theorem st_idxo (x y : Operand) (ho : o.op = .indexAddr 22 x y) {l : List Opn} (h : (Fk.ol l).f (a.eval x) w) (i : Nat) (q : Opn) (hy : a.eval y = .int .i64 (i : Int)) (hq : l[i]? = some q) : o.wp Try.prog a w (Ends a o.dst w (Fk.oq q).f) Q := by
  obtain ⟨A, C, lb, lo, e, hp, h2⟩ := h
  have hi := (List.getElem?_eq_some_iff.1 hq).1
  obtain rfl := hp (by omega)
  refine st_pure (v := .pointer (some ⟨lb, lo + i * 5, none⟩)) ?_ ⟨lb, lo + i * 5, rfl, (h2 i q hq).2⟩
  have h1 := run_indexAt_slice (P := Try.prog) (w := w) 22 ⟨lb, lo, none⟩ l.length C .i64 (i : Int) (by rw [show Try.prog.elem 22 = 32 by kernel_rfl]; kernel_rfl)
  rw [if_pos (by omega), show Try.prog.elem 22 = 32 by kernel_rfl, show (sizeOf 32).run Try.prog w = .ok 5 w by kernel_rfl] at h1
  simp only [Result.andThen_ok, Int.toNat_natCast, Addr.add_mid] at h1
  unfold execOp
  rw [ho]
  simp [e, hy, h1]
theorem st_loado (x : Operand) (ho : o.op = .load 32 x) {q : Opn} (h : (Fk.oq q).f (a.eval x) w) : o.wp Try.prog a w (Ends a o.dst w (Fk.eq (.agg ([.int .i64 q.k, .int .i64 q.s, .int .i64 q.n, q.vb, q.vl] : List Value).toArray)).f) Q := by
  obtain ⟨b, i, e, h⟩ := h
  exact st_loadz 32 x ho b i [.int .i64 q.k, .int .i64 q.s, .int .i64 q.n, q.vb, q.vl] (by kernel_rfl) (by kernel_rfl) e (fun j v hj => h j v hj)
end
theorem fk_smallo {l : List Opn} (hln : l.length ≤ maxLen) {n : Int} {w : World} {v : Value} (hv : (Fk.ol l).f v w) {b : Bool} (hb : b = decide (smallO l n)) :
    Calls Try.prog 10 #[v, .int .i64 n] w fun e w' => ∃ u, e = .returned u ∧ (Fk.eq (.bool b)).f u w' ∧ Below w.heap.size w w' := by
  unfold maxLen at hln
  go_enter Try.func10, Try.ntmps10
  refine code_both (fun f w1 => f.tmps.size = 28 ∧ f.defers = [] ∧ f.eval (.tmp 0) = v ∧ f.eval (.tmp 1) = .int .i64 n ∧ Below w.heap.size w (w1)) ⟨rfl, rfl, rfl, rfl, Below.refl _ _⟩ ?_
  rintro f0 w0 ⟨sz, df, x0, x1, bl⟩
  have sd := And.intro sz df
  clear sz df
  have bl0 := bl
  refine wp_seq ?_
  refine wr_a [.eq (.bool false)] (by rw [sd.1]; kernel_rfl) ⟨fun hw ac u K => ?_, trivial⟩ ?_
  · exact st_assign (.const (.bool false)) rfl rfl
  intro f1 w1 A hb
  replace x0 := A.t x0 rfl
  replace x1 := A.t x1 rfl
  replace bl := bgo bl hb
  replace sd := A.sd sd
  clear A hb
  show Code.wp _ _ _ _ _
  refine wp_seq ?_
  refine wp_seq ?_
  refine wr_a [.eq (v), .eq (.int .i64 (((l).length : Nat) : Int)), .eq (.int .i64 0)] (by rw [sd.1]; kernel_rfl) ⟨fun hw ac u K => ?_, fun hw ac u K => ?_, fun hw ac u K => ?_, trivial⟩ ?_
  · exact st_move (.tmp 0) rfl (K.t x0 rfl)
  · exact st_leno (.tmp 7) rfl (fk_val (K.dep 0 7 rfl) (Fk.mono _ _ _ _ hv (bgo bl K.grow)))
  · exact st_move (.const (.int .i64 0)) rfl rfl
  intro f2 w2 A hb
  replace x0 := A.t x0 rfl
  replace x1 := A.t x1 rfl
  have x7 := A.e 0 7 rfl rfl
  have x8 := A.e 1 8 rfl rfl
  have x9 := A.e 2 9 rfl rfl
  replace bl := bgo bl hb
  replace sd := A.sd sd
  clear A hb
  show Code.wp _ _ _ _ _
  refine wp_block ?_
  refine wp_loop (fun f v1 => ∃ k : Nat, k ≤ l.length ∧ (∀ o ∈ l.take k, o.bs.length ≤ 200 ∧ o.ls.length ≤ 40) ∧ f.tmps.size = 28 ∧ f.defers = [] ∧ f.eval (.tmp 0) = v ∧ f.eval (.tmp 1) = .int .i64 n ∧ f.eval (.tmp 7) = v ∧ f.eval (.tmp 8) = .int .i64 (((l).length : Nat) : Int) ∧ f.eval (.tmp 9) = .int .i64 (k : Int) ∧ Below w.heap.size w (v1)) (fun f _ => l.length - (intOf (f.eval (.tmp 9))).toNat) ⟨0, Nat.zero_le _, (by simp), sd.1, sd.2, x0, x1, x7, x8, x9, bl⟩ ?_
  intro f3 w3 hI
  clear sd bl bl0 x0 x1 x7 x8 x9
  obtain ⟨k, hk8, hall, sz, df, x0, x1, x7, x8, x9, bl⟩ := hI
  have sd := And.intro sz df
  clear sz df
  have bl0 := bl
  have hcnt := x9
  refine wp_seq ?_
  by_cases hlt : k < l.length
  rotate_left
  · skip
    refine wr_a [.eq (.bool false)] (by rw [sd.1]; kernel_rfl) ⟨fun hw ac u K => ?_, trivial⟩ ?_
    · exact st_lss 3 (.tmp 9) (.tmp 8) rfl .i64 ((k : Int)) ((((l).length : Nat) : Int)) (K.t x9 rfl) (K.t x8 rfl) _ (by rw [eq_comm, decide_eq_false_iff_not]; exact fun h => hlt (Int.ofNat_lt.1 h))
    intro f4 w4 A hb
    replace x0 := A.t x0 rfl
    replace x1 := A.t x1 rfl
    replace x7 := A.t x7 rfl
    replace x8 := A.t x8 rfl
    replace x9 := A.t x9 rfl
    have x10 := A.e 0 10 rfl rfl
    replace bl := bgo bl hb
    replace sd := A.sd sd
    clear A hb
    show Code.wp _ _ _ _ _
    refine wp_seq ?_
    refine wp_cond_false x10 ?_
    refine wp_exit ?_
    show Code.wp _ _ _ _ _
    refine wp_seq ?_
    rw [List.take_of_length_le (by omega)] at hall
    by_cases h40 : (l.length : Int) ≤ n
    rotate_left
    · skip
      have hbf : false = b := by rw [hb]; symm; rw [decide_eq_false_iff_not]; exact fun h => h40 h.2
      refine wr_a [.eq (v), .eq (.int .i64 (((l).length : Nat) : Int)), .eq (.int .i64 n), .eq (.bool false), .eq (.bool false)] (by rw [sd.1]; kernel_rfl) ⟨fun hw ac u K => ?_, fun hw ac u K => ?_, fun hw ac u K => ?_, fun hw ac u K => ?_, fun hw ac u K => ?_, trivial⟩ ?_
      · exact st_move (.tmp 0) rfl (K.t x0 rfl)
      · exact st_leno (.tmp 24) rfl (fk_val (K.dep 0 24 rfl) (Fk.mono _ _ _ _ hv (bgo bl K.grow)))
      · exact st_move (.tmp 1) rfl (K.t x1 rfl)
      · exact st_leq 3 (.tmp 25) (.tmp 26) rfl .i64 ((((l).length : Nat) : Int)) (n) (K.dep 1 25 rfl) (K.dep 2 26 rfl) _ (by rw [eq_comm, decide_eq_false_iff_not]; exact h40)
      · exact st_assign (.tmp 27) rfl (K.dep 3 27 rfl)
      intro f5 w5 A hb
      replace x0 := A.t x0 rfl
      replace x1 := A.t x1 rfl
      replace x7 := A.t x7 rfl
      replace x8 := A.t x8 rfl
      replace x9 := A.t x9 rfl
      replace x10 := A.t x10 rfl
      have x4 := A.e 4 4 rfl rfl
      replace bl := bgo bl hb
      replace sd := A.sd sd
      clear A hb
      clear x10
      show Code.wp _ _ _ _ _
      refine wp_ret ?_
      repeat (first | with_reducible refine then_ret ?_ | with_reducible refine block_ret ?_)
      exact bodyPost_ret (v := .bool false) (ret_slot rfl f5 _ x4 _ _) sd.2 ⟨_, rfl, by rw [← hbf]; rfl, bl⟩
    have hbf : true = b := by rw [hb]; symm; rw [decide_eq_true_iff]; exact ⟨hall, h40⟩
    refine wr_a [.eq (v), .eq (.int .i64 (((l).length : Nat) : Int)), .eq (.int .i64 n), .eq (.bool true), .eq (.bool true)] (by rw [sd.1]; kernel_rfl) ⟨fun hw ac u K => ?_, fun hw ac u K => ?_, fun hw ac u K => ?_, fun hw ac u K => ?_, fun hw ac u K => ?_, trivial⟩ ?_
    · exact st_move (.tmp 0) rfl (K.t x0 rfl)
    · exact st_leno (.tmp 24) rfl (fk_val (K.dep 0 24 rfl) (Fk.mono _ _ _ _ hv (bgo bl K.grow)))
    · exact st_move (.tmp 1) rfl (K.t x1 rfl)
    · exact st_leq 3 (.tmp 25) (.tmp 26) rfl .i64 ((((l).length : Nat) : Int)) (n) (K.dep 1 25 rfl) (K.dep 2 26 rfl) _ (by rw [eq_comm, decide_eq_true_iff]; exact h40)
    · exact st_assign (.tmp 27) rfl (K.dep 3 27 rfl)
    intro f5 w5 A hb
    replace x0 := A.t x0 rfl
    replace x1 := A.t x1 rfl
    replace x7 := A.t x7 rfl
    replace x8 := A.t x8 rfl
    replace x9 := A.t x9 rfl
    replace x10 := A.t x10 rfl
    have x4 := A.e 4 4 rfl rfl
    replace bl := bgo bl hb
    replace sd := A.sd sd
    clear A hb
    clear x10
    show Code.wp _ _ _ _ _
    refine wp_ret ?_
    repeat (first | with_reducible refine then_ret ?_ | with_reducible refine block_ret ?_)
    exact bodyPost_ret (v := .bool true) (ret_slot rfl f5 _ x4 _ _) sd.2 ⟨_, rfl, by rw [← hbf]; rfl, bl⟩
  obtain ⟨oo, hook⟩ : ∃ p, l[k]? = some p := ⟨_, List.getElem?_eq_getElem hlt⟩
  have hboo : (Fk.sl oo.bs).f oo.vb w := (ol_ok hv hook).b
  have hloo : (Fk.is oo.ls).f oo.vl w := (ol_ok hv hook).l
  refine wr_a [.eq (.bool true)] (by rw [sd.1]; kernel_rfl) ⟨fun hw ac u K => ?_, trivial⟩ ?_
  · exact st_lss 3 (.tmp 9) (.tmp 8) rfl .i64 ((k : Int)) ((((l).length : Nat) : Int)) (K.t x9 rfl) (K.t x8 rfl) _ (by rw [eq_comm, decide_eq_true_iff]; exact Int.ofNat_lt.2 hlt)
  intro f4 w4 A hb
  replace x0 := A.t x0 rfl
  replace x1 := A.t x1 rfl
  replace x7 := A.t x7 rfl
  replace x8 := A.t x8 rfl
  replace x9 := A.t x9 rfl
  have x10 := A.e 0 10 rfl rfl
  replace bl := bgo bl hb
  replace sd := A.sd sd
  clear A hb
  show Code.wp _ _ _ _ _
  refine wp_seq ?_
  refine wp_cond_true x10 ?_
  refine wp_skip ?_
  show Code.wp _ _ _ _ _
  refine wp_seq ?_
  refine wp_block ?_
  refine wp_seq ?_
  refine wr_s [.oq oo, .eq (.agg ([.int .i64 oo.k, .int .i64 oo.s, .int .i64 oo.n, oo.vb, oo.vl] : List Value).toArray), .nw w4.heap.size 32 [.int .i64 0, .int .i64 0, .int .i64 0, .slice none 0 0, .slice none 0 0]] (by rw [sd.1]; kernel_rfl) ⟨fun hw ac u K => ?_, fun hw ac u K => ?_, fun hw ac u K => ?_, trivial⟩ ?_
  · exact st_idxo (.tmp 7) (.tmp 9) rfl (fk_val (K.t x7 rfl) (Fk.mono _ _ _ _ hv (bgo bl K.grow))) k oo (K.t x9 rfl) hook
  · exact st_loado (.tmp 11) rfl (K.dep 0 11 rfl)
  · exact st_alloc 32 rfl _ _ (by kernel_rfl) K.grow.size
  intro f5 w5 A hb
  replace bl0 := bl
  replace x0 := A.t x0 rfl
  replace x1 := A.t x1 rfl
  replace x7 := A.t x7 rfl
  replace x8 := A.t x8 rfl
  replace x9 := A.t x9 rfl
  replace x10 := A.t x10 rfl
  have x6 : Fk.f (.nw w4.heap.size 32 [.int .i64 0, .int .i64 0, .int .i64 0, .slice none 0 0, .slice none 0 0]) (f5.eval (.tmp 6)) w5 := A.has 2 6 rfl
  have x12 := A.e 1 12 rfl rfl
  replace bl := bgo bl hb
  replace sd := A.sd sd
  clear A hb
  clear x10
  obtain ⟨g6, hg6, e6, m6⟩ := x6
  have x6 := e6
  clear e6
  have hw6 : w.heap.size ≤ g6 := Nat.le_trans bl0.size hg6
  refine wl_str rfl 32 (.tmp 6) (.tmp 12) rfl rfl (g6) ([.int .i64 oo.k, .int .i64 oo.s, .int .i64 oo.n, oo.vb, oo.vl] : List Value).toArray x6 x12 32 _ m6 (by kernel_rfl) (by kernel_rfl) (by kernel_rfl) ?_
  replace m6 : Ob (w5.setRow g6 ([.int .i64 oo.k, .int .i64 oo.s, .int .i64 oo.n, oo.vb, oo.vl] : List Value).toArray) (g6) 32 ([.int .i64 oo.k, .int .i64 oo.s, .int .i64 oo.n, oo.vb, oo.vl]) := Ob.setRow m6 ([.int .i64 oo.k, .int .i64 oo.s, .int .i64 oo.n, oo.vb, oo.vl])
  replace bl : Below w.heap.size w (w5.setRow g6 ([.int .i64 oo.k, .int .i64 oo.s, .int .i64 oo.n, oo.vb, oo.vl] : List Value).toArray) := bl.trans (below_setRow _ _ _ _ hw6)
  generalize w5.setRow g6 ([.int .i64 oo.k, .int .i64 oo.s, .int .i64 oo.n, oo.vb, oo.vl] : List Value).toArray = w6b at bl m6 ⊢
  refine wpList_nil ?_
  clear x12
  show Code.wp _ _ _ _ _
  refine wp_seq ?_
  have h3 : 200 < oo.bs.length ∨ (oo.bs.length ≤ 200 ∧ 40 < oo.ls.length) ∨ (oo.bs.length ≤ 200 ∧ oo.ls.length ≤ 40) := by omega
  rcases h3 with h3 | h3 | h3
  · skip
    have hbf : false = b := by rw [hb]; symm; rw [decide_eq_false_iff_not]; exact fun h => by have := o_small h hook; omega
    refine wr_a [.eq (.pointer (some ⟨g6, 3, none⟩)), .eq (oo.vb), .eq (.int .i64 (((oo.bs).length : Nat) : Int)), .eq (.bool true), .eq (.bool true), .any, .any, .any, .any, .eq (.bool true)] (by rw [sd.1]; kernel_rfl) ⟨fun hw ac u K => ?_, fun hw ac u K => ?_, fun hw ac u K => ?_, fun hw ac u K => ?_, fun hw ac u K => ?_, fun hw ac u K => ?_, fun hw ac u K => ?_, fun hw ac u K => ?_, fun hw ac u K => ?_, fun hw ac u K => ?_, trivial⟩ ?_
    · exact st_field 32 3 (.tmp 6) rfl (K.t x6 rfl) (by kernel_rfl)
    · exact st_loadc 29 (.tmp 13) rfl (by kernel_rfl) (K.dep 0 13 rfl) (Ob.cell (Ob.below m6 K.grow) 3 rfl)
    · exact st_lenb (.tmp 14) rfl (fk_val (K.dep 1 14 rfl) (Fk.mono _ _ _ _ hboo (bgo bl K.grow)))
    · exact st_gtr 3 (.tmp 15) (.const (.int .i64 200)) rfl .i64 ((((oo.bs).length : Nat) : Int)) (200) (K.dep 2 15 rfl) rfl _ (by rw [eq_comm, decide_eq_true_iff]; omega)
    · exact st_move (.tmp 16) rfl (K.dep 3 16 rfl)
    · exact (Bool.false_ne_true hw).elim
    · exact (Bool.false_ne_true hw).elim
    · exact (Bool.false_ne_true hw).elim
    · exact (Bool.false_ne_true hw).elim
    · exact st_pick_t (.tmp 17) (.const (.bool true)) (.tmp 21) rfl (K.dep 4 17 rfl) rfl
    intro f7 w7 A hb
    replace x0 := A.t x0 rfl
    replace x1 := A.t x1 rfl
    replace x7 := A.t x7 rfl
    replace x8 := A.t x8 rfl
    replace x9 := A.t x9 rfl
    replace x6 := A.t x6 rfl
    have x22 := A.e 9 22 rfl rfl
    replace m6 := Ob.below m6 hb
    replace bl := bgo bl hb
    replace sd := A.sd sd
    clear A hb
    clear x6
    clear m6
    show Code.wp _ _ _ _ _
    refine wp_cond_true x22 ?_
    refine wp_seq ?_
    refine wr_a [.eq (.bool false)] (by rw [sd.1]; kernel_rfl) ⟨fun hw ac u K => ?_, trivial⟩ ?_
    · exact st_assign (.const (.bool false)) rfl rfl
    intro f8 w8 A hb
    replace x0 := A.t x0 rfl
    replace x1 := A.t x1 rfl
    replace x7 := A.t x7 rfl
    replace x8 := A.t x8 rfl
    replace x9 := A.t x9 rfl
    replace x22 := A.t x22 rfl
    have x4 := A.e 0 4 rfl rfl
    replace bl := bgo bl hb
    replace sd := A.sd sd
    clear A hb
    clear x22
    show Code.wp _ _ _ _ _
    refine wp_ret ?_
    repeat (first | with_reducible refine then_ret ?_ | with_reducible refine block_ret ?_)
    exact bodyPost_ret (v := .bool false) (ret_slot rfl f8 _ x4 _ _) sd.2 ⟨_, rfl, by rw [← hbf]; rfl, bl⟩
  · skip
    have hbf : false = b := by rw [hb]; symm; rw [decide_eq_false_iff_not]; exact fun h => by have := o_small h hook; omega
    refine wr_a [.eq (.pointer (some ⟨g6, 3, none⟩)), .eq (oo.vb), .eq (.int .i64 (((oo.bs).length : Nat) : Int)), .eq (.bool false), .eq (.bool false), .eq (.pointer (some ⟨g6, 4, none⟩)), .eq (oo.vl), .eq (.int .i64 (((oo.ls).length : Nat) : Int)), .eq (.bool true), .eq (.bool true)] (by rw [sd.1]; kernel_rfl) ⟨fun hw ac u K => ?_, fun hw ac u K => ?_, fun hw ac u K => ?_, fun hw ac u K => ?_, fun hw ac u K => ?_, fun hw ac u K => ?_, fun hw ac u K => ?_, fun hw ac u K => ?_, fun hw ac u K => ?_, fun hw ac u K => ?_, trivial⟩ ?_
    · exact st_field 32 3 (.tmp 6) rfl (K.t x6 rfl) (by kernel_rfl)
    · exact st_loadc 29 (.tmp 13) rfl (by kernel_rfl) (K.dep 0 13 rfl) (Ob.cell (Ob.below m6 K.grow) 3 rfl)
    · exact st_lenb (.tmp 14) rfl (fk_val (K.dep 1 14 rfl) (Fk.mono _ _ _ _ hboo (bgo bl K.grow)))
    · exact st_gtr 3 (.tmp 15) (.const (.int .i64 200)) rfl .i64 ((((oo.bs).length : Nat) : Int)) (200) (K.dep 2 15 rfl) rfl _ (by rw [eq_comm, decide_eq_false_iff_not]; omega)
    · exact st_move (.tmp 16) rfl (K.dep 3 16 rfl)
    · exact st_field 32 4 (.tmp 6) rfl (K.t x6 rfl) (by kernel_rfl)
    · exact st_loadc 30 (.tmp 18) rfl (by kernel_rfl) (K.dep 5 18 rfl) (Ob.cell (Ob.below m6 K.grow) 4 rfl)
    · exact st_lenis (.tmp 19) rfl (fk_val (K.dep 6 19 rfl) (Fk.mono _ _ _ _ hloo (bgo bl K.grow)))
    · exact st_gtr 3 (.tmp 20) (.const (.int .i64 40)) rfl .i64 ((((oo.ls).length : Nat) : Int)) (40) (K.dep 7 20 rfl) rfl _ (by rw [eq_comm, decide_eq_true_iff]; omega)
    · exact st_pick_f' (.tmp 17) (.const (.bool true)) (.tmp 21) rfl (K.dep 4 17 rfl) (K.dep 8 21 rfl)
    intro f7 w7 A hb
    replace x0 := A.t x0 rfl
    replace x1 := A.t x1 rfl
    replace x7 := A.t x7 rfl
    replace x8 := A.t x8 rfl
    replace x9 := A.t x9 rfl
    replace x6 := A.t x6 rfl
    have x22 := A.e 9 22 rfl rfl
    replace m6 := Ob.below m6 hb
    replace bl := bgo bl hb
    replace sd := A.sd sd
    clear A hb
    clear x6
    clear m6
    show Code.wp _ _ _ _ _
    refine wp_cond_true x22 ?_
    refine wp_seq ?_
    refine wr_a [.eq (.bool false)] (by rw [sd.1]; kernel_rfl) ⟨fun hw ac u K => ?_, trivial⟩ ?_
    · exact st_assign (.const (.bool false)) rfl rfl
    intro f8 w8 A hb
    replace x0 := A.t x0 rfl
    replace x1 := A.t x1 rfl
    replace x7 := A.t x7 rfl
    replace x8 := A.t x8 rfl
    replace x9 := A.t x9 rfl
    replace x22 := A.t x22 rfl
    have x4 := A.e 0 4 rfl rfl
    replace bl := bgo bl hb
    replace sd := A.sd sd
    clear A hb
    clear x22
    show Code.wp _ _ _ _ _
    refine wp_ret ?_
    repeat (first | with_reducible refine then_ret ?_ | with_reducible refine block_ret ?_)
    exact bodyPost_ret (v := .bool false) (ret_slot rfl f8 _ x4 _ _) sd.2 ⟨_, rfl, by rw [← hbf]; rfl, bl⟩
  refine wr_a [.eq (.pointer (some ⟨g6, 3, none⟩)), .eq (oo.vb), .eq (.int .i64 (((oo.bs).length : Nat) : Int)), .eq (.bool false), .eq (.bool false), .eq (.pointer (some ⟨g6, 4, none⟩)), .eq (oo.vl), .eq (.int .i64 (((oo.ls).length : Nat) : Int)), .eq (.bool false), .eq (.bool false)] (by rw [sd.1]; kernel_rfl) ⟨fun hw ac u K => ?_, fun hw ac u K => ?_, fun hw ac u K => ?_, fun hw ac u K => ?_, fun hw ac u K => ?_, fun hw ac u K => ?_, fun hw ac u K => ?_, fun hw ac u K => ?_, fun hw ac u K => ?_, fun hw ac u K => ?_, trivial⟩ ?_
  · exact st_field 32 3 (.tmp 6) rfl (K.t x6 rfl) (by kernel_rfl)
  · exact st_loadc 29 (.tmp 13) rfl (by kernel_rfl) (K.dep 0 13 rfl) (Ob.cell (Ob.below m6 K.grow) 3 rfl)
  · exact st_lenb (.tmp 14) rfl (fk_val (K.dep 1 14 rfl) (Fk.mono _ _ _ _ hboo (bgo bl K.grow)))
  · exact st_gtr 3 (.tmp 15) (.const (.int .i64 200)) rfl .i64 ((((oo.bs).length : Nat) : Int)) (200) (K.dep 2 15 rfl) rfl _ (by rw [eq_comm, decide_eq_false_iff_not]; omega)
  · exact st_move (.tmp 16) rfl (K.dep 3 16 rfl)
  · exact st_field 32 4 (.tmp 6) rfl (K.t x6 rfl) (by kernel_rfl)
  · exact st_loadc 30 (.tmp 18) rfl (by kernel_rfl) (K.dep 5 18 rfl) (Ob.cell (Ob.below m6 K.grow) 4 rfl)
  · exact st_lenis (.tmp 19) rfl (fk_val (K.dep 6 19 rfl) (Fk.mono _ _ _ _ hloo (bgo bl K.grow)))
  · exact st_gtr 3 (.tmp 20) (.const (.int .i64 40)) rfl .i64 ((((oo.ls).length : Nat) : Int)) (40) (K.dep 7 20 rfl) rfl _ (by rw [eq_comm, decide_eq_false_iff_not]; omega)
  · exact st_pick_f' (.tmp 17) (.const (.bool true)) (.tmp 21) rfl (K.dep 4 17 rfl) (K.dep 8 21 rfl)
  intro f7 w7 A hb
  replace x0 := A.t x0 rfl
  replace x1 := A.t x1 rfl
  replace x7 := A.t x7 rfl
  replace x8 := A.t x8 rfl
  replace x9 := A.t x9 rfl
  replace x6 := A.t x6 rfl
  have x22 := A.e 9 22 rfl rfl
  replace m6 := Ob.below m6 hb
  replace bl := bgo bl hb
  replace sd := A.sd sd
  clear A hb
  clear x6
  clear m6
  show Code.wp _ _ _ _ _
  refine wp_cond_false x22 ?_
  refine wp_skip ?_
  show Code.wp _ _ _ _ _
  refine wr_s [.eq (.int .i64 ((k + 1 : Nat) : Int))] (by rw [sd.1]; kernel_rfl) ⟨fun hw ac u K => ?_, trivial⟩ ?_
  · exact st_addz (.tmp 9) (.const (.int .i64 1)) rfl _ _ _ (K.t x9 rfl) rfl (by omega) (by omega) (by omega)
  intro f8 w8 A hb
  replace x0 := A.t x0 rfl
  replace x1 := A.t x1 rfl
  replace x7 := A.t x7 rfl
  replace x8 := A.t x8 rfl
  replace x9 := A.t x9 rfl
  replace x22 := A.t x22 rfl
  have x23 := A.e 0 23 rfl rfl
  replace bl := bgo bl hb
  replace sd := A.sd sd
  clear A hb
  clear x22
  refine wl_one (.eq (.int .i64 ((k + 1 : Nat) : Int))) rfl 9 rfl (by rw [sd.1]; decide) (st_move (.tmp 23) rfl x23) ?_
  intro f9 w9 df2 sz2 old2 new2 hb
  replace x0 := tr old2 x0 rfl
  replace x1 := tr old2 x1 rfl
  replace x7 := tr old2 x7 rfl
  replace x8 := tr old2 x8 rfl
  clear x9
  replace x23 := tr old2 x23 rfl
  have x9 := Fk.e new2
  replace bl := bgo bl hb
  replace sd := sd2 sz2 df2 sd
  clear df2 sz2 old2 new2 hb
  refine wpList_nil ?_
  clear x23
  show (∃ _, _) ∧ _
  refine ⟨⟨k + 1, by omega, (by rw [take_one hook]; intro q hq; rcases List.mem_append.1 hq with hq | hq; exact hall q hq; obtain rfl := List.mem_singleton.1 hq; exact ⟨by omega, by omega⟩), sd.1, sd.2, x0, x1, x7, x8, x9, bl⟩, ?_⟩
  rw [show f9.eval (.tmp 9) = _ from x9, show _ = _ from hcnt]
  first | (simp [intOf]; done) | (simp [intOf]; omega)
end Go.Proofs.Ytjdpomilifnlaaa
namespace Go.Proofs.Ytjdpomilifnlaaa
set_option maxRecDepth 100000
open Go.RowKit
/-- Bytes, the first ones written anew. -/
def fr8 (c : BitVec 8) (k : Nat) : List (BitVec 8) := List.replicate k c ++ List.replicate (16 - k) 0
theorem fr8_len (c : BitVec 8) {k : Nat} (h : k ≤ 16) : (fr8 c k).length = 16 := by
  unfold fr8
  rw [List.length_append, List.length_replicate, List.length_replicate]
  omega
theorem fr8_zero (c : BitVec 8) : fr8 c 0 = zs 16 := rfl
theorem fr8_all (c : BitVec 8) : fr8 c 16 = List.replicate 16 c := by unfold fr8; simp
theorem fr8_set (c : BitVec 8) {k : Nat} (h : k < 16) : (fr8 c k).set k c = fr8 c (k + 1) := by
  unfold fr8
  rw [List.set_append_right _ _ (by simp), List.length_replicate, Nat.sub_self]
  obtain ⟨m, hm⟩ : ∃ m, 16 - k = m + 1 := ⟨15 - k, by omega⟩
  rw [hm, show 16 - (k + 1) = m by omega, List.replicate_succ, List.set_cons_zero, List.replicate_succ', List.append_assoc]
  rfl
theorem map_setV (xs : List (BitVec 8)) (k : Nat) (c : BitVec 8) : (xs.map V).set k (V c) = (xs.set k c).map V := by rw [List.map_set]
section
variable {Q : Exit → Act → World → Prop} {o : Oper} {a : Act} {w : World} {ops : Array Oper} {rest : List Oper}
theorem st_idxB (x y : Operand) (ho : o.op = .indexAddr 29 x y) {g n C : Nat} (hx : a.eval x = .slice (some ⟨g, 0, none⟩) n C) (i : Nat) (hy : a.eval y = .int .i64 (i : Int)) (hi : i < n) : o.wp Try.prog a w (Ends a o.dst w (Fk.eq (.pointer (some ⟨g, i, none⟩))).f) Q := by
  refine st_pure (v := .pointer (some ⟨g, i, none⟩)) ?_ rfl
  have h1 := run_indexAt_slice (P := Try.prog) (w := w) 29 ⟨g, 0, none⟩ n C .i64 (i : Int) (by rw [show Try.prog.elem 29 = 5 by kernel_rfl]; kernel_rfl)
  rw [if_pos (by omega), show Try.prog.elem 29 = 5 by kernel_rfl, show (sizeOf 5).run Try.prog w = .ok 1 w by kernel_rfl] at h1
  simp only [Result.andThen_ok, Int.toNat_natCast, Addr.add_mid, Nat.mul_one, Nat.zero_add] at h1
  unfold execOp
  rw [ho]
  simp [hx, hy, h1]
theorem st_lenB (x : Operand) (ho : o.op = .call { callee := .builtin .len, args := #[x], argTypes := #[29] }) {p : Option Addr} {n C : Nat} (hx : a.eval x = .slice p n C) : o.wp Try.prog a w (Ends a o.dst w (Fk.eq (.int .i64 (n : Int))).f) Q := by
  refine st_pure (v := .int .i64 (n : Int)) ?_ rfl
  have h1 := run_len_slice (P := Try.prog) (w := w) 29 o.type p n C (by rw [show Try.prog.elem 29 = 5 by kernel_rfl]; kernel_rfl)
  unfold execOp
  simp [ho, resolve, invoke, builtin, hx, h1, goInt]
theorem wl_makeB (hgd : o.guard = none) (x y : Operand) (ho : o.op = .makeSlice 29 x y) (d : Nat) (hd : o.dst = some d) (hsz : d < a.tmps.size) (n : Nat) (hn : n ≤ 100000) (hx : a.eval x = .int .i64 (n : Int)) (hy : a.eval y = .int .i64 (n : Int))
    (h : ∀ a2 w2 g, a2.defers = a.defers → a2.tmps.size = a.tmps.size → (∀ t, (t == d) = false → a2.eval (.tmp t) = a.eval (.tmp t)) → a2.eval (.tmp d) = .slice (some ⟨g, 0, none⟩) n n → w.heap.size ≤ g → Ob w2 g 5 ((zs n).map V) → Below w.heap.size w w2 → wpList Try.prog ops Q rest a2 w2) : wpList Try.prog ops Q (o :: rest) a w := by
  have hr : (Instr.makeSlice 29 (.int .i64 (n : Int)) (.int .i64 (n : Int))).run Try.prog w = .ok (.slice (some ⟨w.heap.size, 0, none⟩) n n) (w.alloc (.cells ((zs n).map V).toArray 5)) := by
    obtain ⟨i0, hi, hz0, hz1, hz2⟩ := info_parts Try.info5
    have := run_make (P := Try.prog) w 29 5 i0 (.int .u8 0) Try.under29 hi hz0 .i64 .i64 (n : Int) (n : Int) (by omega) (by omega) (by rw [hz2]; omega) (by omega)
    rw [hz1, Int.toNat_natCast, Nat.mul_one, made_eq] at this
    exact this
  unfold wpList
  rw [if_pos (by unfold Region.wanted; rw [hgd])]
  refine .inl ?_
  unfold Oper.wp execOp
  simp only [ho, Sem.run_bind, Sem.run_pure, Result.andThen_ok, hx, hy, hr]
  refine h _ _ w.heap.size (put_def _ _ _) (put_size _ _ _) (fun t ht => ?_) ?_ (Nat.le_refl _) (heap_alloc_new _ _) ((Below.refl _ _).alloc (Nat.le_refl _) _)
  · rw [hd]
    exact put_eval_other _ _ _ _ (fun e => by subst e; simp at ht)
  · rw [hd, put_eval_same _ _ _ hsz]
end
theorem fk_full (c : BitVec 8) (w : World) :
    Calls Try.prog 29 #[V c] w fun e w' => ∃ g, e = .returned (.slice (some ⟨g, 0, none⟩) 16 16) ∧ w.heap.size ≤ g ∧ Ob w' g 5 ((List.replicate 16 c).map V) ∧ Below w.heap.size w w' := by
  go_enter Try.func29, Try.ntmps29
  refine code_both (fun f w1 => f.tmps.size = 17 ∧ f.defers = [] ∧ f.eval (.tmp 0) = V c ∧ Below w.heap.size w (w1)) ⟨rfl, rfl, rfl, Below.refl _ _⟩ ?_
  rintro f0 w0 ⟨sz, df, x0, bl⟩
  have sd := And.intro sz df
  clear sz df
  have bl0 := bl
  refine wp_seq ?_
  refine wr_a [.eq (.slice none 0 0)] (by rw [sd.1]; kernel_rfl) ⟨fun hw ac u K => ?_, trivial⟩ ?_
  · exact st_assign (.const (.slice none 0 0)) rfl rfl
  intro f1 w1 A hb
  replace x0 := A.t x0 rfl
  replace bl := bgo bl hb
  replace sd := A.sd sd
  clear A hb
  show Code.wp _ _ _ _ _
  refine wp_seq ?_
  refine wr_s [] (by rw [sd.1]; kernel_rfl) trivial ?_
  intro f2 w2 A hb
  replace x0 := A.t x0 rfl
  replace bl := bgo bl hb
  replace sd := A.sd sd
  clear A hb
  refine wl_makeB rfl _ _ rfl 5 rfl (by rw [sd.1]; decide) 16 (by omega) rfl rfl ?_
  intro f3 w3 g df2 sz2 old2 x5 hgg mg hb
  replace x0 := tr old2 x0 rfl
  have hwg : w.heap.size ≤ g := Nat.le_trans bl.size hgg
  replace bl := bgo bl hb
  replace bl0 := bl
  replace sd := sd2 sz2 df2 sd
  clear df2 sz2 old2 hb
  refine wl_one (.eq (.slice (some ⟨g, 0, none⟩) 16 16)) rfl 3 rfl (by rw [sd.1]; decide) (st_assign (.tmp 5) rfl x5) ?_
  intro f4 w4 df2 sz2 old2 new2 hb
  replace x0 := tr old2 x0 rfl
  replace x5 := tr old2 x5 rfl
  have x3 := Fk.e new2
  replace mg := Ob.below mg hb
  replace bl := bgo bl hb
  replace sd := sd2 sz2 df2 sd
  clear df2 sz2 old2 new2 hb
  refine wpList_nil ?_
  clear x5
  show Code.wp _ _ _ _ _
  refine wp_seq ?_
  refine wp_seq ?_
  refine wr_a [.eq (.slice (some ⟨g, 0, none⟩) 16 16), .eq (.int .i64 ((16 : Nat) : Int)), .eq (.int .i64 0)] (by rw [sd.1]; kernel_rfl) ⟨fun hw ac u K => ?_, fun hw ac u K => ?_, fun hw ac u K => ?_, trivial⟩ ?_
  · exact st_move (.tmp 3) rfl (K.t x3 rfl)
  · exact st_lenB (.tmp 6) rfl (K.dep 0 6 rfl)
  · exact st_move (.const (.int .i64 0)) rfl rfl
  intro f5 w5 A hb
  replace x0 := A.t x0 rfl
  replace x3 := A.t x3 rfl
  have x7 := A.e 1 7 rfl rfl
  have x8 := A.e 2 8 rfl rfl
  replace mg := Ob.below mg hb
  replace bl := bgo bl hb
  replace sd := A.sd sd
  clear A hb
  show Code.wp _ _ _ _ _
  refine wp_block ?_
  refine wp_loop (fun f v1 => ∃ k : Nat, k ≤ 16 ∧ f.tmps.size = 17 ∧ f.defers = [] ∧ f.eval (.tmp 0) = V c ∧ f.eval (.tmp 3) = .slice (some ⟨g, 0, none⟩) 16 16 ∧ f.eval (.tmp 7) = .int .i64 ((16 : Nat) : Int) ∧ f.eval (.tmp 8) = .int .i64 (k : Int) ∧ Ob v1 g 5 ((fr8 c k).map V) ∧ Below w.heap.size w (v1)) (fun f _ => 16 - (intOf (f.eval (.tmp 8))).toNat) ⟨0, Nat.zero_le _, sd.1, sd.2, x0, x3, x7, x8, (by rw [fr8_zero]; exact mg), bl⟩ ?_
  intro f6 w6 hI
  clear sd bl bl0 x0 x3 x7 x8 mg
  obtain ⟨k, hk8, sz, df, x0, x3, x7, x8, mg, bl⟩ := hI
  have sd := And.intro sz df
  clear sz df
  have bl0 := bl
  have hcnt := x8
  refine wp_seq ?_
  by_cases hlt : k < 16
  rotate_left
  · skip
    refine wr_a [.eq (.bool false)] (by rw [sd.1]; kernel_rfl) ⟨fun hw ac u K => ?_, trivial⟩ ?_
    · exact st_lss 3 (.tmp 8) (.tmp 7) rfl .i64 ((k : Int)) (((16 : Nat) : Int)) (K.t x8 rfl) (K.t x7 rfl) _ (by rw [eq_comm, decide_eq_false_iff_not]; omega)
    intro f7 w7 A hb
    replace x0 := A.t x0 rfl
    replace x3 := A.t x3 rfl
    replace x7 := A.t x7 rfl
    replace x8 := A.t x8 rfl
    have x9 := A.e 0 9 rfl rfl
    replace mg := Ob.below mg hb
    replace bl := bgo bl hb
    replace sd := A.sd sd
    clear A hb
    show Code.wp _ _ _ _ _
    refine wp_seq ?_
    refine wp_cond_false x9 ?_
    refine wp_exit ?_
    show Code.wp _ _ _ _ _
    refine wp_seq ?_
    refine wr_a [.eq (.slice (some ⟨g, 0, none⟩) 16 16), .eq (.slice (some ⟨g, 0, none⟩) 16 16)] (by rw [sd.1]; kernel_rfl) ⟨fun hw ac u K => ?_, fun hw ac u K => ?_, trivial⟩ ?_
    · exact st_move (.tmp 3) rfl (K.t x3 rfl)
    · exact st_assign (.tmp 16) rfl (K.dep 0 16 rfl)
    intro f8 w8 A hb
    replace x0 := A.t x0 rfl
    replace x3 := A.t x3 rfl
    replace x7 := A.t x7 rfl
    replace x8 := A.t x8 rfl
    replace x9 := A.t x9 rfl
    have x2 := A.e 1 2 rfl rfl
    replace mg := Ob.below mg hb
    replace bl := bgo bl hb
    replace sd := A.sd sd
    clear A hb
    clear x9
    show Code.wp _ _ _ _ _
    refine wp_ret ?_
    repeat (first | with_reducible refine then_ret ?_ | with_reducible refine block_ret ?_)
    obtain rfl : k = 16 := by omega
    rw [fr8_all] at mg
    exact bodyPost_ret (v := .slice (some ⟨g, 0, none⟩) 16 16) (ret_slot rfl f8 _ x2 _ _) sd.2 ⟨g, rfl, hwg, mg, bl⟩
  refine wr_a [.eq (.bool true)] (by rw [sd.1]; kernel_rfl) ⟨fun hw ac u K => ?_, trivial⟩ ?_
  · exact st_lss 3 (.tmp 8) (.tmp 7) rfl .i64 ((k : Int)) (((16 : Nat) : Int)) (K.t x8 rfl) (K.t x7 rfl) _ (by rw [eq_comm, decide_eq_true_iff]; omega)
  intro f7 w7 A hb
  replace x0 := A.t x0 rfl
  replace x3 := A.t x3 rfl
  replace x7 := A.t x7 rfl
  replace x8 := A.t x8 rfl
  have x9 := A.e 0 9 rfl rfl
  replace mg := Ob.below mg hb
  replace bl := bgo bl hb
  replace sd := A.sd sd
  clear A hb
  show Code.wp _ _ _ _ _
  refine wp_seq ?_
  refine wp_cond_true x9 ?_
  refine wp_skip ?_
  show Code.wp _ _ _ _ _
  refine wp_seq ?_
  refine wp_block ?_
  refine wp_seq ?_
  refine wr_a [.eq (.int .i64 (k : Int)), .eq (.int .i64 (k : Int))] (by rw [sd.1]; kernel_rfl) ⟨fun hw ac u K => ?_, fun hw ac u K => ?_, trivial⟩ ?_
  · exact st_move (.tmp 8) rfl (K.t x8 rfl)
  · exact st_assign (.tmp 10) rfl (K.dep 0 10 rfl)
  intro f8 w8 A hb
  replace x0 := A.t x0 rfl
  replace x3 := A.t x3 rfl
  replace x7 := A.t x7 rfl
  replace x8 := A.t x8 rfl
  replace x9 := A.t x9 rfl
  have x4 := A.e 1 4 rfl rfl
  replace mg := Ob.below mg hb
  replace bl := bgo bl hb
  replace sd := A.sd sd
  clear A hb
  clear x9
  show Code.wp _ _ _ _ _
  refine wr_s [.eq (.slice (some ⟨g, 0, none⟩) 16 16), .eq (.int .i64 (k : Int)), .eq (V c), .eq (.pointer (some ⟨g, k, none⟩))] (by rw [sd.1]; kernel_rfl) ⟨fun hw ac u K => ?_, fun hw ac u K => ?_, fun hw ac u K => ?_, fun hw ac u K => ?_, trivial⟩ ?_
  · exact st_move (.tmp 3) rfl (K.t x3 rfl)
  · exact st_move (.tmp 4) rfl (K.t x4 rfl)
  · exact st_move (.tmp 0) rfl (K.t x0 rfl)
  · exact st_idxB (.tmp 11) (.tmp 12) rfl (K.dep 0 11 rfl) (k) (K.dep 1 12 rfl) (by omega)
  intro f9 w9 A hb
  replace x0 := A.t x0 rfl
  replace x3 := A.t x3 rfl
  replace x7 := A.t x7 rfl
  replace x8 := A.t x8 rfl
  replace x4 := A.t x4 rfl
  have x13 := A.e 2 13 rfl rfl
  have x14 := A.e 3 14 rfl rfl
  replace mg := Ob.below mg hb
  replace bl := bgo bl hb
  replace sd := A.sd sd
  clear A hb
  clear x4
  refine wl_stc 5 rfl (.tmp 14) (.tmp 13) rfl rfl (by kernel_rfl) g (k) (V (c)) x14 x13 rfl rfl (Ob.there mg (k) (by rw [List.length_map, fr8_len c hk8]; omega)) ?_
  replace mg : Ob (w9.setCell ⟨g, k, none⟩ (V (c))) g 5 ((fr8 c (k + 1)).map V) := by
    have := Ob.set mg (k) (V (c))
    rw [map_setV, fr8_set c hlt] at this
    exact this
  replace bl : Below w.heap.size w (w9.setCell ⟨g, k, none⟩ (V (c))) := bl.trans (below_setCell _ _ _ _ _ hwg)
  generalize w9.setCell ⟨g, k, none⟩ (V (c)) = w10b at bl mg ⊢
  replace bl0 := bl
  refine wpList_nil ?_
  clear x13
  clear x14
  show Code.wp _ _ _ _ _
  refine wr_s [.eq (.int .i64 ((k + 1 : Nat) : Int))] (by rw [sd.1]; kernel_rfl) ⟨fun hw ac u K => ?_, trivial⟩ ?_
  · exact st_add (.tmp 8) (.const (.int .i64 1)) rfl (k) (1) (k + 1) (K.t x8 rfl) rfl (by omega) (by omega)
  intro f11 w11 A hb
  replace x0 := A.t x0 rfl
  replace x3 := A.t x3 rfl
  replace x7 := A.t x7 rfl
  replace x8 := A.t x8 rfl
  have x15 := A.e 0 15 rfl rfl
  replace mg := Ob.below mg hb
  replace bl := bgo bl hb
  replace sd := A.sd sd
  clear A hb
  refine wl_one (.eq (.int .i64 ((k + 1 : Nat) : Int))) rfl 8 rfl (by rw [sd.1]; decide) (st_move (.tmp 15) rfl x15) ?_
  intro f12 w12 df2 sz2 old2 new2 hb
  replace x0 := tr old2 x0 rfl
  replace x3 := tr old2 x3 rfl
  replace x7 := tr old2 x7 rfl
  clear x8
  replace x15 := tr old2 x15 rfl
  have x8 := Fk.e new2
  replace mg := Ob.below mg hb
  replace bl := bgo bl hb
  replace sd := sd2 sz2 df2 sd
  clear df2 sz2 old2 new2 hb
  refine wpList_nil ?_
  clear x15
  show (∃ _, _) ∧ _
  refine ⟨⟨k + 1, by omega, sd.1, sd.2, x0, x3, x7, x8, mg, bl⟩, ?_⟩
  rw [show f12.eval (.tmp 8) = _ from x8, show _ = _ from hcnt]
  first | (simp [intOf]; done) | (simp [intOf]; omega)
end Go.Proofs.Ytjdpomilifnlaaa
