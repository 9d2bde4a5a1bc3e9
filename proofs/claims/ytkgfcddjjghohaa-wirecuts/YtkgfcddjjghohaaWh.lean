/- An Out (package wire) in memory: what number does. -/
import Derived.Test.YtkgfcddjjghohaaWg
import Derived.Deep.RegionLaw
import Derived.Deep.AppendLies
namespace Go.Proofs.Ytkgfcddjjghohaa
open Go.RowKit
/-- In block ob lies an Out that has the bytes xs. -/
def HasOut (w : World) (ob : Nat) (v : Value) (xs : List (BitVec 8)) : Prop :=
  w.heap[ob]? = some (.cells #[v] 27 (0, 0)) ∧ w.ownsRow (ob + 1) 5 1 v xs.length (xs.map V)
/-- w' is as w was, but for the Out, its row, and new blocks. -/
structure Put (ob : Nat) (v v' : Value) (w w' : World) : Prop where
  os : w'.os = w.os
  tape : w'.tape = w.tape
  output : w'.output = w.output
  size : w.heap.size ≤ w'.heap.size
  block : ∀ k, k < w.heap.size → k ≠ ob → some k ≠ v.ownBlock → w'.heap[k]? = w.heap[k]?
  own : v'.ownBlock = v.ownBlock ∨ ∃ g, v'.ownBlock = some g ∧ w.heap.size ≤ g
theorem Put.refl (ob : Nat) (v : Value) (w : World) : Put ob v v w w := ⟨rfl, rfl, rfl, Nat.le_refl _, fun _ _ _ _ => rfl, .inl rfl⟩
theorem Put.trans {ob : Nat} {v1 v2 v3 : Value} {w1 w2 w3 : World} (h : Put ob v1 v2 w1 w2) (k : Put ob v2 v3 w2 w3) : Put ob v1 v3 w1 w3 := by
  have hs := h.size
  refine ⟨k.os.trans h.os, k.tape.trans h.tape, k.output.trans h.output, Nat.le_trans h.size k.size, fun q hq hne hno => ?_, ?_⟩
  · rw [k.block q (by omega) hne ?_]
    · exact h.block q hq hne hno
    · rcases h.own with e | ⟨g, e, hg⟩
      · rw [e]; exact hno
      · rw [e]; intro e2; have := Option.some.inj e2; omega
  · rcases k.own with e | ⟨g, e, hg⟩
    · rw [e]; exact h.own
    · exact .inr ⟨g, e, by omega⟩
theorem HasOut.lt {w : World} {ob : Nat} {v : Value} {xs : List (BitVec 8)} (h : HasOut w ob v xs) : ob < w.heap.size := (Array.getElem?_eq_some_iff.1 h.1).1
theorem Put.below {ob : Nat} {v v' : Value} {w w' : World} {xs : List (BitVec 8)} (h : Put ob v v' w w') (ho : HasOut w ob v xs) (B : Nat) (hB : B ≤ ob) : Below B w w' := by
  have hl := ho.lt
  refine ⟨h.os, h.tape, h.output, h.size, fun k hk => h.block k (by omega) (by omega) (fun e => ?_)⟩
  have := ho.2.lt k e.symm
  omega
theorem HasOut.below {w w' : World} {ob : Nat} {v : Value} {xs : List (BitVec 8)} (h : HasOut w ob v xs) (hb : Below w.heap.size w w') : HasOut w' ob v xs := by
  refine ⟨by rw [hb.block ob h.lt]; exact h.1, h.2.1, ?_⟩
  rcases h.2.2 with hn | ⟨g, cap, cur, rfl, hb1, hgg, rest⟩
  · exact .inl hn
  · exact .inr ⟨g, cap, cur, rfl, hb1, by rw [hb.block g (Array.getElem?_eq_some_iff.1 hgg).1]; exact hgg, rest⟩
/-- One append, and its store. -/
theorem put_step {w w1 w2 : World} {ob H : Nat} {v v2 : Value} {xs bs : List (BitVec 8)} (h : HasOut w ob v xs) (hb : Below w.heap.size w w1)
    (own2 : w2.ownsRow (ob + 1) 5 1 v2 (xs.length + bs.length) ((xs ++ bs).map V)) (gr : w1.grownBy w2 v.ownBlock) (hat : v2.ownBlock = v.ownBlock ∨ v2.ownBlock = some H) (hH : w.heap.size ≤ H) :
    HasOut (w2.setCell ⟨ob, 0, none⟩ v2) ob v2 (xs ++ bs) ∧ Put ob v v2 w (w2.setCell ⟨ob, 0, none⟩ v2) := by
  have hl := h.lt
  have hs := hb.size
  have hno : some ob ≠ v.ownBlock := fun e => by have := h.2.lt ob e.symm; omega
  have e1 : w2.heap[ob]? = some (.cells #[v] 27 (0, 0)) := by
    rw [gr.block ob (by omega) hno, hb.block ob hl]; exact h.1
  refine ⟨⟨?_, ?_⟩, gr.os.trans hb.os, gr.tape.trans hb.tape, gr.output.trans hb.output, ?_, ?_, ?_⟩
  · simp [World.setCell, Array.getElem?_modify, e1]
  · rw [List.length_append]
    refine ⟨own2.1, ?_⟩
    rcases own2.2 with hn | ⟨g, cap, cur, rfl, hb1, hgg, rest⟩
    · exact .inl hn
    · exact .inr ⟨g, cap, cur, rfl, hb1, by rw [heap_setCell_other _ _ _ _ (show g ≠ ob by omega)]; exact hgg, rest⟩
  · have := gr.size
    simp
    omega
  · intro k hk hne hnk
    rw [heap_setCell_other _ _ _ _ (show k ≠ ob from hne), gr.block k (by omega) hnk, hb.block k hk]
  · rcases hat with e | e
    · exact .inl e
    · exact .inr ⟨H, e, hH⟩
/-- append of bytes onto the Out's row: what its store makes of it. -/
theorem run_out {w wr : World} {ob : Nat} {v : Value} {xs : List (BitVec 8)} (hout : HasOut wr ob v xs) (hb : Below wr.heap.size wr w) (ty : TypeId) {y : Value} {bs : List (BitVec 8)} {gb : Nat} (hr : Rv w y bs gb) (hlen : xs.length + bs.length ≤ 1000000) :
    ∃ a n c w', (Builtin.append_ #[25, 25] ty #[v, y]).run Try.prog w = .ok (.slice a n c) w' ∧ w'.cell? ⟨ob, 0, none⟩ = some v ∧ w'.frozen? ⟨ob, 0, none⟩ = false ∧ Box (HasOut (w'.setCell ⟨ob, 0, none⟩ (.slice a n c)) ob (.slice a n c) (xs ++ bs) ∧ Put ob v (.slice a n c) wr (w'.setCell ⟨ob, 0, none⟩ (.slice a n c))) := by
  obtain ⟨i0, hi, hz0, hz1, hz2⟩ := info_parts Try.info5
  have hown := (hout.below hb).2
  have hl := hout.lt
  have hs := hb.size
  have key : ∃ v' w', (Builtin.append_ #[25, 25] ty #[v, y]).run Try.prog w = .ok v' w' ∧ w'.ownsRow (ob + 1) 5 1 v' (xs.length + bs.length) ((xs ++ bs).map V) ∧ w.grownBy w' v.ownBlock ∧ (v'.ownBlock = v.ownBlock ∨ v'.ownBlock = some w.heap.size) := by
    rcases hr with ⟨rfl, rfl⟩ | ⟨go, c, rfl, hc, hlt, hB⟩
    · exact ⟨v, w, run_append_owned_none (P := Try.prog) (w := w) (ob + 1) 25 ty 5 i0 1 Try.under25 hi v _ _ hown, by simpa using hown, ⟨rfl, rfl, rfl, Nat.le_refl _, fun _ _ _ => rfl⟩, .inl rfl⟩
    · have hnews : ∀ (j : Nat) (u : Value), (bs.map V)[j]? = some u → w.cell? ((⟨gb, go, none⟩ : Addr).add j) = some u := by
        intro j u hj
        have := hB.src bs.length j u
        rw [List.take_of_length_le (Nat.le_refl _)] at this
        exact this hj
      obtain ⟨v', w', hr, h2, h3, _⟩ := run_append_own (P := Try.prog) w (ob + 1) 25 ty 5 i0 (.int .u8 0) 1 1 Try.under25 hi hz0 hz1 hz2 rfl (by decide) v _ (xs.map V) hown ⟨gb, go, none⟩ bs.length c (bs.map V) (by simp) hnews (V_one bs) (by unfold maxLen; omega) (by omega) (by omega)
      have h4 := append_where (P := Try.prog) w (ob + 1) 25 ty 5 i0 (.int .u8 0) 1 1 Try.under25 hi hz0 hz1 hz2 v _ (xs.map V) hown ⟨gb, go, none⟩ bs.length c (bs.map V) (by simp) hnews (V_one bs) (by unfold maxLen; omega) (by omega) v' w' hr
      rw [← List.map_append] at h2
      exact ⟨v', w', hr, h2, h3, h4⟩
  obtain ⟨v', w', hrun, h2, h3, h4⟩ := key
  obtain ⟨g, a, c, rfl, _⟩ := own_apart (base := 0) ⟨h2.1, by
    rcases h2.2 with h | ⟨g, cap, cur, e, _, r⟩
    · exact .inl h
    · exact .inr ⟨g, cap, cur, e, Nat.zero_le _, r⟩⟩ (Nat.zero_le _)
  have hg : w'.heap[ob]? = wr.heap[ob]? := by
    rw [h3.block ob (by omega) (fun e => by have := hout.2.lt ob e.symm; omega), hb.block ob hl]
  refine ⟨a, _, c, w', hrun, ?_, ?_, ⟨put_step hout hb h2 h3 h4 hs⟩⟩
  · rw [World.cell?_of_block (w := wr) hg]; simp [World.cell?, hout.1]
  · rw [World.frozen?_of_block (w := wr) hg]; simp [World.frozen?, hout.1]
theorem wp_out {o : Oper} {a : Act} {w wr : World} {K : Act → World → Prop} {Q : Exit → Act → World → Prop} (s x : Operand)
    (ho : o.op = .call { callee := .builtin .append, args := #[s, x], argTypes := #[25, 25] }) (ob : Nat) (v : Value) (xs : List (BitVec 8)) (hout : HasOut wr ob v xs) (hb : Below wr.heap.size wr w) (hs : a.eval s = v)
    (y : Value) (bs : List (BitVec 8)) (gb : Nat) (hx : a.eval x = y) (hr : Rv w y bs gb) (hlen : xs.length + bs.length ≤ 1000000)
    (h : ∀ a' n c w', w'.cell? ⟨ob, 0, none⟩ = some v → w'.frozen? ⟨ob, 0, none⟩ = false → Box (HasOut (w'.setCell ⟨ob, 0, none⟩ (.slice a' n c)) ob (.slice a' n c) (xs ++ bs) ∧ Put ob v (.slice a' n c) wr (w'.setCell ⟨ob, 0, none⟩ (.slice a' n c))) → K (a.put o.dst (.slice a' n c)) w') : o.wp Try.prog a w K Q := by
  obtain ⟨a', n, c, w', hrun, h1, h2, h3⟩ := run_out hout hb o.type hr hlen
  unfold Oper.wp execOp
  simp only [ho, resolve, invoke, builtin, Sem.run_bind, Sem.run_pure, Result.andThen_ok, List.map_toArray, List.map_cons, List.map_nil, hs, hx, hrun]
  exact h a' n c w' h1 h2 h3
theorem step_out {ops : Array Oper} {o : Oper} {a : Act} {w wr : World} {K : Act → World → Prop} {Q : Exit → Act → World → Prop} {E : Prop} (hgd : o.guard = none) (s x : Operand)
    (ho : o.op = .call { callee := .builtin .append, args := #[s, x], argTypes := #[25, 25] }) (ob : Nat) (v : Value) (xs : List (BitVec 8)) (hout : HasOut wr ob v xs) (hb : Below wr.heap.size wr w) (hs : a.eval s = v)
    (y : Value) (bs : List (BitVec 8)) (gb : Nat) (hx : a.eval x = y) (hr : Rv w y bs gb) (hlen : xs.length + bs.length ≤ 1000000)
    (h : ∀ a' n c w', w'.cell? ⟨ob, 0, none⟩ = some v → w'.frozen? ⟨ob, 0, none⟩ = false → Box (HasOut (w'.setCell ⟨ob, 0, none⟩ (.slice a' n c)) ob (.slice a' n c) (xs ++ bs) ∧ Put ob v (.slice a' n c) wr (w'.setCell ⟨ob, 0, none⟩ (.slice a' n c))) → K (a.put o.dst (.slice a' n c)) w') :
    if Region.wanted o (yielded ops a.tmps) = true then Oper.wp Try.prog o a w K Q else E := by
  have hw : Region.wanted o (yielded ops a.tmps) = true := by simp [Region.wanted, hgd]
  rw [if_pos hw]
  exact wp_out s x ho ob v xs hout hb hs y bs gb hx hr hlen h
/-- The lowest bytes of a number, the highest of them first. -/
def beN (N size : Nat) : List (BitVec 8) := (List.range size).map fun k => BitVec.ofNat 8 (N / 2 ^ (8 * (size - 1 - k)))
theorem beN_len (N size : Nat) : (beN N size).length = size := by simp [beN]
theorem beN_take (N size k : Nat) (h : k < size) : (beN N size).take (k + 1) = (beN N size).take k ++ [BitVec.ofNat 8 (N / 2 ^ (8 * (size - 1 - k)))] := by
  rw [List.take_add_one, List.getElem?_eq_getElem (by rw [beN_len]; exact h)]
  simp [beN]
theorem news_one {w : World} {a : Addr} {v : Value} (h : w.cell? a = some v) : ∀ (j : Nat) (u : Value), [v][j]? = some u → w.cell? (a.add j) = some u := by
  intro j u hj
  match j, hj with
  | 0, hj =>
    simp only [List.getElem?_cons_zero, Option.some.injEq] at hj
    subst hj
    simpa [Addr.add] using h
theorem cell_new1 (w : World) (v : Value) (T : TypeId) : (w.alloc (.cells #[v] T)).cell? ⟨w.heap.size, 0, none⟩ = some v := by
  rw [cell_of_row _ _ _ _ T _ (heap_alloc_new _ _)]; rfl
theorem one_int (k : IntKind) (n : Int) : ∀ u ∈ [Value.int k n], u.oneCell' = true := by
  intro u hu
  simp only [List.mem_cons, List.not_mem_nil, or_false] at hu
  subst hu; rfl
theorem byte_v (N j : Nat) : Value.int .u8 (IntKind.u8.wrap ((N : Int) / 2 ^ (8 * (j : Int)).toNat)) = V (BitVec.ofNat 8 (N / 2 ^ (8 * j))) := by
  unfold V
  rw [bv_lit, IntKind.wrap_u8, show (8 * (j : Int)).toNat = 8 * j by omega]
  congr 1
theorem new_one (w : World) (N j : Nat) : Rv (w.drew.alloc (.cells #[.int .u8 (IntKind.u8.wrap ((N : Int) / 2 ^ (8 * (j : Int)).toNat))] 5)) (.slice (some ⟨w.heap.size, 0, none⟩) 1 1) [BitVec.ofNat 8 (N / 2 ^ (8 * j))] w.heap.size := by
  refine .inr ⟨0, 1, rfl, Nat.le_refl _, by simp, ?_⟩
  rw [byte_v]
  intro i hi
  obtain rfl : i = 0 := by simpa using hi
  exact cell_new1 _ _ _
theorem new_one' (w : World) (N j : Nat) : Rv (w.alloc (.cells #[.int .u8 (IntKind.u8.wrap ((N : Int) / 2 ^ (8 * (j : Int)).toNat))] 5)).drew (.slice (some ⟨w.heap.size, 0, none⟩) 1 1) [BitVec.ofNat 8 (N / 2 ^ (8 * j))] w.heap.size := new_one w N j
set_option maxHeartbeats 400000 in
theorem onumber_any (ob N size : Nat) (v0 : Value) (xs : List (BitVec 8)) (w : World) (h : HasOut w ob v0 xs) (_hN : N < 18446744073709551616) (hs : size ≤ 8) (hx : xs.length ≤ 900000) :
    Calls Try.prog 38 #[.pointer (some ⟨ob, 0, none⟩), .int .u64 (N : Int), .int .i64 (size : Int)] w fun e w' => e = .returned (.pointer (some ⟨ob, 0, none⟩)) ∧ ∃ v', HasOut w' ob v' (xs ++ beN N size) ∧ Put ob v0 v' w w' := by
  obtain ⟨i0, hi, hz0, hz1, hz2⟩ := info_parts Try.info5
  have h' := Box.mk h
  clear h
  go_enter Try.func38, Try.ntmps38
  go_wp2
  go_loopw [9] (fun i wr => ∃ k : Nat, k ≤ size ∧ i = .int .i64 k ∧ Box (∃ v, HasOut wr ob v (xs ++ (beN N size).take k) ∧ Put ob v0 v w wr)) (fun i _ => size - (intOf i).toNat)
  case atStart => exact ⟨0, by omega, rfl, ⟨v0, by simpa using h'.out, Put.refl _ _ _⟩⟩
  case round =>
    obtain ⟨k, hk, rfl, hr⟩ := hrel
    by_cases hlt : k < size
    · obtain ⟨v, ho, hp⟩ := hr.out
      have c0 : wr.cell? ⟨ob, 0, none⟩ = some v := by simp [World.cell?, ho.1]
      have f0 : wr.frozen? ⟨ob, 0, none⟩ = false := by simp [World.frozen?, ho.1]
      have hol := ho.lt
      have ho' := Box.mk ho
      have hp' := Box.mk hp
      have hxl : (xs ++ List.take k (beN N size)).length ≤ 900008 := by simp [beN_len]; omega
      clear hr ho hp h'
      obtain ⟨j, hj⟩ : ∃ j : Nat, Box (j = size - 1 - k) := ⟨_, ⟨rfl⟩⟩
      have hjj : (size : Int) - 1 - k = j := by rw [hj.out]; omega
      have hj8 : j ≤ 7 := by rw [hj.out]; omega
      have hw3 : IntKind.i64.wrap (8 * IntKind.i64.wrap (IntKind.i64.wrap ((size : Int) - 1) - k)) = ((8 * j : Nat) : Int) := by simp only [IntKind.wrap_i64]; omega
      go_wp2
      go_region_law ((refine step_out (by rfl) _ _ (by rfl) ob v _ ho'.out (by first | exact ((Below.refl _ _).alloc (Nat.le_refl _) _).drew | exact (Below.refl _ _).drew.alloc (Nat.le_refl _) _) (by rfl) _ [BitVec.ofNat 8 (N / 2 ^ (8 * j))] wr.heap.size (by rfl) (by first | exact new_one _ _ _ | exact new_one' _ _ _) (by simp; omega) ?_; intro a2 n2 c2 w1 c1 f1 hres))
      all_goals
        have hfin : Box (∃ v, HasOut (w1.setCell ⟨ob, 0, none⟩ (.slice a2 n2 c2)) ob v (xs ++ (beN N size).take (k + 1)) ∧ Put ob v0 v w (w1.setCell ⟨ob, 0, none⟩ (.slice a2 n2 c2))) := ⟨_, by rw [beN_take N size k hlt, ← List.append_assoc, ← hj.out]; exact hres.out.1, hp'.out.trans hres.out.2⟩
        clear hres c1 f1 c0 f0 ho' hp' hw3 hxl hjj
        generalize w1.setCell ⟨ob, 0, none⟩ (.slice a2 n2 c2) = w2 at *
        go_wp2
        go_roundw
        case rel => exact ⟨k + 1, by omega, by go_num, hfin⟩
        case measure => simp [intOf]; omega
    · have hkn : Box ((beN N size).take k = beN N size) := ⟨List.take_of_length_le (by rw [beN_len]; omega)⟩
      rw [hkn.out] at hr
      go_wp2
      go_ret
      exact ⟨rfl, hr.out⟩
end Go.Proofs.Ytkgfcddjjghohaa
