/- What Int, Text, Hash, Hashes and Bool do with an Out. -/
import Derived.Test.YtkgfcddjjghohaaWh
namespace Go.Proofs.Ytkgfcddjjghohaa
open Go.RowKit
/-- A number's eight bytes. -/
def be8 (n : Int) : List (BitVec 8) := beN (n % 18446744073709551616).toNat 8
theorem be8_len (n : Int) : (be8 n).length = 8 := beN_len _ _
set_option maxHeartbeats 400000 in
theorem oint_any (ob : Nat) (n : Int) (v0 : Value) (xs : List (BitVec 8)) (w : World) (h : HasOut w ob v0 xs) (hx : xs.length ≤ 900000) :
    Calls Try.prog 25 #[.pointer (some ⟨ob, 0, none⟩), .int .i64 n] w fun e w' => e = .returned (.pointer (some ⟨ob, 0, none⟩)) ∧ ∃ v', HasOut w' ob v' (xs ++ be8 n) ∧ Put ob v0 v' w w' := by
  have hT := Box.mk (onumber_any ob (n % 18446744073709551616).toNat 8 v0 xs w h (by omega) (by omega) hx)
  have e1 : IntKind.u64.wrap n = (((n % 18446744073709551616).toNat : Nat) : Int) := by rw [IntKind.wrap_u64]; omega
  unfold be8
  generalize (n % 18446744073709551616).toNat = N at *
  clear h
  go_enter Try.func25, Try.ntmps25
  go_wp2_with (first | (rw [e1]; refine hT.out.mono ?_; rintro e w' ⟨rfl, h1⟩; have h1' := Box.mk h1; clear h1) | (refine hT.out.mono ?_; rintro e w' ⟨rfl, h1⟩; have h1' := Box.mk h1; clear h1))
  go_ret
  exact ⟨rfl, h1'.out⟩
set_option maxHeartbeats 400000 in
theorem obool_any (ob : Nat) (b : Bool) (v0 : Value) (xs : List (BitVec 8)) (w : World) (h : HasOut w ob v0 xs) (hx : xs.length ≤ 900000) :
    Calls Try.prog 29 #[.pointer (some ⟨ob, 0, none⟩), .bool b] w fun e w' => e = .returned (.pointer (some ⟨ob, 0, none⟩)) ∧ ∃ v', HasOut w' ob v' (xs ++ [if b then 1 else 0]) ∧ Put ob v0 v' w w' := by
  cases b
  · have hT := Box.mk (onumber_any ob 0 1 v0 xs w h (by omega) (by omega) hx)
    clear h
    go_enter Try.func29, Try.ntmps29
    go_wp2_with (refine hT.out.mono ?_; rintro e w' ⟨rfl, h1⟩; have h1' := Box.mk h1; clear h1)
    go_ret
    exact ⟨rfl, h1'.out⟩
  · have hT := Box.mk (onumber_any ob 1 1 v0 xs w h (by omega) (by omega) hx)
    clear h
    go_enter Try.func29, Try.ntmps29
    go_wp2_with (refine hT.out.mono ?_; rintro e w' ⟨rfl, h1⟩; have h1' := Box.mk h1; clear h1)
    go_ret
    exact ⟨rfl, h1'.out⟩
/-- append of a text onto the Out's row: what its store makes of it. -/
theorem run_outs {w : World} {ob : Nat} {v : Value} {xs : List (BitVec 8)} (hout : HasOut w ob v xs) (ty : TypeId) (s : ByteArray) (hn : 0 < xs.length) (hlen : xs.length + s.size ≤ 1000000) :
    ∃ a n c w', (Builtin.append_ #[25, 9] ty #[v, .string s]).run Try.prog w = .ok (.slice a n c) w' ∧ w'.cell? ⟨ob, 0, none⟩ = some v ∧ w'.frozen? ⟨ob, 0, none⟩ = false ∧ Box (HasOut (w'.setCell ⟨ob, 0, none⟩ (.slice a n c)) ob (.slice a n c) (xs ++ strB s) ∧ Put ob v (.slice a n c) w (w'.setCell ⟨ob, 0, none⟩ (.slice a n c))) := by
  obtain ⟨i0, hi, hz0, hz1, hz2⟩ := info_parts Try.info5
  have hl := hout.lt
  obtain ⟨v', w', hrun, h2, h3, h4⟩ := run_append_str (P := Try.prog) w (ob + 1) 25 9 ty 5 i0 (.int .u8 0) Try.under25 Try.under9 hi hz0 hz1 hz2 rfl v _ (xs.map V) hn hout.2 s hlen (by omega)
  rw [← List.map_append] at h2
  rw [← strB_len] at h2
  obtain ⟨g, a, c, rfl, _⟩ := own_apart (base := 0) ⟨h2.1, by
    rcases h2.2 with h | ⟨g, cap, cur, e, _, r⟩
    · exact .inl h
    · exact .inr ⟨g, cap, cur, e, Nat.zero_le _, r⟩⟩ (Nat.zero_le _)
  have hg : w'.heap[ob]? = w.heap[ob]? := h3.block ob (by omega) (fun e => by have := hout.2.lt ob e.symm; omega)
  refine ⟨a, _, c, w', hrun, ?_, ?_, ⟨put_step hout (Below.refl _ _) h2 h3 h4 (Nat.le_refl _)⟩⟩
  · rw [World.cell?_of_block (w := w) hg]; simp [World.cell?, hout.1]
  · rw [World.frozen?_of_block (w := w) hg]; simp [World.frozen?, hout.1]
theorem wpList_app {ops : Array Oper} {rest : List Oper} {o : Oper} {a : Act} {w w2 : World} {Q : Exit → Act → World → Prop} (hgd : o.guard = none) (s x : Operand) (t u : TypeId)
    (ho : o.op = .call { callee := .builtin .append, args := #[s, x], argTypes := #[t, u] }) (v y v2 : Value) (hs : a.eval s = v) (hx : a.eval x = y) (hr : (Builtin.append_ #[t, u] o.type #[v, y]).run Try.prog w = .ok v2 w2)
    (h : wpList Try.prog ops Q rest (a.put o.dst v2) w2) : wpList Try.prog ops Q (o :: rest) a w := by
  refine wpList_plain hgd fun K hK => ?_
  unfold Oper.wp execOp
  simp only [ho, resolve, invoke, builtin, Sem.run_bind, Sem.run_pure, Result.andThen_ok, List.map_toArray, List.map_cons, List.map_nil, hs, hx, hr]
  exact hK _ _ h
set_option maxHeartbeats 400000 in
theorem otext_any (ob : Nat) (s : ByteArray) (v0 : Value) (xs : List (BitVec 8)) (w : World) (h : HasOut w ob v0 xs) (hx : xs.length + s.size ≤ 900000) :
    Calls Try.prog 26 #[.pointer (some ⟨ob, 0, none⟩), .string s] w fun e w' => e = .returned (.pointer (some ⟨ob, 0, none⟩)) ∧ ∃ v', HasOut w' ob v' (xs ++ beN s.size 4 ++ strB s) ∧ Put ob v0 v' w w' := by
  have hT : Box (Calls Try.prog 38 #[.pointer (some ⟨ob, 0, none⟩), .int .u64 (s.size : Int), .int .i64 4] w fun e w' => e = .returned (.pointer (some ⟨ob, 0, none⟩)) ∧ ∃ v a n c w2, w'.cell? ⟨ob, 0, none⟩ = some v ∧ (Builtin.append_ #[25, 9] 25 #[v, .string s]).run Try.prog w' = .ok (.slice a n c) w2 ∧ w2.cell? ⟨ob, 0, none⟩ = some v ∧ w2.frozen? ⟨ob, 0, none⟩ = false ∧ Box (HasOut (w2.setCell ⟨ob, 0, none⟩ (.slice a n c)) ob (.slice a n c) (xs ++ beN s.size 4 ++ strB s) ∧ Put ob v0 (.slice a n c) w (w2.setCell ⟨ob, 0, none⟩ (.slice a n c)))) := ⟨by
    refine (onumber_any ob s.size 4 v0 xs w h (by omega) (by omega) (by omega)).mono ?_
    rintro e w' ⟨rfl, v, h1, h2⟩
    have hl4 := beN_len s.size 4
    obtain ⟨a, n, c, w2, hr, c1, f1, h3⟩ := run_outs h1 25 s (by simp [hl4]) (by simp [hl4]; omega)
    exact ⟨rfl, v, a, n, c, w2, by simp [World.cell?, h1.1], hr, c1, f1, ⟨h3.out.1, h2.trans h3.out.2⟩⟩⟩
  clear h
  go_enter Try.func26, Try.ntmps26
  go_wp2_with (first | (refine hT.out.mono ?_; rintro e w' ⟨rfl, v, a, n, c, w2, c0, hr, c1, f1, h3⟩; have hr' := Box.mk hr; clear hr) | (at_builtin; refine wpList_app rfl _ _ 25 9 rfl v (.string s) (.slice a n c) rfl rfl hr'.out ?_))
  go_ret
  exact ⟨rfl, _, h3.out⟩
theorem rv_row {w : World} {g : Nat} {T : TypeId} {h : List (BitVec 8)} (hv : HasV w g T h) (hl : h.length = 32) : Rv w (.slice (some ⟨g, 0, none⟩) 32 32) h g :=
  .inr ⟨0, 32, by rw [hl], by omega, hv.lt, hv.bytes⟩
set_option maxHeartbeats 400000 in
theorem ohash_any (ob : Nat) (hh : List (BitVec 8)) (v0 : Value) (xs : List (BitVec 8)) (w : World) (h : HasOut w ob v0 xs) (hl : hh.length = 32) (hx : xs.length ≤ 900000) :
    Calls Try.prog 27 #[.pointer (some ⟨ob, 0, none⟩), .agg (hh.map V).toArray] w fun e w' => e = .returned (.pointer (some ⟨ob, 0, none⟩)) ∧ ∃ v', HasOut w' ob v' (xs ++ hh) ∧ Put ob v0 v' w w' := by
  have h' := Box.mk h
  have hol := h.lt
  clear h
  go_enter Try.func27, Try.ntmps27
  go_upto_region 1 with fail
  refine code_any (fun w1 => HasV w1 w.heap.size 29 hh ∧ Below w.heap.size w w1) ?_ ?_
  · exact ⟨heap_alloc_new _ _, (Below.refl _ _).alloc (Nat.le_refl _) _⟩
  rintro w1 ⟨hv1, hb1⟩
  have hB1 := Box.mk hv1
  have c0 : w1.cell? ⟨ob, 0, none⟩ = some v0 := by rw [hb1.cell (by exact hol)]; simp [World.cell?, h'.out.1]
  clear hv1
  go_region_law ((refine step_out (by rfl) _ _ (by rfl) ob v0 _ h'.out (by first | exact hb1.drew | exact hb1) (by rfl) _ hh w.heap.size (by rfl) (by first | exact rv_row hB1.out.drew hl | exact rv_row hB1.out hl) (by omega) ?_; intro a2 n2 c2 w2 c1 f1 hres))
  all_goals
    go_wp2
    go_ret
    exact ⟨rfl, _, hres.out⟩
/-- A slice value that has n hashes, one behind the other. -/
structure Fl (w : World) (A : Option Addr) (lb lo n : Nat) (D : List (BitVec 8)) : Prop where
  len : D.length = 32 * n
  src : 0 < n → A = some ⟨lb, lo, none⟩ ∧ lb < w.heap.size ∧ HasB w lb lo D
theorem Fl.keep {w w' : World} {A : Option Addr} {lb lo n : Nat} {D : List (BitVec 8)} (h : Fl w A lb lo n D) (hs : w.heap.size ≤ w'.heap.size) (hk : 0 < n → w'.heap[lb]? = w.heap[lb]?) : Fl w' A lb lo n D :=
  ⟨h.len, fun hn => ⟨(h.src hn).1, Nat.lt_of_lt_of_le (h.src hn).2.1 hs, fun i hi => by rw [World.cell?_of_block (w := w) (hk hn)]; exact (h.src hn).2.2 i hi⟩⟩
theorem Fl.below {w w' : World} {A : Option Addr} {lb lo n B : Nat} {D : List (BitVec 8)} (h : Fl w A lb lo n D) (hb : Below B w w') (hB : 0 < n → lb < B) : Fl w' A lb lo n D := h.keep hb.size fun hn => hb.block lb (hB hn)
/-- Hash number k. -/
def nth (D : List (BitVec 8)) (k : Nat) : List (BitVec 8) := (D.drop (32 * k)).take 32
theorem nth_len (D : List (BitVec 8)) (n k : Nat) (h : D.length = 32 * n) (hk : k < n) : (nth D k).length = 32 := by unfold nth; simp; omega
theorem nth_take (D : List (BitVec 8)) (k : Nat) : D.take (32 * (k + 1)) = D.take (32 * k) ++ nth D k := by
  unfold nth
  rw [show 32 * (k + 1) = 32 * k + 32 by omega, List.take_add]
theorem Fl.range {w : World} {A : Option Addr} {lb lo n : Nat} {D : List (BitVec 8)} (h : Fl w A lb lo n D) (k : Nat) (hk : k < n) : w.rangeAt lb (lo + k * 32) ((nth D k).map V) := by
  intro j v hj
  have hB := ((h.src (by omega)).2.2.drop (32 * k)).take 32
  have := hB.src 32 j v
  rw [List.take_take, Nat.min_self] at this
  have h2 := this hj
  rw [Addr.add_mid] at h2
  rw [Nat.mul_comm k 32]
  exact h2
set_option maxHeartbeats 400000 in
theorem ohashes_any (ob lb lo n c : Nat) (A : Option Addr) (D : List (BitVec 8)) (v0 : Value) (xs : List (BitVec 8)) (w : World) (h : HasOut w ob v0 xs) (hf : Fl w A lb lo n D) (hlb : 0 < n → lb < ob) (hn : n ≤ 1000) (hx : xs.length ≤ 800000) :
    Calls Try.prog 28 #[.pointer (some ⟨ob, 0, none⟩), .slice A n c] w fun e w' => e = .returned (.pointer (some ⟨ob, 0, none⟩)) ∧ ∃ v', HasOut w' ob v' (xs ++ beN n 4 ++ D) ∧ Put ob v0 v' w w' := by
  have hT := Box.mk (onumber_any ob n 4 v0 xs w h (by omega) (by omega) (by omega))
  have hf' := Box.mk hf
  have h' := Box.mk h
  have hl4 := beN_len n 4
  have hDl := hf.len
  clear hf h
  go_enter Try.func28, Try.ntmps28
  go_wp2_with (refine hT.out.mono ?_; rintro e w' ⟨rfl, h1⟩; have h1' := Box.mk h1; clear h1)
  go_loopw [13] (fun i wr => ∃ k : Nat, k ≤ n ∧ i = .int .i64 k ∧ Box (∃ v, HasOut wr ob v (xs ++ beN n 4 ++ D.take (32 * k)) ∧ Put ob v0 v w wr)) (fun i _ => n - (intOf i).toNat)
  case atStart => exact ⟨0, by omega, rfl, ⟨by simpa using h1'.out⟩⟩
  case round =>
    obtain ⟨k, hk, rfl, hr⟩ := hrel
    by_cases hlt : k < n
    · obtain ⟨rfl, hlw, _⟩ := hf'.out.src (by omega)
      obtain ⟨v, ho, hp⟩ := hr.out
      have hb : Below ob w wr := hp.below h'.out ob (Nat.le_refl _)
      have hrg := Box.mk ((hf'.out.below hb hlb).range k hlt)
      have hC : Box (Calls Try.prog 27 #[.pointer (some ⟨ob, 0, none⟩), .agg ((nth D k).map V).toArray] wr fun e w' => e = .returned (.pointer (some ⟨ob, 0, none⟩)) ∧ Box (∃ v', HasOut w' ob v' (xs ++ beN n 4 ++ D.take (32 * (k + 1))) ∧ Put ob v0 v' w w')) := ⟨by
        refine (ohash_any ob (nth D k) v _ wr ho (nth_len D n k hDl hlt) (by simp [hl4]; omega)).mono ?_
        rintro e w2 ⟨rfl, v', h3, h4⟩
        rw [List.append_assoc, ← nth_take] at h3
        exact ⟨rfl, ⟨v', h3, hp.trans h4⟩⟩⟩
      have hsz : Box (((nth D k).map V).length = 32) := ⟨by rw [List.length_map]; exact nth_len D n k hDl hlt⟩
      clear hr ho hp h1' hb
      go_wp2_with (first | (refine wpList_load_mid rfl 29 (.tmp 19) rfl lb (lo + k * 32) rfl ((nth D k).map V) _ hrg.out Try.under29 rfl (by rw [hsz.out]; exact Try.size29) ?_) | (refine hC.out.mono ?_; rintro e w2 ⟨rfl, h3⟩))
      go_roundw
      case rel => exact ⟨k + 1, by omega, by go_num, h3⟩
      case measure => simp [intOf]; omega
    · have hkn : Box (D.take (32 * k) = D) := ⟨List.take_of_length_le (by omega)⟩
      rw [hkn.out] at hr
      go_wp2
      go_ret
      exact ⟨rfl, hr.out⟩
end Go.Proofs.Ytkgfcddjjghohaa
