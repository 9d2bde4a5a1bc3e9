/- What told does with a thing whose bytes are cut off, and with a bad In; the Out beside a list of numbers. -/
import Derived.Test.YtkgfcddjjghohaaXc
namespace Go.Proofs.Ytkgfcddjjghohaa
open Go.RowKit
/-- From here on nothing more is told. -/
structure Dead (t : Th) (rest : List (BitVec 8)) (bad : Bool) : Prop where
  k0 : t.kind = 0 → dropB rest 8 = [] ∧ badB rest bad 8 = true
  k1 : t.kind = 1 → cntR rest 1000 = [] ∧ cntX rest bad 1000 = true
  k2 : t.kind = 2 → dropB rest 32 = [] ∧ badB rest bad 32 = true
  k3 : t.kind = 3 → hsN rest 1000 = 0 ∧ hsD rest 1000 = [] ∧ hsX rest bad 1000 = true
  k4 : t.kind = 4 → boR rest = [] ∧ boX rest bad = true
  k5 : t.kind ≠ 0 → t.kind ≠ 1 → t.kind ≠ 2 → t.kind ≠ 3 → t.kind ≠ 4 → rest = [] ∧ bad = true
theorem told_dead (w0 w : World) (ib : Nat) (t : Th) (rest : List (BitVec 8)) (bad : Bool) (s : Sin w0 w ib rest bad) (hok : t.ok w0) (hN : t.N ≤ 1000) (hd : Dead t rest bad) :
    Calls Try.prog 14 #[.pointer (some ⟨ib, 0, none⟩), .agg t.cells.toArray] w fun e w' => ∃ b, e = .returned (.bool b) ∧ Box (Sin w0 w' ib [] true) := by
  by_cases h0 : t.kind = 0
  · refine (told_int w0 w ib t _ bad s h0).mono ?_
    rw [(hd.k0 h0).1, (hd.k0 h0).2]
    rintro e w' ⟨b, rfl, _, h2⟩
    exact ⟨b, rfl, h2⟩
  by_cases h1 : t.kind = 1
  · refine (told_text w0 w ib t _ bad s h1).mono ?_
    rw [(hd.k1 h1).1, (hd.k1 h1).2]
    rintro e w' ⟨b, rfl, _, h2⟩
    exact ⟨b, rfl, h2⟩
  by_cases h2 : t.kind = 2
  · refine (told_hash w0 w ib t rest [] (hOf rest) bad true s hok.hl h2 ⟨rfl, (hd.k2 h2).1, (hd.k2 h2).2⟩).mono ?_
    rintro e w' ⟨rfl, h3⟩
    exact ⟨_, rfl, h3⟩
  by_cases h3 : t.kind = 3
  · obtain ⟨e1, e2, e3⟩ := hd.k3 h3
    by_cases hn : t.N = 0
    · have hD : t.D = [] := List.eq_nil_of_length_eq_zero (by rw [hok.fl.len, hn])
      refine (told_hs_eq w0 w ib t rest bad s hok.hl h3 hok.fl (by rw [e1, hn]) (by rw [e2, hD]; simp) hN).mono ?_
      rw [e2, e3]
      rintro e w' ⟨rfl, h4⟩
      exact ⟨_, rfl, by simpa using h4⟩
    · refine (told_hs_ne w0 w ib t rest bad s hok.hl h3 (by rw [e1]; omega) (by omega)).mono ?_
      rw [e2, e3]
      rintro e w' ⟨rfl, h4⟩
      exact ⟨_, rfl, by simpa using h4⟩
  by_cases h4 : t.kind = 4
  · refine (told_bool w0 w ib t _ bad s hok.hl h4).mono ?_
    rw [(hd.k4 h4).1, (hd.k4 h4).2]
    rintro e w' ⟨b, rfl, _, h2⟩
    exact ⟨b, rfl, h2⟩
  · obtain ⟨rfl, rfl⟩ := hd.k5 h0 h1 h2 h3 h4
    refine (told_none w0 w ib t [] true s h0 h1 h2 h3 h4).mono ?_
    rintro e w' ⟨rfl, h5⟩
    exact ⟨_, rfl, h5⟩
theorem hs_short (rest : List (BitVec 8)) (bad : Bool) (h : ¬ 4 ≤ rest.length) : hsN rest 1000 = 0 ∧ hsD rest 1000 = [] ∧ hsX rest bad 1000 = true := by
  obtain ⟨e1, e2, e3⟩ := take_no rest bad 4 h
  unfold hsN hsD hsX
  rw [e1, e2, e3, num_nil]
  refine ⟨?_, ?_, ?_⟩ <;> split <;> rfl
theorem cnt_short (rest : List (BitVec 8)) (bad : Bool) (h : ¬ 4 ≤ rest.length) : cntR rest 1000 = [] ∧ cntX rest bad 1000 = true := by
  obtain ⟨e1, e2, e3⟩ := take_no rest bad 4 h
  unfold cntR cntX
  rw [e1, e2, e3, num_nil]
  refine ⟨?_, ?_⟩ <;> split <;> rfl
theorem dead_bad (t : Th) : Dead t [] true := by
  refine ⟨fun _ => ⟨(td_nil 8).2.1, (td_nil 8).2.2⟩, fun _ => cnt_short [] true (by simp), fun _ => ⟨(td_nil 32).2.1, (td_nil 32).2.2⟩, fun _ => hs_short [] true (by simp), fun _ => ?_, fun _ _ _ _ _ => ⟨rfl, rfl⟩⟩
  unfold boR boX
  obtain ⟨e1, e2, e3⟩ := td_nil 1
  rw [e1, e2, e3, num_nil]
  exact ⟨rfl, rfl⟩
theorem cut_app (n m : Nat) (X : List (BitVec 8)) (h : 4 ≤ m) : (beN n 4 ++ X).take m = beN n 4 ++ X.take (m - 4) := by
  rw [List.take_append, beN_len, List.take_of_length_le (by rw [beN_len]; omega)]
theorem dead_cut {w : World} (t : Th) (m : Nat) (hok : t.ok w) (hN : t.N ≤ 1000) (hs : t.text.size ≤ 1000) (hm : m < t.enc.length) : Dead t (t.enc.take m) false := by
  have hl : (t.enc.take m).length = m := by rw [List.length_take]; omega
  refine ⟨fun h => ?_, fun h => ?_, fun h => ?_, fun h => ?_, fun h => ?_, fun h0 h1 h2 h3 h4 => ?_⟩
  · have e : t.enc.length = 8 := by unfold Th.enc; rw [if_pos h, be8_len]
    have := take_no (t.enc.take m) false 8 (by omega)
    exact ⟨this.2.1, this.2.2⟩
  · have e : t.enc = beN t.text.size 4 ++ strB t.text := by unfold Th.enc; rw [if_neg (by omega), if_pos h]
    have el : t.enc.length = 4 + t.text.size := by rw [e, List.length_append, beN_len, strB_len]
    by_cases h4 : 4 ≤ m
    · rw [e, cut_app _ _ _ h4]
      have e1 := takeB_app (beN t.text.size 4) ((strB t.text).take (m - 4)) 4 (beN_len _ _)
      have e2 := dropB_app (beN t.text.size 4) ((strB t.text).take (m - 4)) 4 (beN_len _ _)
      have e4 := lt256 t.text.size (by omega)
      have hk : ¬ lenB (beN t.text.size 4 ++ (strB t.text).take (m - 4)) 1000 1 = true := by
        rw [lenB_iff, lenOk_one, e1, e2, e4, List.length_take, strB_len]; omega
      unfold cntR cntX
      rw [if_neg hk, if_neg hk]
      exact ⟨rfl, rfl⟩
    · exact cnt_short _ false (by omega)
  · have e : t.enc.length = 32 := by unfold Th.enc; rw [if_neg (by omega), if_neg (by omega), if_pos h, hok.hl]
    have := take_no (t.enc.take m) false 32 (by omega)
    exact ⟨this.2.1, this.2.2⟩
  · have e : t.enc = beN t.N 4 ++ t.D := by unfold Th.enc; rw [if_neg (by omega), if_neg (by omega), if_neg (by omega), if_pos h]
    have hDl := hok.fl.len
    have el : t.enc.length = 4 + 32 * t.N := by rw [e, List.length_append, beN_len, hDl]
    by_cases h4 : 4 ≤ m
    · rw [e, cut_app _ _ _ h4]
      have e1 := takeB_app (beN t.N 4) (t.D.take (m - 4)) 4 (beN_len _ _)
      have e2 := dropB_app (beN t.N 4) (t.D.take (m - 4)) 4 (beN_len _ _)
      have e4 := lt256 t.N (by omega)
      have hk : ¬ lenB (beN t.N 4 ++ t.D.take (m - 4)) 1000 32 = true := by
        rw [lenB_iff]; unfold lenOk; rw [e1, e2, e4, List.length_take, hDl]; omega
      unfold hsN hsD hsX
      rw [if_neg hk, if_neg hk, if_neg hk]
      exact ⟨rfl, rfl, rfl⟩
    · exact hs_short _ false (by omega)
  · have e : t.enc.length = 1 := by unfold Th.enc; rw [if_neg (by omega), if_neg (by omega), if_neg (by omega), if_neg (by omega), if_pos h]; rfl
    have e0 : t.enc.take m = [] := List.eq_nil_of_length_eq_zero (by omega)
    rw [e0]
    obtain ⟨e1, e2, e3⟩ := take_no [] false 1 (by simp)
    unfold boR boX
    rw [e1, e2, e3, num_nil]
    exact ⟨rfl, rfl⟩
  · have e : t.enc.length = 0 := by unfold Th.enc; rw [if_neg h0, if_neg h1, if_neg h2, if_neg h3, if_neg h4]; rfl
    omega
/-- A number in a cell. -/
def I (z : Nat) : Value := .int .i64 (z : Int)
/-- The Out has xs, the slice v has the numbers es. -/
def TwoE (w0 w : World) (ob : Nat) (v : Value) (xs : List (BitVec 8)) (es : List Nat) : Prop :=
  ∃ v0, HasOut w ob v0 xs ∧ w.ownsRow (ob + 1) 3 1 v es.length (es.map I) ∧ Below w0.heap.size w0 w ∧ w0.heap.size ≤ ob
theorem own_growE {w w' : World} {base n : Nat} {v : Value} {xs : List Value} (h : w.ownsRow base 3 1 v n xs) (hb : Below w.heap.size w w') : w'.ownsRow base 3 1 v n xs := by
  refine ⟨h.1, ?_⟩
  rcases h.2 with hn | ⟨g, cap, cur, rfl, hbg, hg, r⟩
  · exact .inl hn
  · exact .inr ⟨g, cap, cur, rfl, hbg, by rw [hb.block g (Array.getElem?_eq_some_iff.1 hg).1]; exact hg, r⟩
theorem TwoE.grow {w0 w w' : World} {ob : Nat} {v : Value} {xs : List (BitVec 8)} {es : List Nat} (h : TwoE w0 w ob v xs es) (hb : Below w.heap.size w w') : TwoE w0 w' ob v xs es := by
  obtain ⟨v0, h1, h2, h4, h5⟩ := h
  have := h4.size
  exact ⟨v0, h1.below hb, own_growE h2 hb, h4.trans ⟨hb.os, hb.tape, hb.output, hb.size, fun k hk => hb.block k (by omega)⟩, h5⟩
theorem apart35 {w : World} {b1 b2 n1 n2 : Nat} {v1 v2 : Value} {xs ys : List Value} (h1 : w.ownsRow b1 5 1 v1 n1 xs) (h2 : w.ownsRow b2 3 1 v2 n2 ys) : ∀ g, v2.ownBlock = some g → v1.ownBlock ≠ some g := by
  intro g e2 e1
  rcases h1.2 with ⟨rfl, _⟩ | ⟨g1, c1, cur1, rfl, _, hg1, _⟩
  · simp [Value.ownBlock] at e1
  · rcases h2.2 with ⟨rfl, _⟩ | ⟨g2, c2, cur2, rfl, _, hg2, _⟩
    · simp [Value.ownBlock] at e2
    · simp [Value.ownBlock] at e1 e2
      subst e1
      subst e2
      rw [hg1] at hg2
      simp at hg2
theorem put_twoE {w0 w : World} {ob b : Nat} {v : Value} {xs : List (BitVec 8)} {es : List Nat} {t : Th} (h : TwoE w0 w ob v xs es) (hx : xs.length ≤ 500000) (hok : t.ok w0) (hN : t.N ≤ 1000) (hs : t.text.size ≤ 1000) (ht : HasT w b t) (hb : ob < b) (hb0 : ∀ v0, HasOut w ob v0 xs → v0.ownBlock ≠ some b) :
    Calls Try.prog 10 #[.pointer (some ⟨ob, 0, none⟩), .agg t.cells.toArray] w fun e w' => e = .returned (.tuple #[]) ∧ w'.rangeAt b 0 t.cells ∧ Box (TwoE w0 w' ob v (xs ++ t.enc) es) := by
  obtain ⟨v0, h1, h2, h4, h5⟩ := h
  have hz := h4.size
  have hlt := h1.lt
  have hok2 := hok.below h4
  refine (put_any ob v0 xs t w h1 hx hok.hl hok2.fl (fun hn => by have := (hok.fl.src hn).2.1; omega) hN hs).mono ?_
  rintro e w' ⟨rfl, v1, k1, k2⟩
  refine ⟨rfl, (ht.keep (k2.block b ht.lt (by omega) (fun e => hb0 v0 h1 e.symm))).range, ⟨v1, k1, ?_, h4.trans (k2.below h1 _ h5), h5⟩⟩
  have hap := apart35 h1.2 h2
  refine ⟨h2.1, ?_⟩
  rcases h2.2 with hn | ⟨g, cap, cur, rfl, hbg, hg, r⟩
  · exact .inl hn
  · refine .inr ⟨g, cap, cur, rfl, hbg, ?_, r⟩
    rw [k2.block g (Array.getElem?_eq_some_iff.1 hg).1 (by omega) (fun e => hap g rfl e.symm)]
    exact hg
theorem bytes_twoE {w0 w : World} {ob : Nat} {v : Value} {xs : List (BitVec 8)} {es : List Nat} {t : Th} (h : TwoE w0 w ob v xs es) (hok : t.ok w0) (hN : t.N ≤ 1000) (hs : t.text.size ≤ 1000) :
    Calls Try.prog 11 #[.agg t.cells.toArray] w fun e w' => ∃ a c, e = .returned (.slice a t.enc.length c) ∧ Box (TwoE w0 w' ob v xs es) := by
  have h' := h
  obtain ⟨v0, h1, h2, h4, h5⟩ := h
  refine (bytes_any t w hok.hl (hok.below h4).fl hN hs).mono ?_
  rintro e w' ⟨vb, g, rfl, k1, k2⟩
  obtain ⟨a, c, rfl, _⟩ := k1.shape
  exact ⟨a, c, rfl, ⟨h'.grow k2⟩⟩
theorem app_twoE {w0 w w' : World} {ob : Nat} {v v' : Value} {xs : List (BitVec 8)} {es : List Nat} {z : Nat} (h : TwoE w0 w ob v xs es) (own2 : w'.ownsRow (ob + 1) 3 1 v' (es.length + 1) ((es ++ [z]).map I)) (gr : w.grownBy w' v.ownBlock) :
    TwoE w0 w' ob v' xs (es ++ [z]) := by
  obtain ⟨v0, h1, h2, h4, h5⟩ := h
  have hlt := h1.lt
  have hz := h4.size
  have hap := apart35 h1.2 h2
  refine ⟨v0, ⟨?_, h1.2.1, ?_⟩, by rw [List.length_append]; exact own2, ?_, h5⟩
  · rw [gr.block ob hlt (fun e => by have := h2.lt ob e.symm; omega)]; exact h1.1
  · rcases h1.2.2 with hn | ⟨g, cap, cur, e, hbg, hg, r⟩
    · exact .inl hn
    · refine .inr ⟨g, cap, cur, e, hbg, ?_, r⟩
      rw [gr.block g (Array.getElem?_eq_some_iff.1 hg).1 (fun e2 => hap g e2.symm (by rw [e]; rfl))]
      exact hg
  · exact h4.grown gr hz (fun k e => by have := h2.lt k e; omega)
end Go.Proofs.Ytkgfcddjjghohaa
