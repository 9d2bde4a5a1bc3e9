/- The walk of the law on telling. -/
import Derived.Test.YtkgfcddjjghohaaXa
import Derived.Test.YtkgfcddjjghohaaXb
import Derived.Test.YtkgfcddjjghohaaWy
namespace Go.Proofs.Ytkgfcddjjghohaa
open Go.RowKit
/-- The bytes of things, one behind the other. -/
def encs (ts : List Th) : List (BitVec 8) := (ts.map Th.enc).flatten
theorem encs_take (ts : List Th) (k : Nat) (t : Th) (h : ts[k]? = some t) : encs (ts.take (k + 1)) = encs (ts.take k) ++ t.enc := by
  unfold encs
  rw [List.take_add_one, h]
  simp
theorem encs_drop (ts : List Th) (k : Nat) (t : Th) (h : ts[k]? = some t) : encs (ts.drop k) = t.enc ++ encs (ts.drop (k + 1)) := by
  unfold encs
  obtain ⟨hk, e⟩ := List.getElem?_eq_some_iff.1 h
  rw [List.drop_eq_getElem_cons hk, e]
  simp
/-- May the things be gone through? -/
def Small (ts : List Th) : Prop := ts.length ≤ 40 ∧ ∀ t ∈ ts, t.text.size ≤ 300 ∧ t.N ≤ 20
theorem enc_len {w : World} {t : Th} (hok : t.ok w) (h1 : t.text.size ≤ 300) (h2 : t.N ≤ 20) : t.enc.length ≤ 700 := by
  unfold Th.enc
  have := hok.hl
  have := hok.fl.len
  split
  · rw [be8_len]; omega
  split
  · rw [List.length_append, beN_len, strB_len]; omega
  split
  · omega
  split
  · rw [List.length_append, beN_len]; omega
  split
  · simp
  · simp
theorem encs_len {w : World} {ts : List Th} (hok : ∀ t ∈ ts, t.ok w) (h : ∀ t ∈ ts, t.text.size ≤ 300 ∧ t.N ≤ 20) : (encs ts).length ≤ 700 * ts.length := by
  induction ts with
  | nil => simp [encs]
  | cons t r ih =>
    have h1 := enc_len (hok t (by simp)) (h t (by simp)).1 (h t (by simp)).2
    have h2 := ih (fun u hu => hok u (by simp [hu])) (fun u hu => h u (by simp [hu]))
    have e : encs (t :: r) = t.enc ++ encs r := by simp [encs]
    rw [e, List.length_append, List.length_cons]
    omega
theorem small_ok {ts : List Th} {w : World} (hok : ∀ (i : Nat) (t : Th), ts[i]? = some t → t.ok w) (hs : Small ts) (k : Nat) : (encs (ts.take k)).length ≤ 28000 ∧ (encs (ts.drop k)).length ≤ 28000 := by
  have hm : ∀ t ∈ ts, t.ok w := fun t ht => by
    obtain ⟨i, hi⟩ := List.mem_iff_getElem?.1 ht
    exact hok i t hi
  have a1 := encs_len (w := w) (ts := ts.take k) (fun t ht => hm t (List.mem_of_mem_take ht)) (fun t ht => hs.2 t (List.mem_of_mem_take ht))
  have a2 := encs_len (w := w) (ts := ts.drop k) (fun t ht => hm t (List.mem_of_mem_drop ht)) (fun t ht => hs.2 t (List.mem_of_mem_drop ht))
  have := hs.1
  rw [List.length_take] at a1
  rw [List.length_drop] at a2
  omega
/-- A row of the call's own that is kept. -/
theorem own_put {w w' : World} {ob base n : Nat} {v v0 v1 : Value} {xs : List Value} (h : w.ownsRow base 5 1 v n xs) (hp : Put ob v0 v1 w w') (hb : ob < base) (ha : v.ownBlock = none ∨ v0.ownBlock ≠ v.ownBlock) : w'.ownsRow base 5 1 v n xs := by
  refine ⟨h.1, ?_⟩
  rcases h.2 with hn | ⟨g, cap, cur, rfl, hbg, hg, r⟩
  · exact .inl hn
  · refine .inr ⟨g, cap, cur, rfl, hbg, ?_, r⟩
    rw [hp.block g (Array.getElem?_eq_some_iff.1 hg).1 (by omega) (fun e => by
      rcases ha with ha | ha
      · simp [Value.ownBlock] at ha
      · exact ha e.symm)]
    exact hg
theorem own_grow {w w' : World} {base n : Nat} {v : Value} {xs : List Value} (h : w.ownsRow base 5 1 v n xs) (hb : Below w.heap.size w w') : w'.ownsRow base 5 1 v n xs := by
  refine ⟨h.1, ?_⟩
  rcases h.2 with hn | ⟨g, cap, cur, rfl, hbg, hg, r⟩
  · exact .inl hn
  · exact .inr ⟨g, cap, cur, rfl, hbg, by rw [hb.block g (Array.getElem?_eq_some_iff.1 hg).1]; exact hg, r⟩
/-- The Out has xs, the slice v has ys, and they lie apart. -/
def Two (w0 w : World) (ob : Nat) (v : Value) (xs ys : List (BitVec 8)) : Prop :=
  ∃ v0, HasOut w ob v0 xs ∧ w.ownsRow (ob + 1) 5 1 v ys.length (ys.map V) ∧ (v.ownBlock = none ∨ v0.ownBlock ≠ v.ownBlock) ∧ Below w0.heap.size w0 w ∧ w0.heap.size ≤ ob
theorem Two.grow {w0 w w' : World} {ob : Nat} {v : Value} {xs ys : List (BitVec 8)} (h : Two w0 w ob v xs ys) (hb : Below w.heap.size w w') : Two w0 w' ob v xs ys := by
  obtain ⟨v0, h1, h2, h3, h4, h5⟩ := h
  have := h4.size
  exact ⟨v0, h1.below hb, own_grow h2 hb, h3, h4.trans ⟨hb.os, hb.tape, hb.output, hb.size, fun k hk => hb.block k (by omega)⟩, h5⟩
/-- put, beside a slice of the law's own. -/
theorem put_two {w0 w : World} {ob b : Nat} {v : Value} {xs ys : List (BitVec 8)} {t : Th} (h : Two w0 w ob v xs ys) (hx : xs.length ≤ 500000) (hok : t.ok w0) (hN : t.N ≤ 1000) (hs : t.text.size ≤ 1000) (ht : HasT w b t) (hb : ob < b) (hb0 : ∀ v0, HasOut w ob v0 xs → v0.ownBlock ≠ some b) :
    Calls Try.prog 10 #[.pointer (some ⟨ob, 0, none⟩), .agg t.cells.toArray] w fun e w' => e = .returned (.tuple #[]) ∧ w'.rangeAt b 0 t.cells ∧ Box (Two w0 w' ob v (xs ++ t.enc) ys) := by
  obtain ⟨v0, h1, h2, h3, h4, h5⟩ := h
  have hz := h4.size
  have hlt := h1.lt
  have hok2 := hok.below h4
  refine (put_any ob v0 xs t w h1 hx hok.hl hok2.fl (fun hn => by have := (hok.fl.src hn).2.1; omega) hN hs).mono ?_
  rintro e w' ⟨rfl, v1, k1, k2⟩
  refine ⟨rfl, (ht.keep (k2.block b ht.lt (by omega) (fun e => hb0 v0 h1 e.symm))).range, ⟨v1, k1, own_put h2 k2 (by omega) h3, ?_, ?_, h5⟩⟩
  · rcases h3 with h3 | h3
    · exact .inl h3
    · right
      rcases k2.own with e | ⟨g, e, hg⟩
      · rw [e]; exact h3
      · rw [e]
        intro e2
        have := h2.lt g e2.symm
        omega
  · exact h4.trans (k2.below h1 _ h5)
theorem bytes_two {w0 w : World} {ob : Nat} {v : Value} {xs ys : List (BitVec 8)} {t : Th} (h : Two w0 w ob v xs ys) (hok : t.ok w0) (hN : t.N ≤ 1000) (hs : t.text.size ≤ 1000) :
    Calls Try.prog 11 #[.agg t.cells.toArray] w fun e w' => ∃ vb, e = .returned vb ∧ Box (∃ g, Rv w' vb t.enc g ∧ Two w0 w' ob v xs ys) := by
  have h' := h
  obtain ⟨v0, h1, h2, h3, h4, h5⟩ := h
  refine (bytes_any t w hok.hl (hok.below h4).fl hN hs).mono ?_
  rintro e w' ⟨vb, g, rfl, k1, k2⟩
  exact ⟨vb, rfl, ⟨g, k1, h'.grow k2⟩⟩
/-- append behind the slice of the law's own. -/
theorem app_two {w0 w w' : World} {ob : Nat} {v v' : Value} {xs ys bs : List (BitVec 8)} (h : Two w0 w ob v xs ys) (own2 : w'.ownsRow (ob + 1) 5 1 v' (ys.length + bs.length) ((ys ++ bs).map V)) (gr : w.grownBy w' v.ownBlock) (hat : v'.ownBlock = v.ownBlock ∨ v'.ownBlock = some w.heap.size) :
    Two w0 w' ob v' xs (ys ++ bs) := by
  obtain ⟨v0, h1, h2, h3, h4, h5⟩ := h
  have hlt := h1.lt
  have hz := h4.size
  refine ⟨v0, ⟨?_, h1.2.1, ?_⟩, by rw [List.length_append]; exact own2, ?_, ?_, h5⟩
  · rw [gr.block ob hlt (fun e => by have := h2.lt ob e.symm; omega)]; exact h1.1
  · rcases h1.2.2 with hn | ⟨g, cap, cur, e, hbg, hg, r⟩
    · exact .inl hn
    · refine .inr ⟨g, cap, cur, e, hbg, ?_, r⟩
      rw [gr.block g (Array.getElem?_eq_some_iff.1 hg).1 (fun e2 => by
        rcases h3 with h3 | h3
        · rw [h3] at e2; cases e2
        · apply h3; rw [← e2, e]; rfl)]
      exact hg
  · rcases hat with e | e
    · rw [e]; exact h3
    · right
      rw [e]
      intro e2
      have := h1.2.lt _ e2
      omega
  · exact h4.grown gr hz (fun k e => by have := h2.lt k e; omega)
end Go.Proofs.Ytkgfcddjjghohaa
