/- What tag's sum, Leaf, Message, File and Record hand back: the sums of just their bytes. -/
import Derived.Test.YtfhhlkbcoofemaaDoorTa
namespace Go.Proofs.YtfhhlkbcoofemaaDoor
open Go.RowKit
theorem shaOf_len (bs : List (BitVec 8)) : (shaOf bs).length = 32 := hsh_len _ _
theorem input_any (kind : Int) (A : Option Addr) (C lb lo : Nat) (ps : List Pt) (w : World) (hA : 0 < ps.length → A = some ⟨lb, lo, none⟩) (hL : Ls w lb lo ps) (hT : (cat ps).length ≤ 900000) (hN : ps.length ≤ 1000) :
    Calls Tryd.prog 25 #[.int .i64 kind, .slice A ps.length C] w fun e w' => ∃ sp c g, e = .returned (.slice sp (1 + (cat ps).length) c) ∧ Sl w' sp (1 + (cat ps).length) c (kb kind :: cat ps) g 0 ∧ w.heap.size ≤ g ∧ Below w.heap.size w w' := by
  refine (input_own kind A C lb lo ps w hA hL hT hN).mono ?_
  rintro e w' ⟨v, rfl, ho, hb⟩
  obtain ⟨g, sp, c, rfl, hs, hg⟩ := own_slice ho
  exact ⟨sp, c, g, rfl, hs, hg (by omega), hb⟩
set_option maxHeartbeats 400000 in
theorem tsum_any (kind : Int) (A : Option Addr) (n C lb lo : Nat) (ps : List Pt) (w : World) (hn : n = ps.length) (hA : 0 < n → A = some ⟨lb, lo, none⟩) (hL : Ls w lb lo ps) (hT : (cat ps).length ≤ 900000) (hN : n ≤ 1000) (hK : HasK w 0) (h0 : 0 < w.heap.size) :
    Calls Tryd.prog 20 #[.int .i64 kind, .slice A n C] w fun e w' => e = .returned (.agg ((shaOf (kb kind :: cat ps)).map V).toArray) ∧ Below w.heap.size w w' := by
  subst hn
  have hI : Box (∀ w1, Below w.heap.size w w1 → Calls Tryd.prog 25 #[.int .i64 kind, .slice A ps.length C] w1 fun e w' => ∃ sp c g, e = .returned (.slice sp (1 + (cat ps).length) c) ∧ Sl w' sp (1 + (cat ps).length) c (kb kind :: cat ps) g 0 ∧ w1.heap.size ≤ g ∧ Below w1.heap.size w1 w') :=
    ⟨fun w1 hb => input_any kind A C lb lo ps w1 hA (hL.below hb) hT hN⟩
  clear hA hL
  generalize ps.length = n at hI hN ⊢
  generalize hT1 : 1 + (cat ps).length = T at hI
  have hT2 : T ≤ 900001 := by omega
  clear hT1 hT
  generalize kb kind :: cat ps = ms at hI ⊢
  have hl : Box (((shaOf ms).map V).toArray.size = 32) := ⟨by simp [shaOf_len]⟩
  obtain ⟨hh, hS⟩ : ∃ hh, Box (shaOf ms = hh) := ⟨_, ⟨rfl⟩⟩
  rw [hS.out] at hl ⊢
  go_enter Tryd.func20, Tryd.ntmps20
  go_upto_region 1 with fail
  refine code_any (fun w1 => HasV w1 w.heap.size 23 (hsh St.first 0) ∧ Below w.heap.size w w1) ?_ ?_
  · exact ⟨heap_alloc_new _ _, (Below.refl _ _).alloc (Nat.le_refl _) _⟩
  rintro w1 ⟨hv1, hb1⟩
  go_wp2_with fail
  refine (hI.out w1 hb1).mono ?_
  rintro e w2 ⟨sp, c, g, rfl, hs, hg, hb2⟩
  have hv2 := hv1.below hb2 hv1.lt
  have hb3 := hb1.trans (hb2.mono hb1.size)
  have hs' : Box (Sl w2 sp T c ms g 0) := ⟨hs⟩
  have hz := hb3.size
  clear hs hv1 hb1 hb2 hI hg
  go_wp2_with fail
  refine (sum_any g 0 sp T c ms w2 hs'.out.len hs'.out.cap hs'.out.src (by omega) (hK.below hb3 h0) (by omega)).mono ?_
  rintro e w4 ⟨rfl, hb4⟩
  have hv5 : w4.heap[w.heap.size]? = some (.cells ((hsh St.first 0).map V).toArray 23 (0, 0)) := hv2.below hb4 hv2.lt
  have hb6 : Below w.heap.size w w4 := hb3.trans (hb4.mono hb3.size)
  clear hv2 hb3 hb4 hs'
  rw [hS.out]
  go_wp2_with (refine wpList_store_row rfl 23 (.tmp 4) (.tmp 8) rfl w.heap.size (hh.map V).toArray rfl rfl 23 _ hv5 (by rw [hl.out]; exact Tryd.size23) (by rw [hl.out]; rfl) (V_all _) ?_)
  refine bodyPost_ret (v := .agg (hh.map V).toArray) ?_ rfl ⟨rfl, ?_⟩
  · exact results_cell_row (P := Tryd.prog) (fn := Tryd.f20) (p := 4) (ty := 23) rfl _ _ w.heap.size 23 _ (0, 0) _ rfl (setRow_heap _ _ _ _ 23 (0, 0) hv5) Tryd.under23 rfl (by rw [hl.out]; exact Tryd.size23)
  · exact hb6.trans (below_setRow _ _ _ _ (Nat.le_refl _))
def Pt.val (p : Pt) : Value := .slice p.sp p.m p.c
/-- All of them lie in memory. -/
def Oks (w : World) (ps : List Pt) : Prop := ∀ (i : Nat) (p : Pt), ps[i]? = some p → p.ok w
theorem Oks.nil {w : World} : Oks w [] := fun i p h => by simp at h
theorem Oks.cons {w : World} {q : Pt} {ps : List Pt} (h : q.ok w) (hs : Oks w ps) : Oks w (q :: ps) := fun i p hi => by
  cases i with
  | zero => obtain rfl : q = p := by simpa using hi
            exact h
  | succ i => exact hs i p (by simpa using hi)
theorem Oks.below {w w' : World} {ps : List Pt} (h : Oks w ps) (hb : Below w.heap.size w w') : Oks w' ps := fun i p hi => Pt.ok_below (h i p hi) hb
theorem ls_new (w : World) (T : TypeId) (ps : List Pt) (h : Oks w ps) : Ls (w.alloc (.cells (ps.map Pt.val).toArray T)) w.heap.size 0 ps :=
  ⟨fun i p hi => by
    rw [World.cell?_alloc_mark, Nat.zero_add]
    simp [hi, Pt.val], h.below ((Below.refl _ _).alloc (Nat.le_refl _) _)⟩
theorem cat_one (a : Option Addr) (n c : Nat) (bs : List (BitVec 8)) (b o : Nat) : cat [⟨a, n, c, bs, b, o⟩] = bs := by simp [cat]
end Go.Proofs.YtfhhlkbcoofemaaDoor
