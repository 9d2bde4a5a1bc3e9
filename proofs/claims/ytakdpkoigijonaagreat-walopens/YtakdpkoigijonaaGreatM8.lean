/- The law's wrong. The law's same. The law's changed. An In (package wire) in memory: what take, spoil, Bad and Done do. Numbers as bytes, the highest first. No program is spoken of. What number, Int, length, counted and Count do with an In. What Int, Count, Bool, length and counted do with an In. What length and counted do with an In. append, with the place of the row behind it. No program is spoken of. append of bytes, and what NewIn, Bytes and Text do. What Hash does with an In. What Hashes does with an In. An Out (package wire) in memory: what number does. What Int, Text, Hash, Hashes and Bool do with an Out. The bytes of a signature, plainly; lists of hashes as flat lists; an Out that begins. What is written is read back, and what is read was so written: numbers, hashes, signatures. The calls of an In as walks of other packages meet them. What the reference's Bytes hands back: the kind's byte, and the bytes of the parts, one behind the other. What the reference's Number hands back: a number's last bytes, the highest first; Bytes once more. What the reference's Number, Int, Count hand back. What the reference's Text and Hashes hand back. Rows of arrays, and what law and reference make of hashes. The law's and the reference's bytes of a signature: Join, and slices of arrays of the call's own. -/
import Derived.Test.YtakdpkoigijonaaGreatM7
import Derived.Test.YtakdpkoigijonaaGreatM3
import Derived.Test.YtakdpkoigijonaaGreatM1
import Derived.Test.YtakdpkoigijonaaGreatProg
import Derived.Deep.Cut
import Derived.BigRegion
import Derived.BigQuiet
import Derived.Deep.RegionWith
import Derived.Laws.BytesArg
import Derived.Laws.AppendOwnNone
import Derived.Laws.MakeOwn
import Derived.Laws.Small
import Derived.KernelRfl
import Derived.Maps.RangeWalk
import Derived.OwnWalk
import Derived.Laws.BitsAllLaws
import Derived.Test.YtakdpkoigijonaaGreatM2
import Derived.Deep.MidRow
import Derived.Deep.RegionLaw
import Derived.Deep.AppendLies
import Derived.Laws.IdiomStrings
namespace Go.Proofs.YtakdpkoigijonaaGreat
set_option maxRecDepth 100000
open Go.RowKit
/-- Up to the change k one has not z bytes, or names a sector that one ahead names. -/
def FormB (z : Nat) (l : List Cng) (k : Nat) : Prop := ∃ i c, i < k ∧ l[i]? = some c ∧ (c.bs.length ≠ z ∨ ∃ j d, j < i ∧ l[j]? = some d ∧ d.p = c.p)
def BadAt (n : Nat) (c : Cng) : Prop := c.p < 0 ∨ (homN n : Int) ≤ c.p
/-- The error of changes, as the document says. -/
def WrongIs (l : List Cng) (n z : Nat) (r : Int) : Prop := (r = 11 ∧ ∃ c ∈ l, BadAt n c) ∨ ((∀ c ∈ l, ¬ BadAt n c) ∧ ((r = 10 ∧ FormB z l l.length) ∨ (¬ FormB z l l.length ∧ ((r = 31 ∧ roomN n z < l.length) ∨ (r = 0 ∧ l.length ≤ roomN n z)))))
section
variable {Q : Exit → Act → World → Prop} {o : Oper} {a : Act} {w : World}
end
end Go.Proofs.YtakdpkoigijonaaGreat
namespace Go.Proofs.YtakdpkoigijonaaGreat
set_option maxRecDepth 100000
open Go.RowKit
theorem str_inj12 {a b : List (BitVec 8)} (h : str a = str b) : a = b := by
  have := congrArg (fun d => decide (d = str b)) h
  by_cases e : a = b
  · exact e
  · have h2 := str_dec a b
    simp [h, e] at h2
theorem fk_sameT {la lb : List (List (BitVec 8))} {ga gb Ca Cb : Nat} {w : World} (hla : la.length ≤ 1000) (hra : Rs w ga la) (hrb : Rs w gb lb) :
    Calls Tryz.prog 13 #[.slice (some ⟨ga, 0, none⟩) la.length Ca, .slice (some ⟨gb, 0, none⟩) lb.length Cb] w fun e w' => ∃ u, e = .returned u ∧ (Fk.eq (.bool (decide (la = lb)))).f u w' ∧ Below w.heap.size w w' := by
  go_enter Tryz.func13, Tryz.ntmps13
  refine code_both (fun f w1 => f.tmps.size = 26 ∧ f.defers = [] ∧ f.eval (.tmp 0) = .slice (some ⟨ga, 0, none⟩) la.length Ca ∧ f.eval (.tmp 1) = .slice (some ⟨gb, 0, none⟩) lb.length Cb ∧ Below w.heap.size w (w1)) ⟨rfl, rfl, rfl, rfl, Below.refl _ _⟩ ?_
  rintro f0 w0 ⟨sz, df, x0, x1, bl⟩
  have sd := And.intro sz df
  clear sz df
  have bl0 := bl
  refine wp_seq ?_
  refine wr_a [.eq (.bool false)] (by rw [sd.1]; kernel_rfl) ⟨fun hw ac u K => ?_, trivial⟩ ?_
  · exact st_assign (.const (.bool false)) rfl rfl
  intro f1 w1 A hb
  replace x0 := A.t x0 rfl
  replace x1 := A.t x1 rfl
  replace bl := bgo bl hb
  replace sd := A.sd sd
  clear A hb
  show Code.wp _ _ _ _ _
  refine wp_seq ?_
  refine wp_seq ?_
  by_cases hll : la.length = lb.length
  rotate_left
  · skip
    have hrv : (false : Bool) = decide (la = lb) := by symm; rw [decide_eq_false_iff_not]; exact fun e => hll (by rw [e])
    refine wr_a [.eq (.slice (some ⟨ga, 0, none⟩) la.length Ca), .eq (.int .i64 (la.length : Int)), .eq (.slice (some ⟨gb, 0, none⟩) lb.length Cb), .eq (.int .i64 (lb.length : Int)), .eq (.bool true)] (by rw [sd.1]; kernel_rfl) ⟨fun hw ac u K => ?_, fun hw ac u K => ?_, fun hw ac u K => ?_, fun hw ac u K => ?_, fun hw ac u K => ?_, trivial⟩ ?_
    · exact st_move (.tmp 0) rfl (K.t x0 rfl)
    · exact st_lens (.tmp 6) rfl (K.dep 0 6 rfl)
    · exact st_move (.tmp 1) rfl (K.t x1 rfl)
    · exact st_lens (.tmp 8) rfl (K.dep 2 8 rfl)
    · exact st_neqi 3 (.tmp 7) (.tmp 9) rfl .i64 ((la.length : Int)) ((lb.length : Int)) (K.dep 1 7 rfl) (K.dep 3 9 rfl) _ (by rw [eq_comm, decide_eq_true_iff]; omega)
    intro f2 w2 A hb
    replace x0 := A.t x0 rfl
    replace x1 := A.t x1 rfl
    have x10 := A.e 4 10 rfl rfl
    replace bl := bgo bl hb
    replace sd := A.sd sd
    clear A hb
    show Code.wp _ _ _ _ _
    refine wp_cond_true x10 ?_
    refine wp_seq ?_
    refine wr_a [.eq (.bool false)] (by rw [sd.1]; kernel_rfl) ⟨fun hw ac u K => ?_, trivial⟩ ?_
    · exact st_assign (.const (.bool false)) rfl rfl
    intro f3 w3 A hb
    replace x0 := A.t x0 rfl
    replace x1 := A.t x1 rfl
    replace x10 := A.t x10 rfl
    have x4 := A.e 0 4 rfl rfl
    replace bl := bgo bl hb
    replace sd := A.sd sd
    clear A hb
    clear x0
    clear x1
    clear x10
    show Code.wp _ _ _ _ _
    refine wp_ret ?_
    repeat (first | with_reducible refine then_ret ?_ | with_reducible refine block_ret ?_)
    exact bodyPost_ret (v := .bool false) (ret_slot rfl f3 _ x4 _ _) sd.2 ⟨_, rfl, by rw [← hrv]; rfl, bl⟩
  refine wr_a [.eq (.slice (some ⟨ga, 0, none⟩) la.length Ca), .eq (.int .i64 (la.length : Int)), .eq (.slice (some ⟨gb, 0, none⟩) lb.length Cb), .eq (.int .i64 (lb.length : Int)), .eq (.bool false)] (by rw [sd.1]; kernel_rfl) ⟨fun hw ac u K => ?_, fun hw ac u K => ?_, fun hw ac u K => ?_, fun hw ac u K => ?_, fun hw ac u K => ?_, trivial⟩ ?_
  · exact st_move (.tmp 0) rfl (K.t x0 rfl)
  · exact st_lens (.tmp 6) rfl (K.dep 0 6 rfl)
  · exact st_move (.tmp 1) rfl (K.t x1 rfl)
  · exact st_lens (.tmp 8) rfl (K.dep 2 8 rfl)
  · exact st_neqi 3 (.tmp 7) (.tmp 9) rfl .i64 ((la.length : Int)) ((lb.length : Int)) (K.dep 1 7 rfl) (K.dep 3 9 rfl) _ (by rw [eq_comm, decide_eq_false_iff_not]; omega)
  intro f2 w2 A hb
  replace x0 := A.t x0 rfl
  replace x1 := A.t x1 rfl
  have x10 := A.e 4 10 rfl rfl
  replace bl := bgo bl hb
  replace sd := A.sd sd
  clear A hb
  show Code.wp _ _ _ _ _
  refine wp_cond_false x10 ?_
  refine wp_skip ?_
  show Code.wp _ _ _ _ _
  refine wp_seq ?_
  refine wp_seq ?_
  refine wr_a [.eq (.slice (some ⟨ga, 0, none⟩) la.length Ca), .eq (.int .i64 (la.length : Int)), .eq (.int .i64 0)] (by rw [sd.1]; kernel_rfl) ⟨fun hw ac u K => ?_, fun hw ac u K => ?_, fun hw ac u K => ?_, trivial⟩ ?_
  · exact st_move (.tmp 0) rfl (K.t x0 rfl)
  · exact st_lens (.tmp 11) rfl (K.dep 0 11 rfl)
  · exact st_move (.const (.int .i64 0)) rfl rfl
  intro f3 w3 A hb
  replace x0 := A.t x0 rfl
  replace x1 := A.t x1 rfl
  replace x10 := A.t x10 rfl
  have x12 := A.e 1 12 rfl rfl
  have x13 := A.e 2 13 rfl rfl
  replace bl := bgo bl hb
  replace sd := A.sd sd
  clear A hb
  clear x10
  show Code.wp _ _ _ _ _
  refine wp_block ?_
  refine wp_loop (fun f v1 => ∃ k : Nat, k ≤ la.length ∧ la.take k = lb.take k ∧ f.tmps.size = 26 ∧ f.defers = [] ∧ f.eval (.tmp 0) = .slice (some ⟨ga, 0, none⟩) la.length Ca ∧ f.eval (.tmp 1) = .slice (some ⟨gb, 0, none⟩) lb.length Cb ∧ f.eval (.tmp 12) = .int .i64 (la.length : Int) ∧ f.eval (.tmp 13) = .int .i64 (k : Int) ∧ Below w.heap.size w (v1)) (fun f _ => la.length - (intOf (f.eval (.tmp 13))).toNat) ⟨0, Nat.zero_le _, rfl, sd.1, sd.2, x0, x1, x12, x13, bl⟩ ?_
  intro f4 w4 hI
  clear sd bl bl0 x0 x1 x12 x13
  obtain ⟨k, hk8, heq, sz, df, x0, x1, x12, x13, bl⟩ := hI
  have sd := And.intro sz df
  clear sz df
  have bl0 := bl
  have hcnt := x13
  refine wp_seq ?_
  by_cases hlt : k < la.length
  rotate_left
  · skip
    have hrv : (true : Bool) = decide (la = lb) := by symm; rw [decide_eq_true_iff]; rw [List.take_of_length_le (by omega), List.take_of_length_le (by omega)] at heq; exact heq
    refine wr_a [.eq (.bool false)] (by rw [sd.1]; kernel_rfl) ⟨fun hw ac u K => ?_, trivial⟩ ?_
    · exact st_lss 3 (.tmp 13) (.tmp 12) rfl .i64 ((k : Int)) ((la.length : Int)) (K.t x13 rfl) (K.t x12 rfl) _ (by rw [eq_comm, decide_eq_false_iff_not]; exact fun h => hlt (Int.ofNat_lt.1 h))
    intro f5 w5 A hb
    replace x0 := A.t x0 rfl
    replace x1 := A.t x1 rfl
    replace x12 := A.t x12 rfl
    replace x13 := A.t x13 rfl
    have x14 := A.e 0 14 rfl rfl
    replace bl := bgo bl hb
    replace sd := A.sd sd
    clear A hb
    show Code.wp _ _ _ _ _
    refine wp_seq ?_
    refine wp_cond_false x14 ?_
    refine wp_exit ?_
    show Code.wp _ _ _ _ _
    refine wp_seq ?_
    refine wr_a [.eq (.bool true)] (by rw [sd.1]; kernel_rfl) ⟨fun hw ac u K => ?_, trivial⟩ ?_
    · exact st_assign (.const (.bool true)) rfl rfl
    intro f6 w6 A hb
    replace x0 := A.t x0 rfl
    replace x1 := A.t x1 rfl
    replace x12 := A.t x12 rfl
    replace x13 := A.t x13 rfl
    replace x14 := A.t x14 rfl
    have x4 := A.e 0 4 rfl rfl
    replace bl := bgo bl hb
    replace sd := A.sd sd
    clear A hb
    clear x14
    show Code.wp _ _ _ _ _
    refine wp_ret ?_
    repeat (first | with_reducible refine then_ret ?_ | with_reducible refine block_ret ?_)
    exact bodyPost_ret (v := .bool true) (ret_slot rfl f6 _ x4 _ _) sd.2 ⟨_, rfl, by rw [← hrv]; rfl, bl⟩
  obtain ⟨xa, hxa⟩ : ∃ p, la[k]? = some p := ⟨_, List.getElem?_eq_getElem hlt⟩
  obtain ⟨xb, hxb⟩ : ∃ p, lb[k]? = some p := ⟨_, List.getElem?_eq_getElem (by omega)⟩
  refine wr_a [.eq (.bool true)] (by rw [sd.1]; kernel_rfl) ⟨fun hw ac u K => ?_, trivial⟩ ?_
  · exact st_lss 3 (.tmp 13) (.tmp 12) rfl .i64 ((k : Int)) ((la.length : Int)) (K.t x13 rfl) (K.t x12 rfl) _ (by rw [eq_comm, decide_eq_true_iff]; exact Int.ofNat_lt.2 hlt)
  intro f5 w5 A hb
  replace x0 := A.t x0 rfl
  replace x1 := A.t x1 rfl
  replace x12 := A.t x12 rfl
  replace x13 := A.t x13 rfl
  have x14 := A.e 0 14 rfl rfl
  replace bl := bgo bl hb
  replace sd := A.sd sd
  clear A hb
  show Code.wp _ _ _ _ _
  refine wp_seq ?_
  refine wp_cond_true x14 ?_
  refine wp_skip ?_
  show Code.wp _ _ _ _ _
  refine wp_seq ?_
  refine wp_block ?_
  refine wp_seq ?_
  refine wr_a [.eq (.int .i64 (k : Int)), .eq (.int .i64 (k : Int))] (by rw [sd.1]; kernel_rfl) ⟨fun hw ac u K => ?_, fun hw ac u K => ?_, trivial⟩ ?_
  · exact st_move (.tmp 13) rfl (K.t x13 rfl)
  · exact st_assign (.tmp 15) rfl (K.dep 0 15 rfl)
  intro f6 w6 A hb
  replace x0 := A.t x0 rfl
  replace x1 := A.t x1 rfl
  replace x12 := A.t x12 rfl
  replace x13 := A.t x13 rfl
  replace x14 := A.t x14 rfl
  have x5 := A.e 1 5 rfl rfl
  replace bl := bgo bl hb
  replace sd := A.sd sd
  clear A hb
  clear x14
  show Code.wp _ _ _ _ _
  refine wp_seq ?_
  by_cases hxe : xa = xb
  rotate_left
  · skip
    have hrv : (false : Bool) = decide (la = lb) := by symm; rw [decide_eq_false_iff_not]; exact fun e => hxe (by rw [e, hxb] at hxa; exact (Option.some.inj hxa).symm)
    refine wr_d [.eq (.slice (some ⟨ga, 0, none⟩) la.length Ca), .eq (.int .i64 (k : Int)), .eq (.pointer (some ⟨ga, k, none⟩)), .eq (.string (str xa)), .eq (.slice (some ⟨gb, 0, none⟩) lb.length Cb), .eq (.int .i64 (k : Int)), .eq (.pointer (some ⟨gb, k, none⟩)), .eq (.string (str xb)), .eq (.bool true)] Tryz.mixed (by rw [sd.1]; kernel_rfl) ⟨fun hw ac u K => ?_, fun hw ac u K => ?_, fun hw ac u K => ?_, fun hw ac u K => ?_, fun hw ac u K => ?_, fun hw ac u K => ?_, fun hw ac u K => ?_, fun hw ac u K => ?_, fun hw ac u K => ?_, trivial⟩ ?_
    · exact st_move (.tmp 0) rfl (K.t x0 rfl)
    · exact st_move (.tmp 5) rfl (K.t x5 rfl)
    · exact st_idxs (.tmp 16) (.tmp 17) rfl (K.dep 0 16 rfl) (k) (K.dep 1 17 rfl) hlt
    · exact st_loadc 9 (.tmp 18) rfl (by kernel_rfl) (K.dep 2 18 rfl) ((Rs.below hra (bgo bl K.grow)).cell hxa)
    · exact st_move (.tmp 1) rfl (K.t x1 rfl)
    · exact st_move (.tmp 5) rfl (K.t x5 rfl)
    · exact st_idxs (.tmp 20) (.tmp 21) rfl (K.dep 4 20 rfl) (k) (K.dep 5 21 rfl) (by omega)
    · exact st_loadc 9 (.tmp 22) rfl (by kernel_rfl) (K.dep 6 22 rfl) ((Rs.below hrb (bgo bl K.grow)).cell hxb)
    · exact st_nes (.tmp 19) (.tmp 23) rfl (str xa) (str xb) (K.dep 3 19 rfl) (K.dep 7 23 rfl) _ (by symm; rw [decide_eq_true_iff]; exact fun h => hxe (str_inj12 h))
    intro f7 w7 A hb
    replace x0 := A.t x0 rfl
    replace x1 := A.t x1 rfl
    replace x12 := A.t x12 rfl
    replace x13 := A.t x13 rfl
    replace x5 := A.t x5 rfl
    have x24 := A.e 8 24 rfl rfl
    replace bl := bgo bl hb
    replace sd := A.sd sd
    clear A hb
    clear x5
    show Code.wp _ _ _ _ _
    refine wp_cond_true x24 ?_
    refine wp_seq ?_
    refine wr_a [.eq (.bool false)] (by rw [sd.1]; kernel_rfl) ⟨fun hw ac u K => ?_, trivial⟩ ?_
    · exact st_assign (.const (.bool false)) rfl rfl
    intro f8 w8 A hb
    replace x0 := A.t x0 rfl
    replace x1 := A.t x1 rfl
    replace x12 := A.t x12 rfl
    replace x13 := A.t x13 rfl
    replace x24 := A.t x24 rfl
    have x4 := A.e 0 4 rfl rfl
    replace bl := bgo bl hb
    replace sd := A.sd sd
    clear A hb
    clear x24
    show Code.wp _ _ _ _ _
    refine wp_ret ?_
    repeat (first | with_reducible refine then_ret ?_ | with_reducible refine block_ret ?_)
    exact bodyPost_ret (v := .bool false) (ret_slot rfl f8 _ x4 _ _) sd.2 ⟨_, rfl, by rw [← hrv]; rfl, bl⟩
  refine wr_d [.eq (.slice (some ⟨ga, 0, none⟩) la.length Ca), .eq (.int .i64 (k : Int)), .eq (.pointer (some ⟨ga, k, none⟩)), .eq (.string (str xa)), .eq (.slice (some ⟨gb, 0, none⟩) lb.length Cb), .eq (.int .i64 (k : Int)), .eq (.pointer (some ⟨gb, k, none⟩)), .eq (.string (str xb)), .eq (.bool false)] Tryz.mixed (by rw [sd.1]; kernel_rfl) ⟨fun hw ac u K => ?_, fun hw ac u K => ?_, fun hw ac u K => ?_, fun hw ac u K => ?_, fun hw ac u K => ?_, fun hw ac u K => ?_, fun hw ac u K => ?_, fun hw ac u K => ?_, fun hw ac u K => ?_, trivial⟩ ?_
  · exact st_move (.tmp 0) rfl (K.t x0 rfl)
  · exact st_move (.tmp 5) rfl (K.t x5 rfl)
  · exact st_idxs (.tmp 16) (.tmp 17) rfl (K.dep 0 16 rfl) (k) (K.dep 1 17 rfl) hlt
  · exact st_loadc 9 (.tmp 18) rfl (by kernel_rfl) (K.dep 2 18 rfl) ((Rs.below hra (bgo bl K.grow)).cell hxa)
  · exact st_move (.tmp 1) rfl (K.t x1 rfl)
  · exact st_move (.tmp 5) rfl (K.t x5 rfl)
  · exact st_idxs (.tmp 20) (.tmp 21) rfl (K.dep 4 20 rfl) (k) (K.dep 5 21 rfl) (by omega)
  · exact st_loadc 9 (.tmp 22) rfl (by kernel_rfl) (K.dep 6 22 rfl) ((Rs.below hrb (bgo bl K.grow)).cell hxb)
  · exact st_nes (.tmp 19) (.tmp 23) rfl (str xa) (str xb) (K.dep 3 19 rfl) (K.dep 7 23 rfl) _ (by symm; rw [decide_eq_false_iff_not]; exact fun h => h (by rw [hxe]))
  intro f7 w7 A hb
  replace x0 := A.t x0 rfl
  replace x1 := A.t x1 rfl
  replace x12 := A.t x12 rfl
  replace x13 := A.t x13 rfl
  replace x5 := A.t x5 rfl
  have x24 := A.e 8 24 rfl rfl
  replace bl := bgo bl hb
  replace sd := A.sd sd
  clear A hb
  clear x5
  show Code.wp _ _ _ _ _
  refine wp_cond_false x24 ?_
  refine wp_skip ?_
  show Code.wp _ _ _ _ _
  refine wr_s [.eq (.int .i64 ((k + 1 : Nat) : Int))] (by rw [sd.1]; kernel_rfl) ⟨fun hw ac u K => ?_, trivial⟩ ?_
  · exact st_addz (.tmp 13) (.const (.int .i64 1)) rfl _ _ _ (K.t x13 rfl) rfl (by omega) (by omega) (by omega)
  intro f8 w8 A hb
  replace x0 := A.t x0 rfl
  replace x1 := A.t x1 rfl
  replace x12 := A.t x12 rfl
  replace x13 := A.t x13 rfl
  replace x24 := A.t x24 rfl
  have x25 := A.e 0 25 rfl rfl
  replace bl := bgo bl hb
  replace sd := A.sd sd
  clear A hb
  clear x24
  refine wl_one (.eq (.int .i64 ((k + 1 : Nat) : Int))) rfl 13 rfl (by rw [sd.1]; decide) (st_move (.tmp 25) rfl x25) ?_
  intro f9 w9 df2 sz2 old2 new2 hb
  replace x0 := tr old2 x0 rfl
  replace x1 := tr old2 x1 rfl
  replace x12 := tr old2 x12 rfl
  clear x13
  replace x25 := tr old2 x25 rfl
  have x13 := Fk.e new2
  replace bl := bgo bl hb
  replace sd := sd2 sz2 df2 sd
  clear df2 sz2 old2 new2 hb
  refine wpList_nil ?_
  clear x25
  show (∃ _, _) ∧ _
  refine ⟨⟨k + 1, by omega, (by rw [take_one12 hxa, take_one12 hxb, heq, hxe]), sd.1, sd.2, x0, x1, x12, x13, bl⟩, ?_⟩
  rw [show f9.eval (.tmp 13) = _ from x13, show _ = _ from hcnt]
  first | (simp [intOf]; done) | (simp [intOf]; omega)
end Go.Proofs.YtakdpkoigijonaaGreat
namespace Go.Proofs.YtakdpkoigijonaaGreat
set_option maxRecDepth 100000
open Go.RowKit
section
variable {Q : Exit → Act → World → Prop} {o : Oper} {a : Act} {w : World} {ops : Array Oper} {rest : List Oper}
end
/-- The changes, as the wal's plain words have them. -/
def prc (l : List Cng) : List (Nat × Byt) := l.map fun c => (c.p.toNat, c.bs)
theorem os_block12 {B : Nat} {l : List (List (BitVec 8))} {v : Value} {w : World} (h : (Fk.os B l).f v w) (hl : l ≠ []) : ∃ g C, v = .slice (some ⟨g, 0, none⟩) l.length C ∧ B ≤ g ∧ g < w.heap.size ∧ Rs w g l := by
  obtain ⟨h1, h2⟩ := h
  rcases h2 with ⟨_, h0⟩ | ⟨g, cap, cur, e, hB, hg, _, _, _, ht⟩
  · exact absurd (List.eq_nil_of_length_eq_zero h0) hl
  · refine ⟨g, cap, e, hB, (Array.getElem?_eq_some_iff.1 hg).1, cur, hg, fun i x hi => ?_⟩
    have e2 := congrArg (·[i]?) ht
    have hil := (List.getElem?_eq_some_iff.1 hi).1
    simp only [List.getElem?_take, if_pos (show i < l.length * 1 by omega), Array.getElem?_toList] at e2
    rw [e2]
    unfold sv
    rw [List.getElem?_map, hi]
    rfl
end Go.Proofs.YtakdpkoigijonaaGreat
namespace Go.Proofs.YtakdpkoigijonaaGreat
set_option maxRecDepth 100000
open Go.RowKit
/-- v is a slice of bytes that has the bytes bs, in block gb (or nil). -/
def Rv (w : World) (v : Value) (bs : List (BitVec 8)) (gb : Nat) : Prop :=
  (v = .slice none 0 0 ∧ bs = []) ∨ ∃ go c, v = .slice (some ⟨gb, go, none⟩) bs.length c ∧ bs.length ≤ c ∧ gb < w.heap.size ∧ HasB w gb go bs
theorem Rv.keep {w w' : World} {v : Value} {bs : List (BitVec 8)} {gb : Nat} (h : Rv w v bs gb) (hs : w.heap.size ≤ w'.heap.size) (hk : gb < w.heap.size → w'.heap[gb]? = w.heap[gb]?) : Rv w' v bs gb := by
  rcases h with h | ⟨go, c, e, hc, hl, hB⟩
  · exact .inl h
  · exact .inr ⟨go, c, e, hc, Nat.lt_of_lt_of_le hl hs, fun i hi => by rw [World.cell?_of_block (w := w) (hk hl)]; exact hB i hi⟩
theorem Rv.only {w w' : World} {v : Value} {bs : List (BitVec 8)} {gb g : Nat} (h : Rv w v bs gb) (ho : Only g w w') (hg : gb ≠ g) : Rv w' v bs gb := h.keep ho.size fun hl => ho.block gb hl hg
theorem Rv.below {w w' : World} {v : Value} {bs : List (BitVec 8)} {gb : Nat} (h : Rv w v bs gb) (ho : Below w.heap.size w w') : Rv w' v bs gb := h.keep ho.size fun hl => ho.block gb hl
/-- In block ib lies an In that has the bytes bs left. -/
def HasIn (w : World) (ib : Nat) (bs : List (BitVec 8)) (bad : Bool) (gb : Nat) : Prop :=
  ∃ v, w.heap[ib]? = some (.cells #[v, .bool bad] 123 (0, 0)) ∧ Rv w v bs gb ∧ gb ≠ ib
theorem HasIn.lt {w : World} {ib : Nat} {bs : List (BitVec 8)} {bad : Bool} {gb : Nat} (h : HasIn w ib bs bad gb) : ib < w.heap.size := by
  obtain ⟨v, hv, _⟩ := h
  exact (Array.getElem?_eq_some_iff.1 hv).1
theorem HasIn.below {w w' : World} {ib : Nat} {bs : List (BitVec 8)} {bad : Bool} {gb : Nat} (h : HasIn w ib bs bad gb) (ho : Below w.heap.size w w') : HasIn w' ib bs bad gb := by
  have hl := h.lt
  obtain ⟨v, hv, hr, hne⟩ := h
  exact ⟨v, by rw [ho.block ib hl]; exact hv, hr.below ho, hne⟩
theorem HasIn.only {w w' : World} {ib g : Nat} {bs : List (BitVec 8)} {bad : Bool} {gb : Nat} (h : HasIn w ib bs bad gb) (ho : Only g w w') (h1 : ib ≠ g) (h2 : gb ≠ g) : HasIn w' ib bs bad gb := by
  have hl := h.lt
  obtain ⟨v, hv, hr, hne⟩ := h
  exact ⟨v, by rw [ho.block ib hl h1]; exact hv, hr.only ho h2, hne⟩
theorem cell2 {w : World} {b : Nat} {x y : Value} {T : TypeId} (h : w.heap[b]? = some (.cells #[x, y] T (0, 0))) : w.cell? ⟨b, 0, none⟩ = some x ∧ w.cell? ⟨b, 1, none⟩ = some y ∧ w.frozen? ⟨b, 0, none⟩ = false ∧ w.frozen? ⟨b, 1, none⟩ = false := by
  refine ⟨?_, ?_, ?_, ?_⟩ <;> simp [World.cell?, World.frozen?, h]
theorem set2 {w : World} {b : Nat} {x y : Value} {T : TypeId} (h : w.heap[b]? = some (.cells #[x, y] T (0, 0))) (u : Value) : (w.setCell ⟨b, 0, none⟩ u).heap[b]? = some (.cells #[u, y] T (0, 0)) ∧ (w.setCell ⟨b, 1, none⟩ u).heap[b]? = some (.cells #[x, u] T (0, 0)) := by
  constructor <;> simp [World.setCell, Array.getElem?_modify, h]
set_option maxHeartbeats 400000 in
theorem spoil_any (ib gb : Nat) (bs : List (BitVec 8)) (bad : Bool) (w : World) (h : HasIn w ib bs bad gb) :
    Calls Tryz.prog 95 #[.pointer (some ⟨ib, 0, none⟩)] w fun e w' => e = .returned (.tuple #[]) ∧ HasIn w' ib [] true gb ∧ Only ib w w' := by
  obtain ⟨v, hv, hr, hne⟩ := h
  obtain ⟨c0, c1, f0, f1⟩ := cell2 hv
  have s1 := (set2 hv (.bool true)).2
  obtain ⟨d0, d1, g0, g1⟩ := cell2 s1
  have s2 := (set2 s1 (.slice none 0 0)).1
  have hb : Box (HasIn ((w.setCell ⟨ib, 1, none⟩ (.bool true)).setCell ⟨ib, 0, none⟩ (.slice none 0 0)) ib [] true gb) := ⟨⟨_, s2, .inl ⟨rfl, rfl⟩, hne⟩⟩
  clear hv s1 s2 hr
  go_enter Tryz.func95, Tryz.ntmps95
  go_wp2
  first | go_end0 | refine bodyPost_ret (results_none rfl _ _ _) rfl ?_
  exact ⟨rfl, hb.out, ((Only.refl _ _).setCell _ _).setCell _ _⟩
theorem bad_any (ib gb : Nat) (bs : List (BitVec 8)) (bad : Bool) (w : World) (h : HasIn w ib bs bad gb) :
    Calls Tryz.prog 79 #[.pointer (some ⟨ib, 0, none⟩)] w fun e w' => e = .returned (.bool bad) ∧ w' = w := by
  obtain ⟨v, hv, hr, hne⟩ := h
  obtain ⟨c0, c1, f0, f1⟩ := cell2 hv
  clear hv hr
  go_enter Tryz.func79, Tryz.ntmps79
  go_wp2
  go_ret
  exact ⟨rfl, rfl⟩
def takeB (bs : List (BitVec 8)) (n : Nat) : List (BitVec 8) := if n ≤ bs.length then bs.take n else []
def dropB (bs : List (BitVec 8)) (n : Nat) : List (BitVec 8) := if n ≤ bs.length then bs.drop n else []
def badB (bs : List (BitVec 8)) (bad : Bool) (n : Nat) : Bool := if n ≤ bs.length then bad else true
theorem Rv.shape {w : World} {v : Value} {bs : List (BitVec 8)} {gb : Nat} (h : Rv w v bs gb) : ∃ a c, v = .slice a bs.length c ∧ bs.length ≤ c := by
  rcases h with ⟨rfl, rfl⟩ | ⟨go, c, rfl, hc, _⟩
  · exact ⟨none, 0, rfl, Nat.le_refl _⟩
  · exact ⟨_, c, rfl, hc⟩
theorem take_no (bs : List (BitVec 8)) (bad : Bool) (n : Nat) (h : ¬ n ≤ bs.length) : takeB bs n = [] ∧ dropB bs n = [] ∧ badB bs bad n = true := by
  unfold takeB dropB badB
  rw [if_neg h, if_neg h, if_neg h]
  exact ⟨rfl, rfl, rfl⟩
theorem take_yes (bs : List (BitVec 8)) (bad : Bool) (n : Nat) (h : n ≤ bs.length) : takeB bs n = bs.take n ∧ dropB bs n = bs.drop n ∧ badB bs bad n = bad := by
  unfold takeB dropB badB
  rw [if_pos h, if_pos h, if_pos h]
  exact ⟨rfl, rfl, rfl⟩
set_option maxHeartbeats 400000 in
theorem take_any (ib gb n : Nat) (bs : List (BitVec 8)) (bad : Bool) (w : World) (h : HasIn w ib bs bad gb) (hn : n ≤ 4611686018427387904) (hbs : bs.length ≤ 4611686018427387904) :
    Calls Tryz.prog 105 #[.pointer (some ⟨ib, 0, none⟩), .int .i64 (n : Int)] w fun e w' => ∃ v, e = .returned v ∧ Rv w' v (takeB bs n) gb ∧ HasIn w' ib (dropB bs n) (badB bs bad n) gb ∧ Only ib w w' := by
  by_cases hle : n ≤ bs.length
  · obtain ⟨e1, e2, e3⟩ := take_yes bs bad n hle
    rw [e1, e2, e3]
    clear e1 e2 e3
    obtain ⟨v, hv, hr, hne⟩ := h
    obtain ⟨c0, c1, f0, f1⟩ := cell2 hv
    rcases hr with ⟨rfl, rfl⟩ | ⟨go, c, rfl, hc, hlt, hB⟩
    · have hn0 : n = 0 := by simpa using hle
      subst hn0
      have s1 := (set2 hv (.slice none 0 0)).1
      have hb : Box (HasIn (w.setCell ⟨ib, 0, none⟩ (.slice none 0 0)) ib [] bad gb) := ⟨⟨_, s1, .inl ⟨rfl, rfl⟩, hne⟩⟩
      clear hv s1
      go_enter Tryz.func105, Tryz.ntmps105
      go_wp2
      go_ret
      exact ⟨_, rfl, .inl ⟨rfl, rfl⟩, hb.out, (Only.refl _ _).setCell _ _⟩
    · have hdec : decide ((bs.length : Int) < n) = false := by simp; omega
      have hlen : (bs.take n).length = n := by simp; omega
      have hlen2 : (bs.drop n).length = bs.length - n := by simp
      by_cases hcn : c = n
      · subst hcn
        have s1 := (set2 hv (.slice (some ⟨gb, go, none⟩) 0 0)).1
        have ho : Only ib w (w.setCell ⟨ib, 0, none⟩ (.slice (some ⟨gb, go, none⟩) 0 0)) := (Only.refl _ _).setCell _ _
        have hr2 : Rv w (.slice (some ⟨gb, go, none⟩) 0 0) (bs.drop c) gb := .inr ⟨go, 0, by rw [hlen2, show bs.length - c = 0 by omega], by omega, hlt, by rw [show bs.drop c = [] from List.eq_nil_of_length_eq_zero (by omega)]; intro i hi; simp at hi⟩
        have hr1 : Rv w (.slice (some ⟨gb, go, none⟩) c c) (bs.take c) gb := .inr ⟨go, c, by rw [hlen], by omega, hlt, hB.take c⟩
        have hb : Box (HasIn _ ib (bs.drop c) bad gb) := ⟨⟨_, s1, hr2.only ho hne, hne⟩⟩
        have hb1 : Box (Rv _ _ _ _) := ⟨hr1.only ho hne⟩
        clear hv s1 hr1 hr2 hB
        go_enter Tryz.func105, Tryz.ntmps105
        go_wp2
        go_ret
        exact ⟨_, rfl, hb1.out, hb.out, ho⟩
      · have s1 := (set2 hv (.slice (some ⟨gb, go + n, none⟩) (bs.length - n) (c - n))).1
        have ho : Only ib w (w.setCell ⟨ib, 0, none⟩ (.slice (some ⟨gb, go + n, none⟩) (bs.length - n) (c - n))) := (Only.refl _ _).setCell _ _
        have hr2 : Rv w (.slice (some ⟨gb, go + n, none⟩) (bs.length - n) (c - n)) (bs.drop n) gb := .inr ⟨go + n, (c - n), by rw [hlen2], by omega, hlt, hB.drop n⟩
        have hr1 : Rv w (.slice (some ⟨gb, go, none⟩) n c) (bs.take n) gb := .inr ⟨go, c, by rw [hlen], by omega, hlt, hB.take n⟩
        have hb : Box (HasIn _ ib (bs.drop n) bad gb) := ⟨⟨_, s1, hr2.only ho hne, hne⟩⟩
        have hb1 : Box (Rv _ _ _ _) := ⟨hr1.only ho hne⟩
        clear hv s1 hr1 hr2 hB
        go_enter Tryz.func105, Tryz.ntmps105
        go_wp2
        go_ret
        exact ⟨_, rfl, hb1.out, hb.out, ho⟩
  · obtain ⟨e1, e2, e3⟩ := take_no bs bad n hle
    rw [e1, e2, e3]
    clear e1 e2 e3
    have hh : Box (HasIn w ib bs bad gb) := ⟨h⟩
    obtain ⟨v, hv, hr, hne⟩ := h
    obtain ⟨c0, c1, f0, f1⟩ := cell2 hv
    obtain ⟨a, c, rfl, _⟩ := hr.shape
    have hdec : decide ((bs.length : Int) < n) = true := by simp; omega
    clear hv hr
    go_enter Tryz.func105, Tryz.ntmps105
    go_wp2_with (refine (spoil_any ib gb bs bad w hh.out).mono ?_; rintro e w' ⟨rfl, h1, h2⟩)
    go_ret
    exact ⟨_, rfl, .inl ⟨rfl, rfl⟩, h1, h2⟩
end Go.Proofs.YtakdpkoigijonaaGreat
namespace Go.Proofs.YtakdpkoigijonaaGreat
set_option maxRecDepth 100000
open Go.RowKit
/-- The number that bytes are. -/
def num (bs : List (BitVec 8)) : Nat := bs.foldl (fun a x => a * 256 + x.toNat) 0
theorem num_nil : num [] = 0 := rfl
theorem num_snoc (xs : List (BitVec 8)) (x : BitVec 8) : num (xs ++ [x]) = num xs * 256 + x.toNat := by
  unfold num; rw [List.foldl_append]; rfl
theorem num_foldl (bs : List (BitVec 8)) : ∀ a, bs.foldl (fun a x => a * 256 + x.toNat) a = a * 256 ^ bs.length + num bs := by
  induction bs with
  | nil => intro a; simp [num]
  | cons x r ih =>
    intro a
    unfold num
    rw [List.foldl_cons, List.foldl_cons, ih, ih, List.length_cons, Nat.pow_succ]
    rw [Nat.add_mul, Nat.mul_assoc, Nat.mul_comm 256, Nat.add_mul, Nat.zero_mul]
    omega
theorem num_append (xs ys : List (BitVec 8)) : num (xs ++ ys) = num xs * 256 ^ ys.length + num ys := by
  unfold num; rw [List.foldl_append, num_foldl]; rfl
theorem num_lt (bs : List (BitVec 8)) : num bs < 256 ^ bs.length := by
  induction bs with
  | nil => simp [num]
  | cons x r ih =>
    have := num_append [x] r
    rw [List.singleton_append] at this
    rw [this, List.length_cons, Nat.pow_succ]
    have hx : num [x] = x.toNat := by simp [num]
    have := x.isLt
    have h2 : num [x] ≤ 255 := by omega
    have h3 : num [x] * 256 ^ r.length ≤ 255 * 256 ^ r.length := Nat.mul_le_mul_right _ h2
    omega
theorem num_take (bs : List (BitVec 8)) (k : Nat) (h : k < bs.length) : num (bs.take (k + 1)) = num (bs.take k) * 256 + (bs.getD k 0).toNat := by
  rw [List.take_add_one, List.getElem?_eq_getElem h]
  simp only [Option.toList_some]
  rw [num_snoc]
  simp [h]
theorem num_take_lt (bs : List (BitVec 8)) (k n : Nat) (h : k ≤ n) : num (bs.take k) < 256 ^ n :=
  Nat.lt_of_lt_of_le (num_lt _) (Nat.pow_le_pow_right (by omega) (by rw [List.length_take]; omega))
theorem or256 (a b : Nat) (h : b < 256) : (a * 256) ||| b = a * 256 + b := by
  have := Nat.two_pow_add_eq_or_of_lt (i := 8) h a
  rw [Nat.mul_comm a 256]; exact this.symm
/-- One more byte, as an unsigned number. -/
theorem u64_push (a : Nat) (x : BitVec 8) (h : a < 72057594037927936) : bits .or .u64 ((a : Int) * 256 % (18446744073709551616 : Int)) (bv x) = ((a * 256 + x.toNat : Nat) : Int) := by
  have hx := x.isLt
  have e : ((a : Int) * 256 % (18446744073709551616 : Int)) = ((a * 256 : Nat) : Int) := by omega
  unfold bv
  rw [e, u64_or_nat _ _ (by omega) (by omega), or256 _ _ hx]
theorem u64_push' (a : Nat) (x : BitVec 8) (h : a < 72057594037927936) : bits .or .u64 ((a : Int) * 256) (bv x) = ((a * 256 + x.toNat : Nat) : Int) := by
  have e : ((a : Int) * 256 % (18446744073709551616 : Int)) = ((a * 256 : Nat) : Int) := by omega
  rw [← u64_push a x h, e]; rfl
theorem ofInt_wrap (z : Int) : BitVec.ofInt 64 (IntKind.i64.wrap z) = BitVec.ofInt 64 z := by
  apply BitVec.eq_of_toNat_eq
  rw [BitVec.toNat_ofInt, BitVec.toNat_ofInt, IntKind.wrap_i64]
  omega
/-- One more byte, as a signed number. -/
theorem i64_push (a : Nat) (x : BitVec 8) : bits .or .i64 (IntKind.i64.wrap (IntKind.i64.wrap (a : Int) * 256)) (bv x) = IntKind.i64.wrap ((a * 256 + x.toNat : Nat) : Int) := by
  have hx := x.isLt
  have e1 : IntKind.i64.wrap (IntKind.i64.wrap (a : Int) * 256) = IntKind.i64.wrap ((a * 256 : Nat) : Int) := by
    rw [IntKind.wrap_i64, IntKind.wrap_i64, IntKind.wrap_i64]; omega
  rw [e1]
  show IntKind.i64.wrap ((BitVec.ofInt 64 (IntKind.i64.wrap ((a * 256 : Nat) : Int)) ||| BitVec.ofInt 64 (bv x)).toNat : Int) = _
  rw [ofInt_wrap, BitVec.toNat_or]
  unfold bv
  have e2 : (BitVec.ofInt 64 ((a * 256 : Nat) : Int)).toNat = (a % 72057594037927936) * 256 := by rw [BitVec.toNat_ofInt]; omega
  have e3 : (BitVec.ofInt 64 ((x.toNat : Nat) : Int)).toNat = x.toNat := by rw [BitVec.toNat_ofInt]; omega
  rw [e2, e3, or256 _ _ hx, IntKind.wrap_i64, IntKind.wrap_i64]
  omega
end Go.Proofs.YtakdpkoigijonaaGreat
namespace Go.Proofs.YtakdpkoigijonaaGreat
set_option maxRecDepth 100000
open Go.RowKit
theorem takeB_len (bs : List (BitVec 8)) (n : Nat) : (takeB bs n).length ≤ n := by unfold takeB; split <;> simp; omega
set_option maxHeartbeats 400000 in
theorem number_any (ib gb n : Nat) (bs : List (BitVec 8)) (bad : Bool) (w : World) (h : HasIn w ib bs bad gb) (hn : n ≤ 8) (hbs : bs.length ≤ 1000000) :
    Calls Tryz.prog 103 #[.pointer (some ⟨ib, 0, none⟩), .int .i64 (n : Int)] w fun e w' => e = .returned (.int .u64 (num (takeB bs n) : Int)) ∧ HasIn w' ib (dropB bs n) (badB bs bad n) gb ∧ Only ib w w' := by
  have hlen := takeB_len bs n
  have hT := take_any ib gb n bs bad w h (by omega) (by omega)
  generalize takeB bs n = tb at hT hlen ⊢
  have hT' := Box.mk hT
  clear h hT
  go_enter Tryz.func103, Tryz.ntmps103
  go_wp2_with (refine hT'.out.mono ?_; rintro e w' ⟨v, rfl, h1, h2, h3⟩; obtain ⟨a, c, hve, hc⟩ := h1.shape; subst hve; have h1' := Box.mk h1; have h2' := Box.mk h2; clear h1 h2)
  go_loopw [5, 12] (fun x i wr => ∃ k : Nat, k ≤ tb.length ∧ i = .int .i64 k ∧ x = .int .u64 (num (tb.take k) : Int) ∧ wr = w') (fun _ i _ => tb.length - (intOf i).toNat)
  case atStart => exact ⟨0, by omega, rfl, rfl, rfl⟩
  case round =>
    obtain ⟨k, hk, rfl, rfl, rfl⟩ := hrel
    by_cases hlt : k < tb.length
    · rcases h1'.out with ⟨e, rfl⟩ | ⟨go, c', e, _, hgl, hB⟩
      · simp at hlt
      · simp only [Value.slice.injEq] at e
        obtain ⟨rfl, _, rfl⟩ := e
        have c0 := hB k hlt
        have hs := num_take tb k hlt
        have hlt8 := num_take_lt tb k 7 (by omega)
        generalize tb.getD k 0 = x at c0 hs
        have hx := bv_range x
        have hp := u64_push' (num (tb.take k)) x (by omega)
        rw [← hs] at hp
        have hp' := Box.mk hp
        clear hs hB hp
        generalize num (tb.take k) = N at hp' hlt8 ⊢
        go_wp2
        go_roundw
        case rel => exact ⟨k + 1, by omega, by go_num, by rw [hp'.out], by first | rfl | trivial⟩
        case measure => simp [intOf]; omega
    · have hkn : Box (tb.take k = tb) := ⟨by rw [List.take_of_length_le (by omega)]⟩
      rw [hkn.out]
      go_wp2
      go_ret
      exact ⟨rfl, h2'.out, h3⟩
end Go.Proofs.YtakdpkoigijonaaGreat
namespace Go.Proofs.YtakdpkoigijonaaGreat
set_option maxRecDepth 100000
open Go.RowKit
theorem w64 (z : Int) : wrap64 z = IntKind.i64.wrap z := by simp only [wrap64, IntKind.wrap_i64]
/-- The number that the next eight bytes are. -/
def rdI (bs : List (BitVec 8)) : Int := IntKind.i64.wrap (num (takeB bs 8) : Int)
set_option maxHeartbeats 400000 in
theorem int_any (ib gb : Nat) (bs : List (BitVec 8)) (bad : Bool) (w : World) (h : HasIn w ib bs bad gb) (hbs : bs.length ≤ 1000000) :
    Calls Tryz.prog 94 #[.pointer (some ⟨ib, 0, none⟩)] w fun e w' => e = .returned (.int .i64 (rdI bs)) ∧ HasIn w' ib (dropB bs 8) (badB bs bad 8) gb ∧ Only ib w w' := by
  have hT := Box.mk (number_any ib gb 8 bs bad w h (by omega) hbs)
  have hr : Box (IntKind.i64.wrap (num (takeB bs 8) : Int) = rdI bs) := ⟨rfl⟩
  generalize num (takeB bs 8) = N at hT hr
  clear h
  go_enter Tryz.func94, Tryz.ntmps94
  go_wp2_with (refine hT.out.mono ?_; rintro e w' ⟨rfl, h1, h2⟩; have h1' := Box.mk h1; clear h1)
  go_ret
  refine ⟨?_, h1'.out, h2⟩
  rw [← hr.out, ← w64]
  rfl
set_option maxHeartbeats 400000 in
theorem count_any (ib gb : Nat) (bs : List (BitVec 8)) (bad : Bool) (least most : Int) (w : World) (h : HasIn w ib bs bad gb) (hbs : bs.length ≤ 1000000) :
    Calls Tryz.prog 78 #[.pointer (some ⟨ib, 0, none⟩), .int .i64 least, .int .i64 most] w fun e w' => ((least ≤ rdI bs ∧ rdI bs ≤ most) ∧ e = .returned (.int .i64 (rdI bs)) ∧ HasIn w' ib (dropB bs 8) (badB bs bad 8) gb ∨ ¬ (least ≤ rdI bs ∧ rdI bs ≤ most) ∧ e = .returned (.int .i64 0) ∧ HasIn w' ib [] true gb) ∧ Only ib w w' := by
  have hT := Box.mk (int_any ib gb bs bad w h hbs)
  generalize rdI bs = N at hT
  clear h
  by_cases q1 : N < least
  · have d1 : decide (N < least) = true := by simpa using q1
    go_enter Tryz.func78, Tryz.ntmps78
    go_wp2_with (first | (refine hT.out.mono ?_; rintro e w' ⟨rfl, h1, h2⟩; have h1' := Box.mk h1; clear h1) | (refine (spoil_any ib gb _ _ _ h1'.out).mono ?_; rintro e w2 ⟨rfl, h3, h4⟩; have h3' := Box.mk h3; clear h3))
    go_ret
    exact ⟨.inr ⟨by omega, rfl, h3'.out⟩, h2.trans h4⟩
  · by_cases q2 : most < N
    · have d1 : decide (N < least) = false := by simpa using q1
      have d2 : decide (most < N) = true := by simpa using q2
      go_enter Tryz.func78, Tryz.ntmps78
      go_wp2_with (first | (refine hT.out.mono ?_; rintro e w' ⟨rfl, h1, h2⟩; have h1' := Box.mk h1; clear h1) | (refine (spoil_any ib gb _ _ _ h1'.out).mono ?_; rintro e w2 ⟨rfl, h3, h4⟩; have h3' := Box.mk h3; clear h3))
      go_ret
      exact ⟨.inr ⟨by omega, rfl, h3'.out⟩, h2.trans h4⟩
    · have d1 : decide (N < least) = false := by simpa using q1
      have d2 : decide (most < N) = false := by simpa using q2
      go_enter Tryz.func78, Tryz.ntmps78
      go_wp2_with (first | (refine hT.out.mono ?_; rintro e w' ⟨rfl, h1, h2⟩; have h1' := Box.mk h1; clear h1) | (refine (spoil_any ib gb _ _ _ h1'.out).mono ?_; rintro e w2 ⟨rfl, h3, h4⟩; have h3' := Box.mk h3; clear h3))
      go_ret
      exact ⟨.inl ⟨by omega, rfl, h1'.out⟩, h2⟩
end Go.Proofs.YtakdpkoigijonaaGreat
namespace Go.Proofs.YtakdpkoigijonaaGreat
set_option maxRecDepth 100000
open Go.RowKit
end Go.Proofs.YtakdpkoigijonaaGreat
namespace Go.Proofs.YtakdpkoigijonaaGreat
set_option maxRecDepth 100000
open Go.RowKit
/-- The row lies where it lay, or in the next new block. -/
theorem append_whereV {P : Program} (w : World) (base : Nat) (t ty e : TypeId) (i : TypeInfo) (z : Value) (size bytes : Nat) (ht : P.underlying t = some (.slice e)) (hi : P.info? e = some i) (hz : i.zero = some z)
    (hsize : i.size = size) (hby : i.bytes = bytes)
    (v : Value) (n : Nat) (xs : List Value) (hown : w.ownsRow base e size v n xs)
    (a : Addr) (m c : Nat) (news : List Value) (hl : news.length = m * size) (hnews : ∀ j u, news[j]? = some u → w.cell? (a.add j) = some u) (h1 : ∀ u ∈ news, u.oneCell' = true)
    (h63 : n + m ≤ maxLen) (hbytes : (n + m) * bytes ≤ 140737488355328) :
    ∀ v' w', (Builtin.append_ #[t, t] ty #[v, .slice (some a) m c]).run P w = .ok v' w' → v'.ownBlock = v.ownBlock ∨ v'.ownBlock = some w.heap.size := by
  subst hsize
  subst hby
  intro v' w' hr
  have hsmall : n + m ≤ 9223372036854775807 := by simp only [maxLen] at h63; omega
  rcases hown.2 with ⟨rfl, rfl⟩ | ⟨g, cap, cur, rfl, hbg, hg, hnc, hcm, hcs, htake⟩
  · by_cases hm : m = 0
    · subst hm
      left
      have : (Builtin.append_ #[t, t] ty #[.slice none 0 0, .slice (some a) 0 c]).run P w = .ok (.slice none 0 0) w := by
        simp [Builtin.append_, run_underlying ht, sizeOf, typeInfo, hi, Builtin.lenOf, Builtin.firstCells, loadCells, loadCellsFrom]
      rw [this] at hr
      obtain ⟨rfl, _⟩ := Result.ok.inj hr
      rfl
    · right
      rw [run_append_nil (P := P) w t ty e i z ht hi hz a m c news hl hnews (by omega) (by omega) (by have hb := hbytes; simp only [Nat.zero_add] at hb; omega)] at hr
      obtain ⟨rfl, _⟩ := Result.ok.inj hr
      rfl
  · by_cases hroom : n + m ≤ cap
    · left
      rw [run_append_room (P := P) w t ty e i ht hi g n cap cur hg a m c news hl hnews h1 hroom (by rw [hl, hcs, ← Nat.add_mul]; exact Nat.mul_le_mul_right _ hroom)] at hr
      obtain ⟨rfl, _⟩ := Result.ok.inj hr
      rfl
    · right
      rw [run_append_grow (P := P) w t ty e i z ht hi hz ⟨g, 0, none⟩ n cap xs hown.1 (hown.cells (g := g) rfl) a m c news hl hnews (by omega) (by omega) (growslice_fits (by omega) hbytes)] at hr
      obtain ⟨rfl, _⟩ := Result.ok.inj hr
      rfl
/-- The bytes of a text. -/
def strB (s : ByteArray) : List (BitVec 8) := s.data.toList.map fun b => BitVec.ofNat 8 b.toNat
theorem strB_len (s : ByteArray) : (strB s).length = s.size := by unfold strB; simp
theorem strB_V (s : ByteArray) : (strB s).map V = s.data.toList.map fun b => Value.int .u8 (b.toNat : Int) := by
  unfold strB
  rw [List.map_map]
  apply List.map_congr_left
  intro b _
  have := b.toNat_lt
  simp only [Function.comp, V, bv]
  rw [BitVec.toNat_ofNat, Nat.mod_eq_of_lt (by omega)]
end Go.Proofs.YtakdpkoigijonaaGreat
namespace Go.Proofs.YtakdpkoigijonaaGreat
set_option maxRecDepth 100000
open Go.RowKit
/-- append of bytes onto a slice of the call's own. -/
theorem append22W {ops : Array Oper} {rest : List Oper} {o : Oper} {a : Act} {w : World} {Q : Exit → Act → World → Prop} (hgd : o.guard = none) (s x : Operand)
    (ho : o.op = .call { callee := .builtin .append, args := #[s, x], argTypes := #[22, 22] })
    (base : Nat) (v : Value) (n : Nat) (xs : List (BitVec 8)) (hs : a.eval s = v) (hown : w.ownsRow base 5 1 v n (xs.map V))
    (y : Value) (bs : List (BitVec 8)) (gb : Nat) (hx : a.eval x = y) (hr : Rv w y bs gb) (hb : n + bs.length ≤ 1000000) (hbase : base ≤ w.heap.size)
    (h : ∀ v' w', w'.ownsRow base 5 1 v' (n + bs.length) ((xs ++ bs).map V) → w.grownBy w' v.ownBlock → (v'.ownBlock = v.ownBlock ∨ v'.ownBlock = some w.heap.size) → wpList Tryz.prog ops Q rest (a.put o.dst v') w') : wpList Tryz.prog ops Q (o :: rest) a w := by
  obtain ⟨i0, hi, hz0, hz1, hz2⟩ := info_parts Tryz.info5
  rcases hr with ⟨rfl, rfl⟩ | ⟨go, c, rfl, hc, hlt, hB⟩
  · refine wpList_append_own_none hgd s x 22 ho base 5 i0 1 Tryz.under22 hi v n _ hs hown hx (h v w ?_ ⟨rfl, rfl, rfl, Nat.le_refl _, fun _ _ _ => rfl⟩ (.inl rfl))
    rw [List.append_nil]; exact hown
  · have hnews : ∀ (j : Nat) (u : Value), (bs.map V)[j]? = some u → w.cell? ((⟨gb, go, none⟩ : Addr).add j) = some u := by
      intro j u hj
      have := hB.src bs.length j u
      rw [List.take_of_length_le (Nat.le_refl _)] at this
      exact this hj
    obtain ⟨v', w', hr, h2, h3, _⟩ := run_append_own (P := Tryz.prog) w base 22 o.type 5 i0 (.int .u8 0) 1 1 Tryz.under22 hi hz0 hz1 hz2 rfl (by decide) v n (xs.map V) hown ⟨gb, go, none⟩ bs.length c (bs.map V) (by simp) hnews (V_one bs) (by unfold maxLen; omega) (by omega) hbase
    have h4 := append_whereV (P := Tryz.prog) w base 22 o.type 5 i0 (.int .u8 0) 1 1 Tryz.under22 hi hz0 hz1 hz2 v n (xs.map V) hown ⟨gb, go, none⟩ bs.length c (bs.map V) (by simp) hnews (V_one bs) (by unfold maxLen; omega) (by omega) v' w' hr
    refine wpList_plain hgd fun K hK => ?_
    unfold Oper.wp execOp
    simp only [ho, resolve, invoke, builtin, Sem.run_bind, Sem.run_pure, Result.andThen_ok, List.map_toArray, List.map_cons, List.map_nil, hs, hx, hr]
    rw [← List.map_append] at h2
    exact hK _ _ (h v' w' h2 h3 h4)
theorem own_rv {w : World} {base n : Nat} {v : Value} {xs : List (BitVec 8)} (h : w.ownsRow base 5 1 v n (xs.map V)) : (v = .slice none 0 0 ∧ xs = []) ∨ ∃ g, base ≤ g ∧ g < w.heap.size ∧ v.ownBlock = some g ∧ Rv w v xs g := by
  obtain ⟨hl, h⟩ := h
  have hn : n = xs.length := by simpa using hl.symm
  subst hn
  rcases h with ⟨rfl, h0⟩ | ⟨g, cap, cur, rfl, hbg, hg, hnc, _, hcs, ht⟩
  · exact .inl ⟨rfl, List.eq_nil_of_length_eq_zero h0⟩
  · have hgl := (Array.getElem?_eq_some_iff.1 hg).1
    refine .inr ⟨g, hbg, hgl, rfl, .inr ⟨0, cap, rfl, hnc, hgl, ?_⟩⟩
    intro i hi
    rw [Nat.zero_add, cell_of_row _ _ _ _ _ _ hg]
    have e2 := congrArg (·[i]?) ht
    simp [hi] at e2
    simp [e2, hi, V]
/-- The slice lies apart from what was. -/
theorem own_apart {w : World} {base n : Nat} {v : Value} {xs : List (BitVec 8)} (h : w.ownsRow base 5 1 v n (xs.map V)) (hb : base ≤ w.heap.size) : ∃ g a c, v = .slice a xs.length c ∧ base ≤ g ∧ g ≠ w.heap.size ∧ Rv w v xs g := by
  rcases own_rv h with ⟨rfl, rfl⟩ | ⟨g, h1, h2, _, h3⟩
  · exact ⟨w.heap.size + 1, none, 0, rfl, by omega, by omega, .inl ⟨rfl, rfl⟩⟩
  · obtain ⟨a, c, e, _⟩ := h3.shape
    exact ⟨g, a, c, e, h1, by omega, h3⟩
set_option maxHeartbeats 400000 in
theorem newIn_any (v : Value) (gb : Nat) (bs : List (BitVec 8)) (w : World) (hr : Rv w v bs gb) (hl : bs.length ≤ 900000) :
    Calls Tryz.prog 77 #[v] w fun e w' => ∃ ib g, e = .returned (.pointer (some ⟨ib, 0, none⟩)) ∧ w.heap.size ≤ ib ∧ w.heap.size ≤ g ∧ HasIn w' ib bs false g ∧ Below w.heap.size w w' := by
  have hr' := Box.mk hr
  obtain ⟨a, c, rfl, _⟩ := hr.shape
  clear hr
  go_enter Tryz.func77, Tryz.ntmps77
  go_wp2_with (at_builtin; refine append22W rfl _ _ rfl w.heap.size _ 0 [] rfl (World.ownsRow_nil _ _ _ _) _ bs gb rfl hr'.out (by omega) (Nat.le_refl _) ?_; intro v2 w2 own2 gr2 _; have gr2' := Box.mk gr2; obtain ⟨g, a2, c2, e2, hg1, hg2, hg3⟩ := own_apart own2 gr2.size; subst e2; have hg3' := Box.mk hg3; clear own2 gr2 hg3)
  go_ret
  have hb : Below w.heap.size w w2 := (Below.refl _ _).grown gr2'.out (Nat.le_refl _) (fun k e => by cases e)
  exact ⟨w2.heap.size, g, rfl, hb.size, hg1, ⟨_, heap_alloc_new _ _, hg3'.out.below ((Below.refl _ _).alloc (Nat.le_refl _) _), hg2⟩, hb.alloc hb.size _⟩
set_option maxHeartbeats 400000 in
theorem all_any (ob : Nat) (v : Value) (gb : Nat) (bs : List (BitVec 8)) (w : World) (ho : w.heap[ob]? = some (.cells #[v] 118 (0, 0))) (hr : Rv w v bs gb) (hl : bs.length ≤ 900000) :
    Calls Tryz.prog 93 #[.pointer (some ⟨ob, 0, none⟩)] w fun e w' => ∃ v', e = .returned v' ∧ w'.ownsRow w.heap.size 5 1 v' bs.length (bs.map V) ∧ Below w.heap.size w w' := by
  have hr' := Box.mk hr
  obtain ⟨a, c, rfl, _⟩ := hr.shape
  have c0 : w.cell? ⟨ob, 0, none⟩ = some (.slice a bs.length c) := by simp [World.cell?, ho]
  clear hr ho
  go_enter Tryz.func93, Tryz.ntmps93
  go_wp2_with (at_builtin; refine append22W rfl _ _ rfl w.heap.size _ 0 [] rfl (World.ownsRow_nil _ _ _ _) _ bs gb rfl hr'.out (by omega) (Nat.le_refl _) ?_; intro v2 w2 own2 gr2 _; have gr2' := Box.mk gr2; have own2' := Box.mk own2; clear own2 gr2)
  go_ret
  have hb : Below w.heap.size w w2 := (Below.refl _ _).grown gr2'.out (Nat.le_refl _) (fun k e => by cases e)
  refine ⟨_, rfl, ?_, hb⟩
  have := own2'.out
  rw [Nat.zero_add, List.nil_append] at this
  exact this
/-- How many come next: are they no more than most, and are they there? -/
def lenB (bs : List (BitVec 8)) (most : Int) (size : Nat) : Bool := decide ((num (takeB bs 4) : Int) ≤ most) && decide (num (takeB bs 4) ≤ (dropB bs 4).length / size)
end Go.Proofs.YtakdpkoigijonaaGreat
namespace Go.Proofs.YtakdpkoigijonaaGreat
set_option maxRecDepth 100000
open Go.RowKit
/-- In block ib lies an In that has the bytes bs left, wherever these lie. -/
def HasI (w : World) (ib : Nat) (bs : List (BitVec 8)) (bad : Bool) : Prop := ∃ gb, HasIn w ib bs bad gb
theorem HasI.lt {w : World} {ib : Nat} {bs : List (BitVec 8)} {bad : Bool} (h : HasI w ib bs bad) : ib < w.heap.size := by obtain ⟨gb, h⟩ := h; exact h.lt
theorem HasI.below {w w' : World} {ib : Nat} {bs : List (BitVec 8)} {bad : Bool} (h : HasI w ib bs bad) (ho : Below w.heap.size w w') : HasI w' ib bs bad := by obtain ⟨gb, h⟩ := h; exact ⟨gb, h.below ho⟩
theorem HasI.pick {w : World} {ib : Nat} {bs : List (BitVec 8)} {bad : Bool} (h : HasI w ib bs bad) : ∃ gb, HasIn w ib bs bad gb ∧ (gb < w.heap.size ∨ w.heap.size + 9 ≤ gb) := by
  have hl := h.lt
  obtain ⟨gb, v, hv, hr, hne⟩ := h
  rcases hr with ⟨e, e2⟩ | ⟨go, c, e, hc, hlt, hB⟩
  · exact ⟨w.heap.size + 9, ⟨v, hv, .inl ⟨e, e2⟩, by omega⟩, .inr (by omega)⟩
  · exact ⟨gb, ⟨v, hv, .inr ⟨go, c, e, hc, hlt, hB⟩, hne⟩, .inl hlt⟩
theorem HasIn.setRow {w : World} {ib gb g : Nat} {bs : List (BitVec 8)} {bad : Bool} (h : HasIn w ib bs bad gb) (cs : Array Value) (h1 : ib ≠ g) (h2 : gb ≠ g) : HasIn (w.setRow g cs) ib bs bad gb := by
  obtain ⟨v, hv, hr, hne⟩ := h
  exact ⟨v, by rw [setRow_other w g ib cs h1]; exact hv, hr.keep (by simp) (fun _ => setRow_other w g gb cs h2), hne⟩
end Go.Proofs.YtakdpkoigijonaaGreat
namespace Go.Proofs.YtakdpkoigijonaaGreat
set_option maxRecDepth 100000
open Go.RowKit
theorem Only.setCells {g : Nat} {a : World} : ∀ (vs : List Value) (o : Nat) (w : World), Only g a w → Only g a (w.setCells g o vs)
  | [], _, _, h => h
  | v :: r, o, _, h => Only.setCells r (o + 1) _ (h.setCell o v)
def hsN (bs : List (BitVec 8)) (most : Int) : Nat := if lenB bs most 32 then num (takeB bs 4) else 0
def hsD (bs : List (BitVec 8)) (most : Int) : List (BitVec 8) := if lenB bs most 32 then dropB bs 4 else []
def hsX (bs : List (BitVec 8)) (bad : Bool) (most : Int) : Bool := if lenB bs most 32 then badB bs bad 4 else true
theorem HasIn.setCells {w : World} {ib gb g : Nat} {bs : List (BitVec 8)} {bad : Bool} (h : HasIn w ib bs bad gb) (o : Nat) (vs : List Value) (h1 : ib ≠ g) (h2 : gb ≠ g) : HasIn (w.setCells g o vs) ib bs bad gb :=
  h.only (Only.setCells vs o w (Only.refl g w)) h1 h2
end Go.Proofs.YtakdpkoigijonaaGreat
namespace Go.Proofs.YtakdpkoigijonaaGreat
set_option maxRecDepth 100000
open Go.RowKit
/-- In block ob lies an Out that has the bytes xs. -/
def HasOut (w : World) (ob : Nat) (v : Value) (xs : List (BitVec 8)) : Prop :=
  w.heap[ob]? = some (.cells #[v] 118 (0, 0)) ∧ w.ownsRow (ob + 1) 5 1 v xs.length (xs.map V)
/-- w' is as w was, but for the Out, its row, and new blocks. -/
structure Put (ob : Nat) (v v' : Value) (w w' : World) : Prop where
  os : w'.os = w.os
  tape : w'.tape = w.tape
  output : w'.output = w.output
  size : w.heap.size ≤ w'.heap.size
  block : ∀ k, k < w.heap.size → k ≠ ob → some k ≠ v.ownBlock → w'.heap[k]? = w.heap[k]?
  own : v'.ownBlock = v.ownBlock ∨ ∃ g, v'.ownBlock = some g ∧ w.heap.size ≤ g
theorem Put.refl (ob : Nat) (v : Value) (w : World) : Put ob v v w w := ⟨rfl, rfl, rfl, Nat.le_refl _, fun _ _ _ _ => rfl, .inl rfl⟩
theorem Put.trans {ob : Nat} {v1 v2 v3 : Value} {w1 w2 w3 : World} (h : Put ob v1 v2 w1 w2) (k : Put ob v2 v3 w2 w3) : Put ob v1 v3 w1 w3 := by
  have hs := h.size
  refine ⟨k.os.trans h.os, k.tape.trans h.tape, k.output.trans h.output, Nat.le_trans h.size k.size, fun q hq hne hno => ?_, ?_⟩
  · rw [k.block q (by omega) hne ?_]
    · exact h.block q hq hne hno
    · rcases h.own with e | ⟨g, e, hg⟩
      · rw [e]; exact hno
      · rw [e]; intro e2; have := Option.some.inj e2; omega
  · rcases k.own with e | ⟨g, e, hg⟩
    · rw [e]; exact h.own
    · exact .inr ⟨g, e, by omega⟩
theorem HasOut.lt {w : World} {ob : Nat} {v : Value} {xs : List (BitVec 8)} (h : HasOut w ob v xs) : ob < w.heap.size := (Array.getElem?_eq_some_iff.1 h.1).1
theorem Put.below {ob : Nat} {v v' : Value} {w w' : World} {xs : List (BitVec 8)} (h : Put ob v v' w w') (ho : HasOut w ob v xs) (B : Nat) (hB : B ≤ ob) : Below B w w' := by
  have hl := ho.lt
  refine ⟨h.os, h.tape, h.output, h.size, fun k hk => h.block k (by omega) (by omega) (fun e => ?_)⟩
  have := ho.2.lt k e.symm
  omega
theorem HasOut.below {w w' : World} {ob : Nat} {v : Value} {xs : List (BitVec 8)} (h : HasOut w ob v xs) (hb : Below w.heap.size w w') : HasOut w' ob v xs := by
  refine ⟨by rw [hb.block ob h.lt]; exact h.1, h.2.1, ?_⟩
  rcases h.2.2 with hn | ⟨g, cap, cur, rfl, hb1, hgg, rest⟩
  · exact .inl hn
  · exact .inr ⟨g, cap, cur, rfl, hb1, by rw [hb.block g (Array.getElem?_eq_some_iff.1 hgg).1]; exact hgg, rest⟩
/-- One append, and its store. -/
theorem put_step {w w1 w2 : World} {ob H : Nat} {v v2 : Value} {xs bs : List (BitVec 8)} (h : HasOut w ob v xs) (hb : Below w.heap.size w w1)
    (own2 : w2.ownsRow (ob + 1) 5 1 v2 (xs.length + bs.length) ((xs ++ bs).map V)) (gr : w1.grownBy w2 v.ownBlock) (hat : v2.ownBlock = v.ownBlock ∨ v2.ownBlock = some H) (hH : w.heap.size ≤ H) :
    HasOut (w2.setCell ⟨ob, 0, none⟩ v2) ob v2 (xs ++ bs) ∧ Put ob v v2 w (w2.setCell ⟨ob, 0, none⟩ v2) := by
  have hl := h.lt
  have hs := hb.size
  have hno : some ob ≠ v.ownBlock := fun e => by have := h.2.lt ob e.symm; omega
  have e1 : w2.heap[ob]? = some (.cells #[v] 118 (0, 0)) := by
    rw [gr.block ob (by omega) hno, hb.block ob hl]; exact h.1
  refine ⟨⟨?_, ?_⟩, gr.os.trans hb.os, gr.tape.trans hb.tape, gr.output.trans hb.output, ?_, ?_, ?_⟩
  · simp [World.setCell, Array.getElem?_modify, e1]
  · rw [List.length_append]
    refine ⟨own2.1, ?_⟩
    rcases own2.2 with hn | ⟨g, cap, cur, rfl, hb1, hgg, rest⟩
    · exact .inl hn
    · exact .inr ⟨g, cap, cur, rfl, hb1, by rw [heap_setCell_other _ _ _ _ (show g ≠ ob by omega)]; exact hgg, rest⟩
  · have := gr.size
    simp
    omega
  · intro k hk hne hnk
    rw [heap_setCell_other _ _ _ _ (show k ≠ ob from hne), gr.block k (by omega) hnk, hb.block k hk]
  · rcases hat with e | e
    · exact .inl e
    · exact .inr ⟨H, e, hH⟩
/-- append of bytes onto the Out's row: what its store makes of it. -/
theorem run_out {w wr : World} {ob : Nat} {v : Value} {xs : List (BitVec 8)} (hout : HasOut wr ob v xs) (hb : Below wr.heap.size wr w) (ty : TypeId) {y : Value} {bs : List (BitVec 8)} {gb : Nat} (hr : Rv w y bs gb) (hlen : xs.length + bs.length ≤ 1000000) :
    ∃ a n c w', (Builtin.append_ #[22, 22] ty #[v, y]).run Tryz.prog w = .ok (.slice a n c) w' ∧ w'.cell? ⟨ob, 0, none⟩ = some v ∧ w'.frozen? ⟨ob, 0, none⟩ = false ∧ Box (HasOut (w'.setCell ⟨ob, 0, none⟩ (.slice a n c)) ob (.slice a n c) (xs ++ bs) ∧ Put ob v (.slice a n c) wr (w'.setCell ⟨ob, 0, none⟩ (.slice a n c))) := by
  obtain ⟨i0, hi, hz0, hz1, hz2⟩ := info_parts Tryz.info5
  have hown := (hout.below hb).2
  have hl := hout.lt
  have hs := hb.size
  have key : ∃ v' w', (Builtin.append_ #[22, 22] ty #[v, y]).run Tryz.prog w = .ok v' w' ∧ w'.ownsRow (ob + 1) 5 1 v' (xs.length + bs.length) ((xs ++ bs).map V) ∧ w.grownBy w' v.ownBlock ∧ (v'.ownBlock = v.ownBlock ∨ v'.ownBlock = some w.heap.size) := by
    rcases hr with ⟨rfl, rfl⟩ | ⟨go, c, rfl, hc, hlt, hB⟩
    · exact ⟨v, w, run_append_owned_none (P := Tryz.prog) (w := w) (ob + 1) 22 ty 5 i0 1 Tryz.under22 hi v _ _ hown, by simpa using hown, ⟨rfl, rfl, rfl, Nat.le_refl _, fun _ _ _ => rfl⟩, .inl rfl⟩
    · have hnews : ∀ (j : Nat) (u : Value), (bs.map V)[j]? = some u → w.cell? ((⟨gb, go, none⟩ : Addr).add j) = some u := by
        intro j u hj
        have := hB.src bs.length j u
        rw [List.take_of_length_le (Nat.le_refl _)] at this
        exact this hj
      obtain ⟨v', w', hr, h2, h3, _⟩ := run_append_own (P := Tryz.prog) w (ob + 1) 22 ty 5 i0 (.int .u8 0) 1 1 Tryz.under22 hi hz0 hz1 hz2 rfl (by decide) v _ (xs.map V) hown ⟨gb, go, none⟩ bs.length c (bs.map V) (by simp) hnews (V_one bs) (by unfold maxLen; omega) (by omega) (by omega)
      have h4 := append_whereV (P := Tryz.prog) w (ob + 1) 22 ty 5 i0 (.int .u8 0) 1 1 Tryz.under22 hi hz0 hz1 hz2 v _ (xs.map V) hown ⟨gb, go, none⟩ bs.length c (bs.map V) (by simp) hnews (V_one bs) (by unfold maxLen; omega) (by omega) v' w' hr
      rw [← List.map_append] at h2
      exact ⟨v', w', hr, h2, h3, h4⟩
  obtain ⟨v', w', hrun, h2, h3, h4⟩ := key
  obtain ⟨g, a, c, rfl, _⟩ := own_apart (base := 0) ⟨h2.1, by
    rcases h2.2 with h | ⟨g, cap, cur, e, _, r⟩
    · exact .inl h
    · exact .inr ⟨g, cap, cur, e, Nat.zero_le _, r⟩⟩ (Nat.zero_le _)
  have hg : w'.heap[ob]? = wr.heap[ob]? := by
    rw [h3.block ob (by omega) (fun e => by have := hout.2.lt ob e.symm; omega), hb.block ob hl]
  refine ⟨a, _, c, w', hrun, ?_, ?_, ⟨put_step hout hb h2 h3 h4 hs⟩⟩
  · rw [World.cell?_of_block (w := wr) hg]; simp [World.cell?, hout.1]
  · rw [World.frozen?_of_block (w := wr) hg]; simp [World.frozen?, hout.1]
theorem wp_out {o : Oper} {a : Act} {w wr : World} {K : Act → World → Prop} {Q : Exit → Act → World → Prop} (s x : Operand)
    (ho : o.op = .call { callee := .builtin .append, args := #[s, x], argTypes := #[22, 22] }) (ob : Nat) (v : Value) (xs : List (BitVec 8)) (hout : HasOut wr ob v xs) (hb : Below wr.heap.size wr w) (hs : a.eval s = v)
    (y : Value) (bs : List (BitVec 8)) (gb : Nat) (hx : a.eval x = y) (hr : Rv w y bs gb) (hlen : xs.length + bs.length ≤ 1000000)
    (h : ∀ a' n c w', w'.cell? ⟨ob, 0, none⟩ = some v → w'.frozen? ⟨ob, 0, none⟩ = false → Box (HasOut (w'.setCell ⟨ob, 0, none⟩ (.slice a' n c)) ob (.slice a' n c) (xs ++ bs) ∧ Put ob v (.slice a' n c) wr (w'.setCell ⟨ob, 0, none⟩ (.slice a' n c))) → K (a.put o.dst (.slice a' n c)) w') : o.wp Tryz.prog a w K Q := by
  obtain ⟨a', n, c, w', hrun, h1, h2, h3⟩ := run_out hout hb o.type hr hlen
  unfold Oper.wp execOp
  simp only [ho, resolve, invoke, builtin, Sem.run_bind, Sem.run_pure, Result.andThen_ok, List.map_toArray, List.map_cons, List.map_nil, hs, hx, hrun]
  exact h a' n c w' h1 h2 h3
theorem step_out {ops : Array Oper} {o : Oper} {a : Act} {w wr : World} {K : Act → World → Prop} {Q : Exit → Act → World → Prop} {E : Prop} (hgd : o.guard = none) (s x : Operand)
    (ho : o.op = .call { callee := .builtin .append, args := #[s, x], argTypes := #[22, 22] }) (ob : Nat) (v : Value) (xs : List (BitVec 8)) (hout : HasOut wr ob v xs) (hb : Below wr.heap.size wr w) (hs : a.eval s = v)
    (y : Value) (bs : List (BitVec 8)) (gb : Nat) (hx : a.eval x = y) (hr : Rv w y bs gb) (hlen : xs.length + bs.length ≤ 1000000)
    (h : ∀ a' n c w', w'.cell? ⟨ob, 0, none⟩ = some v → w'.frozen? ⟨ob, 0, none⟩ = false → Box (HasOut (w'.setCell ⟨ob, 0, none⟩ (.slice a' n c)) ob (.slice a' n c) (xs ++ bs) ∧ Put ob v (.slice a' n c) wr (w'.setCell ⟨ob, 0, none⟩ (.slice a' n c))) → K (a.put o.dst (.slice a' n c)) w') :
    if Region.wanted o (yielded ops a.tmps) = true then Oper.wp Tryz.prog o a w K Q else E := by
  have hw : Region.wanted o (yielded ops a.tmps) = true := by simp [Region.wanted, hgd]
  rw [if_pos hw]
  exact wp_out s x ho ob v xs hout hb hs y bs gb hx hr hlen h
/-- The lowest bytes of a number, the highest of them first. -/
def beN (N size : Nat) : List (BitVec 8) := (List.range size).map fun k => BitVec.ofNat 8 (N / 2 ^ (8 * (size - 1 - k)))
theorem beN_len (N size : Nat) : (beN N size).length = size := by simp [beN]
theorem beN_take (N size k : Nat) (h : k < size) : (beN N size).take (k + 1) = (beN N size).take k ++ [BitVec.ofNat 8 (N / 2 ^ (8 * (size - 1 - k)))] := by
  rw [List.take_add_one, List.getElem?_eq_getElem (by rw [beN_len]; exact h)]
  simp [beN]
theorem cell_new1 (w : World) (v : Value) (T : TypeId) : (w.alloc (.cells #[v] T)).cell? ⟨w.heap.size, 0, none⟩ = some v := by
  rw [cell_of_row _ _ _ _ T _ (heap_alloc_new _ _)]; rfl
theorem byte_v (N j : Nat) : Value.int .u8 (IntKind.u8.wrap ((N : Int) / 2 ^ (8 * (j : Int)).toNat)) = V (BitVec.ofNat 8 (N / 2 ^ (8 * j))) := by
  unfold V
  rw [bv_lit, IntKind.wrap_u8, show (8 * (j : Int)).toNat = 8 * j by omega]
  congr 1
theorem new_one (w : World) (N j : Nat) : Rv (w.drew.alloc (.cells #[.int .u8 (IntKind.u8.wrap ((N : Int) / 2 ^ (8 * (j : Int)).toNat))] 5)) (.slice (some ⟨w.heap.size, 0, none⟩) 1 1) [BitVec.ofNat 8 (N / 2 ^ (8 * j))] w.heap.size := by
  refine .inr ⟨0, 1, rfl, Nat.le_refl _, by simp, ?_⟩
  rw [byte_v]
  intro i hi
  obtain rfl : i = 0 := by simpa using hi
  exact cell_new1 _ _ _
theorem new_one' (w : World) (N j : Nat) : Rv (w.alloc (.cells #[.int .u8 (IntKind.u8.wrap ((N : Int) / 2 ^ (8 * (j : Int)).toNat))] 5)).drew (.slice (some ⟨w.heap.size, 0, none⟩) 1 1) [BitVec.ofNat 8 (N / 2 ^ (8 * j))] w.heap.size := new_one w N j
set_option maxHeartbeats 400000 in
theorem onumber_any (ob N size : Nat) (v0 : Value) (xs : List (BitVec 8)) (w : World) (h : HasOut w ob v0 xs) (_hN : N < 18446744073709551616) (hs : size ≤ 8) (hx : xs.length ≤ 900000) :
    Calls Tryz.prog 102 #[.pointer (some ⟨ob, 0, none⟩), .int .u64 (N : Int), .int .i64 (size : Int)] w fun e w' => e = .returned (.pointer (some ⟨ob, 0, none⟩)) ∧ ∃ v', HasOut w' ob v' (xs ++ beN N size) ∧ Put ob v0 v' w w' := by
  obtain ⟨i0, hi, hz0, hz1, hz2⟩ := info_parts Tryz.info5
  have h' := Box.mk h
  clear h
  go_enter Tryz.func102, Tryz.ntmps102
  go_wp2
  go_loopw [9] (fun i wr => ∃ k : Nat, k ≤ size ∧ i = .int .i64 k ∧ Box (∃ v, HasOut wr ob v (xs ++ (beN N size).take k) ∧ Put ob v0 v w wr)) (fun i _ => size - (intOf i).toNat)
  case atStart => exact ⟨0, by omega, rfl, ⟨v0, by simpa using h'.out, Put.refl _ _ _⟩⟩
  case round =>
    obtain ⟨k, hk, rfl, hr⟩ := hrel
    by_cases hlt : k < size
    · obtain ⟨v, ho, hp⟩ := hr.out
      have c0 : wr.cell? ⟨ob, 0, none⟩ = some v := by simp [World.cell?, ho.1]
      have f0 : wr.frozen? ⟨ob, 0, none⟩ = false := by simp [World.frozen?, ho.1]
      have hol := ho.lt
      have ho' := Box.mk ho
      have hp' := Box.mk hp
      have hxl : (xs ++ List.take k (beN N size)).length ≤ 900008 := by simp [beN_len]; omega
      clear hr ho hp h'
      obtain ⟨j, hj⟩ : ∃ j : Nat, Box (j = size - 1 - k) := ⟨_, ⟨rfl⟩⟩
      have hjj : (size : Int) - 1 - k = j := by rw [hj.out]; omega
      have hj8 : j ≤ 7 := by rw [hj.out]; omega
      have hw3 : IntKind.i64.wrap (8 * IntKind.i64.wrap (IntKind.i64.wrap ((size : Int) - 1) - k)) = ((8 * j : Nat) : Int) := by simp only [IntKind.wrap_i64]; omega
      go_wp2
      go_region_law ((refine step_out (by rfl) _ _ (by rfl) ob v _ ho'.out (by first | exact ((Below.refl _ _).alloc (Nat.le_refl _) _).drew | exact (Below.refl _ _).drew.alloc (Nat.le_refl _) _) (by rfl) _ [BitVec.ofNat 8 (N / 2 ^ (8 * j))] wr.heap.size (by rfl) (by first | exact new_one _ _ _ | exact new_one' _ _ _) (by simp; omega) ?_; intro a2 n2 c2 w1 c1 f1 hres))
      all_goals
        have hfin : Box (∃ v, HasOut (w1.setCell ⟨ob, 0, none⟩ (.slice a2 n2 c2)) ob v (xs ++ (beN N size).take (k + 1)) ∧ Put ob v0 v w (w1.setCell ⟨ob, 0, none⟩ (.slice a2 n2 c2))) := ⟨_, by rw [beN_take N size k hlt, ← List.append_assoc, ← hj.out]; exact hres.out.1, hp'.out.trans hres.out.2⟩
        clear hres c1 f1 c0 f0 ho' hp' hw3 hxl hjj
        generalize w1.setCell ⟨ob, 0, none⟩ (.slice a2 n2 c2) = w2 at *
        go_wp2
        go_roundw
        case rel => exact ⟨k + 1, by omega, by go_num, hfin⟩
        case measure => simp [intOf]; omega
    · have hkn : Box ((beN N size).take k = beN N size) := ⟨List.take_of_length_le (by rw [beN_len]; omega)⟩
      rw [hkn.out] at hr
      go_wp2
      go_ret
      exact ⟨rfl, hr.out⟩
end Go.Proofs.YtakdpkoigijonaaGreat
namespace Go.Proofs.YtakdpkoigijonaaGreat
set_option maxRecDepth 100000
open Go.RowKit
/-- A number's eight bytes. -/
def be8 (n : Int) : List (BitVec 8) := beN (n % 18446744073709551616).toNat 8
theorem be8_len (n : Int) : (be8 n).length = 8 := beN_len _ _
set_option maxHeartbeats 400000 in
theorem oint_any (ob : Nat) (n : Int) (v0 : Value) (xs : List (BitVec 8)) (w : World) (h : HasOut w ob v0 xs) (hx : xs.length ≤ 900000) :
    Calls Tryz.prog 92 #[.pointer (some ⟨ob, 0, none⟩), .int .i64 n] w fun e w' => e = .returned (.pointer (some ⟨ob, 0, none⟩)) ∧ ∃ v', HasOut w' ob v' (xs ++ be8 n) ∧ Put ob v0 v' w w' := by
  have hT := Box.mk (onumber_any ob (n % 18446744073709551616).toNat 8 v0 xs w h (by omega) (by omega) hx)
  have e1 : IntKind.u64.wrap n = (((n % 18446744073709551616).toNat : Nat) : Int) := by rw [IntKind.wrap_u64]; omega
  unfold be8
  generalize (n % 18446744073709551616).toNat = N at *
  clear h
  go_enter Tryz.func92, Tryz.ntmps92
  go_wp2_with (first | (rw [e1]; refine hT.out.mono ?_; rintro e w' ⟨rfl, h1⟩; have h1' := Box.mk h1; clear h1) | (refine hT.out.mono ?_; rintro e w' ⟨rfl, h1⟩; have h1' := Box.mk h1; clear h1))
  go_ret
  exact ⟨rfl, h1'.out⟩
theorem wpList_app {ops : Array Oper} {rest : List Oper} {o : Oper} {a : Act} {w w2 : World} {Q : Exit → Act → World → Prop} (hgd : o.guard = none) (s x : Operand) (t u : TypeId)
    (ho : o.op = .call { callee := .builtin .append, args := #[s, x], argTypes := #[t, u] }) (v y v2 : Value) (hs : a.eval s = v) (hx : a.eval x = y) (hr : (Builtin.append_ #[t, u] o.type #[v, y]).run Tryz.prog w = .ok v2 w2)
    (h : wpList Tryz.prog ops Q rest (a.put o.dst v2) w2) : wpList Tryz.prog ops Q (o :: rest) a w := by
  refine wpList_plain hgd fun K hK => ?_
  unfold Oper.wp execOp
  simp only [ho, resolve, invoke, builtin, Sem.run_bind, Sem.run_pure, Result.andThen_ok, List.map_toArray, List.map_cons, List.map_nil, hs, hx, hr]
  exact hK _ _ h
/-- A slice value that has n hashes, one behind the other. -/
structure Fl (w : World) (A : Option Addr) (lb lo n : Nat) (D : List (BitVec 8)) : Prop where
  len : D.length = 32 * n
  src : 0 < n → A = some ⟨lb, lo, none⟩ ∧ lb < w.heap.size ∧ HasB w lb lo D
theorem Fl.keep {w w' : World} {A : Option Addr} {lb lo n : Nat} {D : List (BitVec 8)} (h : Fl w A lb lo n D) (hs : w.heap.size ≤ w'.heap.size) (hk : 0 < n → w'.heap[lb]? = w.heap[lb]?) : Fl w' A lb lo n D :=
  ⟨h.len, fun hn => ⟨(h.src hn).1, Nat.lt_of_lt_of_le (h.src hn).2.1 hs, fun i hi => by rw [World.cell?_of_block (w := w) (hk hn)]; exact (h.src hn).2.2 i hi⟩⟩
theorem Fl.below {w w' : World} {A : Option Addr} {lb lo n B : Nat} {D : List (BitVec 8)} (h : Fl w A lb lo n D) (hb : Below B w w') (hB : 0 < n → lb < B) : Fl w' A lb lo n D := h.keep hb.size fun hn => hb.block lb (hB hn)
/-- Hash number k. -/
def nth (D : List (BitVec 8)) (k : Nat) : List (BitVec 8) := (D.drop (32 * k)).take 32
theorem Fl.range {w : World} {A : Option Addr} {lb lo n : Nat} {D : List (BitVec 8)} (h : Fl w A lb lo n D) (k : Nat) (hk : k < n) : w.rangeAt lb (lo + k * 32) ((nth D k).map V) := by
  intro j v hj
  have hB := ((h.src (by omega)).2.2.drop (32 * k)).take 32
  have := hB.src 32 j v
  rw [List.take_take, Nat.min_self] at this
  have h2 := this hj
  rw [Addr.add_mid] at h2
  rw [Nat.mul_comm k 32]
  exact h2
end Go.Proofs.YtakdpkoigijonaaGreat
namespace Go.Proofs.YtakdpkoigijonaaGreat
set_option maxRecDepth 100000
open Go.RowKit
theorem out_nil {w : World} {ob : Nat} (h : Ob w ob 118 [.slice none 0 0]) : HasOut w ob (.slice none 0 0) [] := ⟨h, World.ownsRow_nil _ _ _ _⟩
theorem out_rv {w : World} {ob : Nat} {v : Value} {xs : List (BitVec 8)} (h : HasOut w ob v xs) : ∃ gb, Rv w v xs gb := by
  rcases own_rv h.2 with ⟨e1, e2⟩ | ⟨g, _, _, _, hr⟩
  · exact ⟨0, .inl ⟨e1, e2⟩⟩
  · exact ⟨g, hr⟩
theorem rv_sl {w : World} {v : Value} {xs : List (BitVec 8)} {gb : Nat} (h : Rv w v xs gb) : (Fk.sl xs).f v w := by
  rcases h with ⟨rfl, rfl⟩ | ⟨go, c, rfl, hc, hl, hB⟩
  · exact ⟨none, 0, 0, 0, 0, rfl, rfl, Nat.le_refl _, fun _ => ⟨rfl, rfl⟩, fun h => absurd h (by omega)⟩
  · exact ⟨_, _, c, gb, go, rfl, rfl, hc, (fun e => by cases e), fun _ => ⟨rfl, hl, hB⟩⟩
theorem own_sl {w : World} {base n : Nat} {v : Value} {xs : List (BitVec 8)} (h : w.ownsRow base 5 1 v n (xs.map V)) : (Fk.sl xs).f v w := by
  rcases own_rv h with ⟨e1, e2⟩ | ⟨g, _, _, _, hr⟩
  · exact rv_sl (gb := 0) (.inl ⟨e1, e2⟩)
  · exact rv_sl hr
theorem sl_rv {w : World} {v : Value} {xs : List (BitVec 8)} (h : (Fk.sl xs).f v w) : (∃ gb, Rv w v xs gb) ∨ ∃ sp c, v = .slice sp 0 c ∧ xs = [] := by
  obtain ⟨sp, m, c, b, o, rfl, hs⟩ := h
  have hl := hs.len
  subst hl
  rcases Nat.eq_zero_or_pos xs.length with h0 | h0
  · exact .inr ⟨sp, c, by rw [h0], List.length_eq_zero_iff.1 h0⟩
  · obtain ⟨e, hlt, hB⟩ := hs.src h0
    exact .inl ⟨b, .inr ⟨o, c, by rw [e], hs.cap, hlt, hB⟩⟩
/-- The bytes of hashes, of a signature. -/
def hsb (hs : List (List (BitVec 8))) : List (BitVec 8) := beN hs.length 4 ++ hs.flatten
end Go.Proofs.YtakdpkoigijonaaGreat
namespace Go.Proofs.YtakdpkoigijonaaGreat
set_option maxRecDepth 100000
open Go.RowKit
theorem beN_succ (N s : Nat) : beN N (s + 1) = BitVec.ofNat 8 (N / 2 ^ (8 * s)) :: beN N s := by
  unfold beN
  rw [List.range_succ_eq_map, List.map_cons, List.map_map]
  congr 1
  apply List.map_congr_left
  intro k hk
  have hk2 : k < s := by simpa using hk
  simp only [Function.comp]
  rw [show s + 1 - 1 - (k + 1) = s - 1 - k by omega]
theorem num_cons (x : BitVec 8) (r : List (BitVec 8)) : num (x :: r) = x.toNat * 256 ^ r.length + num r := by
  have := num_append [x] r
  rw [List.singleton_append] at this
  rw [this]; simp [num]
theorem num_beN (N s : Nat) : num (beN N s) = N % 256 ^ s := by
  induction s with
  | zero => rw [show (beN N 0) = [] from rfl, num_nil, Nat.pow_zero, Nat.mod_one]
  | succ s ih =>
    rw [beN_succ, num_cons, ih, beN_len, BitVec.toNat_ofNat, show (2 : Nat) ^ (8 * s) = 256 ^ s by rw [Nat.pow_mul], show N % 256 ^ (s + 1) = _ from Nat.mod_pow_succ]
    rw [Nat.mul_comm (256 ^ s) (N / 256 ^ s % 256), Nat.add_comm]
theorem takeB_app (xs ys : List (BitVec 8)) (n : Nat) (h : xs.length = n) : takeB (xs ++ ys) n = xs := by
  unfold takeB; rw [if_pos (by simp; omega), List.take_left' h]
theorem dropB_app (xs ys : List (BitVec 8)) (n : Nat) (h : xs.length = n) : dropB (xs ++ ys) n = ys := by
  unfold dropB; rw [if_pos (by simp; omega), List.drop_left' h]
theorem badB_app (xs ys : List (BitVec 8)) (n : Nat) (h : xs.length = n) (bad : Bool) : badB (xs ++ ys) bad n = bad := by
  unfold badB; rw [if_pos (by simp; omega)]
theorem rdI_be8 (n : Int) (r : List (BitVec 8)) (h1 : -9223372036854775808 ≤ n) (h2 : n ≤ 9223372036854775807) : rdI (be8 n ++ r) = n := by
  unfold rdI
  rw [takeB_app _ _ 8 (be8_len n)]
  unfold be8
  rw [num_beN, IntKind.wrap_i64]
  omega
theorem beN_num : ∀ (xs : List (BitVec 8)), beN (num xs) xs.length = xs
  | [] => rfl
  | x :: r => by
    rw [List.length_cons, beN_succ]
    have h1 := num_cons x r
    have h2 := num_lt r
    have h3 : (2 : Nat) ^ (8 * r.length) = 256 ^ r.length := by rw [Nat.pow_mul]
    have hp : 0 < 256 ^ r.length := Nat.pow_pos (by omega)
    congr 1
    · rw [h3, h1, Nat.mul_comm, Nat.mul_add_div hp, Nat.div_eq_of_lt h2, Nat.add_zero]
      simp
    · have e : beN (num (x :: r)) r.length = beN (num r) r.length := by
        unfold beN
        apply List.map_congr_left
        intro k hk
        have hk2 : k < r.length := by simpa using hk
        rw [h1]
        apply BitVec.eq_of_toNat_eq
        rw [BitVec.toNat_ofNat, BitVec.toNat_ofNat]
        have e1 : (2 : Nat) ^ (8 * (r.length - 1 - k)) = 256 ^ (r.length - 1 - k) := by rw [Nat.pow_mul]
        have e2 : (256 : Nat) ^ r.length = 256 ^ (r.length - 1 - k) * (256 * 256 ^ k) := by
          rw [← Nat.pow_succ', ← Nat.pow_add]
          congr 1
          omega
        have hq : 0 < 256 ^ (r.length - 1 - k) := Nat.pow_pos (by omega)
        rw [e1, e2, show x.toNat * (256 ^ (r.length - 1 - k) * (256 * 256 ^ k)) = 256 ^ (r.length - 1 - k) * (256 * (256 ^ k * x.toNat)) by ac_rfl, Nat.mul_add_div hq, Nat.mul_add_mod]
      rw [e]
      exact beN_num r
theorem be8_rdI (bs : List (BitVec 8)) (h : 8 ≤ bs.length) : be8 (rdI bs) = bs.take 8 := by
  have e : takeB bs 8 = bs.take 8 := by unfold takeB; rw [if_pos h]
  have hl : (bs.take 8).length = 8 := by simp; omega
  have h1 := num_lt (bs.take 8)
  have h2 := beN_num (bs.take 8)
  rw [hl] at h1 h2
  unfold be8 rdI
  rw [e, IntKind.wrap_i64]
  rw [show (((num (bs.take 8) : Int) + 9223372036854775808) % 18446744073709551616 - 9223372036854775808) % 18446744073709551616 = (num (bs.take 8) : Int) by omega, Int.toNat_natCast]
  exact h2
/-- Count: what it tells, what is left, whether it is bad. -/
def cV (l m : Int) (bs : List (BitVec 8)) : Int := if l ≤ rdI bs ∧ rdI bs ≤ m then rdI bs else 0
def cR (l m : Int) (bs : List (BitVec 8)) : List (BitVec 8) := if l ≤ rdI bs ∧ rdI bs ≤ m then dropB bs 8 else []
def cX (l m : Int) (bs : List (BitVec 8)) (bad : Bool) : Bool := if l ≤ rdI bs ∧ rdI bs ≤ m then badB bs bad 8 else true
theorem cR_len (l m : Int) (bs : List (BitVec 8)) : (cR l m bs).length ≤ bs.length := by
  unfold cR dropB
  split
  · split <;> simp
  · simp
theorem cX_false {l m : Int} {bs : List (BitVec 8)} {bad : Bool} (h : cX l m bs bad = false) : bad = false ∧ 8 ≤ bs.length ∧ l ≤ cV l m bs ∧ cV l m bs ≤ m ∧ bs = be8 (cV l m bs) ++ cR l m bs := by
  unfold cX at h
  by_cases h1 : l ≤ rdI bs ∧ rdI bs ≤ m
  · rw [if_pos h1] at h
    unfold badB at h
    by_cases h2 : 8 ≤ bs.length
    · rw [if_pos h2] at h
      unfold cV cR
      rw [if_pos h1, if_pos h1]
      refine ⟨h, h2, h1.1, h1.2, ?_⟩
      rw [be8_rdI bs h2]
      unfold dropB
      rw [if_pos h2, List.take_append_drop]
    · rw [if_neg h2] at h; cases h
  · rw [if_neg h1] at h; cases h
theorem c_be8 (l m n : Int) (r : List (BitVec 8)) (h1 : l ≤ n) (h2 : n ≤ m) (hl : -9223372036854775808 ≤ l) (hm : m ≤ 9223372036854775807) : cV l m (be8 n ++ r) = n ∧ cR l m (be8 n ++ r) = r ∧ cX l m (be8 n ++ r) false = false := by
  have e := rdI_be8 n r (by omega) (by omega)
  unfold cV cR cX
  rw [e, if_pos ⟨h1, h2⟩, if_pos ⟨h1, h2⟩, if_pos ⟨h1, h2⟩, dropB_app _ _ 8 (be8_len n), badB_app _ _ 8 (be8_len n)]
  exact ⟨rfl, rfl, rfl⟩
/-- What is left, step by step. -/
def b1 (bs : List (BitVec 8)) := cR 1 2 bs
def b2 (bs : List (BitVec 8)) := cR 0 255 (b1 bs)
def b3 (bs : List (BitVec 8)) := (hsD (b2 bs) (512 : Nat)).drop (32 * hsN (b2 bs) (512 : Nat))
def b4 (bs : List (BitVec 8)) := (hsD (b3 bs) (8 : Nat)).drop (32 * hsN (b3 bs) (8 : Nat))
def t1 (bs : List (BitVec 8)) := cX 1 2 bs false
def t2 (bs : List (BitVec 8)) := cX 0 255 (b1 bs) (t1 bs)
def t3 (bs : List (BitVec 8)) := hsX (b2 bs) (t2 bs) (512 : Nat)
def t4 (bs : List (BitVec 8)) := hsX (b3 bs) (t3 bs) (8 : Nat)
end Go.Proofs.YtakdpkoigijonaaGreat
namespace Go.Proofs.YtakdpkoigijonaaGreat
set_option maxRecDepth 100000
open Go.RowKit
theorem run_app_empty (w : World) (sp : Option Addr) (c : Nat) (ty : TypeId) : (Builtin.append_ #[22, 22] ty #[.slice none 0 0, .slice sp 0 c]).run Tryz.prog w = .ok (.slice none 0 0) w := by
  obtain ⟨i0, hi, hz0, hz1, hz2⟩ := info_parts Tryz.info5
  cases sp <;> simp [Builtin.append_, run_underlying Tryz.under22, sizeOf, typeInfo, hi, Builtin.lenOf, Builtin.firstCells, loadCells, loadCellsFrom]
set_option maxHeartbeats 400000 in
theorem newIn_e (sp : Option Addr) (c : Nat) (w : World) :
    Calls Tryz.prog 77 #[.slice sp 0 c] w fun e w' => ∃ ib g, e = .returned (.pointer (some ⟨ib, 0, none⟩)) ∧ w.heap.size ≤ ib ∧ w.heap.size ≤ g ∧ HasIn w' ib [] false g ∧ Below w.heap.size w w' := by
  have hr := Box.mk (run_app_empty w sp c 22)
  go_enter Tryz.func77, Tryz.ntmps77
  go_wp2_with (at_builtin; refine wpList_app rfl _ _ 22 22 rfl (.slice none 0 0) (.slice sp 0 c) (.slice none 0 0) rfl rfl hr.out ?_)
  go_ret
  exact ⟨w.heap.size, w.heap.size + 1, rfl, Nat.le_refl _, by omega, ⟨_, heap_alloc_new _ _, .inl ⟨rfl, rfl⟩, by omega⟩, (Below.refl _ _).alloc (Nat.le_refl _) _⟩
theorem in_new {bs : List (BitVec 8)} {v : Value} {w : World} (h : (Fk.sl bs).f v w) (hl : bs.length ≤ 900000) :
    Calls Tryz.prog 77 #[v] w fun e w' => ∃ u, e = .returned u ∧ ∃ ib, u = .pointer (some ⟨ib, 0, none⟩) ∧ w.heap.size ≤ ib ∧ HasI w' ib bs false ∧ Below w.heap.size w w' := by
  rcases sl_rv h with ⟨gb, hr⟩ | ⟨sp, c, rfl, rfl⟩
  · refine (newIn_any v gb bs w hr hl).mono ?_
    rintro e w' ⟨ib, g, rfl, h1, _, h3, h4⟩
    exact ⟨_, rfl, ib, rfl, h1, ⟨g, h3⟩, h4⟩
  · refine (newIn_e sp c w).mono ?_
    rintro e w' ⟨ib, g, rfl, h1, _, h3, h4⟩
    exact ⟨_, rfl, ib, rfl, h1, ⟨g, h3⟩, h4⟩
theorem in_count {ib : Nat} {bs : List (BitVec 8)} {bad : Bool} (l m : Int) (w : World) (h : HasI w ib bs bad) (hbs : bs.length ≤ 1000000) :
    Calls Tryz.prog 78 #[.pointer (some ⟨ib, 0, none⟩), .int .i64 l, .int .i64 m] w fun e w' => ∃ u, e = .returned u ∧ u = .int .i64 (cV l m bs) ∧ HasI w' ib (cR l m bs) (cX l m bs bad) ∧ Only ib w w' := by
  obtain ⟨gb, h⟩ := h
  refine (count_any ib gb bs bad l m w h hbs).mono ?_
  rintro e w' ⟨⟨h1, rfl, h2⟩ | ⟨h1, rfl, h2⟩, ho⟩
  · unfold cV cR cX
    rw [if_pos h1, if_pos h1, if_pos h1]
    exact ⟨_, rfl, rfl, ⟨gb, h2⟩, ho⟩
  · unfold cV cR cX
    rw [if_neg h1, if_neg h1, if_neg h1]
    exact ⟨_, rfl, rfl, ⟨gb, h2⟩, ho⟩
/-- The In stays as it is when a struct without bytes is written. -/
theorem HasI.setc {w : World} {ib g : Nat} {bs : List (BitVec 8)} {bad : Bool} {T : TypeId} {cs : List Value} (h : HasI w ib bs bad) (m : Ob w g T cs) (hc : ∀ (j : Nat) (x : Int), cs[j]? ≠ some (.int .u8 x)) (hne : ib ≠ g) (i : Nat) (v : Value) : HasI (w.setCell ⟨g, i, none⟩ v) ib bs bad := by
  obtain ⟨gb, h⟩ := h
  have ho : Only g w (w.setCell ⟨g, i, none⟩ v) := (Only.refl g w).setCell i v
  by_cases e : gb = g
  · subst e
    have hl := h.lt
    obtain ⟨u, hv, hr, hn⟩ := h
    refine ⟨gb, u, by rw [ho.block ib hl hne]; exact hv, ?_, hn⟩
    rcases hr with hr | ⟨go, c, e, hc', hl2, hB⟩
    · exact .inl hr
    · rcases Nat.eq_zero_or_pos bs.length with h0 | h0
      · exact .inr ⟨go, c, e, hc', Nat.lt_of_lt_of_le hl2 ho.size, fun j hj => absurd hj (by omega)⟩
      · exfalso
        have h1 := hB 0 h0
        rcases Nat.lt_or_ge (go + 0) cs.length with h2 | h2
        · have h3 := m.cell (go + 0) (List.getElem?_eq_getElem h2)
          rw [h1] at h3
          exact hc (go + 0) _ (by rw [List.getElem?_eq_getElem h2]; exact h3.symm)
        · have h3 : w.cell? ⟨gb, go + 0, none⟩ = none := by
            unfold Ob at m
            simp only [World.cell?, m]
            simp; omega
          rw [h3] at h1
          cases h1
  · exact ⟨gb, h.only ho hne e⟩
end Go.Proofs.YtakdpkoigijonaaGreat
namespace Go.Proofs.YtakdpkoigijonaaGreat
set_option maxRecDepth 100000
open Go.RowKit
end Go.Proofs.YtakdpkoigijonaaGreat
namespace Go.Proofs.YtakdpkoigijonaaGreat
set_option maxRecDepth 100000
open Go.RowKit
/-- The bytes from place r on are set. -/
def nlist (s : Nat) (n : Int) (r : Nat) : List (BitVec 8) := (List.range s).map fun p => if r ≤ p then kb (n / 256 ^ (s - 1 - p)) else 0
theorem nlist_len (s : Nat) (n : Int) (r : Nat) : (nlist s n r).length = s := by simp [nlist]
theorem nlist_start (s : Nat) (n : Int) : nlist s n s = zs s := by
  apply List.ext_getElem
  · simp [nlist, zs]
  · intro i h1 h2
    have : i < s := by simpa [nlist] using h1
    simp [nlist, zs]; omega
theorem nlist_step (s : Nat) (n : Int) (r : Nat) (h : r < s) : (nlist s n (r + 1)).set r (kb (n / 256 ^ (s - (r + 1)))) = nlist s n r := by
  apply List.ext_getElem
  · simp [nlist]
  · intro i h1 h2
    have : i < s := by simpa [nlist] using h2
    rw [List.getElem_set]
    by_cases e : r = i
    · subst e
      simp [nlist, show s - (r + 1) = s - 1 - r by omega]
    · rw [if_neg e]
      simp only [nlist, List.getElem_map, List.getElem_range]
      by_cases h3 : r + 1 ≤ i
      · rw [if_pos h3, if_pos (by omega)]
      · rw [if_neg h3, if_neg (by omega)]
theorem Tryz.makes (c : Nat) (hc : c ≤ 1000000) (w : World) : (Instr.makeSlice 22 (.int .i64 (c : Int)) (.int .i64 (c : Int))).run Tryz.prog w = .ok (.slice (some ⟨w.heap.size, 0, none⟩) c c) (w.alloc (.cells ((zs c).map V).toArray 5)) := by
  obtain ⟨i0, hi, hz0, hz1, hz2⟩ := info_parts Tryz.info5
  have := run_make (P := Tryz.prog) w 22 5 i0 (.int .u8 0) Tryz.under22 hi hz0 .i64 .i64 (c : Int) (c : Int) (by omega) (by omega) (by rw [hz2]; omega) (by omega)
  rw [hz1, Int.toNat_natCast, Nat.mul_one, made_eq] at this
  exact this
theorem div_step (n : Int) (k : Nat) : n / 256 ^ k / 256 = n / 256 ^ (k + 1) := by
  rw [Int.ediv_ediv_of_nonneg (Int.pow_nonneg (by omega)), Int.pow_succ]
attribute [local go_sem] kb_v
set_option maxHeartbeats 400000 in
theorem number_raw (n : Int) (s : Nat) (hs : s ≤ 100) (w : World) :
    Calls Tryz.prog 48 #[.int .i64 n, .int .i64 (s : Int)] w fun e w' => e = .returned (.slice (some ⟨w.heap.size, 0, none⟩) s s) ∧ HasV w' w.heap.size 5 (nlist s n 0) ∧ Below w.heap.size w w' := by
  have hmk := Tryz.makes s (by omega)
  go_enter Tryz.func48, Tryz.ntmps48
  go_upto_region 2 with fail
  clear hmk
  refine code_any (fun w1 => HasV w1 w.heap.size 5 (nlist s n s) ∧ Below w.heap.size w w1) ?_ ?_
  · exact ⟨by rw [nlist_start]; exact heap_alloc_new _ _, (Below.refl _ _).alloc (Nat.le_refl _) _⟩
  rintro w1 ⟨hv1, hb1⟩
  go_wp2
  go_loopw [0, 6] (fun m i wr => ∃ r : Nat, r ≤ s ∧ i = .int .i64 ((r : Int) - 1) ∧ (∃ z : Int, m = .int .i64 z ∧ Box (z = n / 256 ^ (s - r))) ∧ HasV wr w.heap.size 5 (nlist s n r) ∧ Below w.heap.size w wr) (fun _ i _ => (intOf i + 1).toNat)
  case atStart => exact ⟨s, Nat.le_refl _, by go_num, ⟨n, rfl, ⟨by simp⟩⟩, hv1, hb1⟩
  case round =>
    clear hv1 hb1
    obtain ⟨r, hr, rfl, ⟨z, rfl, hz⟩, hv, hb⟩ := hrel
    cases r with
    | zero =>
      go_wp2
      go_ret
      exact ⟨rfl, hv, hb⟩
    | succ r =>
      have e1 : ((r + 1 : Nat) : Int) - 1 = (r : Int) := by omega
      rw [e1]
      have HR : Box (HasV (wr.setCell ⟨w.heap.size, r, none⟩ (.int .u8 (bv (kb z)))) w.heap.size 5 (nlist s n r)) := ⟨by
        have := hv.set r (kb (n / 256 ^ (s - (r + 1))))
        rw [nlist_step s n r (by omega), ← hz.out] at this
        exact this⟩
      have hz2 : Box (z / 256 = n / 256 ^ (s - r)) := ⟨by rw [hz.out, div_step, show s - (r + 1) + 1 = s - r by omega]⟩
      have c0 := hv.cell r (by rw [nlist_len]; omega)
      have f0 := hv.frozen r
      generalize (nlist s n (r + 1)).getD r 0 = y0 at c0
      clear hv hz
      go_wp2
      go_roundw
      case rel => exact ⟨r, by omega, by go_num, ⟨_, rfl, hz2⟩, HR.out, hb.setCell (by simp) _⟩
      case measure => first | (simp [intOf]; done) | (simp [intOf]; omega)
theorem sl_of_HasV {w : World} {g n : Nat} {xs : List (BitVec 8)} (h : HasV w g 5 xs) (hn : n = xs.length) : Sl w (some ⟨g, 0, none⟩) n n xs g 0 :=
  ⟨hn, Nat.le_refl _, fun h => by (cases h), fun _ => ⟨rfl, h.lt, h.bytes⟩⟩
end Go.Proofs.YtakdpkoigijonaaGreat
namespace Go.Proofs.YtakdpkoigijonaaGreat
set_option maxRecDepth 100000
open Go.RowKit
theorem kb_natW (n : Int) (j : Nat) (h : j ≤ 7) : kb (n / 256 ^ j) = BitVec.ofNat 8 ((n % 18446744073709551616).toNat / 2 ^ (8 * j)) := by
  apply BitVec.eq_of_toNat_eq
  unfold kb
  rw [BitVec.toNat_ofInt, BitVec.toNat_ofNat]
  have : j = 0 ∨ j = 1 ∨ j = 2 ∨ j = 3 ∨ j = 4 ∨ j = 5 ∨ j = 6 ∨ j = 7 := by omega
  rcases this with rfl | rfl | rfl | rfl | rfl | rfl | rfl | rfl <;> simp <;> omega
theorem nlist_beN (s : Nat) (n : Int) (h : s ≤ 8) : nlist s n 0 = beN (n % 18446744073709551616).toNat s := by
  unfold nlist beN
  apply List.map_congr_left
  intro p hp
  have : p < s := by simpa using hp
  rw [if_pos (Nat.zero_le _), kb_natW _ _ (by omega)]
attribute [local go_sem] kb_v
set_option maxHeartbeats 400000 in
theorem refInt_any (n : Int) (w : World) :
    Calls Tryz.prog 33 #[.int .i64 n] w fun e w' => e = .returned (.slice (some ⟨w.heap.size, 0, none⟩) 8 8) ∧ HasV w' w.heap.size 5 (be8 n) ∧ Below w.heap.size w w' := by
  have hT := Box.mk (number_raw n 8 (by omega) w)
  rw [nlist_beN 8 n (by omega)] at hT
  go_enter Tryz.func33, Tryz.ntmps33
  go_wp2_with (refine hT.out.mono ?_; rintro e w' ⟨rfl, h1, h2⟩; have h1' := Box.mk h1; clear h1)
  go_ret
  exact ⟨rfl, h1'.out, h2⟩
theorem own_of_HasVW {w : World} {g base : Nat} {xs : List (BitVec 8)} (h : HasV w g 5 xs) (hm : xs.length ≤ maxLen) (hb : base ≤ g) : w.ownsRow base 5 1 (.slice (some ⟨g, 0, none⟩) xs.length xs.length) xs.length (xs.map V) :=
  ⟨by simp, .inr ⟨g, xs.length, (xs.map V).toArray, rfl, hb, h, Nat.le_refl _, hm, by simp, by rw [Nat.mul_one]; exact List.take_of_length_le (by simp)⟩⟩
end Go.Proofs.YtakdpkoigijonaaGreat
namespace Go.Proofs.YtakdpkoigijonaaGreat
set_option maxRecDepth 100000
open Go.RowKit
theorem str_bytes (s : ByteArray) (w : World) : ∃ c w', (convert 9 22 (.string s)).run Tryz.prog w = .ok (.slice (some ⟨w.heap.size, 0, none⟩) s.size c) w' ∧ Rv w' (.slice (some ⟨w.heap.size, 0, none⟩) s.size c) (strB s) w.heap.size ∧ Below w.heap.size w w' := by
  refine ⟨_, _, run_bytes_of_string (P := Tryz.prog) w 9 22 5 s Tryz.under9 Tryz.under22 Tryz.under5, ?_, ?_⟩
  · refine .inr ⟨0, _, by rw [strB_len], ?_, by simp, ?_⟩
    · rw [strB_len]; exact grownCap_ge w s.size 0 5
    · intro i hi
      rw [Nat.zero_add]
      have hs : i < s.data.size := by rw [strB_len] at hi; exact hi
      have hb : (bytesRow s (grownCap w s.size 0 5))[i]? = some (V ((strB s).getD i 0)) := by
        have h1 : (bytesRow s (grownCap w s.size 0 5))[i]? = (s.data.map fun b => Value.int .u8 (b.toNat : Int))[i]? := by
          unfold bytesRow
          rw [Array.getElem?_append_left (by simpa using hs)]
        rw [h1]
        have h2 := congrArg (·[i]?) (strB_V s)
        simp only [List.getElem?_map] at h2
        simp only [Array.getElem?_map]
        rw [← Array.getElem?_toList, ← h2]
        simp [hi]
      have hn := heap_alloc_new w.drew (.cells (bytesRow s (grownCap w s.size 0 5)) 5 ((bytesRow s (grownCap w s.size 0 5)).size, (bytesRow s (grownCap w s.size 0 5)).size + 1))
      simp only [World.cell?]
      rw [show w.heap.size = w.drew.heap.size from rfl, hn]
      simpa [V] using hb
  · exact ((Below.refl _ _).drew.alloc (Nat.le_refl _) _)
end Go.Proofs.YtakdpkoigijonaaGreat
namespace Go.Proofs.YtakdpkoigijonaaGreat
set_option maxRecDepth 100000
open Go.RowKit
theorem range_of {w : World} {g o : Nat} {xs : List (BitVec 8)} (h : HasB w g o xs) : w.rangeAt g o (xs.map V) := by
  intro j v hj
  have := h.src xs.length j v
  rw [List.take_of_length_le (Nat.le_refl _)] at this
  have h2 := this hj
  rw [Addr.add_mid] at h2
  exact h2
end Go.Proofs.YtakdpkoigijonaaGreat
namespace Go.Proofs.YtakdpkoigijonaaGreat
set_option maxRecDepth 100000
open Go.RowKit
section
variable {Q : Exit → Act → World → Prop} {o : Oper} {a : Act} {w : World} {ops : Array Oper} {rest : List Oper}
end
theorem join_own (A : Option Addr) (C lb lo : Nat) (ps : List Pt) (w : World) (hA : 0 < ps.length → A = some ⟨lb, lo, none⟩) (hL : Ls w lb lo ps) (hT : (cat ps).length ≤ 900000) (hN : ps.length ≤ 1000) :
    Calls Tryz.prog 32 #[.slice A ps.length C] w fun e w' => ∃ v, e = .returned v ∧ w'.ownsRow w.heap.size 5 1 v (cat ps).length ((cat ps).map V) ∧ Below w.heap.size w w' := by
  have hL' : Box (Ls w lb lo ps) := ⟨hL⟩
  have hA' : Box (0 < ps.length → A = some ⟨lb, lo, none⟩) := ⟨hA⟩
  obtain ⟨n, hn⟩ : ∃ n, Box (n = ps.length) := ⟨_, ⟨rfl⟩⟩
  have hown0 : Box (Own8 w w.heap.size (.slice none 0 0) (cat (ps.take 0)).length (cat (ps.take 0))) := ⟨World.ownsRow_nil _ _ _ _⟩
  rw [← hn.out] at hN ⊢
  clear hL hA
  go_enter Tryz.func32, Tryz.ntmps32
  go_wp2
  go_loopw [3, 4] (fun v i wr => ∃ k : Nat, k ≤ n ∧ i = .int .i64 k ∧ Box (Own8 wr w.heap.size v (cat (ps.take k)).length (cat (ps.take k))) ∧ Below w.heap.size w wr) (fun _ i _ => n - (intOf i).toNat)
  case atStart => exact ⟨0, by omega, rfl, hown0, Below.refl _ _⟩
  case round =>
    clear hown0
    obtain ⟨k, hk, rfl, hown, hb⟩ := hrel
    by_cases hlt : k < n
    · obtain ⟨p, hp⟩ : ∃ p, ps[k]? = some p := ⟨_, List.getElem?_eq_getElem (by rw [← hn.out]; exact hlt)⟩
      obtain rfl : A = some ⟨lb, lo, none⟩ := hA'.out (by rw [← hn.out]; omega)
      have hc : wr.cell? ⟨lb, lo + k, none⟩ = some (.slice p.sp p.m p.c) := by rw [hb.cell (hL'.out.lt hp)]; exact hL'.out.cell k p hp
      have hok : Box (p.ok wr) := ⟨Pt.ok_below (hL'.out.ok k p hp) hb⟩
      have hl : Box ((cat (ps.take k)).length + p.m = (cat (ps.take (k + 1))).length) := ⟨by rw [cat_take ps k p hp, List.length_append, ← Sl.len (hL'.out.ok k p hp)]⟩
      have hx : Box (cat (ps.take k) ++ p.bs = cat (ps.take (k + 1))) := ⟨by rw [cat_take ps k p hp]⟩
      have hle := cat_le ps (k + 1)
      have hsum : (cat (ps.take k)).length + p.m ≤ 900001 := by rw [hl.out]; omega
      have hz := hb.size
      clear hle
      go_wp2_with (at_builtin; refine append22 rfl (.tmp 11) (.tmp 15) rfl w.heap.size _ _ _ rfl hown.out p.sp p.m p.c p.bs p.b p.o rfl hok.out (by omega) hz ?_; intro v2 w2 own2 gr2)
      have hb2 : Below w.heap.size w w2 := hb.grown gr2 hz (fun k e => (World.ownsRow.lt hown.out k e).1)
      rw [hl.out, hx.out] at own2
      have own2' : Box (Own8 w2 w.heap.size v2 (cat (ps.take (k + 1))).length (cat (ps.take (k + 1)))) := ⟨own2⟩
      clear own2 gr2 hown hb hsum
      go_wp2
      go_roundw
      case rel => first | exact ⟨k + 1, by omega, by go_num, own2', hb2⟩ | exact ⟨_, _, _, ⟨k + 1, by omega, by go_num, own2', hb2⟩, rfl, rfl, rfl⟩
      case measure => simp [intOf]; omega
    · have hkn : Box (ps.take k = ps) := ⟨by rw [List.take_of_length_le (by rw [← hn.out]; omega)]⟩
      rw [hkn.out] at hown
      go_wp2
      go_ret
      exact ⟨_, rfl, hown.out, hb⟩
theorem fk_refInt (n : Int) (w : World) : Calls Tryz.prog 33 #[.int .i64 n] w fun e w' => ∃ u, e = .returned u ∧ (Fk.sl (be8 n)).f u w' ∧ Below w.heap.size w w' := by
  refine (refInt_any n w).mono ?_
  rintro e w' ⟨rfl, h1, h2⟩
  exact ⟨_, rfl, ⟨_, _, _, _, _, rfl, sl_of_HasV h1 (be8_len n).symm⟩, h2⟩
end Go.Proofs.YtakdpkoigijonaaGreat
