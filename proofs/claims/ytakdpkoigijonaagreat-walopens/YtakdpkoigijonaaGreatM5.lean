/- Contracts: command, Arm; rounds over the cache. Contracts: settle. Contracts: Flush, Write. -/
import Derived.Test.YtakdpkoigijonaaGreatM4
import Derived.Test.YtakdpkoigijonaaGreatM2
namespace Go.Proofs.YtakdpkoigijonaaGreat
set_option maxRecDepth 100000
open Go.RowKit
theorem Dk.strct {w w' : World} {g sb cb C : Nat} {pl pl' : Int} {vs : Array Value} {l : List (Int × Value)} {M D : Nat → Prop} {s s' : Dst} (r : Dk w g sb cb C pl vs l M D s) (O : Only g w w') (h1 : s'.has = s.has) (h2 : s'.cch = s.cch) (h3 : s'.size = s.size)
    (m : Ob w' g 51 [.int .i64 (s.size : Int), .slice (some ⟨sb, 0, none⟩) s.has.length C, .map (some cb), .int .i64 pl', .bool s'.down, .int .i64 (s'.done : Int)]) (hp : Pl s' pl') : Dk w' g sb cb C pl' vs l M D s' := by
  obtain ⟨has, cch, size, left, done, armed, down⟩ := s
  obtain ⟨has', cch', size', left', done', armed', down'⟩ := s'
  dsimp only at *
  subst h1 h2 h3
  have hk : ∀ j, D j ∧ ¬ M j → j < w.heap.size → w'.heap[j]? = w.heap[j]? := fun j q h => O.block j h (fun e => q.2 (by rw [e]; exact r.mg))
  refine ⟨r.hM, r.n1, r.n2, r.n3, r.sub, fun j q => Nat.lt_of_lt_of_le (r.lt j q) O.size, m, by rw [O.block sb (r.lt _ (r.sub _ r.ms)) r.n1.symm]; exact r.row, r.im.keep (O.block cb (r.lt _ (r.sub _ r.mc)) r.n2.symm), hp, r.pos, r.zmax, r.nmax, r.cl, fun i bs q => ?_, fun k v q => ?_, r.cch⟩
  · obtain ⟨q1, v, q2, q3⟩ := r.sec i bs q
    exact ⟨q1, v, q2, q3.keep hk O.size (fun _ q _ => q)⟩
  · obtain ⟨i, bs, q1, q2, q3, q4, q5⟩ := r.key k v q
    exact ⟨i, bs, q1, q2, q3, q4, q5.keep hk O.size (fun _ q _ => q)⟩
theorem Fr.only {S : Nat → Prop} {b : Nat} {w w1 w2 : World} (h : Fr S w w1) (O : Only b w1 w2) (hb : S b ∨ w.heap.size ≤ b) : Fr S w w2 := ⟨O.os.trans h.os, O.tape.trans h.tape, O.output.trans h.output, Nat.le_trans h.size O.size, fun j hj h1 => (O.block j (Nat.lt_of_lt_of_le hj h.size) (fun e => by subst e; rcases hb with hb | hb; exact h1 hb; omega)).trans (h.block j hj h1)⟩
theorem cm_out {w : World} {gd d : Nat} {dn : Bool} {u1 u2 u3 : Value} (m0 : Ob w gd 51 [u1, u2, u3, .int .i64 0, .bool dn, .int .i64 (d : Int)])  :
    Calls Tryz.prog 72 #[.pointer (some ⟨gd, 0, none⟩)] w fun e w' => e = .returned (.int .i64 30) ∧ Ob w' gd 51 [u1, u2, u3, .int .i64 0, .bool true, .int .i64 (d : Int)] ∧ Only gd w w' := by
  go_enter Tryz.func72, Tryz.ntmps72
  refine code_both (fun f w1 => f.tmps.size = 18 ∧ f.defers = [] ∧ f.eval (.tmp 0) = .pointer (some ⟨gd, 0, none⟩) ∧ Ob w1 (gd) 51 ([u1, u2, u3, .int .i64 0, .bool dn, .int .i64 (d : Int)]) ∧ Only gd w (w1)) ⟨rfl, rfl, rfl, m0, Only.refl _ _⟩ ?_
  clear m0
  rintro f0 w0 ⟨sz, df, x0, m0, bl⟩
  have sd := And.intro sz df
  clear sz df
  have bl0 := bl
  refine wp_seq ?_
  refine wr_a [.eq (.int .i64 0)] (by rw [sd.1]; kernel_rfl) ⟨fun hw ac u K => ?_, trivial⟩ ?_
  · exact st_assign (.const (.int .i64 0)) rfl rfl
  intro f1 w1 A hb
  replace x0 := A.t x0 rfl
  replace m0 := Ob.below m0 hb
  replace bl := (only_below bl (Below.mono hb bl.size))
  replace sd := A.sd sd
  clear A hb
  show Code.wp _ _ _ _ _
  refine wp_seq ?_
  refine wr_s [.eq (.pointer (some ⟨gd, 0, none⟩)), .eq (.pointer (some ⟨gd, 0, none⟩)), .eq (.pointer (some ⟨gd, 3, none⟩))] (by rw [sd.1]; kernel_rfl) ⟨fun hw ac u K => ?_, fun hw ac u K => ?_, fun hw ac u K => ?_, trivial⟩ ?_
  · exact st_move (.tmp 0) rfl (K.t x0 rfl)
  · exact st_nil (.tmp 4) rfl (K.dep 0 4 rfl)
  · exact st_field 51 3 (.tmp 5) rfl (K.dep 1 5 rfl) (by kernel_rfl)
  intro f2 w2 A hb
  replace x0 := A.t x0 rfl
  have x6 := A.e 2 6 rfl rfl
  replace m0 := Ob.below m0 hb
  replace bl := (only_below bl (Below.mono hb bl.size))
  replace sd := A.sd sd
  clear A hb
  refine wl_call 91 (.func 91) _ _ #[.pointer (some ⟨gd, 3, none⟩)] rfl 7 rfl (by rw [sd.1]; decide) rfl rfl (one_arg x6) Tryz.enter91 (fun u W' => u = .int .i64 30 ∧ Ob W' gd 51 [u1, u2, u3, .int .i64 0, .bool true, .int .i64 (d : Int)] ∧ Only gd w2 W') ((use_out m0).mono (by rintro e w' ⟨rfl, q1, q2⟩; exact ⟨_, rfl, rfl, q1, q2⟩)) ?_
  rintro f3 w3 df2 sz2 old2 ⟨x7, m02, O⟩
  replace x0 := tr old2 x0 rfl
  replace x6 := tr old2 x6 rfl
  replace m0 := m02
  replace bl := bl.trans O
  replace bl0 := bl
  replace sd := sd2 sz2 df2 sd
  clear df2 sz2 old2 m02 O
  clear x6
  refine wl_one (.eq (.int .i64 30)) rfl 3 rfl (by rw [sd.1]; decide) (st_assign (.tmp 7) rfl x7) ?_
  intro f4 w4 df2 sz2 old2 new2 hb
  replace x0 := tr old2 x0 rfl
  replace x7 := tr old2 x7 rfl
  have x3 := Fk.e new2
  replace m0 := Ob.below m0 hb
  replace bl := (only_below bl (Below.mono hb bl.size))
  replace sd := sd2 sz2 df2 sd
  clear df2 sz2 old2 new2 hb
  refine wpList_nil ?_
  clear x7
  show Code.wp _ _ _ _ _
  refine wp_seq ?_
  refine wp_seq ?_
  refine wr_a [.eq (.int .i64 30), .eq (.bool false)] (by rw [sd.1]; kernel_rfl) ⟨fun hw ac u K => ?_, fun hw ac u K => ?_, trivial⟩ ?_
  · exact st_move (.tmp 3) rfl (K.t x3 rfl)
  · exact st_eqi 27 (.tmp 8) (.const (.int .i64 0)) rfl .i64 (30) (0) (K.dep 0 8 rfl) rfl _ (by rfl)
  intro f5 w5 A hb
  replace x0 := A.t x0 rfl
  replace x3 := A.t x3 rfl
  have x9 := A.e 1 9 rfl rfl
  replace m0 := Ob.below m0 hb
  replace bl := (only_below bl (Below.mono hb bl.size))
  replace sd := A.sd sd
  clear A hb
  show Code.wp _ _ _ _ _
  refine wp_cond_false x9 ?_
  refine wp_skip ?_
  show Code.wp _ _ _ _ _
  refine wp_seq ?_
  refine wr_a [.eq (.int .i64 30), .eq (.int .i64 30)] (by rw [sd.1]; kernel_rfl) ⟨fun hw ac u K => ?_, fun hw ac u K => ?_, trivial⟩ ?_
  · exact st_move (.tmp 3) rfl (K.t x3 rfl)
  · exact st_assign (.tmp 17) rfl (K.dep 0 17 rfl)
  intro f6 w6 A hb
  replace x0 := A.t x0 rfl
  replace x3 := A.t x3 rfl
  replace x9 := A.t x9 rfl
  have x2 := A.e 1 2 rfl rfl
  replace m0 := Ob.below m0 hb
  replace bl := (only_below bl (Below.mono hb bl.size))
  replace sd := A.sd sd
  clear A hb
  clear x0
  clear x3
  clear x9
  show Code.wp _ _ _ _ _
  refine wp_ret ?_
  repeat (first | with_reducible refine then_ret ?_ | with_reducible refine block_ret ?_)
  exact bodyPost_ret (v := .int .i64 30) (ret_slot rfl f6 _ x2 _ _) sd.2 ⟨rfl, m0, bl⟩
theorem cm_free {w : World} {gd d : Nat} {pl : Int} {dn : Bool} {u1 u2 u3 : Value} (m0 : Ob w gd 51 [u1, u2, u3, .int .i64 (pl), .bool dn, .int .i64 (d : Int)]) (h : pl < 0) (hd : d ≤ 1000000) :
    Calls Tryz.prog 72 #[.pointer (some ⟨gd, 0, none⟩)] w fun e w' => e = .returned (.int .i64 0) ∧ Ob w' gd 51 [u1, u2, u3, .int .i64 (pl), .bool dn, .int .i64 ((d + 1 : Nat) : Int)] ∧ Only gd w w' := by
  go_enter Tryz.func72, Tryz.ntmps72
  refine code_both (fun f w1 => f.tmps.size = 18 ∧ f.defers = [] ∧ f.eval (.tmp 0) = .pointer (some ⟨gd, 0, none⟩) ∧ Ob w1 (gd) 51 ([u1, u2, u3, .int .i64 (pl), .bool dn, .int .i64 (d : Int)]) ∧ Only gd w (w1)) ⟨rfl, rfl, rfl, m0, Only.refl _ _⟩ ?_
  clear m0
  rintro f0 w0 ⟨sz, df, x0, m0, bl⟩
  have sd := And.intro sz df
  clear sz df
  have bl0 := bl
  refine wp_seq ?_
  refine wr_a [.eq (.int .i64 0)] (by rw [sd.1]; kernel_rfl) ⟨fun hw ac u K => ?_, trivial⟩ ?_
  · exact st_assign (.const (.int .i64 0)) rfl rfl
  intro f1 w1 A hb
  replace x0 := A.t x0 rfl
  replace m0 := Ob.below m0 hb
  replace bl := (only_below bl (Below.mono hb bl.size))
  replace sd := A.sd sd
  clear A hb
  show Code.wp _ _ _ _ _
  refine wp_seq ?_
  refine wr_s [.eq (.pointer (some ⟨gd, 0, none⟩)), .eq (.pointer (some ⟨gd, 0, none⟩)), .eq (.pointer (some ⟨gd, 3, none⟩))] (by rw [sd.1]; kernel_rfl) ⟨fun hw ac u K => ?_, fun hw ac u K => ?_, fun hw ac u K => ?_, trivial⟩ ?_
  · exact st_move (.tmp 0) rfl (K.t x0 rfl)
  · exact st_nil (.tmp 4) rfl (K.dep 0 4 rfl)
  · exact st_field 51 3 (.tmp 5) rfl (K.dep 1 5 rfl) (by kernel_rfl)
  intro f2 w2 A hb
  replace x0 := A.t x0 rfl
  have x6 := A.e 2 6 rfl rfl
  replace m0 := Ob.below m0 hb
  replace bl := (only_below bl (Below.mono hb bl.size))
  replace sd := A.sd sd
  clear A hb
  refine wl_call 91 (.func 91) _ _ #[.pointer (some ⟨gd, 3, none⟩)] rfl 7 rfl (by rw [sd.1]; decide) rfl rfl (one_arg x6) Tryz.enter91 (fun u W' => u = .int .i64 0 ∧ Ob W' gd 51 [u1, u2, u3, .int .i64 (pl), .bool dn, .int .i64 (d : Int)] ∧ Only gd w2 W') ((use_free m0 h).mono (by rintro e w' ⟨rfl, q1, q2⟩; exact ⟨_, rfl, rfl, q1, q2⟩)) ?_
  rintro f3 w3 df2 sz2 old2 ⟨x7, m02, O⟩
  replace x0 := tr old2 x0 rfl
  replace x6 := tr old2 x6 rfl
  replace m0 := m02
  replace bl := bl.trans O
  replace bl0 := bl
  replace sd := sd2 sz2 df2 sd
  clear df2 sz2 old2 m02 O
  clear x6
  refine wl_one (.eq (.int .i64 0)) rfl 3 rfl (by rw [sd.1]; decide) (st_assign (.tmp 7) rfl x7) ?_
  intro f4 w4 df2 sz2 old2 new2 hb
  replace x0 := tr old2 x0 rfl
  replace x7 := tr old2 x7 rfl
  have x3 := Fk.e new2
  replace m0 := Ob.below m0 hb
  replace bl := (only_below bl (Below.mono hb bl.size))
  replace sd := sd2 sz2 df2 sd
  clear df2 sz2 old2 new2 hb
  refine wpList_nil ?_
  clear x7
  show Code.wp _ _ _ _ _
  refine wp_seq ?_
  refine wp_seq ?_
  refine wr_a [.eq (.int .i64 0), .eq (.bool true)] (by rw [sd.1]; kernel_rfl) ⟨fun hw ac u K => ?_, fun hw ac u K => ?_, trivial⟩ ?_
  · exact st_move (.tmp 3) rfl (K.t x3 rfl)
  · exact st_eqi 27 (.tmp 8) (.const (.int .i64 0)) rfl .i64 (0) (0) (K.dep 0 8 rfl) rfl _ (by rfl)
  intro f5 w5 A hb
  replace x0 := A.t x0 rfl
  replace x3 := A.t x3 rfl
  have x9 := A.e 1 9 rfl rfl
  replace m0 := Ob.below m0 hb
  replace bl := (only_below bl (Below.mono hb bl.size))
  replace sd := A.sd sd
  clear A hb
  show Code.wp _ _ _ _ _
  refine wp_cond_true x9 ?_
  refine wr_s [.eq (.pointer (some ⟨gd, 0, none⟩)), .eq (.pointer (some ⟨gd, 0, none⟩)), .eq (.pointer (some ⟨gd, 5, none⟩)), .eq (.int .i64 (d : Int)), .eq (.int .i64 ((d + 1 : Nat) : Int)), .eq (.pointer (some ⟨gd, 0, none⟩)), .eq (.pointer (some ⟨gd, 5, none⟩))] (by rw [sd.1]; kernel_rfl) ⟨fun hw ac u K => ?_, fun hw ac u K => ?_, fun hw ac u K => ?_, fun hw ac u K => ?_, fun hw ac u K => ?_, fun hw ac u K => ?_, fun hw ac u K => ?_, trivial⟩ ?_
  · exact st_move (.tmp 0) rfl (K.t x0 rfl)
  · exact st_nil (.tmp 10) rfl (K.dep 0 10 rfl)
  · exact st_field 51 4 (.tmp 11) rfl (K.dep 1 11 rfl) (by kernel_rfl)
  · exact st_loadc 3 (.tmp 12) rfl (by kernel_rfl) (K.dep 2 12 rfl) (Ob.cell (Ob.below m0 K.grow) 5 rfl)
  · exact st_addz (.tmp 13) (.const (.int .i64 1)) rfl _ _ _ (K.dep 3 13 rfl) rfl (by omega) (by omega) (by omega)
  · exact st_nil (.tmp 10) rfl (K.dep 0 10 rfl)
  · exact st_field 51 4 (.tmp 15) rfl (K.dep 5 15 rfl) (by kernel_rfl)
  intro f6 w6 A hb
  replace x0 := A.t x0 rfl
  replace x3 := A.t x3 rfl
  replace x9 := A.t x9 rfl
  have x14 := A.e 4 14 rfl rfl
  have x16 := A.e 6 16 rfl rfl
  replace m0 := Ob.below m0 hb
  replace bl := (only_below bl (Below.mono hb bl.size))
  replace sd := A.sd sd
  clear A hb
  clear x0
  clear x9
  refine wl_stc 3 rfl (.tmp 16) (.tmp 14) rfl rfl (by kernel_rfl) (gd) 5 (.int .i64 ((d + 1 : Nat) : Int)) x16 x14 rfl rfl (Ob.there m0 5 (by simp)) ?_
  replace m0 : Ob (w6.setCell ⟨gd, 5, none⟩ (.int .i64 ((d + 1 : Nat) : Int))) (gd) 51 ([u1, u2, u3, .int .i64 (pl), .bool dn, .int .i64 ((d + 1 : Nat) : Int)]) := Ob.set m0 5 (.int .i64 ((d + 1 : Nat) : Int))
  replace bl : Only gd w (w6.setCell ⟨gd, 5, none⟩ (.int .i64 ((d + 1 : Nat) : Int))) := bl.setCell _ _
  generalize w6.setCell ⟨gd, 5, none⟩ (.int .i64 ((d + 1 : Nat) : Int)) = w7b at bl m0 ⊢
  refine wpList_nil ?_
  clear x14
  clear x16
  show Code.wp _ _ _ _ _
  refine wp_seq ?_
  refine wr_a [.eq (.int .i64 0), .eq (.int .i64 0)] (by rw [sd.1]; kernel_rfl) ⟨fun hw ac u K => ?_, fun hw ac u K => ?_, trivial⟩ ?_
  · exact st_move (.tmp 3) rfl (K.t x3 rfl)
  · exact st_assign (.tmp 17) rfl (K.dep 0 17 rfl)
  intro f8 w8 A hb
  replace x3 := A.t x3 rfl
  have x2 := A.e 1 2 rfl rfl
  replace m0 := Ob.below m0 hb
  replace bl := (only_below bl (Below.mono hb bl.size))
  replace sd := A.sd sd
  clear A hb
  clear x3
  show Code.wp _ _ _ _ _
  refine wp_ret ?_
  repeat (first | with_reducible refine then_ret ?_ | with_reducible refine block_ret ?_)
  exact bodyPost_ret (v := .int .i64 0) (ret_slot rfl f8 _ x2 _ _) sd.2 ⟨rfl, m0, bl⟩
theorem cm_left {w : World} {gd d : Nat} {pl : Int} {dn : Bool} {u1 u2 u3 : Value} (m0 : Ob w gd 51 [u1, u2, u3, .int .i64 (pl), .bool dn, .int .i64 (d : Int)]) (h : 0 < pl) (hm : pl ≤ 9223372036854775807) (hd : d ≤ 1000000) :
    Calls Tryz.prog 72 #[.pointer (some ⟨gd, 0, none⟩)] w fun e w' => e = .returned (.int .i64 0) ∧ Ob w' gd 51 [u1, u2, u3, .int .i64 (pl - 1), .bool dn, .int .i64 ((d + 1 : Nat) : Int)] ∧ Only gd w w' := by
  go_enter Tryz.func72, Tryz.ntmps72
  refine code_both (fun f w1 => f.tmps.size = 18 ∧ f.defers = [] ∧ f.eval (.tmp 0) = .pointer (some ⟨gd, 0, none⟩) ∧ Ob w1 (gd) 51 ([u1, u2, u3, .int .i64 (pl), .bool dn, .int .i64 (d : Int)]) ∧ Only gd w (w1)) ⟨rfl, rfl, rfl, m0, Only.refl _ _⟩ ?_
  clear m0
  rintro f0 w0 ⟨sz, df, x0, m0, bl⟩
  have sd := And.intro sz df
  clear sz df
  have bl0 := bl
  refine wp_seq ?_
  refine wr_a [.eq (.int .i64 0)] (by rw [sd.1]; kernel_rfl) ⟨fun hw ac u K => ?_, trivial⟩ ?_
  · exact st_assign (.const (.int .i64 0)) rfl rfl
  intro f1 w1 A hb
  replace x0 := A.t x0 rfl
  replace m0 := Ob.below m0 hb
  replace bl := (only_below bl (Below.mono hb bl.size))
  replace sd := A.sd sd
  clear A hb
  show Code.wp _ _ _ _ _
  refine wp_seq ?_
  refine wr_s [.eq (.pointer (some ⟨gd, 0, none⟩)), .eq (.pointer (some ⟨gd, 0, none⟩)), .eq (.pointer (some ⟨gd, 3, none⟩))] (by rw [sd.1]; kernel_rfl) ⟨fun hw ac u K => ?_, fun hw ac u K => ?_, fun hw ac u K => ?_, trivial⟩ ?_
  · exact st_move (.tmp 0) rfl (K.t x0 rfl)
  · exact st_nil (.tmp 4) rfl (K.dep 0 4 rfl)
  · exact st_field 51 3 (.tmp 5) rfl (K.dep 1 5 rfl) (by kernel_rfl)
  intro f2 w2 A hb
  replace x0 := A.t x0 rfl
  have x6 := A.e 2 6 rfl rfl
  replace m0 := Ob.below m0 hb
  replace bl := (only_below bl (Below.mono hb bl.size))
  replace sd := A.sd sd
  clear A hb
  refine wl_call 91 (.func 91) _ _ #[.pointer (some ⟨gd, 3, none⟩)] rfl 7 rfl (by rw [sd.1]; decide) rfl rfl (one_arg x6) Tryz.enter91 (fun u W' => u = .int .i64 0 ∧ Ob W' gd 51 [u1, u2, u3, .int .i64 (pl - 1), .bool dn, .int .i64 (d : Int)] ∧ Only gd w2 W') ((use_left m0 h hm).mono (by rintro e w' ⟨rfl, q1, q2⟩; exact ⟨_, rfl, rfl, q1, q2⟩)) ?_
  rintro f3 w3 df2 sz2 old2 ⟨x7, m02, O⟩
  replace x0 := tr old2 x0 rfl
  replace x6 := tr old2 x6 rfl
  replace m0 := m02
  replace bl := bl.trans O
  replace bl0 := bl
  replace sd := sd2 sz2 df2 sd
  clear df2 sz2 old2 m02 O
  clear x6
  refine wl_one (.eq (.int .i64 0)) rfl 3 rfl (by rw [sd.1]; decide) (st_assign (.tmp 7) rfl x7) ?_
  intro f4 w4 df2 sz2 old2 new2 hb
  replace x0 := tr old2 x0 rfl
  replace x7 := tr old2 x7 rfl
  have x3 := Fk.e new2
  replace m0 := Ob.below m0 hb
  replace bl := (only_below bl (Below.mono hb bl.size))
  replace sd := sd2 sz2 df2 sd
  clear df2 sz2 old2 new2 hb
  refine wpList_nil ?_
  clear x7
  show Code.wp _ _ _ _ _
  refine wp_seq ?_
  refine wp_seq ?_
  refine wr_a [.eq (.int .i64 0), .eq (.bool true)] (by rw [sd.1]; kernel_rfl) ⟨fun hw ac u K => ?_, fun hw ac u K => ?_, trivial⟩ ?_
  · exact st_move (.tmp 3) rfl (K.t x3 rfl)
  · exact st_eqi 27 (.tmp 8) (.const (.int .i64 0)) rfl .i64 (0) (0) (K.dep 0 8 rfl) rfl _ (by rfl)
  intro f5 w5 A hb
  replace x0 := A.t x0 rfl
  replace x3 := A.t x3 rfl
  have x9 := A.e 1 9 rfl rfl
  replace m0 := Ob.below m0 hb
  replace bl := (only_below bl (Below.mono hb bl.size))
  replace sd := A.sd sd
  clear A hb
  show Code.wp _ _ _ _ _
  refine wp_cond_true x9 ?_
  refine wr_s [.eq (.pointer (some ⟨gd, 0, none⟩)), .eq (.pointer (some ⟨gd, 0, none⟩)), .eq (.pointer (some ⟨gd, 5, none⟩)), .eq (.int .i64 (d : Int)), .eq (.int .i64 ((d + 1 : Nat) : Int)), .eq (.pointer (some ⟨gd, 0, none⟩)), .eq (.pointer (some ⟨gd, 5, none⟩))] (by rw [sd.1]; kernel_rfl) ⟨fun hw ac u K => ?_, fun hw ac u K => ?_, fun hw ac u K => ?_, fun hw ac u K => ?_, fun hw ac u K => ?_, fun hw ac u K => ?_, fun hw ac u K => ?_, trivial⟩ ?_
  · exact st_move (.tmp 0) rfl (K.t x0 rfl)
  · exact st_nil (.tmp 10) rfl (K.dep 0 10 rfl)
  · exact st_field 51 4 (.tmp 11) rfl (K.dep 1 11 rfl) (by kernel_rfl)
  · exact st_loadc 3 (.tmp 12) rfl (by kernel_rfl) (K.dep 2 12 rfl) (Ob.cell (Ob.below m0 K.grow) 5 rfl)
  · exact st_addz (.tmp 13) (.const (.int .i64 1)) rfl _ _ _ (K.dep 3 13 rfl) rfl (by omega) (by omega) (by omega)
  · exact st_nil (.tmp 10) rfl (K.dep 0 10 rfl)
  · exact st_field 51 4 (.tmp 15) rfl (K.dep 5 15 rfl) (by kernel_rfl)
  intro f6 w6 A hb
  replace x0 := A.t x0 rfl
  replace x3 := A.t x3 rfl
  replace x9 := A.t x9 rfl
  have x14 := A.e 4 14 rfl rfl
  have x16 := A.e 6 16 rfl rfl
  replace m0 := Ob.below m0 hb
  replace bl := (only_below bl (Below.mono hb bl.size))
  replace sd := A.sd sd
  clear A hb
  clear x0
  clear x9
  refine wl_stc 3 rfl (.tmp 16) (.tmp 14) rfl rfl (by kernel_rfl) (gd) 5 (.int .i64 ((d + 1 : Nat) : Int)) x16 x14 rfl rfl (Ob.there m0 5 (by simp)) ?_
  replace m0 : Ob (w6.setCell ⟨gd, 5, none⟩ (.int .i64 ((d + 1 : Nat) : Int))) (gd) 51 ([u1, u2, u3, .int .i64 (pl - 1), .bool dn, .int .i64 ((d + 1 : Nat) : Int)]) := Ob.set m0 5 (.int .i64 ((d + 1 : Nat) : Int))
  replace bl : Only gd w (w6.setCell ⟨gd, 5, none⟩ (.int .i64 ((d + 1 : Nat) : Int))) := bl.setCell _ _
  generalize w6.setCell ⟨gd, 5, none⟩ (.int .i64 ((d + 1 : Nat) : Int)) = w7b at bl m0 ⊢
  refine wpList_nil ?_
  clear x14
  clear x16
  show Code.wp _ _ _ _ _
  refine wp_seq ?_
  refine wr_a [.eq (.int .i64 0), .eq (.int .i64 0)] (by rw [sd.1]; kernel_rfl) ⟨fun hw ac u K => ?_, fun hw ac u K => ?_, trivial⟩ ?_
  · exact st_move (.tmp 3) rfl (K.t x3 rfl)
  · exact st_assign (.tmp 17) rfl (K.dep 0 17 rfl)
  intro f8 w8 A hb
  replace x3 := A.t x3 rfl
  have x2 := A.e 1 2 rfl rfl
  replace m0 := Ob.below m0 hb
  replace bl := (only_below bl (Below.mono hb bl.size))
  replace sd := A.sd sd
  clear A hb
  clear x3
  show Code.wp _ _ _ _ _
  refine wp_ret ?_
  repeat (first | with_reducible refine then_ret ?_ | with_reducible refine block_ret ?_)
  exact bodyPost_ret (v := .int .i64 0) (ret_slot rfl f8 _ x2 _ _) sd.2 ⟨rfl, m0, bl⟩
theorem fk_dcmd {w : World} {gd sb cb C : Nat} {pl : Int} {vs : Array Value} {l : List (Int × Value)} {M D : Nat → Prop} {s : Dst} (r : Dk w gd sb cb C pl vs l M D s) (hs : s.done ≤ 1000000) :
    Calls Tryz.prog 72 #[.pointer (some ⟨gd, 0, none⟩)] w fun e w' => ∃ pl', e = .returned (.int .i64 (cmd s).1) ∧ Dk w' gd sb cb C pl' vs l M D (cmd s).2 ∧ Only gd w w' := by
  have m0 := r.ob
  obtain ⟨h1, h2, h3⟩ := id r.pw
  by_cases h0 : pl = 0
  · subst h0
    have ha : s.armed = true := by rw [h1]; rfl
    have hl := h2 (Int.le_refl 0)
    have e1 : cmd s = (30, { s with down := true }) := by unfold cmd; rw [if_pos ⟨ha, hl⟩]
    refine (cm_out m0).mono ?_
    rintro e w' ⟨rfl, m, O⟩
    rw [e1]
    exact ⟨0, rfl, r.strct O rfl rfl rfl m r.pw, O⟩
  · by_cases hn : pl < 0
    · have ha : s.armed = false := by rw [h1, decide_eq_false_iff_not]; omega
      have e1 : cmd s = (0, { s with left := s.left, done := s.done + 1 }) := by unfold cmd; rw [if_neg (by rw [ha]; simp), ha]; rfl
      refine (cm_free m0 hn hs).mono ?_
      rintro e w' ⟨rfl, m, O⟩
      rw [e1]
      exact ⟨pl, rfl, r.strct O rfl rfl rfl m r.pw, O⟩
    · have ha : s.armed = true := by rw [h1, decide_eq_true_iff]; omega
      have hl := h2 (by omega)
      have e1 : cmd s = (0, { s with left := s.left - 1, done := s.done + 1 }) := by unfold cmd; rw [if_neg (by rw [hl]; exact fun q => h0 q.2), ha]; rfl
      refine (cm_left m0 (by omega) h3 hs).mono ?_
      rintro e w' ⟨rfl, m, O⟩
      rw [e1]
      refine ⟨pl - 1, rfl, r.strct O rfl rfl rfl m ⟨?_, fun _ => ?_, by omega⟩, O⟩
      · show s.armed = _
        rw [ha, eq_comm, decide_eq_true_iff]
        omega
      · show s.left - 1 = _
        rw [hl]
/-- How many entries are still to come. -/
def itm (w : World) (r n : Nat) : Nat := match w.heap[r]? with
  | some (.mapIter _ _ seen _) => n - seen.size
  | _ => 0
theorem It.left {w : World} {r b : Nat} {l V : List (Int × Value)} (h : It w r b l V) : itm w r l.length = l.length - V.length ∧ V.length ≤ l.length := by
  obtain ⟨ho, es, clock, since, seen, vs, hb, hE, hr, hsc, hseen, hvs, hvn, hV⟩ := h
  have h1 : vs.length = V.length := by have := congrArg List.length hV; simpa using this
  have h2 : es.toList.length = l.length := by have := congrArg List.length hE.1; simpa using this
  have h3 : seen.size = vs.length := by have := congrArg List.length hseen; simpa using this
  have hnd : vs.Nodup := by
    have := List.pairwise_map.1 hvn
    exact this.imp (fun h e => h (by rw [e]))
  have h4 := hnd.length_le_of_subset (fun x hx => hvs x hx)
  refine ⟨?_, by omega⟩
  unfold itm
  rw [hr]
  show l.length - seen.size = _
  rw [h3, h1]
/-- What the row has behind some rounds. -/
def Vk (vs : Array Value) (V : List (Int × Value)) (vk : Array Value) : Prop := vk.size = vs.size ∧ (∀ (i : Nat) (v : Value), ((i : Int), v) ∈ V → vk[i]? = some v) ∧ ∀ i : Nat, (∀ v, ((i : Int), v) ∉ V) → vk[i]? = vs[i]?
theorem Vk.nil (vs : Array Value) : Vk vs [] vs := ⟨rfl, fun i v h => by (cases h), fun _ _ => rfl⟩
theorem Vk.snoc {vs vk : Array Value} {V l : List (Int × Value)} (h : Vk vs V vk) (hl : Mok l) (hV : ∀ p ∈ V, p ∈ l) {i : Nat} {v : Value} (hp : ((i : Int), v) ∈ l) (hi : i < vs.size) : Vk vs (V ++ [((i : Int), v)]) (vk.setIfInBounds i v) := by
  obtain ⟨h1, h2, h3⟩ := h
  refine ⟨by simpa using h1, fun j u hj => ?_, fun j hj => ?_⟩
  · rw [Array.getElem?_setIfInBounds]
    by_cases e : i = j
    · subst e
      rw [if_pos rfl, if_pos (by omega)]
      have h4 := mget_of_mem hl.keys hp
      have hj2 : ((i : Int), u) ∈ l := by
        rcases List.mem_append.1 hj with q | q
        · exact hV _ q
        · simp only [List.mem_singleton, Prod.mk.injEq, true_and] at q
          rw [q]
          exact hp
      have h5 := mget_of_mem hl.keys hj2
      rw [h4] at h5
      exact h5
    · rw [if_neg e]
      refine h2 j u ?_
      rcases List.mem_append.1 hj with q | q
      · exact q
      · simp only [List.mem_singleton, Prod.mk.injEq] at q
        omega
  · rw [Array.getElem?_setIfInBounds, if_neg (fun e => by subst e; exact hj v (by simp))]
    exact h3 j (fun u q => hj u (List.mem_append_left _ q))
theorem row_there {w : World} {b i : Nat} {cs : Array Value} {T : TypeId} (h : w.heap[b]? = some (.cells cs T (0, 0))) (hi : i < cs.size) : w.there b i 1 := by
  intro j hj
  obtain rfl : j = 0 := by omega
  refine ⟨?_, frozen_of_row w b (i + 0) _ T h⟩
  show (w.cell? ⟨b, i + 0, none⟩).isSome = true
  simp [World.cell?, h, hi]
theorem row_set {w : World} {b i : Nat} {cs : Array Value} {T : TypeId} (h : w.heap[b]? = some (.cells cs T (0, 0))) (v : Value) : (w.setCell ⟨b, i, none⟩ v).heap[b]? = some (.cells (cs.setIfInBounds i v) T (0, 0)) := by simp [World.setCell, Array.getElem?_modify, h]
section
variable {Q : Exit → Act → World → Prop} {o : Oper} {a : Act} {w : World} {ops : Array Oper} {rest : List Oper}
theorem wl_execl {P : Program} (hgd : o.guard = none) (d : Nat) (hd : o.dst = some d) (hsz : d < a.tmps.size) {v : Value} {w2 : World} (hr : (execOp a.eval o).run P w = .ok (.value v) w2)
    (h : ∀ a2, a2.defers = a.defers → a2.tmps.size = a.tmps.size → (∀ t, (t == d) = false → a2.eval (.tmp t) = a.eval (.tmp t)) → a2.eval (.tmp d) = v → wpList P ops Q rest a2 w2) : wpList P ops Q (o :: rest) a w := by
  refine wpList_plain hgd fun K hK => ?_
  unfold Oper.wp
  simp only [hr]
  refine hK _ _ (h _ (put_def _ _ _) (put_size _ _ _) (fun t ht => ?_) ?_)
  · rw [hd]
    exact put_eval_other _ _ _ _ (fun e => by subst e; simp at ht)
  · rw [hd, put_eval_same _ _ _ hsz]
theorem wl_exec0 {P : Program} (hgd : o.guard = none) (hd : o.dst = none) {v : Value} {w2 : World} (hr : (execOp a.eval o).run P w = .ok (.value v) w2 ∨ (execOp a.eval o).run P w = .ok .skip w2) (h : wpList P ops Q rest a w2) : wpList P ops Q (o :: rest) a w := by
  refine wpList_plain hgd fun K hK => ?_
  unfold Oper.wp
  have e : ∀ u, a.put o.dst u = a := fun u => by rw [hd]; rfl
  rcases hr with hr | hr
  · simp only [hr]
    exact hK _ _ (by rw [e]; exact h)
  · simp only [hr]
    exact hK _ _ (by rw [e]; exact h)
theorem st_extv {P : Program} {Q : Exit → Act → World → Prop} {o : Oper} {a : Act} {w : World} (x : Operand) (k : Nat) (ho : o.op = .extract x k) {xs : Array Value} {v : Value} (hx : a.eval x = .tuple xs) (hk : xs[k]? = some v) : o.wp P a w (Ends a o.dst w (Fk.eq v).f) Q := by
  refine st_pure (v := v) ?_ rfl
  unfold execOp
  rw [ho]
  simp [hx, Instr.extract, hk]
theorem row_below {w w' : World} {b : Nat} {cs : Array Value} {T : TypeId} (h : w.heap[b]? = some (.cells cs T (0, 0))) (hb : Below w.heap.size w w') : w'.heap[b]? = some (.cells cs T (0, 0)) := by
  rw [hb.block b (Array.getElem?_eq_some_iff.1 h).1]
  exact h
theorem row_only {w w' : World} {b g : Nat} {cs : Array Value} {T : TypeId} (h : w.heap[b]? = some (.cells cs T (0, 0))) (O : Only g w w') (hne : b ≠ g) : w'.heap[b]? = some (.cells cs T (0, 0)) := by
  rw [O.block b (Array.getElem?_eq_some_iff.1 h).1 hne]
  exact h
theorem It.below {w w' : World} {r b : Nat} {l V : List (Int × Value)} (h : It w r b l V) (hb : Below w.heap.size w w') : It w' r b l V := h.keep (hb.block r h.lt.1) (hb.block b h.lt.2.1)
theorem It.only {w w' : World} {r b g : Nat} {l V : List (Int × Value)} (h : It w r b l V) (O : Only g w w') (h1 : r ≠ g) (h2 : b ≠ g) : It w' r b l V := h.keep (O.block r h.lt.1 h1) (O.block b h.lt.2.1 h2)
end
end Go.Proofs.YtakdpkoigijonaaGreat
namespace Go.Proofs.YtakdpkoigijonaaGreat
set_option maxRecDepth 100000
open Go.RowKit
theorem It.next_no {P : Program} {w : World} {r b : Nat} {l V : List (Int × Value)} (h : It w r b l V) (ha : ∀ p ∈ l, p ∈ V) (ty : TypeId) : (Instr.next (.pointer (some ⟨r, 0, none⟩)) false ty).run P w = .ok (.tuple #[.bool false]) w := by
  rcases run_nextI (P := P) h ty with ⟨_, q⟩ | ⟨p, w', q1, q2, _⟩
  · exact q
  · exact absurd (ha p q1) q2
theorem It.next_yes {P : Program} {w : World} {r b : Nat} {l V : List (Int × Value)} (h : It w r b l V) (ha : ¬ ∀ p ∈ l, p ∈ V) (ty : TypeId) : ∃ p w', p ∈ l ∧ p ∉ V ∧ (Instr.next (.pointer (some ⟨r, 0, none⟩)) false ty).run P w = .ok (.tuple #[.bool true, .int .i64 p.1, p.2]) w' ∧ It w' r b l (V ++ [p]) ∧ Only r w w' := by
  rcases run_nextI (P := P) h ty with ⟨q, _⟩ | q
  · exact absurd q ha
  · exact q
theorem Fz.cells {w : World} {N : Nat → Prop} {v : Value} {bs : List (BitVec 8)} (h : Fz w N v bs) : v.cells = #[v] := by
  obtain ⟨b, c, o, rfl, _⟩ := h
  rfl
theorem st_entry {Q : Exit → Act → World → Prop} {o : Oper} {a : Act} {w : World} {x : Operand} (ho : o.op = .entry x) {r b : Nat} {l V : List (Int × Value)} {p : Int × Value} (hx : a.eval x = .pointer (some ⟨r, 0, none⟩)) (h : It w r b l (V ++ [p])) : o.wp Tryz.prog a w (Ends a o.dst w (Fk.eq (.tuple #[.int .i64 p.1, p.2])).f) Q := by
  refine st_pure (v := .tuple #[.int .i64 p.1, p.2]) ?_ rfl
  have h1 := run_entryI (P := Tryz.prog) h
  unfold execOp
  rw [ho]
  simp [hx, h1]
theorem Dk.settled {w : World} {gd sb cb C : Nat} {pl : Int} {vs : Array Value} {l : List (Int × Value)} {M D : Nat → Prop} {s : Dst} (r : Dk w gd sb cb C pl vs l M D s) {w' : World} {vk : Array Value} {V : List (Int × Value)} (m : Ob w' gd 51 [.int .i64 (s.size : Int), .slice (some ⟨sb, 0, none⟩) s.has.length C, .map (some cb), .int .i64 pl, .bool s.down, .int .i64 (s.done : Int)]) (hrow : w'.heap[sb]? = some (.cells vk 22 (0, 0))) (him : Im w' cb []) (hvk : Vk vs V vk) (hfin : ∀ p, p ∈ l ↔ p ∈ V) (O : Fr M w w') : Dk w' gd sb cb C pl vk [] M D (stl s) := by
  have hzl : (List.zipWith pickc s.has s.cch).length = s.has.length := by rw [List.length_zipWith, r.cl, Nat.min_self]
  have hk : ∀ j, D j ∧ ¬ M j → j < w.heap.size → w'.heap[j]? = w.heap[j]? := fun j q h => O.block j h q.2
  refine ⟨r.hM, r.n1, r.n2, r.n3, r.sub, fun j q => Nat.lt_of_lt_of_le (r.lt j q) O.size, ?_, hrow, him, r.pw, r.pos, r.zmax, ?_, ?_, fun i bs q => ?_, fun k v q => (by cases q), fun i bs q h => ?_⟩
  · show Ob w' gd _ [_, .slice _ (List.zipWith pickc s.has s.cch).length _, _, _, _, _]
    rw [hzl]
    exact m
  · show 0 < (List.zipWith pickc s.has s.cch).length ∧ (List.zipWith pickc s.has s.cch).length ≤ 65536
    rw [hzl]
    exact r.nmax
  · show (s.cch.map fun _ => ([] : List (BitVec 8))).length = (List.zipWith pickc s.has s.cch).length
    rw [hzl, List.length_map, r.cl]
  · replace q : (List.zipWith pickc s.has s.cch)[i]? = some bs := q
    have hi : i < s.has.length := by rw [← hzl]; exact (List.getElem?_eq_some_iff.1 q).1
    obtain ⟨yh, hyh⟩ : ∃ y, s.has[i]? = some y := ⟨_, List.getElem?_eq_getElem hi⟩
    obtain ⟨yc, hyc⟩ : ∃ y, s.cch[i]? = some y := ⟨_, List.getElem?_eq_getElem (by rw [r.cl]; exact hi)⟩
    rw [List.getElem?_zipWith, hyh, hyc] at q
    obtain rfl : pickc yh yc = bs := by simpa using q
    unfold pickc
    by_cases hc : yc = []
    · rw [if_pos hc]
      obtain ⟨q1, v, q2, q3⟩ := r.sec i yh hyh
      refine ⟨q1, v, ?_, q3.keep hk O.size (fun _ q _ => q)⟩
      have hn := (r.none_iff hyc).1 hc
      rw [hvk.2.2 i (fun u hu => by have := mget_of_mem r.im.ok.keys ((hfin _).2 hu); rw [hn] at this; cases this)]
      exact q2
    · rw [if_neg hc]
      obtain ⟨v, hv⟩ := r.cch i yc hyc hc
      obtain ⟨_, q3⟩ := r.got hyc hv
      obtain ⟨i', bs', h1, _, h3, h4, _⟩ := r.key _ v hv
      obtain rfl : i = i' := by omega
      rw [hyc] at h3
      cases h3
      exact ⟨h4, v, hvk.2.1 i v ((hfin _).1 (mget_mem hv)), q3.keep hk O.size (fun _ q _ => q)⟩
  · replace q : (s.cch.map fun _ => ([] : List (BitVec 8)))[i]? = some bs := q
    rw [List.getElem?_map] at q
    cases hq : s.cch[i]? with
    | none => rw [hq] at q; cases q
    | some y =>
      rw [hq] at q
      exact absurd (by simpa using q.symm) h
theorem fk_dsettle {w : World} {gd sb cb C : Nat} {pl : Int} {vs : Array Value} {l : List (Int × Value)} {M D : Nat → Prop} {s : Dst} (r : Dk w gd sb cb C pl vs l M D s) :
    Calls Tryz.prog 73 #[.pointer (some ⟨gd, 0, none⟩)] w fun e w' => e = .returned (.tuple #[]) ∧ ∃ vk, Dk w' gd sb cb C pl vk [] M D (stl s) ∧ Fr M w w' := by
  have m0 := r.ob
  have hit0 := r.im
  have hrow := r.row
  go_enter Tryz.func73, Tryz.ntmps73
  refine code_both (fun f w1 => f.tmps.size = 25 ∧ f.defers = [] ∧ f.eval (.tmp 0) = .pointer (some ⟨gd, 0, none⟩) ∧ Ob w1 gd 51 [.int .i64 (s.size : Int), .slice (some ⟨sb, 0, none⟩) s.has.length C, .map (some cb), .int .i64 pl, .bool s.down, .int .i64 (s.done : Int)] ∧ w1.heap[sb]? = some (.cells vs 22 (0, 0)) ∧ Im w1 cb l ∧ Fr (M) w (w1)) ⟨rfl, rfl, rfl, m0, hrow, hit0, Fr.refl _ _⟩ ?_
  clear m0 hrow hit0
  rintro f0 w0 ⟨sz, df, x0, m0, hrow, him, bl⟩
  have sd := And.intro sz df
  clear sz df
  have bl0 := bl
  refine wp_seq ?_
  refine wp_seq ?_
  refine wr_s [.eq (.pointer (some ⟨gd, 0, none⟩)), .eq (.pointer (some ⟨gd, 0, none⟩)), .eq (.pointer (some ⟨gd, 2, none⟩)), .eq (.map (some cb))] (by rw [sd.1]; kernel_rfl) ⟨fun hw ac u K => ?_, fun hw ac u K => ?_, fun hw ac u K => ?_, fun hw ac u K => ?_, trivial⟩ ?_
  · exact st_move (.tmp 0) rfl (K.t x0 rfl)
  · exact st_nil (.tmp 4) rfl (K.dep 0 4 rfl)
  · exact st_field 51 2 (.tmp 5) rfl (K.dep 1 5 rfl) (by kernel_rfl)
  · exact st_loadc 46 (.tmp 6) rfl (by kernel_rfl) (K.dep 2 6 rfl) (Ob.cell (Ob.below m0 K.grow) 2 rfl)
  intro f1 w1 A hb
  replace x0 := A.t x0 rfl
  have x7 := A.e 3 7 rfl rfl
  replace m0 := Ob.below m0 hb
  replace hrow := row_below hrow hb
  replace him := Im.below him hb
  replace bl := (Fr.grow bl hb)
  replace sd := A.sd sd
  clear A hb
  obtain ⟨w2, hrun, hit, hb⟩ := run_rangeI (P := Tryz.prog) (t := 46) Tryz.mapq him
  refine wl_execl rfl 8 rfl (by rw [sd.1]; decide) (v := .pointer (some ⟨w1.heap.size, 0, none⟩)) (w2 := w2) (by unfold execOp; simp [x7, hrun]) ?_
  intro f2 df2 sz2 old2 x8
  have hr0 : w.heap.size ≤ w1.heap.size := bl.size
  have hrg : gd ≠ w1.heap.size := fun e => by have := Ob.lt m0; omega
  have hrs : sb ≠ w1.heap.size := fun e => by have := (Array.getElem?_eq_some_iff.1 hrow).1; omega
  replace bl := Fr.grow bl hb
  replace bl0 := bl
  replace m0 := Ob.below m0 hb
  replace hrow := row_below hrow hb
  clear him hrun hb
  obtain ⟨r9, hr9⟩ : ∃ q, q = w1.heap.size := ⟨_, rfl⟩
  rw [← hr9] at hit x8 hr0 hrg hrs
  clear hr9
  replace x0 := tr old2 x0 rfl
  replace x7 := tr old2 x7 rfl
  replace sd := sd2 sz2 df2 sd
  clear df2 sz2 old2
  refine wpList_nil ?_
  clear x7
  show Code.wp _ _ _ _ _
  refine wp_block ?_
  refine wp_loop (fun f v1 => ∃ (V : List (Int × Value)) (vk : Array Value), Vk vs V vk ∧ f.tmps.size = 25 ∧ f.defers = [] ∧ f.eval (.tmp 0) = .pointer (some ⟨gd, 0, none⟩) ∧ f.eval (.tmp 8) = .pointer (some ⟨r9, 0, none⟩) ∧ Ob v1 (gd) 51 ([.int .i64 (s.size : Int), .slice (some ⟨sb, 0, none⟩) s.has.length C, .map (some cb), .int .i64 pl, .bool s.down, .int .i64 (s.done : Int)]) ∧ v1.heap[sb]? = some (.cells vk 22 (0, 0)) ∧ It v1 r9 cb l V ∧ Fr (M) w (v1)) (fun _ v => itm v r9 l.length) ⟨[], vs, Vk.nil vs, sd.1, sd.2, x0, x8, m0, hrow, hit, bl⟩ ?_
  intro f3 w3 hI
  clear sd bl bl0 x0 x8 m0 hrow hit
  obtain ⟨V, vk, hvk, sz, df, x0, x8, m0, hrow, hit, bl⟩ := hI
  have sd := And.intro sz df
  clear sz df
  have bl0 := bl
  have hml := hit.left.1
  refine wp_seq ?_
  by_cases hall : ∀ p ∈ l, p ∈ V
  rotate_left
  · skip
    refine wr_s [] (by rw [sd.1]; kernel_rfl) trivial ?_
    intro f4 w4 A hb
    replace x0 := A.t x0 rfl
    replace x8 := A.t x8 rfl
    replace m0 := Ob.below m0 hb
    replace hrow := row_below hrow hb
    replace hit := It.below hit hb
    replace bl := (Fr.grow bl hb)
    replace sd := A.sd sd
    clear A hb
    obtain ⟨⟨z, v⟩, w5, hpl, hpV, hrun, hit2, O⟩ := hit.next_yes (P := Tryz.prog) hall 0
    refine wl_execl rfl 9 rfl (by rw [sd.1]; decide) (v := .tuple #[.bool true, .int .i64 z, v]) (w2 := w5) (by unfold execOp; simp [x8, hrun]) ?_
    intro f5 df2 sz2 old2 x9
    have hVl := hit.sub
    replace hit := hit2
    replace m0 := m0.only O hrg
    replace hrow := row_only hrow O hrs
    replace bl := bl.only O (.inr hr0)
    replace bl0 := bl
    clear hrun hit2 O
    replace x0 := tr old2 x0 rfl
    replace x8 := tr old2 x8 rfl
    replace sd := sd2 sz2 df2 sd
    clear df2 sz2 old2
    refine wl_one (.eq (.bool true)) rfl 10 rfl (by rw [sd.1]; decide) (st_extv (.tmp 9) 0 rfl x9 rfl) ?_
    intro f6 w6 df2 sz2 old2 new2 hb
    replace x0 := tr old2 x0 rfl
    replace x8 := tr old2 x8 rfl
    replace x9 := tr old2 x9 rfl
    have x10 := Fk.e new2
    replace m0 := Ob.below m0 hb
    replace hrow := row_below hrow hb
    replace hit := It.below hit hb
    replace bl := (Fr.grow bl hb)
    replace sd := sd2 sz2 df2 sd
    clear df2 sz2 old2 new2 hb
    refine wpList_nil ?_
    clear x9
    show Code.wp _ _ _ _ _
    refine wp_seq ?_
    refine wp_cond_true x10 ?_
    refine wp_skip ?_
    show Code.wp _ _ _ _ _
    refine wp_block ?_
    refine wp_seq ?_
    obtain ⟨i, bs, rfl, hi, _, _, hz⟩ := r.key z v (mget_of_mem r.im.ok.keys hpl)
    have hiv : i < vk.size := by have := r.vsn hi; rw [hvk.1]; exact this
    have hvk2 := hvk.snoc r.im.ok hVl hpl (r.vsn hi)
    have hv1 := hz.one
    have hv2 := hz.cells
    refine wr_a [.eq (.tuple #[.int .i64 (i : Int), v]), .eq (.int .i64 (i : Int)), .eq (v), .eq (.int .i64 (i : Int)), .eq (v)] (by rw [sd.1]; kernel_rfl) ⟨fun hw ac u K => ?_, fun hw ac u K => ?_, fun hw ac u K => ?_, fun hw ac u K => ?_, fun hw ac u K => ?_, trivial⟩ ?_
    · exact st_entry rfl (K.t x8 rfl) (It.below hit K.grow)
    · exact st_extv (.tmp 11) 0 rfl (K.dep 0 11 rfl) rfl
    · exact st_extv (.tmp 11) 1 rfl (K.dep 0 11 rfl) rfl
    · exact st_assign (.tmp 12) rfl (K.dep 1 12 rfl)
    · exact st_assign (.tmp 13) rfl (K.dep 2 13 rfl)
    intro f7 w7 A hb
    replace x0 := A.t x0 rfl
    replace x8 := A.t x8 rfl
    replace x10 := A.t x10 rfl
    have x2 := A.e 3 2 rfl rfl
    have x3 := A.e 4 3 rfl rfl
    replace m0 := Ob.below m0 hb
    replace hrow := row_below hrow hb
    replace hit := It.below hit hb
    replace bl := (Fr.grow bl hb)
    replace sd := A.sd sd
    clear A hb
    clear x10
    show Code.wp _ _ _ _ _
    refine wr_s [.eq (.pointer (some ⟨gd, 0, none⟩)), .eq (.pointer (some ⟨gd, 0, none⟩)), .eq (.pointer (some ⟨gd, 1, none⟩)), .eq (.slice (some ⟨sb, 0, none⟩) s.has.length C), .eq (.int .i64 (i : Int)), .eq (v), .eq (.pointer (some ⟨sb, i, none⟩))] (by rw [sd.1]; kernel_rfl) ⟨fun hw ac u K => ?_, fun hw ac u K => ?_, fun hw ac u K => ?_, fun hw ac u K => ?_, fun hw ac u K => ?_, fun hw ac u K => ?_, fun hw ac u K => ?_, trivial⟩ ?_
    · exact st_move (.tmp 0) rfl (K.t x0 rfl)
    · exact st_nil (.tmp 14) rfl (K.dep 0 14 rfl)
    · exact st_field 51 1 (.tmp 15) rfl (K.dep 1 15 rfl) (by kernel_rfl)
    · exact st_loadc 23 (.tmp 16) rfl (by kernel_rfl) (K.dep 2 16 rfl) (Ob.cell (Ob.below m0 K.grow) 1 rfl)
    · exact st_move (.tmp 2) rfl (K.t x2 rfl)
    · exact st_move (.tmp 3) rfl (K.t x3 rfl)
    · exact st_idxr (.tmp 17) (.tmp 18) rfl (K.dep 3 17 rfl) i (K.dep 4 18 rfl) hi
    intro f8 w8 A hb
    replace x0 := A.t x0 rfl
    replace x8 := A.t x8 rfl
    replace x2 := A.t x2 rfl
    replace x3 := A.t x3 rfl
    have x19 := A.e 5 19 rfl rfl
    have x20 := A.e 6 20 rfl rfl
    replace m0 := Ob.below m0 hb
    replace hrow := row_below hrow hb
    replace hit := It.below hit hb
    replace bl := (Fr.grow bl hb)
    replace sd := A.sd sd
    clear A hb
    clear x2
    clear x3
    refine wl_stc 22 rfl (.tmp 20) (.tmp 19) rfl rfl (by kernel_rfl) sb i v x20 x19 hv1 hv2 (row_there hrow hiv) ?_
    have O := (Only.refl sb w8).setCell i v
    replace hrow := row_set (i := i) hrow v
    replace m0 := m0.only O r.n1
    replace hit := hit.only O hrs.symm r.n3.symm
    replace bl : Fr (M) w (w8.setCell ⟨sb, i, none⟩ v) := bl.only O (.inl r.ms)
    clear O
    generalize w8.setCell ⟨sb, i, none⟩ v = w9b at bl m0 hrow hit ⊢
    replace bl0 := bl
    refine wpList_nil ?_
    clear x19
    clear x20
    show (∃ _, _) ∧ _
    refine ⟨⟨V ++ [((i : Int), v)], vk.setIfInBounds i v, hvk2, sd.1, sd.2, x0, x8, m0, hrow, hit, bl⟩, ?_⟩
    rw [hml, hit.left.1, List.length_append]
    have hll := hit.left.2
    rw [List.length_append] at hll
    simp only [List.length_cons, List.length_nil] at hll ⊢
    omega
  have hfin : ∀ p, p ∈ l ↔ p ∈ V := fun p => ⟨hall p, hit.sub p⟩
  refine wr_s [] (by rw [sd.1]; kernel_rfl) trivial ?_
  intro f4 w4 A hb
  replace x0 := A.t x0 rfl
  replace x8 := A.t x8 rfl
  replace m0 := Ob.below m0 hb
  replace hrow := row_below hrow hb
  replace hit := It.below hit hb
  replace bl := (Fr.grow bl hb)
  replace sd := A.sd sd
  clear A hb
  refine wl_execl rfl 9 rfl (by rw [sd.1]; decide) (v := .tuple #[.bool false]) (w2 := w4) (by unfold execOp; simp [x8, hit.next_no hall]) ?_
  intro f5 df2 sz2 old2 x9
  replace x0 := tr old2 x0 rfl
  replace x8 := tr old2 x8 rfl
  replace sd := sd2 sz2 df2 sd
  clear df2 sz2 old2
  refine wl_one (.eq (.bool false)) rfl 10 rfl (by rw [sd.1]; decide) (st_extv (.tmp 9) 0 rfl x9 rfl) ?_
  intro f6 w6 df2 sz2 old2 new2 hb
  replace x0 := tr old2 x0 rfl
  replace x8 := tr old2 x8 rfl
  replace x9 := tr old2 x9 rfl
  have x10 := Fk.e new2
  replace m0 := Ob.below m0 hb
  replace hrow := row_below hrow hb
  replace hit := It.below hit hb
  replace bl := (Fr.grow bl hb)
  replace sd := sd2 sz2 df2 sd
  clear df2 sz2 old2 new2 hb
  refine wpList_nil ?_
  clear x9
  show Code.wp _ _ _ _ _
  refine wp_seq ?_
  refine wp_cond_false x10 ?_
  refine wp_exit ?_
  show Code.wp _ _ _ _ _
  refine wr_s [.eq (.pointer (some ⟨gd, 0, none⟩)), .eq (.pointer (some ⟨gd, 0, none⟩)), .eq (.pointer (some ⟨gd, 2, none⟩)), .eq (.map (some cb))] (by rw [sd.1]; kernel_rfl) ⟨fun hw ac u K => ?_, fun hw ac u K => ?_, fun hw ac u K => ?_, fun hw ac u K => ?_, trivial⟩ ?_
  · exact st_move (.tmp 0) rfl (K.t x0 rfl)
  · exact st_nil (.tmp 21) rfl (K.dep 0 21 rfl)
  · exact st_field 51 2 (.tmp 22) rfl (K.dep 1 22 rfl) (by kernel_rfl)
  · exact st_loadc 46 (.tmp 23) rfl (by kernel_rfl) (K.dep 2 23 rfl) (Ob.cell (Ob.below m0 K.grow) 2 rfl)
  intro f7 w7 A hb
  replace x0 := A.t x0 rfl
  replace x8 := A.t x8 rfl
  replace x10 := A.t x10 rfl
  have x24 := A.e 3 24 rfl rfl
  replace m0 := Ob.below m0 hb
  replace hrow := row_below hrow hb
  replace hit := It.below hit hb
  replace bl := (Fr.grow bl hb)
  replace sd := A.sd sd
  clear A hb
  clear x10
  obtain ⟨w8, hrun, him, O⟩ := run_clearI (P := Tryz.prog) (t := 46) Tryz.mapq hit.im 0
  refine wl_exec0 rfl rfl (v := .tuple #[]) (w2 := w8) (.inl (by unfold execOp; simp [resolve, invoke, builtin, x24, hrun])) ?_
  replace m0 := m0.only O r.n2
  replace hrow := row_only hrow O r.n3
  replace bl := bl.only O (.inl r.mc)
  clear hrun O hit
  refine wpList_nil ?_
  clear x24
  repeat (first | with_reducible refine then_exit ?_ | with_reducible refine block_exit ?_)
  show bodyPost _ _ _ _ _ _
  exact bodyPost_end (results_none rfl _ _ _) sd.2 ⟨rfl, vk, r.settled m0 hrow him hvk hfin bl, bl⟩
end Go.Proofs.YtakdpkoigijonaaGreat
namespace Go.Proofs.YtakdpkoigijonaaGreat
set_option maxRecDepth 100000
open Go.RowKit
theorem fk_endless (w : World) : Calls Tryz.prog 16 #[] w fun e w' => e = .returned (.agg #[.int .i64 (-1), .bool false]) ∧ Below w.heap.size w w' := by
  go_enter Tryz.func16, Tryz.ntmps16
  go_wp2
  refine bodyPost_ret (v := .agg #[.int .i64 (-1), .bool false]) ?_ rfl ⟨rfl, (Below.refl _ w).alloc (Nat.le_refl _) _⟩
  have h1 : (Tryz.prog.underlying 48).any (fun d => match d with | .struct _ | .array _ _ => true | _ => false) = true := by kernel_rfl
  obtain ⟨d, hd, h2⟩ := (Option.any_eq_true _ _).1 h1
  exact results_cell_row (fn := Tryz.f16) rfl _ _ w.heap.size 48 #[.int .i64 (-1), .bool false] (0, 0) d rfl (heap_alloc_new _ _) hd (by cases d <;> first | rfl | exact h2) (by kernel_rfl)
theorem HD.dcmd {w : World} {gd : Nat} {M D : Nat → Prop} {s : Dst} (hd : HD w gd M D s) (hs : s.done ≤ 1000000) :
    Calls Tryz.prog 72 #[.pointer (some ⟨gd, 0, none⟩)] w fun e w' => e = .returned (.int .i64 (cmd s).1) ∧ HD w' gd M D (cmd s).2 ∧ Fr M w w' := by
  obtain ⟨sb, cb, C, pl, vs, l, r⟩ := hd
  refine (fk_dcmd r hs).mono ?_
  rintro e w' ⟨pl', rfl, h1, h2⟩
  exact ⟨rfl, ⟨_, _, _, _, _, _, h1⟩, Fr.of_only h2 r.mg⟩
theorem HD.dsettle {w : World} {gd : Nat} {M D : Nat → Prop} {s : Dst} (hd : HD w gd M D s) :
    Calls Tryz.prog 73 #[.pointer (some ⟨gd, 0, none⟩)] w fun e w' => e = .returned (.tuple #[]) ∧ HD w' gd M D (stl s) ∧ Fr M w w' := by
  obtain ⟨sb, cb, C, pl, vs, l, r⟩ := hd
  refine (fk_dsettle r).mono ?_
  rintro e w' ⟨rfl, vk, h1, h2⟩
  exact ⟨rfl, ⟨_, _, _, _, _, _, h1⟩, h2⟩
theorem fk_dflush {w : World} {gd : Nat} {M D : Nat → Prop} {s : Dst} (hd : HD w gd M D s) (hs : s.done ≤ 1000000) (_h60 : s.has.length ≤ 100000) :
    Calls Tryz.prog 59 #[.pointer (some ⟨gd, 0, none⟩)] w fun e w' => ∃ D', e = .returned (.int .i64 (flu s).1) ∧ HD w' gd M D' (flu s).2 ∧ (∀ j, D' j → D j ∨ w.heap.size ≤ j) ∧ Fr M w w' := by
  go_enter Tryz.func59, Tryz.ntmps59
  refine code_both (fun f w1 => f.tmps.size = 13 ∧ f.defers = [] ∧ f.eval (.tmp 0) = .pointer (some ⟨gd, 0, none⟩) ∧ HD w1 gd M D s ∧ Fr (M) w (w1)) ⟨rfl, rfl, rfl, hd, Fr.refl _ _⟩ ?_
  clear hd
  rintro f0 w0 ⟨sz, df, x0, hd, bl⟩
  have sd := And.intro sz df
  clear sz df
  have bl0 := bl
  refine wp_seq ?_
  refine wr_a [.eq (.int .i64 0)] (by rw [sd.1]; kernel_rfl) ⟨fun hw ac u K => ?_, trivial⟩ ?_
  · exact st_assign (.const (.int .i64 0)) rfl rfl
  intro f1 w1 A hb
  replace x0 := A.t x0 rfl
  replace hd := HD.below hd hb
  replace bl := (Fr.grow bl hb)
  replace sd := A.sd sd
  clear A hb
  show Code.wp _ _ _ _ _
  refine wp_seq ?_
  refine wp_seq ?_
  by_cases hdn : s.down = true
  rotate_left
  · skip
    have hdn9 := hdn
    replace hdn : s.down = false := by simpa using hdn
    refine wr_a [.eq (.pointer (some ⟨gd, 0, none⟩)), .eq (.bool false)] (by rw [sd.1]; kernel_rfl) ⟨fun hw ac u K => ?_, fun hw ac u K => ?_, trivial⟩ ?_
    · exact st_move (.tmp 0) rfl (K.t x0 rfl)
    · exact st_call 29 (.func 29) _ _ _ rfl rfl (one_arg (K.dep 0 4 rfl)) Tryz.enter29 ((show Calls Tryz.prog 29 #[.pointer (some ⟨gd, 0, none⟩)] u (fun e w' => ∃ v, e = .returned v ∧ (Fk.eq (.bool false)).f v w' ∧ Below u.heap.size u w') from by have := fk_ddown (HD.below hd K.grow); rw [hdn] at this; exact this))
    intro f2 w2 A hb
    replace x0 := A.t x0 rfl
    have x5 := A.e 1 5 rfl rfl
    replace hd := HD.below hd hb
    replace bl := (Fr.grow bl hb)
    replace sd := A.sd sd
    clear A hb
    show Code.wp _ _ _ _ _
    refine wp_cond_false x5 ?_
    refine wp_skip ?_
    show Code.wp _ _ _ _ _
    refine wp_seq ?_
    refine wp_seq ?_
    refine wr_s [.eq (.pointer (some ⟨gd, 0, none⟩))] (by rw [sd.1]; kernel_rfl) ⟨fun hw ac u K => ?_, trivial⟩ ?_
    · exact st_move (.tmp 0) rfl (K.t x0 rfl)
    intro f3 w3 A hb
    replace x0 := A.t x0 rfl
    replace x5 := A.t x5 rfl
    have x6 := A.e 0 6 rfl rfl
    replace hd := HD.below hd hb
    replace bl := (Fr.grow bl hb)
    replace sd := A.sd sd
    clear A hb
    clear x5
    refine wl_call 72 (.func 72) _ _ #[.pointer (some ⟨gd, 0, none⟩)] rfl 7 rfl (by rw [sd.1]; decide) rfl rfl (one_arg x6) Tryz.enter72 (fun u W' => u = .int .i64 (cmd s).1 ∧ HD W' gd M D ((cmd s).2) ∧ Fr M w3 W') ((hd.dcmd hs).mono (by rintro e w' ⟨rfl, q1, q2⟩; exact ⟨_, rfl, rfl, q1, q2⟩)) ?_
    rintro f4 w4 df2 sz2 old2 ⟨x7, hd2, O⟩
    replace x0 := tr old2 x0 rfl
    replace x6 := tr old2 x6 rfl
    replace bl := bl.trans O
    replace bl0 := bl
    replace hd := hd2
    replace sd := sd2 sz2 df2 sd
    clear df2 sz2 old2 O hd2
    clear x6
    refine wl_one (.eq (.int .i64 (cmd s).1)) rfl 3 rfl (by rw [sd.1]; decide) (st_assign (.tmp 7) rfl x7) ?_
    intro f5 w5 df2 sz2 old2 new2 hb
    replace x0 := tr old2 x0 rfl
    replace x7 := tr old2 x7 rfl
    have x3 := Fk.e new2
    replace hd := HD.below hd hb
    replace bl := (Fr.grow bl hb)
    replace sd := sd2 sz2 df2 sd
    clear df2 sz2 old2 new2 hb
    refine wpList_nil ?_
    clear x7
    show Code.wp _ _ _ _ _
    refine wp_seq ?_
    by_cases h0 : (cmd s).1 = 0
    rotate_left
    · skip
      refine wr_a [.eq (.int .i64 (cmd s).1), .eq (.bool true)] (by rw [sd.1]; kernel_rfl) ⟨fun hw ac u K => ?_, fun hw ac u K => ?_, trivial⟩ ?_
      · exact st_move (.tmp 3) rfl (K.t x3 rfl)
      · exact st_neqi 27 (.tmp 8) (.const (.int .i64 0)) rfl .i64 ((cmd s).1) (0) (K.dep 0 8 rfl) rfl _ (by rw [eq_comm, decide_eq_true_iff]; exact h0)
      intro f6 w6 A hb
      replace x0 := A.t x0 rfl
      replace x3 := A.t x3 rfl
      have x9 := A.e 1 9 rfl rfl
      replace hd := HD.below hd hb
      replace bl := (Fr.grow bl hb)
      replace sd := A.sd sd
      clear A hb
      show Code.wp _ _ _ _ _
      refine wp_cond_true x9 ?_
      refine wp_seq ?_
      refine wr_a [.eq (.int .i64 (cmd s).1), .eq (.int .i64 (cmd s).1)] (by rw [sd.1]; kernel_rfl) ⟨fun hw ac u K => ?_, fun hw ac u K => ?_, trivial⟩ ?_
      · exact st_move (.tmp 3) rfl (K.t x3 rfl)
      · exact st_assign (.tmp 10) rfl (K.dep 0 10 rfl)
      intro f7 w7 A hb
      replace x0 := A.t x0 rfl
      replace x3 := A.t x3 rfl
      replace x9 := A.t x9 rfl
      have x2 := A.e 1 2 rfl rfl
      replace hd := HD.below hd hb
      replace bl := (Fr.grow bl hb)
      replace sd := A.sd sd
      clear A hb
      clear x0
      clear x3
      clear x9
      show Code.wp _ _ _ _ _
      refine wp_ret ?_
      repeat (first | with_reducible refine then_ret ?_ | with_reducible refine block_ret ?_)
      exact bodyPost_ret (v := .int .i64 (cmd s).1) (ret_slot rfl f7 _ x2 _ _) sd.2 (by rw [show flu s = cmd s from by unfold flu; rw [if_neg hdn9, if_neg h0]]; exact ⟨D, rfl, hd, fun j q => .inl q, bl⟩)
    refine wr_a [.eq (.int .i64 (cmd s).1), .eq (.bool false)] (by rw [sd.1]; kernel_rfl) ⟨fun hw ac u K => ?_, fun hw ac u K => ?_, trivial⟩ ?_
    · exact st_move (.tmp 3) rfl (K.t x3 rfl)
    · exact st_neqi 27 (.tmp 8) (.const (.int .i64 0)) rfl .i64 ((cmd s).1) (0) (K.dep 0 8 rfl) rfl _ (by rw [h0]; simp)
    intro f6 w6 A hb
    replace x0 := A.t x0 rfl
    replace x3 := A.t x3 rfl
    have x9 := A.e 1 9 rfl rfl
    replace hd := HD.below hd hb
    replace bl := (Fr.grow bl hb)
    replace sd := A.sd sd
    clear A hb
    show Code.wp _ _ _ _ _
    refine wp_cond_false x9 ?_
    refine wp_skip ?_
    show Code.wp _ _ _ _ _
    refine wp_seq ?_
    refine wr_s [.eq (.pointer (some ⟨gd, 0, none⟩))] (by rw [sd.1]; kernel_rfl) ⟨fun hw ac u K => ?_, trivial⟩ ?_
    · exact st_move (.tmp 0) rfl (K.t x0 rfl)
    intro f7 w7 A hb
    replace x0 := A.t x0 rfl
    replace x3 := A.t x3 rfl
    replace x9 := A.t x9 rfl
    have x11 := A.e 0 11 rfl rfl
    replace hd := HD.below hd hb
    replace bl := (Fr.grow bl hb)
    replace sd := A.sd sd
    clear A hb
    clear x0
    clear x3
    clear x9
    refine wl_call 73 (.func 73) _ _ #[.pointer (some ⟨gd, 0, none⟩)] rfl 12 rfl (by rw [sd.1]; decide) rfl rfl (one_arg x11) Tryz.enter73 (fun u W' => u = .tuple #[] ∧ HD W' gd M D (stl (cmd s).2) ∧ Fr M w7 W') ((hd.dsettle).mono (by rintro e w' ⟨rfl, q1, q2⟩; exact ⟨_, rfl, rfl, q1, q2⟩)) ?_
    rintro f8 w8 df2 sz2 old2 ⟨x12, hd2, O⟩
    replace x11 := tr old2 x11 rfl
    replace bl := bl.trans O
    replace bl0 := bl
    replace hd := hd2
    replace sd := sd2 sz2 df2 sd
    clear df2 sz2 old2 O hd2
    refine wpList_nil ?_
    clear x11
    clear x12
    show Code.wp _ _ _ _ _
    refine wp_seq ?_
    refine wr_a [.eq (.int .i64 0)] (by rw [sd.1]; kernel_rfl) ⟨fun hw ac u K => ?_, trivial⟩ ?_
    · exact st_assign (.const (.int .i64 0)) rfl rfl
    intro f9 w9 A hb
    have x2 := A.e 0 2 rfl rfl
    replace hd := HD.below hd hb
    replace bl := (Fr.grow bl hb)
    replace sd := A.sd sd
    clear A hb
    show Code.wp _ _ _ _ _
    refine wp_ret ?_
    repeat (first | with_reducible refine then_ret ?_ | with_reducible refine block_ret ?_)
    exact bodyPost_ret (v := .int .i64 0) (ret_slot rfl f9 _ x2 _ _) sd.2 (by rw [show flu s = ((cmd s).1, stl (cmd s).2) from by unfold flu; rw [if_neg hdn9, if_pos h0], h0]; exact ⟨D, rfl, hd, fun j q => .inl q, bl⟩)
  refine wr_a [.eq (.pointer (some ⟨gd, 0, none⟩)), .eq (.bool true)] (by rw [sd.1]; kernel_rfl) ⟨fun hw ac u K => ?_, fun hw ac u K => ?_, trivial⟩ ?_
  · exact st_move (.tmp 0) rfl (K.t x0 rfl)
  · exact st_call 29 (.func 29) _ _ _ rfl rfl (one_arg (K.dep 0 4 rfl)) Tryz.enter29 ((show Calls Tryz.prog 29 #[.pointer (some ⟨gd, 0, none⟩)] u (fun e w' => ∃ v, e = .returned v ∧ (Fk.eq (.bool true)).f v w' ∧ Below u.heap.size u w') from by have := fk_ddown (HD.below hd K.grow); rw [hdn] at this; exact this))
  intro f2 w2 A hb
  replace x0 := A.t x0 rfl
  have x5 := A.e 1 5 rfl rfl
  replace hd := HD.below hd hb
  replace bl := (Fr.grow bl hb)
  replace sd := A.sd sd
  clear A hb
  show Code.wp _ _ _ _ _
  refine wp_cond_true x5 ?_
  refine wp_seq ?_
  refine wr_a [.eq (.int .i64 30)] (by rw [sd.1]; kernel_rfl) ⟨fun hw ac u K => ?_, trivial⟩ ?_
  · exact st_assign (.const (.int .i64 30)) rfl rfl
  intro f3 w3 A hb
  replace x0 := A.t x0 rfl
  replace x5 := A.t x5 rfl
  have x2 := A.e 0 2 rfl rfl
  replace hd := HD.below hd hb
  replace bl := (Fr.grow bl hb)
  replace sd := A.sd sd
  clear A hb
  clear x0
  clear x5
  show Code.wp _ _ _ _ _
  refine wp_ret ?_
  repeat (first | with_reducible refine then_ret ?_ | with_reducible refine block_ret ?_)
  exact bodyPost_ret (v := .int .i64 30) (ret_slot rfl f3 _ x2 _ _) sd.2 (by rw [show flu s = (30, s) from by unfold flu; rw [if_pos hdn]]; exact ⟨D, rfl, hd, fun j q => .inl q, bl⟩)
theorem Dk.update {w : World} {gd sb cb C : Nat} {pl : Int} {vs : Array Value} {l : List (Int × Value)} {M D : Nat → Prop} {s : Dst} (r : Dk w gd sb cb C pl vs l M D s) {W w2 : World} (hb : Below w.heap.size w W) {g9 : Nat} {v : Value} {b : List (BitVec 8)} (hz : Fz W (fun j => j = g9) v b) (hg : w.heap.size ≤ g9) (hlen : b.length = s.size) {i : Nat} (hi : i < s.has.length) (him : Im w2 cb (mput l (i : Int) v)) (O : Only cb W w2) :
    Dk w2 gd sb cb C pl vs (mput l (i : Int) v) M (fun j => D j ∨ j = g9) { s with cch := s.cch.set i b } := by
  have hgW : g9 < W.heap.size := by
    obtain ⟨b', _, _, _, _, _, e, h4, _⟩ := hz
    rw [← e]
    exact h4
  have hgm : ∀ j, M j → j ≠ g9 := fun j q e => by have := r.lt j (r.sub j q); omega
  have hk : ∀ j, D j ∧ ¬ M j → j < w.heap.size → w2.heap[j]? = w.heap[j]? := fun j q h => (O.block j (Nat.lt_of_lt_of_le h hb.size) (fun e => q.2 (by rw [e]; exact r.mc))).trans (hb.block j h)
  have hz2 : Fz w2 (fun j => (D j ∨ j = g9) ∧ ¬ M j) v b := hz.keep (fun j q h => O.block j h (fun e => by subst q; exact hgm cb r.mc e.symm)) O.size (fun j q _ => ⟨.inr q, fun m => hgm j m q⟩)
  have hsz : w.heap.size ≤ w2.heap.size := Nat.le_trans hb.size O.size
  refine ⟨r.hM, r.n1, r.n2, r.n3, fun j q => .inl (r.sub j q), fun j q => q.elim (fun q => Nat.lt_of_lt_of_le (r.lt j q) hsz) (fun q => by subst q; exact Nat.lt_of_lt_of_le hgW O.size), (Ob.below r.ob hb).only O r.n2, row_only (row_below r.row hb) O r.n3, him, r.pw, r.pos, r.zmax, r.nmax, by show (s.cch.set i b).length = _; rw [List.length_set]; exact r.cl, fun i' bs q => ?_, fun k u q => ?_, fun i' bs q h => ?_⟩
  · obtain ⟨q1, v, q2, q3⟩ := r.sec i' bs q
    exact ⟨q1, v, q2, q3.keep hk hsz (fun _ q _ => ⟨.inl q.1, q.2⟩)⟩
  · rw [mget_put] at q
    by_cases e : k = (i : Int)
    · rw [if_pos e] at q
      cases q
      refine ⟨i, b, e, hi, ?_, hlen, hz2⟩
      show (s.cch.set i b)[i]? = _
      rw [List.getElem?_set_self (by rw [r.cl]; exact hi)]
    · rw [if_neg e] at q
      obtain ⟨i', bs, q1, q2, q3, q4, q5⟩ := r.key k u q
      refine ⟨i', bs, q1, q2, ?_, q4, q5.keep hk hsz (fun _ q _ => ⟨.inl q.1, q.2⟩)⟩
      show (s.cch.set i b)[i']? = _
      rw [List.getElem?_set_ne (fun e2 => e (by rw [q1, e2]))]
      exact q3
  · replace q : (s.cch.set i b)[i']? = some bs := q
    rw [mget_put]
    by_cases e : (i' : Int) = (i : Int)
    · rw [if_pos e]
      exact ⟨v, rfl⟩
    · rw [if_neg e]
      rw [List.getElem?_set_ne (fun e2 => e (by rw [e2]))] at q
      exact r.cch i' bs q h
theorem fk_dwrite {w : World} {gd : Nat} {M D : Nat → Prop} {s : Dst} (hd : HD w gd M D s) (hs : s.done ≤ 1000000) (h60 : s.has.length ≤ 100000) (i : Int) {b : List (BitVec 8)} {vb : Value} (hb : (Fk.sl b).f vb w) :
    Calls Tryz.prog 71 #[.pointer (some ⟨gd, 0, none⟩), .int .i64 i, vb] w fun e w' => ∃ D', e = .returned (.int .i64 (wrt s i b).1) ∧ HD w' gd M D' (wrt s i b).2 ∧ (∀ j, D' j → D j ∨ w.heap.size ≤ j) ∧ Fr M w w' := by
  have hd00 := hd
  go_enter Tryz.func71, Tryz.ntmps71
  refine code_both (fun f w1 => f.tmps.size = 26 ∧ f.defers = [] ∧ f.eval (.tmp 0) = .pointer (some ⟨gd, 0, none⟩) ∧ f.eval (.tmp 1) = .int .i64 i ∧ f.eval (.tmp 2) = vb ∧ HD w1 gd M D s ∧ Below w.heap.size w (w1)) ⟨rfl, rfl, rfl, rfl, rfl, hd, Below.refl _ _⟩ ?_
  clear hd
  rintro f0 w0 ⟨sz, df, x0, x1, x2, hd, bl⟩
  have sd := And.intro sz df
  clear sz df
  have bl0 := bl
  refine wp_seq ?_
  refine wr_a [.eq (.int .i64 0)] (by rw [sd.1]; kernel_rfl) ⟨fun hw ac u K => ?_, trivial⟩ ?_
  · exact st_assign (.const (.int .i64 0)) rfl rfl
  intro f1 w1 A hb
  replace x0 := A.t x0 rfl
  replace x1 := A.t x1 rfl
  replace x2 := A.t x2 rfl
  replace hd := HD.below hd hb
  replace bl := bgo bl hb
  replace sd := A.sd sd
  clear A hb
  show Code.wp _ _ _ _ _
  refine wp_seq ?_
  refine wp_seq ?_
  by_cases hdn : s.down = true
  rotate_left
  · skip
    have hdn9 := hdn
    replace hdn : s.down = false := by simpa using hdn
    have h3 : (i < 0 ∨ (s.has.length : Int) ≤ i) ∨ (¬ (i < 0 ∨ (s.has.length : Int) ≤ i) ∧ b.length ≠ s.size) ∨ (¬ (i < 0 ∨ (s.has.length : Int) ≤ i) ∧ b.length = s.size) := by omega
    rcases h3 with h3 | h3 | h3
    · skip
      have hft : ft s i b = 11 := by unfold ft; rw [if_pos h3]
      refine wr_a [.eq (.pointer (some ⟨gd, 0, none⟩)), .eq (.bool false)] (by rw [sd.1]; kernel_rfl) ⟨fun hw ac u K => ?_, fun hw ac u K => ?_, trivial⟩ ?_
      · exact st_move (.tmp 0) rfl (K.t x0 rfl)
      · exact st_call 29 (.func 29) _ _ _ rfl rfl (one_arg (K.dep 0 8 rfl)) Tryz.enter29 ((show Calls Tryz.prog 29 #[.pointer (some ⟨gd, 0, none⟩)] u (fun e w' => ∃ v, e = .returned v ∧ (Fk.eq (.bool false)).f v w' ∧ Below u.heap.size u w') from by have := fk_ddown (HD.below hd K.grow); rw [hdn] at this; exact this))
      intro f2 w2 A hb
      replace x0 := A.t x0 rfl
      replace x1 := A.t x1 rfl
      replace x2 := A.t x2 rfl
      have x9 := A.e 1 9 rfl rfl
      replace hd := HD.below hd hb
      replace bl := bgo bl hb
      replace sd := A.sd sd
      clear A hb
      show Code.wp _ _ _ _ _
      refine wp_cond_false x9 ?_
      refine wp_skip ?_
      show Code.wp _ _ _ _ _
      refine wp_seq ?_
      refine wp_seq ?_
      refine wr_a [.eq (.pointer (some ⟨gd, 0, none⟩)), .eq (.int .i64 i), .eq (vb), .eq (.int .i64 11), .eq (.int .i64 11)] (by rw [sd.1]; kernel_rfl) ⟨fun hw ac u K => ?_, fun hw ac u K => ?_, fun hw ac u K => ?_, fun hw ac u K => ?_, fun hw ac u K => ?_, trivial⟩ ?_
      · exact st_move (.tmp 0) rfl (K.t x0 rfl)
      · exact st_move (.tmp 1) rfl (K.t x1 rfl)
      · exact st_move (.tmp 2) rfl (K.t x2 rfl)
      · exact st_call 21 (.func 21) _ _ _ rfl rfl (arg3 (K.dep 0 10 rfl) (K.dep 1 11 rfl) (K.dep 2 12 rfl)) Tryz.enter21 ((show Calls Tryz.prog 21 #[.pointer (some ⟨gd, 0, none⟩), .int .i64 i, vb] u (fun e w' => ∃ v, e = .returned v ∧ (Fk.eq (.int .i64 11)).f v w' ∧ Below u.heap.size u w') from by have := fk_dfits (HD.below hd K.grow) i (Fk.mono _ _ _ _ hb (bgo bl K.grow)); rw [hft] at this; exact this))
      · exact st_assign (.tmp 13) rfl (K.dep 3 13 rfl)
      intro f3 w3 A hb
      replace x0 := A.t x0 rfl
      replace x1 := A.t x1 rfl
      replace x2 := A.t x2 rfl
      replace x9 := A.t x9 rfl
      have x7 := A.e 4 7 rfl rfl
      replace hd := HD.below hd hb
      replace bl := bgo bl hb
      replace sd := A.sd sd
      clear A hb
      clear x9
      show Code.wp _ _ _ _ _
      refine wp_seq ?_
      refine wr_a [.eq (.int .i64 11), .eq (.bool true)] (by rw [sd.1]; kernel_rfl) ⟨fun hw ac u K => ?_, fun hw ac u K => ?_, trivial⟩ ?_
      · exact st_move (.tmp 7) rfl (K.t x7 rfl)
      · exact st_neqi 27 (.tmp 14) (.const (.int .i64 0)) rfl .i64 (11) (0) (K.dep 0 14 rfl) rfl _ (by rfl)
      intro f4 w4 A hb
      replace x0 := A.t x0 rfl
      replace x1 := A.t x1 rfl
      replace x2 := A.t x2 rfl
      replace x7 := A.t x7 rfl
      have x15 := A.e 1 15 rfl rfl
      replace hd := HD.below hd hb
      replace bl := bgo bl hb
      replace sd := A.sd sd
      clear A hb
      show Code.wp _ _ _ _ _
      refine wp_cond_true x15 ?_
      refine wp_seq ?_
      refine wr_a [.eq (.int .i64 11), .eq (.int .i64 11)] (by rw [sd.1]; kernel_rfl) ⟨fun hw ac u K => ?_, fun hw ac u K => ?_, trivial⟩ ?_
      · exact st_move (.tmp 7) rfl (K.t x7 rfl)
      · exact st_assign (.tmp 16) rfl (K.dep 0 16 rfl)
      intro f5 w5 A hb
      replace x0 := A.t x0 rfl
      replace x1 := A.t x1 rfl
      replace x2 := A.t x2 rfl
      replace x7 := A.t x7 rfl
      replace x15 := A.t x15 rfl
      have x6 := A.e 1 6 rfl rfl
      replace hd := HD.below hd hb
      replace bl := bgo bl hb
      replace sd := A.sd sd
      clear A hb
      clear x0
      clear x1
      clear x2
      clear x7
      clear x15
      show Code.wp _ _ _ _ _
      refine wp_ret ?_
      repeat (first | with_reducible refine then_ret ?_ | with_reducible refine block_ret ?_)
      exact bodyPost_ret (v := .int .i64 11) (ret_slot rfl f5 _ x6 _ _) sd.2 (by rw [show wrt s i b = (11, s) from by unfold wrt; rw [if_neg hdn9, if_pos h3]]; exact ⟨D, rfl, hd, fun j q => .inl q, Fr.of_below bl⟩)
    · skip
      have hft : ft s i b = 10 := by unfold ft; rw [if_neg h3.1, if_pos h3.2]
      refine wr_a [.eq (.pointer (some ⟨gd, 0, none⟩)), .eq (.bool false)] (by rw [sd.1]; kernel_rfl) ⟨fun hw ac u K => ?_, fun hw ac u K => ?_, trivial⟩ ?_
      · exact st_move (.tmp 0) rfl (K.t x0 rfl)
      · exact st_call 29 (.func 29) _ _ _ rfl rfl (one_arg (K.dep 0 8 rfl)) Tryz.enter29 ((show Calls Tryz.prog 29 #[.pointer (some ⟨gd, 0, none⟩)] u (fun e w' => ∃ v, e = .returned v ∧ (Fk.eq (.bool false)).f v w' ∧ Below u.heap.size u w') from by have := fk_ddown (HD.below hd K.grow); rw [hdn] at this; exact this))
      intro f2 w2 A hb
      replace x0 := A.t x0 rfl
      replace x1 := A.t x1 rfl
      replace x2 := A.t x2 rfl
      have x9 := A.e 1 9 rfl rfl
      replace hd := HD.below hd hb
      replace bl := bgo bl hb
      replace sd := A.sd sd
      clear A hb
      show Code.wp _ _ _ _ _
      refine wp_cond_false x9 ?_
      refine wp_skip ?_
      show Code.wp _ _ _ _ _
      refine wp_seq ?_
      refine wp_seq ?_
      refine wr_a [.eq (.pointer (some ⟨gd, 0, none⟩)), .eq (.int .i64 i), .eq (vb), .eq (.int .i64 10), .eq (.int .i64 10)] (by rw [sd.1]; kernel_rfl) ⟨fun hw ac u K => ?_, fun hw ac u K => ?_, fun hw ac u K => ?_, fun hw ac u K => ?_, fun hw ac u K => ?_, trivial⟩ ?_
      · exact st_move (.tmp 0) rfl (K.t x0 rfl)
      · exact st_move (.tmp 1) rfl (K.t x1 rfl)
      · exact st_move (.tmp 2) rfl (K.t x2 rfl)
      · exact st_call 21 (.func 21) _ _ _ rfl rfl (arg3 (K.dep 0 10 rfl) (K.dep 1 11 rfl) (K.dep 2 12 rfl)) Tryz.enter21 ((show Calls Tryz.prog 21 #[.pointer (some ⟨gd, 0, none⟩), .int .i64 i, vb] u (fun e w' => ∃ v, e = .returned v ∧ (Fk.eq (.int .i64 10)).f v w' ∧ Below u.heap.size u w') from by have := fk_dfits (HD.below hd K.grow) i (Fk.mono _ _ _ _ hb (bgo bl K.grow)); rw [hft] at this; exact this))
      · exact st_assign (.tmp 13) rfl (K.dep 3 13 rfl)
      intro f3 w3 A hb
      replace x0 := A.t x0 rfl
      replace x1 := A.t x1 rfl
      replace x2 := A.t x2 rfl
      replace x9 := A.t x9 rfl
      have x7 := A.e 4 7 rfl rfl
      replace hd := HD.below hd hb
      replace bl := bgo bl hb
      replace sd := A.sd sd
      clear A hb
      clear x9
      show Code.wp _ _ _ _ _
      refine wp_seq ?_
      refine wr_a [.eq (.int .i64 10), .eq (.bool true)] (by rw [sd.1]; kernel_rfl) ⟨fun hw ac u K => ?_, fun hw ac u K => ?_, trivial⟩ ?_
      · exact st_move (.tmp 7) rfl (K.t x7 rfl)
      · exact st_neqi 27 (.tmp 14) (.const (.int .i64 0)) rfl .i64 (10) (0) (K.dep 0 14 rfl) rfl _ (by rfl)
      intro f4 w4 A hb
      replace x0 := A.t x0 rfl
      replace x1 := A.t x1 rfl
      replace x2 := A.t x2 rfl
      replace x7 := A.t x7 rfl
      have x15 := A.e 1 15 rfl rfl
      replace hd := HD.below hd hb
      replace bl := bgo bl hb
      replace sd := A.sd sd
      clear A hb
      show Code.wp _ _ _ _ _
      refine wp_cond_true x15 ?_
      refine wp_seq ?_
      refine wr_a [.eq (.int .i64 10), .eq (.int .i64 10)] (by rw [sd.1]; kernel_rfl) ⟨fun hw ac u K => ?_, fun hw ac u K => ?_, trivial⟩ ?_
      · exact st_move (.tmp 7) rfl (K.t x7 rfl)
      · exact st_assign (.tmp 16) rfl (K.dep 0 16 rfl)
      intro f5 w5 A hb
      replace x0 := A.t x0 rfl
      replace x1 := A.t x1 rfl
      replace x2 := A.t x2 rfl
      replace x7 := A.t x7 rfl
      replace x15 := A.t x15 rfl
      have x6 := A.e 1 6 rfl rfl
      replace hd := HD.below hd hb
      replace bl := bgo bl hb
      replace sd := A.sd sd
      clear A hb
      clear x0
      clear x1
      clear x2
      clear x7
      clear x15
      show Code.wp _ _ _ _ _
      refine wp_ret ?_
      repeat (first | with_reducible refine then_ret ?_ | with_reducible refine block_ret ?_)
      exact bodyPost_ret (v := .int .i64 10) (ret_slot rfl f5 _ x6 _ _) sd.2 (by rw [show wrt s i b = (10, s) from by unfold wrt; rw [if_neg hdn9, if_neg h3.1, if_pos h3.2]]; exact ⟨D, rfl, hd, fun j q => .inl q, Fr.of_below bl⟩)
    have hft : ft s i b = 0 := by unfold ft; rw [if_neg h3.1, if_neg (fun h => h h3.2)]
    have hlb := h3.2
    refine wr_a [.eq (.pointer (some ⟨gd, 0, none⟩)), .eq (.bool false)] (by rw [sd.1]; kernel_rfl) ⟨fun hw ac u K => ?_, fun hw ac u K => ?_, trivial⟩ ?_
    · exact st_move (.tmp 0) rfl (K.t x0 rfl)
    · exact st_call 29 (.func 29) _ _ _ rfl rfl (one_arg (K.dep 0 8 rfl)) Tryz.enter29 ((show Calls Tryz.prog 29 #[.pointer (some ⟨gd, 0, none⟩)] u (fun e w' => ∃ v, e = .returned v ∧ (Fk.eq (.bool false)).f v w' ∧ Below u.heap.size u w') from by have := fk_ddown (HD.below hd K.grow); rw [hdn] at this; exact this))
    intro f2 w2 A hb
    replace x0 := A.t x0 rfl
    replace x1 := A.t x1 rfl
    replace x2 := A.t x2 rfl
    have x9 := A.e 1 9 rfl rfl
    replace hd := HD.below hd hb
    replace bl := bgo bl hb
    replace sd := A.sd sd
    clear A hb
    show Code.wp _ _ _ _ _
    refine wp_cond_false x9 ?_
    refine wp_skip ?_
    show Code.wp _ _ _ _ _
    refine wp_seq ?_
    refine wp_seq ?_
    refine wr_a [.eq (.pointer (some ⟨gd, 0, none⟩)), .eq (.int .i64 i), .eq (vb), .eq (.int .i64 0), .eq (.int .i64 0)] (by rw [sd.1]; kernel_rfl) ⟨fun hw ac u K => ?_, fun hw ac u K => ?_, fun hw ac u K => ?_, fun hw ac u K => ?_, fun hw ac u K => ?_, trivial⟩ ?_
    · exact st_move (.tmp 0) rfl (K.t x0 rfl)
    · exact st_move (.tmp 1) rfl (K.t x1 rfl)
    · exact st_move (.tmp 2) rfl (K.t x2 rfl)
    · exact st_call 21 (.func 21) _ _ _ rfl rfl (arg3 (K.dep 0 10 rfl) (K.dep 1 11 rfl) (K.dep 2 12 rfl)) Tryz.enter21 ((show Calls Tryz.prog 21 #[.pointer (some ⟨gd, 0, none⟩), .int .i64 i, vb] u (fun e w' => ∃ v, e = .returned v ∧ (Fk.eq (.int .i64 0)).f v w' ∧ Below u.heap.size u w') from by have := fk_dfits (HD.below hd K.grow) i (Fk.mono _ _ _ _ hb (bgo bl K.grow)); rw [hft] at this; exact this))
    · exact st_assign (.tmp 13) rfl (K.dep 3 13 rfl)
    intro f3 w3 A hb
    replace x0 := A.t x0 rfl
    replace x1 := A.t x1 rfl
    replace x2 := A.t x2 rfl
    replace x9 := A.t x9 rfl
    have x7 := A.e 4 7 rfl rfl
    replace hd := HD.below hd hb
    replace bl := bgo bl hb
    replace sd := A.sd sd
    clear A hb
    clear x9
    show Code.wp _ _ _ _ _
    refine wp_seq ?_
    refine wr_a [.eq (.int .i64 0), .eq (.bool false)] (by rw [sd.1]; kernel_rfl) ⟨fun hw ac u K => ?_, fun hw ac u K => ?_, trivial⟩ ?_
    · exact st_move (.tmp 7) rfl (K.t x7 rfl)
    · exact st_neqi 27 (.tmp 14) (.const (.int .i64 0)) rfl .i64 (0) (0) (K.dep 0 14 rfl) rfl _ (by rfl)
    intro f4 w4 A hb
    replace x0 := A.t x0 rfl
    replace x1 := A.t x1 rfl
    replace x2 := A.t x2 rfl
    replace x7 := A.t x7 rfl
    have x15 := A.e 1 15 rfl rfl
    replace hd := HD.below hd hb
    replace bl := bgo bl hb
    replace sd := A.sd sd
    clear A hb
    show Code.wp _ _ _ _ _
    refine wp_cond_false x15 ?_
    refine wp_skip ?_
    show Code.wp _ _ _ _ _
    refine wp_seq ?_
    obtain ⟨sb, cb, C, pl, vs, l, r⟩ := hd00
    have m0 := r.ob
    have hpos := r.pos
    have hzm := r.zmax
    have hnm := r.nmax
    clear hd
    obtain ⟨j, rfl⟩ : ∃ j : Nat, i = (j : Int) := ⟨i.toNat, by omega⟩
    have hj : j < s.has.length := by omega
    refine wr_t [.eq (.pointer (some ⟨gd, 0, none⟩)), .eq (.pointer (some ⟨gd, 0, none⟩)), .eq (.pointer (some ⟨gd, 2, none⟩)), .eq (.map (some cb)), .eq (.int .i64 (j : Int)), .eq (vb), .n8 w.heap.size (b)] [7] Tryz.mixed (by rw [sd.1]; kernel_rfl) ⟨fun hw ac u K => ?_, fun hw ac u K => ?_, fun hw ac u K => ?_, fun hw ac u K => ?_, fun hw ac u K => ?_, fun hw ac u K => ?_, fun hw ac u K => ?_, trivial⟩ ?_
    · exact st_move (.tmp 0) rfl (K.t x0 rfl)
    · exact st_nil (.tmp 17) rfl (K.dep 0 17 rfl)
    · exact st_field 51 2 (.tmp 18) rfl (K.dep 1 18 rfl) (by kernel_rfl)
    · exact st_loadc 46 (.tmp 19) rfl (by kernel_rfl) (K.dep 2 19 rfl) (Ob.cell (Ob.below m0 (bgo bl K.grow)) 2 rfl)
    · exact st_move (.tmp 1) rfl (K.t x1 rfl)
    · exact st_move (.tmp 2) rfl (K.t x2 rfl)
    · exact st_call 22 (.func 22) _ _ _ rfl rfl (one_arg (K.dep 5 22 rfl)) Tryz.enter22 (clone8_own (by omega) (by omega) (Fk.mono _ _ _ _ hb (bgo bl K.grow)) (Nat.le_trans bl.size K.grow.size))
    intro f5 w5 A hb
    replace x0 := A.t x0 rfl
    replace x1 := A.t x1 rfl
    replace x2 := A.t x2 rfl
    replace x7 := A.t x7 rfl
    replace x15 := A.t x15 rfl
    have x20 := A.e 3 20 rfl rfl
    have x21 := A.e 4 21 rfl rfl
    have x23 : Fk.f (.n8 w.heap.size (b)) (f5.eval (.tmp 23)) w5 := A.has 6 23 rfl
    replace bl := bgo bl hb
    replace sd := A.sd sd
    clear A hb
    clear x1
    clear x2
    clear x7
    clear x15
    obtain ⟨g9, C9, e9, q1, q2, q3⟩ := x23
    rw [e9] at q3
    replace x23 := e9
    clear e9 q2
    obtain ⟨w6, hrun, him, O⟩ := run_updateI (P := Tryz.prog) (t := 46) Tryz.under3 Tryz.mapq (Im.below r.im bl) (k := (j : Int)) (wf_nat (by omega)) (.slice (some ⟨g9, 0, none⟩) b.length C9)
    refine wl_exec0 rfl rfl (v := undef) (w2 := w6) (.inr (by unfold execOp; simp [x20, x21, x23, hrun])) ?_
    have hd : HD w6 gd M (fun j => D j ∨ j = g9) { s with cch := s.cch.set j b } := ⟨_, _, _, _, _, _, r.update bl q3 q1 hlb hj him O⟩
    replace bl : Fr M w w6 := (Fr.of_below bl).only O (.inl r.mc)
    replace bl0 := bl
    have hq1 := q1
    clear hrun him O q3 q1 m0
    clear x20
    clear x21
    clear x23
    refine wpList_nil ?_
    show Code.wp _ _ _ _ _
    refine wp_seq ?_
    refine wr_s [.eq (.pointer (some ⟨gd, 0, none⟩))] (by rw [sd.1]; kernel_rfl) ⟨fun hw ac u K => ?_, trivial⟩ ?_
    · exact st_move (.tmp 0) rfl (K.t x0 rfl)
    intro f7 w7 A hb
    replace x0 := A.t x0 rfl
    have x24 := A.e 0 24 rfl rfl
    replace hd := HD.below hd hb
    replace bl := (Fr.grow bl hb)
    replace sd := A.sd sd
    clear A hb
    clear x0
    refine wl_call 72 (.func 72) _ _ #[.pointer (some ⟨gd, 0, none⟩)] rfl 25 rfl (by rw [sd.1]; decide) rfl rfl (one_arg x24) Tryz.enter72 (fun u W' => u = .int .i64 (cmd { s with cch := s.cch.set j b }).1 ∧ HD W' gd M (fun j => D j ∨ j = g9) ((cmd { s with cch := s.cch.set j b }).2) ∧ Fr M w7 W') ((hd.dcmd hs).mono (by rintro e w' ⟨rfl, q1, q2⟩; exact ⟨_, rfl, rfl, q1, q2⟩)) ?_
    rintro f8 w8 df2 sz2 old2 ⟨x25, hd2, O⟩
    replace x24 := tr old2 x24 rfl
    replace bl := bl.trans O
    replace bl0 := bl
    replace hd := hd2
    replace sd := sd2 sz2 df2 sd
    clear df2 sz2 old2 O hd2
    clear x24
    refine wl_one (.eq (.int .i64 (cmd { s with cch := s.cch.set j b }).1)) rfl 6 rfl (by rw [sd.1]; decide) (st_assign (.tmp 25) rfl x25) ?_
    intro f9 w9 df2 sz2 old2 new2 hb
    replace x25 := tr old2 x25 rfl
    have x6 := Fk.e new2
    replace hd := HD.below hd hb
    replace bl := (Fr.grow bl hb)
    replace sd := sd2 sz2 df2 sd
    clear df2 sz2 old2 new2 hb
    refine wpList_nil ?_
    clear x25
    show Code.wp _ _ _ _ _
    refine wp_ret ?_
    repeat (first | with_reducible refine then_ret ?_ | with_reducible refine block_ret ?_)
    exact bodyPost_ret (v := .int .i64 (cmd { s with cch := s.cch.set j b }).1) (ret_slot rfl f9 _ x6 _ _) sd.2 (by rw [show wrt s (j : Int) b = cmd { s with cch := s.cch.set j b } from by unfold wrt; rw [if_neg hdn9, if_neg h3.1, if_neg (fun h => h hlb), Int.toNat_natCast]]; exact ⟨_, rfl, hd, fun q h => h.imp id (fun e => by rw [e]; exact hq1), bl⟩)
  refine wr_a [.eq (.pointer (some ⟨gd, 0, none⟩)), .eq (.bool true)] (by rw [sd.1]; kernel_rfl) ⟨fun hw ac u K => ?_, fun hw ac u K => ?_, trivial⟩ ?_
  · exact st_move (.tmp 0) rfl (K.t x0 rfl)
  · exact st_call 29 (.func 29) _ _ _ rfl rfl (one_arg (K.dep 0 8 rfl)) Tryz.enter29 ((show Calls Tryz.prog 29 #[.pointer (some ⟨gd, 0, none⟩)] u (fun e w' => ∃ v, e = .returned v ∧ (Fk.eq (.bool true)).f v w' ∧ Below u.heap.size u w') from by have := fk_ddown (HD.below hd K.grow); rw [hdn] at this; exact this))
  intro f2 w2 A hb
  replace x0 := A.t x0 rfl
  replace x1 := A.t x1 rfl
  replace x2 := A.t x2 rfl
  have x9 := A.e 1 9 rfl rfl
  replace hd := HD.below hd hb
  replace bl := bgo bl hb
  replace sd := A.sd sd
  clear A hb
  show Code.wp _ _ _ _ _
  refine wp_cond_true x9 ?_
  refine wp_seq ?_
  refine wr_a [.eq (.int .i64 30)] (by rw [sd.1]; kernel_rfl) ⟨fun hw ac u K => ?_, trivial⟩ ?_
  · exact st_assign (.const (.int .i64 30)) rfl rfl
  intro f3 w3 A hb
  replace x0 := A.t x0 rfl
  replace x1 := A.t x1 rfl
  replace x2 := A.t x2 rfl
  replace x9 := A.t x9 rfl
  have x6 := A.e 0 6 rfl rfl
  replace hd := HD.below hd hb
  replace bl := bgo bl hb
  replace sd := A.sd sd
  clear A hb
  clear x0
  clear x1
  clear x2
  clear x9
  show Code.wp _ _ _ _ _
  refine wp_ret ?_
  repeat (first | with_reducible refine then_ret ?_ | with_reducible refine block_ret ?_)
  exact bodyPost_ret (v := .int .i64 30) (ret_slot rfl f3 _ x6 _ _) sd.2 (by rw [show wrt s i b = (30, s) from by unfold wrt; rw [if_pos hdn]]; exact ⟨D, rfl, hd, fun j q => .inl q, Fr.of_below bl⟩)
end Go.Proofs.YtakdpkoigijonaaGreat
