/- The landed wal: its struct; Home, Room, Size, Down, has, the sectors' numbers. The landed wal: told, Read. The landed wal: names. The landed wal: headOf. -/
import Derived.Test.YtakdpkoigijonaaGreatM9
import Derived.Test.YtakdpkoigijonaaGreatM7
import Derived.Test.YtakdpkoigijonaaGreatM8
namespace Go.Proofs.YtakdpkoigijonaaGreat
set_option maxRecDepth 100000
open Go.RowKit
/-- The wal in memory: its struct at gw, over the disk at gd. -/
def HW (w : World) (gw gd : Nat) (V : Nat → Prop) (_n _z : Nat) (dn : Bool) : Prop := Ob w gw 62 [.pointer (some ⟨gd, 0, none⟩), .bool dn] ∧ ∀ j, V j ↔ j = gw
theorem HW.lt {w : World} {gw gd n z : Nat} {V : Nat → Prop} {dn : Bool} (h : HW w gw gd V n z dn) : ∀ j, V j → j < w.heap.size := fun j q => by
  rw [(h.2 j).1 q]
  exact Ob.lt h.1
theorem Ob.keep {w w' : World} {b : Nat} {T : TypeId} {cs : List Value} (h : Ob w b T cs) (hb : w'.heap[b]? = w.heap[b]?) : Ob w' b T cs := hb.trans h
theorem HW.keep {w w' : World} {gw gd n z : Nat} {V : Nat → Prop} {dn : Bool} (h : HW w gw gd V n z dn) (hk : ∀ j, V j → w'.heap[j]? = w.heap[j]?) (_hs : w.heap.size ≤ w'.heap.size) : HW w' gw gd V n z dn := ⟨h.1.keep (hk gw ((h.2 gw).2 rfl)), h.2⟩
theorem HD.nz {w : World} {gd n z k9 : Nat} {M D : Nat → Prop} {s : Dst} (hd : HD w gd M D s) (gs : Gd s n z k9) : (1 ≤ n ∧ n ≤ 65536) ∧ (1 ≤ z ∧ z ≤ 4096) := by
  obtain ⟨sb, cb, C, pl, vs, l, r⟩ := hd
  have h1 := r.nmax
  have h2 := r.pos
  have h3 := r.zmax
  rw [gs.has] at h1
  rw [gs.size] at h2 h3
  omega
theorem fk_dsecN {w : World} {gd n z k9 : Nat} {M D : Nat → Prop} {s : Dst} (hd : HD w gd M D s) (gs : Gd s n z k9) : Calls Tryz.prog 26 #[.pointer (some ⟨gd, 0, none⟩)] w fun e w' => ∃ u, e = .returned u ∧ (Fk.eq (.int .i64 (n : Int))).f u w' ∧ Below w.heap.size w w' := by
  have := fk_dsectors hd
  rw [gs.has] at this
  exact this
theorem fk_dsizN {w : World} {gd n z k9 : Nat} {M D : Nat → Prop} {s : Dst} (hd : HD w gd M D s) (gs : Gd s n z k9) : Calls Tryz.prog 27 #[.pointer (some ⟨gd, 0, none⟩)] w fun e w' => ∃ u, e = .returned u ∧ (Fk.eq (.int .i64 (z : Int))).f u w' ∧ Below w.heap.size w w' := by
  have := fk_dsize hd
  rw [gs.size] at this
  exact this
theorem homN_half {n : Nat} (h : 1 ≤ n) : homN n = n / 2 := by unfold homN; omega
theorem homN_le {n : Nat} (h : 1 ≤ n) : 1 + homN n ≤ n + 1 ∧ homN n + jouN n + 1 = n := by unfold jouN homN; omega
section
variable {Q : Exit → Act → World → Prop} {o : Oper} {a : Act} {w : World}
theorem st_quoc (x y : Operand) (ho : o.op = .binOp .quo 3 x y 3) (m c : Nat) (hc : 0 < c) (hm : m ≤ 1000000) (hx : a.eval x = .int .i64 (m : Int)) (hy : a.eval y = .int .i64 (c : Int)) : o.wp Tryz.prog a w (Ends a o.dst w (Fk.eq (.int .i64 ((m / c : Nat) : Int))).f) Q := by
  refine st_bin .quo 3 3 x y ho hx hy ?_
  have h1 : Int.tdiv (m : Int) c = ((m / c : Nat) : Int) := by
    rw [Int.tdiv_eq_ediv_of_nonneg (by omega)]
    rfl
  have h2 : m / c ≤ m := Nat.div_le_self _ _
  generalize m / c = q at h1 h2 ⊢
  simp only [eqGuard, binOp, Op.intDiv]
  have h4 : ¬ c = 0 := by omega
  simp [h1, h4]
  rw [IntKind.wrap_i64]
  omega
theorem st_min2 (x y : Operand) (ts : Array TypeId) (ho : o.op = .call { callee := .builtin .min, args := #[x, y], argTypes := ts }) (m n e : Int) (hx : a.eval x = .int .i64 m) (hy : a.eval y = .int .i64 n) (he : e = min m n) : o.wp Tryz.prog a w (Ends a o.dst w (Fk.eq (.int .i64 e)).f) Q := by
  refine st_pure (v := .int .i64 e) ?_ rfl
  have h1 := run_min_int2 (P := Tryz.prog) (w := w) ts o.type .i64 .i64 m n
  have h2 : (if n < m then n else m) = e := by rw [he]; split <;> omega
  rw [h2] at h1
  unfold execOp
  simp [ho, resolve, invoke, builtin, hx, hy, h1]
end
theorem fk_whs {m : Nat} (hm : m ≤ 900000) (w : World) :
    Calls Tryz.prog 44 #[.int .i64 (m : Int)] w fun e w' => ∃ u, e = .returned u ∧ (Fk.eq (.int .i64 ((1 + m : Nat) : Int))).f u w' ∧ Below w.heap.size w w' := by
  go_enter Tryz.func44, Tryz.ntmps44
  refine code_both (fun f w1 => f.tmps.size = 5 ∧ f.defers = [] ∧ f.eval (.tmp 0) = .int .i64 (m : Int) ∧ Below w.heap.size w (w1)) ⟨rfl, rfl, rfl, Below.refl _ _⟩ ?_
  rintro f0 w0 ⟨sz, df, x0, bl⟩
  have sd := And.intro sz df
  clear sz df
  have bl0 := bl
  refine wp_seq ?_
  refine wr_a [.eq (.int .i64 0)] (by rw [sd.1]; kernel_rfl) ⟨fun hw ac u K => ?_, trivial⟩ ?_
  · exact st_assign (.const (.int .i64 0)) rfl rfl
  intro f1 w1 A hb
  replace x0 := A.t x0 rfl
  replace bl := bgo bl hb
  replace sd := A.sd sd
  clear A hb
  show Code.wp _ _ _ _ _
  refine wp_seq ?_
  refine wr_a [.eq (.int .i64 (m : Int)), .eq (.int .i64 ((1 + m : Nat) : Int)), .eq (.int .i64 ((1 + m : Nat) : Int))] (by rw [sd.1]; kernel_rfl) ⟨fun hw ac u K => ?_, fun hw ac u K => ?_, fun hw ac u K => ?_, trivial⟩ ?_
  · exact st_move (.tmp 0) rfl (K.t x0 rfl)
  · exact st_add (.const (.int .i64 1)) (.tmp 3) rfl (1) (m) (1 + m) rfl (K.dep 0 3 rfl) rfl (by omega)
  · exact st_assign (.tmp 4) rfl (K.dep 1 4 rfl)
  intro f2 w2 A hb
  replace x0 := A.t x0 rfl
  have x2 := A.e 2 2 rfl rfl
  replace bl := bgo bl hb
  replace sd := A.sd sd
  clear A hb
  clear x0
  show Code.wp _ _ _ _ _
  refine wp_ret ?_
  repeat (first | with_reducible refine then_ret ?_ | with_reducible refine block_ret ?_)
  exact bodyPost_ret (v := .int .i64 ((1 + m : Nat) : Int)) (ret_slot rfl f2 _ x2 _ _) sd.2 ⟨_, rfl, rfl, bl⟩
theorem fk_wni {m : Nat} (hm : m ≤ 900000) (h16 : 16 ≤ m) (w : World) :
    Calls Tryz.prog 38 #[.int .i64 (m : Int)] w fun e w' => ∃ u, e = .returned u ∧ (Fk.eq (.int .i64 ((m / 8 - 2 : Nat) : Int))).f u w' ∧ Below w.heap.size w w' := by
  go_enter Tryz.func38, Tryz.ntmps38
  refine code_both (fun f w1 => f.tmps.size = 6 ∧ f.defers = [] ∧ f.eval (.tmp 0) = .int .i64 (m : Int) ∧ Below w.heap.size w (w1)) ⟨rfl, rfl, rfl, Below.refl _ _⟩ ?_
  rintro f0 w0 ⟨sz, df, x0, bl⟩
  have sd := And.intro sz df
  clear sz df
  have bl0 := bl
  refine wp_seq ?_
  refine wr_a [.eq (.int .i64 0)] (by rw [sd.1]; kernel_rfl) ⟨fun hw ac u K => ?_, trivial⟩ ?_
  · exact st_assign (.const (.int .i64 0)) rfl rfl
  intro f1 w1 A hb
  replace x0 := A.t x0 rfl
  replace bl := bgo bl hb
  replace sd := A.sd sd
  clear A hb
  show Code.wp _ _ _ _ _
  refine wp_seq ?_
  refine wr_a [.eq (.int .i64 (m : Int)), .eq (.int .i64 ((m / 8 : Nat) : Int)), .eq (.int .i64 ((m / 8 - 2 : Nat) : Int)), .eq (.int .i64 ((m / 8 - 2 : Nat) : Int))] (by rw [sd.1]; kernel_rfl) ⟨fun hw ac u K => ?_, fun hw ac u K => ?_, fun hw ac u K => ?_, fun hw ac u K => ?_, trivial⟩ ?_
  · exact st_move (.tmp 0) rfl (K.t x0 rfl)
  · exact st_quoc (.tmp 3) (.const (.int .i64 8)) rfl m 8 (by omega) (by omega) (K.dep 0 3 rfl) rfl
  · exact st_sub (.tmp 4) (.const (.int .i64 2)) rfl (m / 8) 2 (m / 8 - 2) (K.dep 1 4 rfl) rfl (by omega) (by omega)
  · exact st_assign (.tmp 5) rfl (K.dep 2 5 rfl)
  intro f2 w2 A hb
  replace x0 := A.t x0 rfl
  have x2 := A.e 3 2 rfl rfl
  replace bl := bgo bl hb
  replace sd := A.sd sd
  clear A hb
  clear x0
  show Code.wp _ _ _ _ _
  refine wp_ret ?_
  repeat (first | with_reducible refine then_ret ?_ | with_reducible refine block_ret ?_)
  exact bodyPost_ret (v := .int .i64 ((m / 8 - 2 : Nat) : Int)) (ret_slot rfl f2 _ x2 _ _) sd.2 ⟨_, rfl, rfl, bl⟩
theorem fk_xhome {w : World} {gw gd n z k9 : Nat} {M D : Nat → Prop} {dn : Bool} {s : Dst} (mw : Ob w gw 62 [.pointer (some ⟨gd, 0, none⟩), .bool dn]) (hd : HD w gd M D s) (gs : Gd s n z k9) :
    Calls Tryz.prog 17 #[.pointer (some ⟨gw, 0, none⟩)] w fun e w' => ∃ u, e = .returned u ∧ (Fk.eq (.int .i64 ((homN n : Nat) : Int))).f u w' ∧ Below w.heap.size w w' := by
  obtain ⟨⟨hn1, hn2⟩, hz1, hz2⟩ := HD.nz hd gs
  have hho := homN_le hn1
  go_enter Tryz.func17, Tryz.ntmps17
  refine code_both (fun f w1 => f.tmps.size = 9 ∧ f.defers = [] ∧ f.eval (.tmp 0) = .pointer (some ⟨gw, 0, none⟩) ∧ Below w.heap.size w (w1)) ⟨rfl, rfl, rfl, Below.refl _ _⟩ ?_
  rintro f0 w0 ⟨sz, df, x0, bl⟩
  have sd := And.intro sz df
  clear sz df
  have bl0 := bl
  refine wp_seq ?_
  refine wr_a [.eq (.int .i64 0)] (by rw [sd.1]; kernel_rfl) ⟨fun hw ac u K => ?_, trivial⟩ ?_
  · exact st_assign (.const (.int .i64 0)) rfl rfl
  intro f1 w1 A hb
  replace x0 := A.t x0 rfl
  replace bl := bgo bl hb
  replace sd := A.sd sd
  clear A hb
  show Code.wp _ _ _ _ _
  refine wp_seq ?_
  refine wr_a [.eq (.pointer (some ⟨gw, 0, none⟩)), .eq (.pointer (some ⟨gw, 0, none⟩)), .eq (.pointer (some ⟨gw, 0, none⟩)), .eq (.pointer (some ⟨gd, 0, none⟩)), .eq (.int .i64 (n : Int)), .eq (.int .i64 ((n / 2 : Nat) : Int)), .eq (.int .i64 ((n / 2 : Nat) : Int))] (by rw [sd.1]; kernel_rfl) ⟨fun hw ac u K => ?_, fun hw ac u K => ?_, fun hw ac u K => ?_, fun hw ac u K => ?_, fun hw ac u K => ?_, fun hw ac u K => ?_, fun hw ac u K => ?_, trivial⟩ ?_
  · exact st_move (.tmp 0) rfl (K.t x0 rfl)
  · exact st_nil (.tmp 3) rfl (K.dep 0 3 rfl)
  · exact st_field 62 0 (.tmp 4) rfl (K.dep 1 4 rfl) (by kernel_rfl)
  · exact st_loadc 24 (.tmp 5) rfl (by kernel_rfl) (K.dep 2 5 rfl) (Ob.cell (Ob.below mw (bgo bl K.grow)) 0 rfl)
  · exact st_call 26 (.func 26) _ _ _ rfl rfl (one_arg (K.dep 3 6 rfl)) Tryz.enter26 (fk_dsecN (HD.below hd (bgo bl K.grow)) gs)
  · exact st_quoc (.tmp 7) (.const (.int .i64 2)) rfl n 2 (by omega) (by omega) (K.dep 4 7 rfl) rfl
  · exact st_assign (.tmp 8) rfl (K.dep 5 8 rfl)
  intro f2 w2 A hb
  replace x0 := A.t x0 rfl
  have x2 := A.e 6 2 rfl rfl
  replace bl := bgo bl hb
  replace sd := A.sd sd
  clear A hb
  clear x0
  show Code.wp _ _ _ _ _
  refine wp_ret ?_
  repeat (first | with_reducible refine then_ret ?_ | with_reducible refine block_ret ?_)
  exact bodyPost_ret (v := .int .i64 ((n / 2 : Nat) : Int)) (ret_slot rfl f2 _ x2 _ _) sd.2 ⟨_, rfl, by rw [homN_half hn1]; rfl, bl⟩
theorem fk_xjs {w : World} {gw gd n z k9 : Nat} {M D : Nat → Prop} {dn : Bool} {s : Dst} (mw : Ob w gw 62 [.pointer (some ⟨gd, 0, none⟩), .bool dn]) (hd : HD w gd M D s) (gs : Gd s n z k9) {m : Nat} (hm : m ≤ 900000) :
    Calls Tryz.prog 37 #[.pointer (some ⟨gw, 0, none⟩), .int .i64 (m : Int)] w fun e w' => ∃ u, e = .returned u ∧ (Fk.eq (.int .i64 ((1 + homN n + m : Nat) : Int))).f u w' ∧ Below w.heap.size w w' := by
  obtain ⟨⟨hn1, hn2⟩, hz1, hz2⟩ := HD.nz hd gs
  have hho := homN_le hn1
  go_enter Tryz.func37, Tryz.ntmps37
  refine code_both (fun f w1 => f.tmps.size = 10 ∧ f.defers = [] ∧ f.eval (.tmp 0) = .pointer (some ⟨gw, 0, none⟩) ∧ f.eval (.tmp 1) = .int .i64 (m : Int) ∧ Below w.heap.size w (w1)) ⟨rfl, rfl, rfl, rfl, Below.refl _ _⟩ ?_
  rintro f0 w0 ⟨sz, df, x0, x1, bl⟩
  have sd := And.intro sz df
  clear sz df
  have bl0 := bl
  refine wp_seq ?_
  refine wr_a [.eq (.int .i64 0)] (by rw [sd.1]; kernel_rfl) ⟨fun hw ac u K => ?_, trivial⟩ ?_
  · exact st_assign (.const (.int .i64 0)) rfl rfl
  intro f1 w1 A hb
  replace x0 := A.t x0 rfl
  replace x1 := A.t x1 rfl
  replace bl := bgo bl hb
  replace sd := A.sd sd
  clear A hb
  show Code.wp _ _ _ _ _
  refine wp_seq ?_
  refine wr_a [.eq (.pointer (some ⟨gw, 0, none⟩)), .eq (.int .i64 ((homN n : Nat) : Int)), .eq (.int .i64 ((1 + homN n : Nat) : Int)), .eq (.int .i64 (m : Int)), .eq (.int .i64 (((1 + homN n) + m : Nat) : Int)), .eq (.int .i64 (((1 + homN n) + m : Nat) : Int))] (by rw [sd.1]; kernel_rfl) ⟨fun hw ac u K => ?_, fun hw ac u K => ?_, fun hw ac u K => ?_, fun hw ac u K => ?_, fun hw ac u K => ?_, fun hw ac u K => ?_, trivial⟩ ?_
  · exact st_move (.tmp 0) rfl (K.t x0 rfl)
  · exact st_call 17 (.func 17) _ _ _ rfl rfl (one_arg (K.dep 0 5 rfl)) Tryz.enter17 (fk_xhome (Ob.below mw (bgo bl K.grow)) (HD.below hd (bgo bl K.grow)) gs)
  · exact st_call 44 (.func 44) _ _ _ rfl rfl (one_arg (K.dep 1 6 rfl)) Tryz.enter44 (fk_whs (by omega) _)
  · exact st_move (.tmp 1) rfl (K.t x1 rfl)
  · exact st_add (.tmp 7) (.tmp 8) rfl (1 + homN n) (m) ((1 + homN n) + m) (K.dep 2 7 rfl) (K.dep 3 8 rfl) (by omega) (by omega)
  · exact st_assign (.tmp 9) rfl (K.dep 4 9 rfl)
  intro f2 w2 A hb
  replace x0 := A.t x0 rfl
  replace x1 := A.t x1 rfl
  have x4 := A.e 5 4 rfl rfl
  replace bl := bgo bl hb
  replace sd := A.sd sd
  clear A hb
  clear x0
  clear x1
  show Code.wp _ _ _ _ _
  refine wp_ret ?_
  repeat (first | with_reducible refine then_ret ?_ | with_reducible refine block_ret ?_)
  exact bodyPost_ret (v := .int .i64 ((1 + homN n + m : Nat) : Int)) (ret_slot rfl f2 _ x4 _ _) sd.2 ⟨_, rfl, rfl, bl⟩
theorem fk_xsize {w : World} {gw gd n z k9 : Nat} {M D : Nat → Prop} {dn : Bool} {s : Dst} (mw : Ob w gw 62 [.pointer (some ⟨gd, 0, none⟩), .bool dn]) (hd : HD w gd M D s) (gs : Gd s n z k9) :
    Calls Tryz.prog 39 #[.pointer (some ⟨gw, 0, none⟩)] w fun e w' => ∃ u, e = .returned u ∧ (Fk.eq (.int .i64 (z : Int))).f u w' ∧ Below w.heap.size w w' := by
  go_enter Tryz.func39, Tryz.ntmps39
  refine code_both (fun f w1 => f.tmps.size = 8 ∧ f.defers = [] ∧ f.eval (.tmp 0) = .pointer (some ⟨gw, 0, none⟩) ∧ Below w.heap.size w (w1)) ⟨rfl, rfl, rfl, Below.refl _ _⟩ ?_
  rintro f0 w0 ⟨sz, df, x0, bl⟩
  have sd := And.intro sz df
  clear sz df
  have bl0 := bl
  refine wp_seq ?_
  refine wr_a [.eq (.int .i64 0)] (by rw [sd.1]; kernel_rfl) ⟨fun hw ac u K => ?_, trivial⟩ ?_
  · exact st_assign (.const (.int .i64 0)) rfl rfl
  intro f1 w1 A hb
  replace x0 := A.t x0 rfl
  replace bl := bgo bl hb
  replace sd := A.sd sd
  clear A hb
  show Code.wp _ _ _ _ _
  refine wp_seq ?_
  refine wr_a [.eq (.pointer (some ⟨gw, 0, none⟩)), .eq (.pointer (some ⟨gw, 0, none⟩)), .eq (.pointer (some ⟨gw, 0, none⟩)), .eq (.pointer (some ⟨gd, 0, none⟩)), .eq (.int .i64 (z : Int)), .eq (.int .i64 (z : Int))] (by rw [sd.1]; kernel_rfl) ⟨fun hw ac u K => ?_, fun hw ac u K => ?_, fun hw ac u K => ?_, fun hw ac u K => ?_, fun hw ac u K => ?_, fun hw ac u K => ?_, trivial⟩ ?_
  · exact st_move (.tmp 0) rfl (K.t x0 rfl)
  · exact st_nil (.tmp 3) rfl (K.dep 0 3 rfl)
  · exact st_field 62 0 (.tmp 4) rfl (K.dep 1 4 rfl) (by kernel_rfl)
  · exact st_loadc 24 (.tmp 5) rfl (by kernel_rfl) (K.dep 2 5 rfl) (Ob.cell (Ob.below mw (bgo bl K.grow)) 0 rfl)
  · exact st_call 27 (.func 27) _ _ _ rfl rfl (one_arg (K.dep 3 6 rfl)) Tryz.enter27 (fk_dsizN (HD.below hd (bgo bl K.grow)) gs)
  · exact st_assign (.tmp 7) rfl (K.dep 4 7 rfl)
  intro f2 w2 A hb
  replace x0 := A.t x0 rfl
  have x2 := A.e 5 2 rfl rfl
  replace bl := bgo bl hb
  replace sd := A.sd sd
  clear A hb
  clear x0
  show Code.wp _ _ _ _ _
  refine wp_ret ?_
  repeat (first | with_reducible refine then_ret ?_ | with_reducible refine block_ret ?_)
  exact bodyPost_ret (v := .int .i64 (z : Int)) (ret_slot rfl f2 _ x2 _ _) sd.2 ⟨_, rfl, rfl, bl⟩
theorem fk_xroom {w : World} {gw gd n z k9 : Nat} {M D : Nat → Prop} {dn : Bool} {s : Dst} (mw : Ob w gw 62 [.pointer (some ⟨gd, 0, none⟩), .bool dn]) (hd : HD w gd M D s) (gs : Gd s n z k9) (h16 : 16 ≤ z) :
    Calls Tryz.prog 18 #[.pointer (some ⟨gw, 0, none⟩)] w fun e w' => ∃ u, e = .returned u ∧ (Fk.eq (.int .i64 ((roomN n z : Nat) : Int))).f u w' ∧ Below w.heap.size w w' := by
  obtain ⟨⟨hn1, hn2⟩, hz1, hz2⟩ := HD.nz hd gs
  have hho := homN_le hn1
  obtain ⟨j, hj⟩ : ∃ j, j = jouN n := ⟨_, rfl⟩
  rw [← hj] at hho
  go_enter Tryz.func18, Tryz.ntmps18
  refine code_both (fun f w1 => f.tmps.size = 15 ∧ f.defers = [] ∧ f.eval (.tmp 0) = .pointer (some ⟨gw, 0, none⟩) ∧ Below w.heap.size w (w1)) ⟨rfl, rfl, rfl, Below.refl _ _⟩ ?_
  rintro f0 w0 ⟨sz, df, x0, bl⟩
  have sd := And.intro sz df
  clear sz df
  have bl0 := bl
  refine wp_seq ?_
  refine wr_a [.eq (.int .i64 0)] (by rw [sd.1]; kernel_rfl) ⟨fun hw ac u K => ?_, trivial⟩ ?_
  · exact st_assign (.const (.int .i64 0)) rfl rfl
  intro f1 w1 A hb
  replace x0 := A.t x0 rfl
  replace bl := bgo bl hb
  replace sd := A.sd sd
  clear A hb
  show Code.wp _ _ _ _ _
  refine wp_seq ?_
  refine wr_a [.eq (.pointer (some ⟨gw, 0, none⟩)), .eq (.pointer (some ⟨gw, 0, none⟩)), .eq (.pointer (some ⟨gw, 0, none⟩)), .eq (.pointer (some ⟨gd, 0, none⟩)), .eq (.int .i64 (n : Int)), .eq (.pointer (some ⟨gw, 0, none⟩)), .eq (.int .i64 ((1 + homN n + 0 : Nat) : Int)), .eq (.int .i64 (j : Int)), .eq (.pointer (some ⟨gw, 0, none⟩)), .eq (.int .i64 (z : Int)), .eq (.int .i64 ((z / 8 - 2 : Nat) : Int)), .eq (.int .i64 ((roomN n z : Nat) : Int)), .eq (.int .i64 ((roomN n z : Nat) : Int))] (by rw [sd.1]; kernel_rfl) ⟨fun hw ac u K => ?_, fun hw ac u K => ?_, fun hw ac u K => ?_, fun hw ac u K => ?_, fun hw ac u K => ?_, fun hw ac u K => ?_, fun hw ac u K => ?_, fun hw ac u K => ?_, fun hw ac u K => ?_, fun hw ac u K => ?_, fun hw ac u K => ?_, fun hw ac u K => ?_, fun hw ac u K => ?_, trivial⟩ ?_
  · exact st_move (.tmp 0) rfl (K.t x0 rfl)
  · exact st_nil (.tmp 3) rfl (K.dep 0 3 rfl)
  · exact st_field 62 0 (.tmp 4) rfl (K.dep 1 4 rfl) (by kernel_rfl)
  · exact st_loadc 24 (.tmp 5) rfl (by kernel_rfl) (K.dep 2 5 rfl) (Ob.cell (Ob.below mw (bgo bl K.grow)) 0 rfl)
  · exact st_call 26 (.func 26) _ _ _ rfl rfl (one_arg (K.dep 3 6 rfl)) Tryz.enter26 (fk_dsecN (HD.below hd (bgo bl K.grow)) gs)
  · exact st_move (.tmp 0) rfl (K.t x0 rfl)
  · exact st_call 37 (.func 37) _ _ _ rfl rfl (arg2 (K.dep 5 8 rfl) rfl) Tryz.enter37 (fk_xjs (Ob.below mw (bgo bl K.grow)) (HD.below hd (bgo bl K.grow)) gs (m := 0) (by omega))
  · exact st_sub (.tmp 7) (.tmp 9) rfl n (1 + homN n + 0) j (K.dep 4 7 rfl) (K.dep 6 9 rfl) (by omega) (by omega)
  · exact st_move (.tmp 0) rfl (K.t x0 rfl)
  · exact st_call 39 (.func 39) _ _ _ rfl rfl (one_arg (K.dep 8 11 rfl)) Tryz.enter39 (fk_xsize (Ob.below mw (bgo bl K.grow)) (HD.below hd (bgo bl K.grow)) gs)
  · exact st_call 38 (.func 38) _ _ _ rfl rfl (one_arg (K.dep 9 12 rfl)) Tryz.enter38 (fk_wni (by omega) h16 _)
  · exact st_min2 (.tmp 10) (.tmp 13) _ rfl (j : Int) ((z / 8 - 2 : Nat) : Int) _ (K.dep 7 10 rfl) (K.dep 10 13 rfl) (by rw [hj]; unfold roomN; omega)
  · exact st_assign (.tmp 14) rfl (K.dep 11 14 rfl)
  intro f2 w2 A hb
  replace x0 := A.t x0 rfl
  have x2 := A.e 12 2 rfl rfl
  replace bl := bgo bl hb
  replace sd := A.sd sd
  clear A hb
  clear x0
  show Code.wp _ _ _ _ _
  refine wp_ret ?_
  repeat (first | with_reducible refine then_ret ?_ | with_reducible refine block_ret ?_)
  exact bodyPost_ret (v := .int .i64 ((roomN n z : Nat) : Int)) (ret_slot rfl f2 _ x2 _ _) sd.2 ⟨_, rfl, rfl, bl⟩
theorem fk_xhas {w : World} {gw gd n z k9 : Nat} {M D : Nat → Prop} {dn : Bool} {s : Dst} (mw : Ob w gw 62 [.pointer (some ⟨gd, 0, none⟩), .bool dn]) (hd : HD w gd M D s) (gs : Gd s n z k9) (i : Int) :
    Calls Tryz.prog 43 #[.pointer (some ⟨gw, 0, none⟩), .int .i64 i] w fun e w' => ∃ u, e = .returned u ∧ (Fk.eq (.bool (decide (0 ≤ i ∧ i < (homN n : Int))))).f u w' ∧ Below w.heap.size w w' := by
  obtain ⟨⟨hn1, hn2⟩, hz1, hz2⟩ := HD.nz hd gs
  have hho := homN_le hn1
  go_enter Tryz.func43, Tryz.ntmps43
  refine code_both (fun f w1 => f.tmps.size = 13 ∧ f.defers = [] ∧ f.eval (.tmp 0) = .pointer (some ⟨gw, 0, none⟩) ∧ f.eval (.tmp 1) = .int .i64 i ∧ Below w.heap.size w (w1)) ⟨rfl, rfl, rfl, rfl, Below.refl _ _⟩ ?_
  rintro f0 w0 ⟨sz, df, x0, x1, bl⟩
  have sd := And.intro sz df
  clear sz df
  have bl0 := bl
  refine wp_seq ?_
  refine wr_a [.eq (.bool false)] (by rw [sd.1]; kernel_rfl) ⟨fun hw ac u K => ?_, trivial⟩ ?_
  · exact st_assign (.const (.bool false)) rfl rfl
  intro f1 w1 A hb
  replace x0 := A.t x0 rfl
  replace x1 := A.t x1 rfl
  replace bl := bgo bl hb
  replace sd := A.sd sd
  clear A hb
  show Code.wp _ _ _ _ _
  refine wp_seq ?_
  by_cases h0 : 0 ≤ i
  rotate_left
  · skip
    refine wr_a [.eq (.int .i64 i), .eq (.bool false), .eq (.bool false), .any, .any, .any, .any, .eq (.bool false), .eq (.bool false)] (by rw [sd.1]; kernel_rfl) ⟨fun hw ac u K => ?_, fun hw ac u K => ?_, fun hw ac u K => ?_, fun hw ac u K => ?_, fun hw ac u K => ?_, fun hw ac u K => ?_, fun hw ac u K => ?_, fun hw ac u K => ?_, fun hw ac u K => ?_, trivial⟩ ?_
    · exact st_move (.tmp 1) rfl (K.t x1 rfl)
    · exact st_geq 3 (.tmp 5) (.const (.int .i64 0)) rfl .i64 (i) (0) (K.dep 0 5 rfl) rfl _ (by rw [eq_comm, decide_eq_false_iff_not]; exact h0)
    · exact st_move (.tmp 6) rfl (K.dep 1 6 rfl)
    · exact (Bool.false_ne_true hw).elim
    · exact (Bool.false_ne_true hw).elim
    · exact (Bool.false_ne_true hw).elim
    · exact (Bool.false_ne_true hw).elim
    · exact st_pick_f' (.tmp 7) (.tmp 11) (.const (.bool false)) rfl (K.dep 2 7 rfl) rfl
    · exact st_assign (.tmp 12) rfl (K.dep 7 12 rfl)
    intro f2 w2 A hb
    replace x0 := A.t x0 rfl
    replace x1 := A.t x1 rfl
    have x4 := A.e 8 4 rfl rfl
    replace bl := bgo bl hb
    replace sd := A.sd sd
    clear A hb
    clear x0
    clear x1
    show Code.wp _ _ _ _ _
    refine wp_ret ?_
    repeat (first | with_reducible refine then_ret ?_ | with_reducible refine block_ret ?_)
    exact bodyPost_ret (v := .bool false) (ret_slot rfl f2 _ x4 _ _) sd.2 ⟨_, rfl, (by rw [show decide (0 ≤ i ∧ i < (homN n : Int)) = false from by rw [decide_eq_false_iff_not]; exact fun q => h0 q.1]; rfl), bl⟩
  by_cases h1 : i < (homN n : Int)
  rotate_left
  · skip
    refine wr_a [.eq (.int .i64 i), .eq (.bool true), .eq (.bool true), .eq (.int .i64 i), .eq (.pointer (some ⟨gw, 0, none⟩)), .eq (.int .i64 ((homN n : Nat) : Int)), .eq (.bool false), .eq (.bool false), .eq (.bool false)] (by rw [sd.1]; kernel_rfl) ⟨fun hw ac u K => ?_, fun hw ac u K => ?_, fun hw ac u K => ?_, fun hw ac u K => ?_, fun hw ac u K => ?_, fun hw ac u K => ?_, fun hw ac u K => ?_, fun hw ac u K => ?_, fun hw ac u K => ?_, trivial⟩ ?_
    · exact st_move (.tmp 1) rfl (K.t x1 rfl)
    · exact st_geq 3 (.tmp 5) (.const (.int .i64 0)) rfl .i64 (i) (0) (K.dep 0 5 rfl) rfl _ (by rw [eq_comm, decide_eq_true_iff]; exact h0)
    · exact st_move (.tmp 6) rfl (K.dep 1 6 rfl)
    · exact st_move (.tmp 1) rfl (K.t x1 rfl)
    · exact st_move (.tmp 0) rfl (K.t x0 rfl)
    · exact st_call 17 (.func 17) _ _ _ rfl rfl (one_arg (K.dep 4 9 rfl)) Tryz.enter17 (fk_xhome (Ob.below mw (bgo bl K.grow)) (HD.below hd (bgo bl K.grow)) gs)
    · exact st_lss 3 (.tmp 8) (.tmp 10) rfl .i64 (i) (((homN n : Nat) : Int)) (K.dep 3 8 rfl) (K.dep 5 10 rfl) _ (by rw [eq_comm, decide_eq_false_iff_not]; exact h1)
    · exact st_pick_t (.tmp 7) (.tmp 11) (.const (.bool false)) rfl (K.dep 2 7 rfl) (K.dep 6 11 rfl)
    · exact st_assign (.tmp 12) rfl (K.dep 7 12 rfl)
    intro f2 w2 A hb
    replace x0 := A.t x0 rfl
    replace x1 := A.t x1 rfl
    have x4 := A.e 8 4 rfl rfl
    replace bl := bgo bl hb
    replace sd := A.sd sd
    clear A hb
    clear x0
    clear x1
    show Code.wp _ _ _ _ _
    refine wp_ret ?_
    repeat (first | with_reducible refine then_ret ?_ | with_reducible refine block_ret ?_)
    exact bodyPost_ret (v := .bool false) (ret_slot rfl f2 _ x4 _ _) sd.2 ⟨_, rfl, (by rw [show decide (0 ≤ i ∧ i < (homN n : Int)) = false from by rw [decide_eq_false_iff_not]; exact fun q => h1 q.2]; rfl), bl⟩
  refine wr_a [.eq (.int .i64 i), .eq (.bool true), .eq (.bool true), .eq (.int .i64 i), .eq (.pointer (some ⟨gw, 0, none⟩)), .eq (.int .i64 ((homN n : Nat) : Int)), .eq (.bool true), .eq (.bool true), .eq (.bool true)] (by rw [sd.1]; kernel_rfl) ⟨fun hw ac u K => ?_, fun hw ac u K => ?_, fun hw ac u K => ?_, fun hw ac u K => ?_, fun hw ac u K => ?_, fun hw ac u K => ?_, fun hw ac u K => ?_, fun hw ac u K => ?_, fun hw ac u K => ?_, trivial⟩ ?_
  · exact st_move (.tmp 1) rfl (K.t x1 rfl)
  · exact st_geq 3 (.tmp 5) (.const (.int .i64 0)) rfl .i64 (i) (0) (K.dep 0 5 rfl) rfl _ (by rw [eq_comm, decide_eq_true_iff]; exact h0)
  · exact st_move (.tmp 6) rfl (K.dep 1 6 rfl)
  · exact st_move (.tmp 1) rfl (K.t x1 rfl)
  · exact st_move (.tmp 0) rfl (K.t x0 rfl)
  · exact st_call 17 (.func 17) _ _ _ rfl rfl (one_arg (K.dep 4 9 rfl)) Tryz.enter17 (fk_xhome (Ob.below mw (bgo bl K.grow)) (HD.below hd (bgo bl K.grow)) gs)
  · exact st_lss 3 (.tmp 8) (.tmp 10) rfl .i64 (i) (((homN n : Nat) : Int)) (K.dep 3 8 rfl) (K.dep 5 10 rfl) _ (by rw [eq_comm, decide_eq_true_iff]; exact h1)
  · exact st_pick_t (.tmp 7) (.tmp 11) (.const (.bool false)) rfl (K.dep 2 7 rfl) (K.dep 6 11 rfl)
  · exact st_assign (.tmp 12) rfl (K.dep 7 12 rfl)
  intro f2 w2 A hb
  replace x0 := A.t x0 rfl
  replace x1 := A.t x1 rfl
  have x4 := A.e 8 4 rfl rfl
  replace bl := bgo bl hb
  replace sd := A.sd sd
  clear A hb
  clear x0
  clear x1
  show Code.wp _ _ _ _ _
  refine wp_ret ?_
  repeat (first | with_reducible refine then_ret ?_ | with_reducible refine block_ret ?_)
  exact bodyPost_ret (v := .bool true) (ret_slot rfl f2 _ x4 _ _) sd.2 ⟨_, rfl, (by rw [show decide (0 ≤ i ∧ i < (homN n : Int)) = true from by rw [decide_eq_true_iff]; exact ⟨h0, h1⟩]; rfl), bl⟩
end Go.Proofs.YtakdpkoigijonaaGreat
namespace Go.Proofs.YtakdpkoigijonaaGreat
set_option maxRecDepth 100000
open Go.RowKit
theorem sl_nilv (w : World) : (Fk.sl []).f (.slice none 0 0) w := ⟨none, 0, 0, 0, 0, rfl, ⟨rfl, Nat.le_refl _, fun _ => ⟨rfl, rfl⟩, fun h => absurd h (by decide)⟩⟩
section
variable {S : World → Prop} {o : Oper} {a : Act}
theorem run_extv {P : Program} {x : Operand} {k : Nat} (ho : o.op = .extract x k) {xs : Array Value} {v : Value} (hx : a.eval x = .tuple xs) (hk : xs[k]? = some v) : ∀ w, S w → (execOp a.eval o).run P w = .ok (.value v) w := by
  intro w _
  unfold execOp
  rw [ho]
  simp [hx, Instr.extract, hk]
end
theorem fk_xtold_no {w : World} {gw : Nat} {r : Int} (hr : r ≠ 30) :
    Calls Tryz.prog 41 #[.pointer (some ⟨gw, 0, none⟩), .int .i64 r] w fun e w' => ∃ u, e = .returned u ∧ (Fk.eq (.int .i64 r)).f u w' ∧ Below w.heap.size w w' := by
  go_enter Tryz.func41, Tryz.ntmps41
  refine code_both (fun f w1 => f.tmps.size = 11 ∧ f.defers = [] ∧ f.eval (.tmp 0) = .pointer (some ⟨gw, 0, none⟩) ∧ f.eval (.tmp 1) = .int .i64 r ∧ Below w.heap.size w (w1)) ⟨rfl, rfl, rfl, rfl, Below.refl _ _⟩ ?_
  rintro f0 w0 ⟨sz, df, x0, x1, bl⟩
  have sd := And.intro sz df
  clear sz df
  have bl0 := bl
  refine wp_seq ?_
  refine wr_a [.eq (.int .i64 0)] (by rw [sd.1]; kernel_rfl) ⟨fun hw ac u K => ?_, trivial⟩ ?_
  · exact st_assign (.const (.int .i64 0)) rfl rfl
  intro f1 w1 A hb
  replace x0 := A.t x0 rfl
  replace x1 := A.t x1 rfl
  replace bl := bgo bl hb
  replace sd := A.sd sd
  clear A hb
  show Code.wp _ _ _ _ _
  refine wp_seq ?_
  refine wp_seq ?_
  refine wr_a [.eq (.int .i64 r), .eq (.bool false)] (by rw [sd.1]; kernel_rfl) ⟨fun hw ac u K => ?_, fun hw ac u K => ?_, trivial⟩ ?_
  · exact st_move (.tmp 1) rfl (K.t x1 rfl)
  · exact st_eqi 27 (.tmp 5) (.const (.int .i64 30)) rfl .i64 (r) (30) (K.dep 0 5 rfl) rfl _ (by rw [eq_comm, decide_eq_false_iff_not]; exact hr)
  intro f2 w2 A hb
  replace x0 := A.t x0 rfl
  replace x1 := A.t x1 rfl
  have x6 := A.e 1 6 rfl rfl
  replace bl := bgo bl hb
  replace sd := A.sd sd
  clear A hb
  show Code.wp _ _ _ _ _
  refine wp_cond_false x6 ?_
  refine wp_skip ?_
  show Code.wp _ _ _ _ _
  refine wp_seq ?_
  refine wr_a [.eq (.int .i64 r), .eq (.int .i64 r)] (by rw [sd.1]; kernel_rfl) ⟨fun hw ac u K => ?_, fun hw ac u K => ?_, trivial⟩ ?_
  · exact st_move (.tmp 1) rfl (K.t x1 rfl)
  · exact st_assign (.tmp 10) rfl (K.dep 0 10 rfl)
  intro f3 w3 A hb
  replace x0 := A.t x0 rfl
  replace x1 := A.t x1 rfl
  replace x6 := A.t x6 rfl
  have x4 := A.e 1 4 rfl rfl
  replace bl := bgo bl hb
  replace sd := A.sd sd
  clear A hb
  clear x0
  clear x1
  clear x6
  show Code.wp _ _ _ _ _
  refine wp_ret ?_
  repeat (first | with_reducible refine then_ret ?_ | with_reducible refine block_ret ?_)
  exact bodyPost_ret (v := .int .i64 r) (ret_slot rfl f3 _ x4 _ _) sd.2 ⟨_, rfl, rfl, bl⟩
theorem fk_xtold_dn {w : World} {gw gd : Nat} {dn : Bool} (mw : Ob w gw 62 [.pointer (some ⟨gd, 0, none⟩), .bool dn]) :
    Calls Tryz.prog 41 #[.pointer (some ⟨gw, 0, none⟩), .int .i64 30] w fun e w' => e = .returned (.int .i64 30) ∧ Ob w' gw 62 [.pointer (some ⟨gd, 0, none⟩), .bool true] ∧ Fr (fun j => j = gw) w w' := by
  go_enter Tryz.func41, Tryz.ntmps41
  refine code_both (fun f w1 => f.tmps.size = 11 ∧ f.defers = [] ∧ f.eval (.tmp 0) = .pointer (some ⟨gw, 0, none⟩) ∧ f.eval (.tmp 1) = .int .i64 30 ∧ Ob w1 gw 62 [.pointer (some ⟨gd, 0, none⟩), .bool dn] ∧ Fr (fun j => j = gw) w (w1)) ⟨rfl, rfl, rfl, rfl, mw, Fr.refl _ _⟩ ?_
  clear mw
  rintro f0 w0 ⟨sz, df, x0, x1, mw, bl⟩
  have sd := And.intro sz df
  clear sz df
  have bl0 := bl
  refine wp_seq ?_
  refine wr_a [.eq (.int .i64 0)] (by rw [sd.1]; kernel_rfl) ⟨fun hw ac u K => ?_, trivial⟩ ?_
  · exact st_assign (.const (.int .i64 0)) rfl rfl
  intro f1 w1 A hb
  replace x0 := A.t x0 rfl
  replace x1 := A.t x1 rfl
  replace mw := Ob.below mw hb
  replace bl := (Fr.grow bl hb)
  replace sd := A.sd sd
  clear A hb
  show Code.wp _ _ _ _ _
  refine wp_seq ?_
  refine wp_seq ?_
  refine wr_a [.eq (.int .i64 30), .eq (.bool true)] (by rw [sd.1]; kernel_rfl) ⟨fun hw ac u K => ?_, fun hw ac u K => ?_, trivial⟩ ?_
  · exact st_move (.tmp 1) rfl (K.t x1 rfl)
  · exact st_eqi 27 (.tmp 5) (.const (.int .i64 30)) rfl .i64 (30) (30) (K.dep 0 5 rfl) rfl _ (by rfl)
  intro f2 w2 A hb
  replace x0 := A.t x0 rfl
  replace x1 := A.t x1 rfl
  have x6 := A.e 1 6 rfl rfl
  replace mw := Ob.below mw hb
  replace bl := (Fr.grow bl hb)
  replace sd := A.sd sd
  clear A hb
  show Code.wp _ _ _ _ _
  refine wp_cond_true x6 ?_
  refine wr_s [.eq (.pointer (some ⟨gw, 0, none⟩)), .eq (.pointer (some ⟨gw, 0, none⟩)), .eq (.pointer (some ⟨gw, 1, none⟩))] (by rw [sd.1]; kernel_rfl) ⟨fun hw ac u K => ?_, fun hw ac u K => ?_, fun hw ac u K => ?_, trivial⟩ ?_
  · exact st_move (.tmp 0) rfl (K.t x0 rfl)
  · exact st_nil (.tmp 7) rfl (K.dep 0 7 rfl)
  · exact st_field 62 1 (.tmp 8) rfl (K.dep 1 8 rfl) (by kernel_rfl)
  intro f3 w3 A hb
  replace x0 := A.t x0 rfl
  replace x1 := A.t x1 rfl
  replace x6 := A.t x6 rfl
  have x9 := A.e 2 9 rfl rfl
  replace mw := Ob.below mw hb
  replace bl := (Fr.grow bl hb)
  replace sd := A.sd sd
  clear A hb
  clear x0
  clear x6
  refine wl_stc 4 rfl (.tmp 9) (.const (.bool true)) rfl rfl (by kernel_rfl) (gw) 1 (.bool true) x9 rfl rfl rfl (Ob.there mw 1 (by simp)) ?_
  replace mw : Ob (w3.setCell ⟨gw, 1, none⟩ (.bool true)) (gw) 62 ([.pointer (some ⟨gd, 0, none⟩), .bool true]) := Ob.set mw 1 (.bool true)
  replace bl : Fr (fun j => j = gw) w (w3.setCell ⟨gw, 1, none⟩ (.bool true)) := bl.setCell (.inl rfl) _
  generalize w3.setCell ⟨gw, 1, none⟩ (.bool true) = w4b at bl mw ⊢
  refine wpList_nil ?_
  clear x9
  show Code.wp _ _ _ _ _
  refine wp_seq ?_
  refine wr_a [.eq (.int .i64 30), .eq (.int .i64 30)] (by rw [sd.1]; kernel_rfl) ⟨fun hw ac u K => ?_, fun hw ac u K => ?_, trivial⟩ ?_
  · exact st_move (.tmp 1) rfl (K.t x1 rfl)
  · exact st_assign (.tmp 10) rfl (K.dep 0 10 rfl)
  intro f5 w5 A hb
  replace x1 := A.t x1 rfl
  have x4 := A.e 1 4 rfl rfl
  replace mw := Ob.below mw hb
  replace bl := (Fr.grow bl hb)
  replace sd := A.sd sd
  clear A hb
  clear x1
  show Code.wp _ _ _ _ _
  refine wp_ret ?_
  repeat (first | with_reducible refine then_ret ?_ | with_reducible refine block_ret ?_)
  exact bodyPost_ret (v := .int .i64 30) (ret_slot rfl f5 _ x4 _ _) sd.2 ⟨rfl, mw, bl⟩
theorem fk_xread {w : World} {gw gd n z k9 : Nat} {M D : Nat → Prop} {dn : Bool} {s : Dst} (mw : Ob w gw 62 [.pointer (some ⟨gd, 0, none⟩), .bool dn]) (hd : HD w gd M D s) (gs : Gd s n z k9) (hgM : ¬ M gw) (hs : s.down = false) (i : Int) :
    Calls Tryz.prog 20 #[.pointer (some ⟨gw, 0, none⟩), .int .i64 i] w fun e w' => ∃ D' A b C, e = .returned (.tuple #[.slice A b.length C, .int .i64 (if dn = true then 30 else if i < 0 ∨ (homN n : Int) ≤ i then 11 else 0)]) ∧ b = (if dn = true then [] else if i < 0 ∨ (homN n : Int) ≤ i then [] else nowd s (1 + i.toNat)) ∧ (Fk.sl b).f (.slice A b.length C) w' ∧ HD w' gd M D' s ∧ Ob w' gw 62 [.pointer (some ⟨gd, 0, none⟩), .bool dn] ∧ (∀ j, D' j → D j ∨ w.heap.size ≤ j) ∧ Fr M w w' := by
  obtain ⟨⟨hn1, hn2⟩, hz1, hz2⟩ := HD.nz hd gs
  have hho := homN_le hn1
  have hMlt : ∀ j, M j → j < w.heap.size := fun j q => hd.lt j (hd.sub j q)
  obtain ⟨DD, hD9⟩ : ∃ E, E = D := ⟨_, rfl⟩
  rw [← hD9] at hd
  have hDD : ∀ j, DD j → D j ∨ w.heap.size ≤ j := fun j q => .inl (hD9 ▸ q)
  clear hD9
  go_enter Tryz.func20, Tryz.ntmps20
  refine code_both (fun f w1 => f.tmps.size = 30 ∧ f.defers = [] ∧ f.eval (.tmp 0) = .pointer (some ⟨gw, 0, none⟩) ∧ f.eval (.tmp 1) = .int .i64 i ∧ HD w1 gd M DD s ∧ Ob w1 gw 62 [.pointer (some ⟨gd, 0, none⟩), .bool dn] ∧ Fr (M) w (w1)) ⟨rfl, rfl, rfl, rfl, hd, mw, Fr.refl _ _⟩ ?_
  clear hd mw
  rintro f0 w0 ⟨sz, df, x0, x1, hd, mw, bl⟩
  have sd := And.intro sz df
  clear sz df
  have bl0 := bl
  refine wp_seq ?_
  refine wr_a [.eq (.slice none 0 0), .eq (.int .i64 0)] (by rw [sd.1]; kernel_rfl) ⟨fun hw ac u K => ?_, fun hw ac u K => ?_, trivial⟩ ?_
  · exact st_assign (.const (.slice none 0 0)) rfl rfl
  · exact st_assign (.const (.int .i64 0)) rfl rfl
  intro f1 w1 A hb
  replace x0 := A.t x0 rfl
  replace x1 := A.t x1 rfl
  replace mw := Ob.below mw hb
  replace hd := HD.below hd hb
  replace bl := (Fr.grow bl hb)
  replace sd := A.sd sd
  clear A hb
  show Code.wp _ _ _ _ _
  refine wp_seq ?_
  refine wp_seq ?_
  have hdn : dn = true ∨ dn = false := by cases dn <;> simp
  have hor : (dn = true) ∨ (dn = false ∧ ¬ (0 ≤ i ∧ i < (homN n : Int))) ∨ (dn = false ∧ (0 ≤ i ∧ i < (homN n : Int))) := by
    rcases hdn with h | h
    · exact .inl h
    · by_cases q : 0 ≤ i ∧ i < (homN n : Int)
      · exact .inr (.inr ⟨h, q⟩)
      · exact .inr (.inl ⟨h, q⟩)
  clear hdn
  rcases hor with hor | ⟨hor, hi⟩ | ⟨hor, hi⟩
  · skip
    subst hor
    refine wr_a [.eq (.pointer (some ⟨gw, 0, none⟩)), .eq (.pointer (some ⟨gw, 0, none⟩)), .eq (.pointer (some ⟨gw, 1, none⟩)), .eq (.bool true)] (by rw [sd.1]; kernel_rfl) ⟨fun hw ac u K => ?_, fun hw ac u K => ?_, fun hw ac u K => ?_, fun hw ac u K => ?_, trivial⟩ ?_
    · exact st_move (.tmp 0) rfl (K.t x0 rfl)
    · exact st_nil (.tmp 8) rfl (K.dep 0 8 rfl)
    · exact st_field 62 1 (.tmp 9) rfl (K.dep 1 9 rfl) (by kernel_rfl)
    · exact st_loadc 4 (.tmp 10) rfl (by kernel_rfl) (K.dep 2 10 rfl) (Ob.cell (Ob.below mw K.grow) 1 rfl)
    intro f2 w2 A hb
    replace x0 := A.t x0 rfl
    replace x1 := A.t x1 rfl
    have x11 := A.e 3 11 rfl rfl
    replace mw := Ob.below mw hb
    replace hd := HD.below hd hb
    replace bl := (Fr.grow bl hb)
    replace sd := A.sd sd
    clear A hb
    show Code.wp _ _ _ _ _
    refine wp_cond_true x11 ?_
    refine wp_seq ?_
    refine wr_a [.eq (.slice none 0 0), .eq (.int .i64 30)] (by rw [sd.1]; kernel_rfl) ⟨fun hw ac u K => ?_, fun hw ac u K => ?_, trivial⟩ ?_
    · exact st_assign (.const (.slice none 0 0)) rfl rfl
    · exact st_assign (.const (.int .i64 30)) rfl rfl
    intro f3 w3 A hb
    replace x0 := A.t x0 rfl
    replace x1 := A.t x1 rfl
    replace x11 := A.t x11 rfl
    have x4 := A.e 0 4 rfl rfl
    have x5 := A.e 1 5 rfl rfl
    replace mw := Ob.below mw hb
    replace hd := HD.below hd hb
    replace bl := (Fr.grow bl hb)
    replace sd := A.sd sd
    clear A hb
    clear x0
    clear x1
    clear x11
    show Code.wp _ _ _ _ _
    refine wp_ret ?_
    repeat (first | with_reducible refine then_ret ?_ | with_reducible refine block_ret ?_)
    exact bodyPost_ret (v := .tuple #[.slice none 0 0, .int .i64 30]) (ret_two rfl f3 _ _ x4 x5 _ _) sd.2 ⟨DD, none, [], 0, by simp, by simp, sl_nilv _, hd, mw, hDD, bl⟩
  · skip
    subst hor
    refine wr_a [.eq (.pointer (some ⟨gw, 0, none⟩)), .eq (.pointer (some ⟨gw, 0, none⟩)), .eq (.pointer (some ⟨gw, 1, none⟩)), .eq (.bool false)] (by rw [sd.1]; kernel_rfl) ⟨fun hw ac u K => ?_, fun hw ac u K => ?_, fun hw ac u K => ?_, fun hw ac u K => ?_, trivial⟩ ?_
    · exact st_move (.tmp 0) rfl (K.t x0 rfl)
    · exact st_nil (.tmp 8) rfl (K.dep 0 8 rfl)
    · exact st_field 62 1 (.tmp 9) rfl (K.dep 1 9 rfl) (by kernel_rfl)
    · exact st_loadc 4 (.tmp 10) rfl (by kernel_rfl) (K.dep 2 10 rfl) (Ob.cell (Ob.below mw K.grow) 1 rfl)
    intro f2 w2 A hb
    replace x0 := A.t x0 rfl
    replace x1 := A.t x1 rfl
    have x11 := A.e 3 11 rfl rfl
    replace mw := Ob.below mw hb
    replace hd := HD.below hd hb
    replace bl := (Fr.grow bl hb)
    replace sd := A.sd sd
    clear A hb
    show Code.wp _ _ _ _ _
    refine wp_cond_false x11 ?_
    refine wp_skip ?_
    show Code.wp _ _ _ _ _
    refine wp_seq ?_
    refine wp_seq ?_
    refine wr_a [.eq (.pointer (some ⟨gw, 0, none⟩)), .eq (.int .i64 i), .eq (.bool false), .eq (.bool true)] (by rw [sd.1]; kernel_rfl) ⟨fun hw ac u K => ?_, fun hw ac u K => ?_, fun hw ac u K => ?_, fun hw ac u K => ?_, trivial⟩ ?_
    · exact st_move (.tmp 0) rfl (K.t x0 rfl)
    · exact st_move (.tmp 1) rfl (K.t x1 rfl)
    · exact st_call 43 (.func 43) _ _ _ rfl rfl (arg2 (K.dep 0 12 rfl) (K.dep 1 13 rfl)) Tryz.enter43 ((by have := fk_xhas (Ob.below mw K.grow) (HD.below hd K.grow) gs i; rw [show decide (0 ≤ i ∧ i < (homN n : Int)) = false from by rw [decide_eq_false_iff_not]; exact hi] at this; exact this))
    · exact st_not (.tmp 14) rfl false (K.dep 2 14 rfl)
    intro f3 w3 A hb
    replace x0 := A.t x0 rfl
    replace x1 := A.t x1 rfl
    replace x11 := A.t x11 rfl
    have x15 := A.e 3 15 rfl rfl
    replace mw := Ob.below mw hb
    replace hd := HD.below hd hb
    replace bl := (Fr.grow bl hb)
    replace sd := A.sd sd
    clear A hb
    clear x11
    show Code.wp _ _ _ _ _
    refine wp_cond_true x15 ?_
    refine wp_seq ?_
    refine wr_a [.eq (.slice none 0 0), .eq (.int .i64 11)] (by rw [sd.1]; kernel_rfl) ⟨fun hw ac u K => ?_, fun hw ac u K => ?_, trivial⟩ ?_
    · exact st_assign (.const (.slice none 0 0)) rfl rfl
    · exact st_assign (.const (.int .i64 11)) rfl rfl
    intro f4 w4 A hb
    replace x0 := A.t x0 rfl
    replace x1 := A.t x1 rfl
    replace x15 := A.t x15 rfl
    have x4 := A.e 0 4 rfl rfl
    have x5 := A.e 1 5 rfl rfl
    replace mw := Ob.below mw hb
    replace hd := HD.below hd hb
    replace bl := (Fr.grow bl hb)
    replace sd := A.sd sd
    clear A hb
    clear x0
    clear x1
    clear x15
    show Code.wp _ _ _ _ _
    refine wp_ret ?_
    repeat (first | with_reducible refine then_ret ?_ | with_reducible refine block_ret ?_)
    exact bodyPost_ret (v := .tuple #[.slice none 0 0, .int .i64 11]) (ret_two rfl f4 _ _ x4 x5 _ _) sd.2 ⟨DD, none, [], 0, by rw [if_neg (by simp), if_pos (by omega)]; rfl, by rw [if_neg (by simp), if_pos (by omega)], sl_nilv _, hd, mw, hDD, bl⟩
  subst hor
  obtain ⟨m, rfl⟩ : ∃ m : Nat, i = (m : Int) := ⟨i.toNat, by omega⟩
  have hmn : 1 + m < n := by have := homN_le hn1; omega
  refine wr_a [.eq (.pointer (some ⟨gw, 0, none⟩)), .eq (.pointer (some ⟨gw, 0, none⟩)), .eq (.pointer (some ⟨gw, 1, none⟩)), .eq (.bool false)] (by rw [sd.1]; kernel_rfl) ⟨fun hw ac u K => ?_, fun hw ac u K => ?_, fun hw ac u K => ?_, fun hw ac u K => ?_, trivial⟩ ?_
  · exact st_move (.tmp 0) rfl (K.t x0 rfl)
  · exact st_nil (.tmp 8) rfl (K.dep 0 8 rfl)
  · exact st_field 62 1 (.tmp 9) rfl (K.dep 1 9 rfl) (by kernel_rfl)
  · exact st_loadc 4 (.tmp 10) rfl (by kernel_rfl) (K.dep 2 10 rfl) (Ob.cell (Ob.below mw K.grow) 1 rfl)
  intro f2 w2 A hb
  replace x0 := A.t x0 rfl
  replace x1 := A.t x1 rfl
  have x11 := A.e 3 11 rfl rfl
  replace mw := Ob.below mw hb
  replace hd := HD.below hd hb
  replace bl := (Fr.grow bl hb)
  replace sd := A.sd sd
  clear A hb
  show Code.wp _ _ _ _ _
  refine wp_cond_false x11 ?_
  refine wp_skip ?_
  show Code.wp _ _ _ _ _
  refine wp_seq ?_
  refine wp_seq ?_
  refine wr_a [.eq (.pointer (some ⟨gw, 0, none⟩)), .eq (.int .i64 (m : Int)), .eq (.bool true), .eq (.bool false)] (by rw [sd.1]; kernel_rfl) ⟨fun hw ac u K => ?_, fun hw ac u K => ?_, fun hw ac u K => ?_, fun hw ac u K => ?_, trivial⟩ ?_
  · exact st_move (.tmp 0) rfl (K.t x0 rfl)
  · exact st_move (.tmp 1) rfl (K.t x1 rfl)
  · exact st_call 43 (.func 43) _ _ _ rfl rfl (arg2 (K.dep 0 12 rfl) (K.dep 1 13 rfl)) Tryz.enter43 ((by have := fk_xhas (Ob.below mw K.grow) (HD.below hd K.grow) gs (m : Int); rw [show decide (0 ≤ (m : Int) ∧ (m : Int) < (homN n : Int)) = true from by rw [decide_eq_true_iff]; exact hi] at this; exact this))
  · exact st_not (.tmp 14) rfl true (K.dep 2 14 rfl)
  intro f3 w3 A hb
  replace x0 := A.t x0 rfl
  replace x1 := A.t x1 rfl
  replace x11 := A.t x11 rfl
  have x15 := A.e 3 15 rfl rfl
  replace mw := Ob.below mw hb
  replace hd := HD.below hd hb
  replace bl := (Fr.grow bl hb)
  replace sd := A.sd sd
  clear A hb
  clear x11
  show Code.wp _ _ _ _ _
  refine wp_cond_false x15 ?_
  refine wp_skip ?_
  show Code.wp _ _ _ _ _
  refine wp_seq ?_
  have hb : Below w3.heap.size w3 w3.drew := (Below.refl _ _).drew
  refine wp_region_held_drew (S := fun W => Ob W gw 62 ([.pointer (some ⟨gd, 0, none⟩), .bool false])) Tryz.mixed (Ob.below mw hb) (fun hS => ?_)
  replace hd := HD.below hd hb
  replace bl := Fr.grow bl hb
  replace bl0 := bl
  clear mw
  clear hb
  generalize w3.drew = w4 at hd bl hS  ⊢
  refine wh_take 0 17 (v := .pointer (some ⟨gw, 0, none⟩)) rfl rfl (by rw [sd.1]; decide) rfl (by kernel_rfl) (by kernel_rfl) (by kernel_rfl) (fun _ _ _ h => h) (run_mv rfl x0) hS ?_
  intro f5 df2 sz2 old2 new2
  replace x0 := tr old2 x0 rfl
  replace x1 := tr old2 x1 rfl
  replace x15 := tr old2 x15 rfl
  replace sd := sd2 sz2 df2 sd
  have x17 := new2
  clear df2 sz2 old2 new2
  refine wh_take 1 18 (v := .pointer (some ⟨gw, 0, none⟩)) rfl rfl (by rw [sd.1]; decide) rfl (by kernel_rfl) (by kernel_rfl) (by kernel_rfl) (fun _ _ _ h => h) (run_nilq rfl x17) hS ?_
  intro f6 df2 sz2 old2 new2
  replace x0 := tr old2 x0 rfl
  replace x1 := tr old2 x1 rfl
  replace x15 := tr old2 x15 rfl
  replace x17 := tr old2 x17 rfl
  replace sd := sd2 sz2 df2 sd
  have x18 := new2
  clear df2 sz2 old2 new2
  refine wh_take 2 19 (v := .pointer (some ⟨gw, 0, none⟩)) rfl rfl (by rw [sd.1]; decide) rfl (by kernel_rfl) (by kernel_rfl) (by kernel_rfl) (fun _ _ _ h => h) (run_field rfl x18 (fun w => by kernel_rfl)) hS ?_
  intro f7 df2 sz2 old2 new2
  replace x0 := tr old2 x0 rfl
  replace x1 := tr old2 x1 rfl
  replace x15 := tr old2 x15 rfl
  replace x17 := tr old2 x17 rfl
  replace x18 := tr old2 x18 rfl
  replace sd := sd2 sz2 df2 sd
  have x19 := new2
  clear df2 sz2 old2 new2
  refine wh_take 3 20 (v := .pointer (some ⟨gd, 0, none⟩)) rfl rfl (by rw [sd.1]; decide) rfl (by kernel_rfl) (by kernel_rfl) (by kernel_rfl) (fun _ _ _ h => h) (run_loadc rfl (fun w => by kernel_rfl) x19 (fun W hW => Ob.cell hW 0 rfl)) hS ?_
  intro f8 df2 sz2 old2 new2
  replace x0 := tr old2 x0 rfl
  replace x1 := tr old2 x1 rfl
  replace x15 := tr old2 x15 rfl
  replace x17 := tr old2 x17 rfl
  replace x18 := tr old2 x18 rfl
  replace x19 := tr old2 x19 rfl
  replace sd := sd2 sz2 df2 sd
  have x20 := new2
  clear df2 sz2 old2 new2
  refine wh_take 4 21 (v := .int .i64 (m : Int)) rfl rfl (by rw [sd.1]; decide) rfl (by kernel_rfl) (by kernel_rfl) (by kernel_rfl) (fun _ _ _ h => h) (run_mv rfl x1) hS ?_
  intro f9 df2 sz2 old2 new2
  replace x0 := tr old2 x0 rfl
  replace x1 := tr old2 x1 rfl
  replace x15 := tr old2 x15 rfl
  replace x17 := tr old2 x17 rfl
  replace x18 := tr old2 x18 rfl
  replace x19 := tr old2 x19 rfl
  replace x20 := tr old2 x20 rfl
  replace sd := sd2 sz2 df2 sd
  have x21 := new2
  clear df2 sz2 old2 new2
  refine wh_call 5 22 rfl rfl (by rw [sd.1]; decide) rfl (by kernel_rfl) 44 (.func 44) _ _ #[.int .i64 (m : Int)] rfl rfl (one_arg x21) Tryz.enter44 (fun u W' => u = .int .i64 ((1 + m : Nat) : Int) ∧ Below w4.heap.size w4 W') ((fk_whs (by omega) _).mono (by rintro e w' ⟨u, rfl, q1, q2⟩; exact ⟨_, rfl, q1, q2⟩)) ?_
  rintro f10 w10 df2 sz2 old2 ⟨x22, hb⟩
  replace hS := Ob.below hS hb
  refine ⟨hS, ?_⟩
  replace hd := HD.below hd hb
  replace bl := Fr.grow bl hb
  replace x0 := tr old2 x0 rfl
  replace x1 := tr old2 x1 rfl
  replace x15 := tr old2 x15 rfl
  replace x17 := tr old2 x17 rfl
  replace x18 := tr old2 x18 rfl
  replace x19 := tr old2 x19 rfl
  replace x20 := tr old2 x20 rfl
  replace x21 := tr old2 x21 rfl
  replace sd := sd2 sz2 df2 sd
  clear df2 sz2 old2 hb
  refine wh_call 6 23 rfl rfl (by rw [sd.1]; decide) rfl (by kernel_rfl) 11 (.func 11) _ _ #[.pointer (some ⟨gd, 0, none⟩), .int .i64 ((1 + m : Nat) : Int)] rfl rfl (two_arg x20 x22) Tryz.enter11 (fun u W' => ∃ (D2 : Nat → Prop) (A : Option Addr) (C : Nat), u = .tuple #[.slice A (nowd s (1 + m)).length C, .int .i64 0] ∧ (Fk.sl (nowd s (1 + m))).f (.slice A (nowd s (1 + m)).length C) W' ∧ HD W' gd M D2 s ∧ (∀ j, D2 j → DD j ∨ w10.heap.size ≤ j) ∧ Fr M w10 W') ((fk_dread hd ((1 + m : Nat) : Int)).mono (by
    rintro e w' ⟨D', A, C, rfl, q1, _, q3, q4, q5⟩
    have e9 : rd s ((1 + m : Nat) : Int) = (0, nowd s (1 + m)) := by
      unfold rd
      rw [if_neg (by rw [hs]; simp), if_neg (by rw [gs.has]; omega), Int.toNat_natCast]
    rw [e9] at q1 ⊢
    exact ⟨_, rfl, D', A, C, rfl, q1, q3, q4, q5⟩)) ?_
  rintro f11 w11 df2 sz2 old2 ⟨D2, A1, C1, x23, hv1, hd2, hD2, O⟩
  replace hS := Ob.keep hS (O.block _ (Ob.lt hS) hgM)
  refine ⟨hS, ?_⟩
  replace hd := hd2
  clear hd2
  replace hDD : ∀ j, D2 j → D j ∨ w.heap.size ≤ j := fun j q => (hD2 j q).elim (hDD j) (fun q => .inr (Nat.le_trans bl.size q))
  replace bl := bl.trans O
  clear hD2 O
  obtain ⟨DD, rfl⟩ : ∃ E, E = D2 := ⟨_, rfl⟩
  replace x0 := tr old2 x0 rfl
  replace x1 := tr old2 x1 rfl
  replace x15 := tr old2 x15 rfl
  replace x17 := tr old2 x17 rfl
  replace x18 := tr old2 x18 rfl
  replace x19 := tr old2 x19 rfl
  replace x20 := tr old2 x20 rfl
  replace x21 := tr old2 x21 rfl
  replace x22 := tr old2 x22 rfl
  replace sd := sd2 sz2 df2 sd
  clear df2 sz2 old2
  refine wh_take 7 16 (v := .tuple #[.slice A1 (nowd s (1 + m)).length C1, .int .i64 0]) rfl rfl (by rw [sd.1]; decide) rfl (by kernel_rfl) (by kernel_rfl) (by kernel_rfl) (fun _ _ _ h => h) (run_mv rfl x23) hS ?_
  intro f12 df2 sz2 old2 new2
  replace x0 := tr old2 x0 rfl
  replace x1 := tr old2 x1 rfl
  replace x15 := tr old2 x15 rfl
  replace x17 := tr old2 x17 rfl
  replace x18 := tr old2 x18 rfl
  replace x19 := tr old2 x19 rfl
  replace x20 := tr old2 x20 rfl
  replace x21 := tr old2 x21 rfl
  replace x22 := tr old2 x22 rfl
  replace x23 := tr old2 x23 rfl
  replace sd := sd2 sz2 df2 sd
  have x16 := new2
  clear df2 sz2 old2 new2
  refine wh_take 8 24 (v := .slice A1 (nowd s (1 + m)).length C1) rfl rfl (by rw [sd.1]; decide) rfl (by kernel_rfl) (by kernel_rfl) (by kernel_rfl) (fun _ _ _ h => h) (run_extv rfl x16 (by rfl)) hS ?_
  intro f13 df2 sz2 old2 new2
  replace x0 := tr old2 x0 rfl
  replace x1 := tr old2 x1 rfl
  replace x15 := tr old2 x15 rfl
  replace x17 := tr old2 x17 rfl
  replace x18 := tr old2 x18 rfl
  replace x19 := tr old2 x19 rfl
  replace x20 := tr old2 x20 rfl
  replace x21 := tr old2 x21 rfl
  replace x22 := tr old2 x22 rfl
  replace x23 := tr old2 x23 rfl
  replace x16 := tr old2 x16 rfl
  replace sd := sd2 sz2 df2 sd
  have x24 := new2
  clear df2 sz2 old2 new2
  refine wh_take 9 25 (v := .int .i64 0) rfl rfl (by rw [sd.1]; decide) rfl (by kernel_rfl) (by kernel_rfl) (by kernel_rfl) (fun _ _ _ h => h) (run_extv rfl x16 (by rfl)) hS ?_
  intro f14 df2 sz2 old2 new2
  replace x0 := tr old2 x0 rfl
  replace x1 := tr old2 x1 rfl
  replace x15 := tr old2 x15 rfl
  replace x17 := tr old2 x17 rfl
  replace x18 := tr old2 x18 rfl
  replace x19 := tr old2 x19 rfl
  replace x20 := tr old2 x20 rfl
  replace x21 := tr old2 x21 rfl
  replace x22 := tr old2 x22 rfl
  replace x23 := tr old2 x23 rfl
  replace x16 := tr old2 x16 rfl
  replace x24 := tr old2 x24 rfl
  replace sd := sd2 sz2 df2 sd
  have x25 := new2
  clear df2 sz2 old2 new2
  refine wh_assign 10 6 rfl rfl (by rw [sd.1]; decide) rfl (by kernel_rfl) (.tmp 24) rfl hS ?_
  intro f15 df2 sz2 old2 new2
  have x6 : f15.eval (.tmp 6) = .slice A1 (nowd s (1 + m)).length C1 := new2.trans x24
  replace x0 := tr old2 x0 rfl
  replace x1 := tr old2 x1 rfl
  replace x15 := tr old2 x15 rfl
  replace x17 := tr old2 x17 rfl
  replace x18 := tr old2 x18 rfl
  replace x19 := tr old2 x19 rfl
  replace x20 := tr old2 x20 rfl
  replace x21 := tr old2 x21 rfl
  replace x22 := tr old2 x22 rfl
  replace x23 := tr old2 x23 rfl
  replace x16 := tr old2 x16 rfl
  replace x24 := tr old2 x24 rfl
  replace x25 := tr old2 x25 rfl
  replace sd := sd2 sz2 df2 sd
  clear df2 sz2 old2 new2
  refine wh_assign 11 7 rfl rfl (by rw [sd.1]; decide) rfl (by kernel_rfl) (.tmp 25) rfl hS ?_
  intro f16 df2 sz2 old2 new2
  have x7 : f16.eval (.tmp 7) = .int .i64 0 := new2.trans x25
  replace x0 := tr old2 x0 rfl
  replace x1 := tr old2 x1 rfl
  replace x15 := tr old2 x15 rfl
  replace x17 := tr old2 x17 rfl
  replace x18 := tr old2 x18 rfl
  replace x19 := tr old2 x19 rfl
  replace x20 := tr old2 x20 rfl
  replace x21 := tr old2 x21 rfl
  replace x22 := tr old2 x22 rfl
  replace x23 := tr old2 x23 rfl
  replace x16 := tr old2 x16 rfl
  replace x24 := tr old2 x24 rfl
  replace x25 := tr old2 x25 rfl
  replace x6 := tr old2 x6 rfl
  replace sd := sd2 sz2 df2 sd
  clear df2 sz2 old2 new2
  refine wpAnyH_done (by kernel_rfl) ?_ _
  have mw := hS
  clear hS
  replace bl0 := bl
  clear x1
  clear x15
  clear x17
  clear x18
  clear x19
  clear x20
  clear x21
  clear x22
  clear x23
  clear x16
  clear x24
  clear x25
  show Code.wp _ _ _ _ _
  refine wp_seq ?_
  refine wr_a [.eq (.slice A1 (nowd s (1 + m)).length C1), .eq (.pointer (some ⟨gw, 0, none⟩)), .eq (.int .i64 0), .eq (.int .i64 0), .eq (.slice A1 (nowd s (1 + m)).length C1), .eq (.int .i64 0)] (by rw [sd.1]; kernel_rfl) ⟨fun hw ac u K => ?_, fun hw ac u K => ?_, fun hw ac u K => ?_, fun hw ac u K => ?_, fun hw ac u K => ?_, fun hw ac u K => ?_, trivial⟩ ?_
  · exact st_move (.tmp 6) rfl (K.t x6 rfl)
  · exact st_move (.tmp 0) rfl (K.t x0 rfl)
  · exact st_move (.tmp 7) rfl (K.t x7 rfl)
  · exact st_call 41 (.func 41) _ _ _ rfl rfl (arg2 (K.dep 1 27 rfl) (K.dep 2 28 rfl)) Tryz.enter41 (fk_xtold_no (by decide))
  · exact st_assign (.tmp 26) rfl (K.dep 0 26 rfl)
  · exact st_assign (.tmp 29) rfl (K.dep 3 29 rfl)
  intro f17 w17 A hb
  replace x0 := A.t x0 rfl
  replace x6 := A.t x6 rfl
  replace x7 := A.t x7 rfl
  have x4 := A.e 4 4 rfl rfl
  have x5 := A.e 5 5 rfl rfl
  replace mw := Ob.below mw hb
  replace hv1 := Fk.mono _ _ _ _ hv1 hb
  replace hd := HD.below hd hb
  replace bl := (Fr.grow bl hb)
  replace sd := A.sd sd
  clear A hb
  clear x0
  clear x6
  clear x7
  show Code.wp _ _ _ _ _
  refine wp_ret ?_
  repeat (first | with_reducible refine then_ret ?_ | with_reducible refine block_ret ?_)
  exact bodyPost_ret (v := .tuple #[.slice A1 (nowd s (1 + m)).length C1, .int .i64 0]) (ret_two rfl f17 _ _ x4 x5 _ _) sd.2 ⟨DD, A1, nowd s (1 + m), C1, by rw [if_neg (by simp), if_neg (by omega)], by rw [if_neg (by simp), if_neg (by omega), Int.toNat_natCast], hv1, hd, mw, hDD, bl⟩
end Go.Proofs.YtakdpkoigijonaaGreat
namespace Go.Proofs.YtakdpkoigijonaaGreat
set_option maxRecDepth 100000
open Go.RowKit
theorem zv_zero (n : Nat) : madeCells (Value.int .i64 0).cells n = (zv (List.replicate n 0)).toArray := by
  unfold zv
  apply Array.ext
  · simp [size_madeCells]
  · intro i h1 h2
    simp [size_madeCells] at h1
    simp only [madeCells, List.getElem_toArray, List.getElem_map, List.getElem_replicate, Array.getElem_map, Array.getElem_range]
    show (#[Value.int IntKind.i64 0] : Array Value)[i % 1]! = _
    rw [Nat.mod_one]
    rfl
theorem zv_set (l : List Int) (k : Nat) (z : Int) : (zv l).set k (.int .i64 z) = zv (l.set k z) := by unfold zv; rw [List.map_set]
theorem obB_sl {w : World} {g : Nat} {bs : List (BitVec 8)} (h : Ob w g 5 (bs.map V)) : (Fk.sl bs).f (.slice (some ⟨g, 0, none⟩) bs.length bs.length) w := ⟨_, _, _, g, 0, rfl, rfl, Nat.le_refl _, (fun e => by cases e), fun _ => ⟨rfl, Ob.lt h, Ob.bytes (T := 5) (cs := []) (by rw [List.append_nil]; exact h)⟩⟩
theorem obI_is {w : World} {g n : Nat} {l : List Int} (h : Ob w g 3 (zv l)) (hn : n = l.length) : (Fk.is l).f (.slice (some ⟨g, 0, none⟩) n n) w := by
  subst hn
  refine ⟨_, _, g, 0, rfl, fun _ => rfl, by rw [zv_len, Nat.mul_one], fun j u hj => ?_⟩
  rw [Nat.zero_add]
  exact Ob.cell h j hj
section
variable {Q : Exit → Act → World → Prop} {o : Oper} {a : Act} {w : World} {ops : Array Oper} {rest : List Oper}
theorem st_idxI (x y : Operand) (ho : o.op = .indexAddr 31 x y) {g n C : Nat} (hx : a.eval x = .slice (some ⟨g, 0, none⟩) n C) (i : Nat) (hy : a.eval y = .int .i64 (i : Int)) (hi : i < n) : o.wp Tryz.prog a w (Ends a o.dst w (Fk.eq (.pointer (some ⟨g, i, none⟩))).f) Q := by
  refine st_pure (v := .pointer (some ⟨g, i, none⟩)) ?_ rfl
  have h1 := run_indexAt_slice (P := Tryz.prog) (w := w) 31 ⟨g, 0, none⟩ n C .i64 (i : Int) (by rw [show Tryz.prog.elem 31 = 3 by kernel_rfl]; kernel_rfl)
  rw [if_pos (by omega), show Tryz.prog.elem 31 = 3 by kernel_rfl, show (sizeOf 3).run Tryz.prog w = .ok 1 w by kernel_rfl] at h1
  simp only [Result.andThen_ok, Int.toNat_natCast, Addr.add_mid, Nat.mul_one, Nat.zero_add] at h1
  unfold execOp
  rw [ho]
  simp [hx, hy, h1]
theorem st_lenI (x : Operand) (ho : o.op = .call { callee := .builtin .len, args := #[x], argTypes := #[31] }) {p : Option Addr} {n C : Nat} (hx : a.eval x = .slice p n C) : o.wp Tryz.prog a w (Ends a o.dst w (Fk.eq (.int .i64 (n : Int))).f) Q := by
  refine st_pure (v := .int .i64 (n : Int)) ?_ rfl
  have h1 := run_len_slice (P := Tryz.prog) (w := w) 31 o.type p n C (by rw [show Tryz.prog.elem 31 = 3 by kernel_rfl]; kernel_rfl)
  unfold execOp
  simp [ho, resolve, invoke, builtin, hx, h1, goInt]
theorem wl_makeI (hgd : o.guard = none) (x y : Operand) (ho : o.op = .makeSlice 31 x y) (d : Nat) (hd : o.dst = some d) (hsz : d < a.tmps.size) (n : Nat) (hn : n ≤ 100000) (hx : a.eval x = .int .i64 (n : Int)) (hy : a.eval y = .int .i64 (n : Int))
    (h : ∀ a2 w2 g, a2.defers = a.defers → a2.tmps.size = a.tmps.size → (∀ t, (t == d) = false → a2.eval (.tmp t) = a.eval (.tmp t)) → a2.eval (.tmp d) = .slice (some ⟨g, 0, none⟩) n n → w.heap.size ≤ g → Ob w2 g 3 (zv (List.replicate n 0)) → Below w.heap.size w w2 → wpList Tryz.prog ops Q rest a2 w2) : wpList Tryz.prog ops Q (o :: rest) a w := by
  have hr : (Instr.makeSlice 31 (.int .i64 (n : Int)) (.int .i64 (n : Int))).run Tryz.prog w = .ok (.slice (some ⟨w.heap.size, 0, none⟩) n n) (w.alloc (.cells (zv (List.replicate n 0)).toArray 3)) := by
    obtain ⟨i0, hi, hz0, hz1, hz2⟩ := info_parts Tryz.info3n
    have := run_make (P := Tryz.prog) w 31 3 i0 (.int .i64 0) Tryz.underI hi hz0 .i64 .i64 (n : Int) (n : Int) (by omega) (by omega) (by rw [hz2]; omega) (by omega)
    rw [hz1, Int.toNat_natCast, Nat.mul_one, zv_zero] at this
    exact this
  unfold wpList
  rw [if_pos (by unfold Region.wanted; rw [hgd])]
  refine .inl ?_
  unfold Oper.wp execOp
  simp only [ho, Sem.run_bind, Sem.run_pure, Result.andThen_ok, hx, hy, hr]
  refine h _ _ w.heap.size (put_def _ _ _) (put_size _ _ _) (fun t ht => ?_) ?_ (Nat.le_refl _) (heap_alloc_new _ _) ((Below.refl _ _).alloc (Nat.le_refl _) _)
  · rw [hd]
    exact put_eval_other _ _ _ _ (fun e => by subst e; simp at ht)
  · rw [hd, put_eval_same _ _ _ hsz]
end
/-- The home sectors of the first changes; the rest is to come. -/
def ath (l : List Cng) (k : Nat) : List Int := (l.take k).map (·.p) ++ List.replicate (l.length - k) 0
theorem ath_len (l : List Cng) {k : Nat} (h : k ≤ l.length) : (ath l k).length = l.length := by
  unfold ath
  rw [List.length_append, List.length_map, List.length_take, List.length_replicate]
  omega
theorem ath_zero (l : List Cng) : ath l 0 = List.replicate l.length 0 := by unfold ath; simp
theorem ath_all (l : List Cng) : ath l l.length = l.map (·.p) := by unfold ath; simp
theorem ath_set {l : List Cng} {k : Nat} {c : Cng} (h : l[k]? = some c) : (ath l k).set k c.p = ath l (k + 1) := by
  have hk := (List.getElem?_eq_some_iff.1 h).1
  unfold ath
  have h1 : ((l.take k).map (·.p)).length = k := by rw [List.length_map, List.length_take]; omega
  rw [List.set_append_right _ _ (by omega), h1, Nat.sub_self]
  obtain ⟨m, hm⟩ : ∃ m, l.length - k = m + 1 := ⟨l.length - k - 1, by omega⟩
  rw [hm, show l.length - (k + 1) = m by omega, List.replicate_succ, List.set_cons_zero, take_one12 h, List.map_append, List.append_assoc]
  rfl
theorem fk_xnames {l : List Cng} (hl : l.length ≤ 100000) {w : World} {vl : Value} (hvl : (Fk.sr RC l).f vl w) :
    Calls Tryz.prog 68 #[vl] w fun e w' => ∃ g, e = .returned (.slice (some ⟨g, 0, none⟩) l.length l.length) ∧ w.heap.size ≤ g ∧ Ob w' g 3 (zv (l.map (·.p))) ∧ Below w.heap.size w w' := by
  go_enter Tryz.func68, Tryz.ntmps68
  refine code_both (fun f w1 => f.tmps.size = 23 ∧ f.defers = [] ∧ f.eval (.tmp 0) = vl ∧ Below w.heap.size w (w1)) ⟨rfl, rfl, rfl, Below.refl _ _⟩ ?_
  rintro f0 w0 ⟨sz, df, x0, bl⟩
  have sd := And.intro sz df
  clear sz df
  have bl0 := bl
  refine wp_seq ?_
  refine wr_a [.eq (.slice none 0 0)] (by rw [sd.1]; kernel_rfl) ⟨fun hw ac u K => ?_, trivial⟩ ?_
  · exact st_assign (.const (.slice none 0 0)) rfl rfl
  intro f1 w1 A hb
  replace x0 := A.t x0 rfl
  replace bl := bgo bl hb
  replace sd := A.sd sd
  clear A hb
  show Code.wp _ _ _ _ _
  refine wp_seq ?_
  refine wr_s [.eq (vl), .eq (.int .i64 (((l).length : Nat) : Int))] (by rw [sd.1]; kernel_rfl) ⟨fun hw ac u K => ?_, fun hw ac u K => ?_, trivial⟩ ?_
  · exact st_move (.tmp 0) rfl (K.t x0 rfl)
  · exact st_lensc (.tmp 6) rfl (fk_val (K.dep 0 6 rfl) (Fk.mono _ _ _ _ hvl (bgo bl K.grow)))
  intro f2 w2 A hb
  replace x0 := A.t x0 rfl
  have x7 := A.e 1 7 rfl rfl
  replace bl := bgo bl hb
  replace sd := A.sd sd
  clear A hb
  refine wl_makeI rfl _ _ rfl 8 rfl (by rw [sd.1]; decide) (l.length) hl x7 x7 ?_
  intro f3 w3 g df2 sz2 old2 x8 hgg mg hb
  replace x0 := tr old2 x0 rfl
  replace x7 := tr old2 x7 rfl
  have hwg : w.heap.size ≤ g := Nat.le_trans bl.size hgg
  replace bl := bgo bl hb
  replace bl0 := bl
  replace sd := sd2 sz2 df2 sd
  clear df2 sz2 old2 hb
  clear x7
  refine wl_one (.eq (.slice (some ⟨g, 0, none⟩) (l.length) (l.length))) rfl 3 rfl (by rw [sd.1]; decide) (st_assign (.tmp 8) rfl x8) ?_
  intro f4 w4 df2 sz2 old2 new2 hb
  replace x0 := tr old2 x0 rfl
  replace x8 := tr old2 x8 rfl
  have x3 := Fk.e new2
  replace mg := Ob.below mg hb
  replace bl := bgo bl hb
  replace sd := sd2 sz2 df2 sd
  clear df2 sz2 old2 new2 hb
  refine wpList_nil ?_
  clear x8
  show Code.wp _ _ _ _ _
  refine wp_seq ?_
  refine wp_seq ?_
  refine wr_a [.eq (vl), .eq (.int .i64 (((l).length : Nat) : Int)), .eq (.int .i64 0)] (by rw [sd.1]; kernel_rfl) ⟨fun hw ac u K => ?_, fun hw ac u K => ?_, fun hw ac u K => ?_, trivial⟩ ?_
  · exact st_move (.tmp 0) rfl (K.t x0 rfl)
  · exact st_lensc (.tmp 9) rfl (fk_val (K.dep 0 9 rfl) (Fk.mono _ _ _ _ hvl (bgo bl K.grow)))
  · exact st_move (.const (.int .i64 0)) rfl rfl
  intro f5 w5 A hb
  replace x0 := A.t x0 rfl
  replace x3 := A.t x3 rfl
  have x9 := A.e 0 9 rfl rfl
  have x10 := A.e 1 10 rfl rfl
  have x11 := A.e 2 11 rfl rfl
  replace mg := Ob.below mg hb
  replace bl := bgo bl hb
  replace sd := A.sd sd
  clear A hb
  clear x0
  show Code.wp _ _ _ _ _
  refine wp_block ?_
  refine wp_loop (fun f v1 => ∃ k : Nat, k ≤ l.length ∧ f.tmps.size = 23 ∧ f.defers = [] ∧ f.eval (.tmp 3) = .slice (some ⟨g, 0, none⟩) (l.length) (l.length) ∧ f.eval (.tmp 9) = vl ∧ f.eval (.tmp 10) = .int .i64 (((l).length : Nat) : Int) ∧ f.eval (.tmp 11) = .int .i64 (k : Int) ∧ Ob v1 g 3 (zv (ath l k)) ∧ Below w.heap.size w (v1)) (fun f _ => l.length - (intOf (f.eval (.tmp 11))).toNat) ⟨0, Nat.zero_le _, sd.1, sd.2, x3, x9, x10, x11, (by rw [ath_zero]; exact mg), bl⟩ ?_
  intro f6 w6 hI
  clear sd bl bl0 x3 x9 x10 x11 mg
  obtain ⟨k, hk8, sz, df, x3, x9, x10, x11, mg, bl⟩ := hI
  have sd := And.intro sz df
  clear sz df
  have bl0 := bl
  have hcnt := x11
  refine wp_seq ?_
  by_cases hlt : k < l.length
  rotate_left
  · skip
    refine wr_a [.eq (.bool false)] (by rw [sd.1]; kernel_rfl) ⟨fun hw ac u K => ?_, trivial⟩ ?_
    · exact st_lss 3 (.tmp 11) (.tmp 10) rfl .i64 ((k : Int)) ((((l).length : Nat) : Int)) (K.t x11 rfl) (K.t x10 rfl) _ (by rw [eq_comm, decide_eq_false_iff_not]; exact fun h => hlt (Int.ofNat_lt.1 h))
    intro f7 w7 A hb
    replace x3 := A.t x3 rfl
    replace x9 := A.t x9 rfl
    replace x10 := A.t x10 rfl
    replace x11 := A.t x11 rfl
    have x12 := A.e 0 12 rfl rfl
    replace mg := Ob.below mg hb
    replace bl := bgo bl hb
    replace sd := A.sd sd
    clear A hb
    show Code.wp _ _ _ _ _
    refine wp_seq ?_
    refine wp_cond_false x12 ?_
    refine wp_exit ?_
    show Code.wp _ _ _ _ _
    refine wp_seq ?_
    refine wr_a [.eq (.slice (some ⟨g, 0, none⟩) (l.length) (l.length)), .eq (.slice (some ⟨g, 0, none⟩) (l.length) (l.length))] (by rw [sd.1]; kernel_rfl) ⟨fun hw ac u K => ?_, fun hw ac u K => ?_, trivial⟩ ?_
    · exact st_move (.tmp 3) rfl (K.t x3 rfl)
    · exact st_assign (.tmp 22) rfl (K.dep 0 22 rfl)
    intro f8 w8 A hb
    replace x3 := A.t x3 rfl
    replace x9 := A.t x9 rfl
    replace x10 := A.t x10 rfl
    replace x11 := A.t x11 rfl
    replace x12 := A.t x12 rfl
    have x2 := A.e 1 2 rfl rfl
    replace mg := Ob.below mg hb
    replace bl := bgo bl hb
    replace sd := A.sd sd
    clear A hb
    clear x12
    show Code.wp _ _ _ _ _
    refine wp_ret ?_
    repeat (first | with_reducible refine then_ret ?_ | with_reducible refine block_ret ?_)
    obtain rfl : k = l.length := by omega
    rw [ath_all] at mg
    exact bodyPost_ret (v := .slice (some ⟨g, 0, none⟩) l.length l.length) (ret_slot rfl f8 _ x2 _ _) sd.2 ⟨g, rfl, hwg, mg, bl⟩
  obtain ⟨cc, hcck⟩ : ∃ p, l[k]? = some p := ⟨_, List.getElem?_eq_getElem hlt⟩
  refine wr_a [.eq (.bool true)] (by rw [sd.1]; kernel_rfl) ⟨fun hw ac u K => ?_, trivial⟩ ?_
  · exact st_lss 3 (.tmp 11) (.tmp 10) rfl .i64 ((k : Int)) ((((l).length : Nat) : Int)) (K.t x11 rfl) (K.t x10 rfl) _ (by rw [eq_comm, decide_eq_true_iff]; exact Int.ofNat_lt.2 hlt)
  intro f7 w7 A hb
  replace x3 := A.t x3 rfl
  replace x9 := A.t x9 rfl
  replace x10 := A.t x10 rfl
  replace x11 := A.t x11 rfl
  have x12 := A.e 0 12 rfl rfl
  replace mg := Ob.below mg hb
  replace bl := bgo bl hb
  replace sd := A.sd sd
  clear A hb
  show Code.wp _ _ _ _ _
  refine wp_seq ?_
  refine wp_cond_true x12 ?_
  refine wp_skip ?_
  show Code.wp _ _ _ _ _
  refine wp_seq ?_
  refine wp_block ?_
  refine wp_seq ?_
  refine wr_s [.eq (.int .i64 (k : Int)), .sq RC cc, .eq (.agg ([.int .i64 cc.p, cc.vb] : List Value).toArray)] (by rw [sd.1]; kernel_rfl) ⟨fun hw ac u K => ?_, fun hw ac u K => ?_, fun hw ac u K => ?_, trivial⟩ ?_
  · exact st_move (.tmp 11) rfl (K.t x11 rfl)
  · exact st_idxsc (.tmp 9) (.tmp 11) rfl (fk_val (K.t x9 rfl) (Fk.mono _ _ _ _ hvl (bgo bl K.grow))) k cc (K.t x11 rfl) hcck
  · exact st_loadsc (.tmp 14) rfl (K.dep 1 14 rfl)
  intro f8 w8 A hb
  have S_mg := mg
  have hbS0 := Below.refl w7.heap.size w7
  have hbS := hb
  replace x3 := A.t x3 rfl
  replace x9 := A.t x9 rfl
  replace x10 := A.t x10 rfl
  replace x11 := A.t x11 rfl
  replace x12 := A.t x12 rfl
  have x13 := A.e 0 13 rfl rfl
  have x15 := A.e 2 15 rfl rfl
  replace mg := Ob.below mg hb
  replace bl := bgo bl hb
  replace sd := A.sd sd
  clear A hb
  clear x12
  refine wl_one (.nw w8.heap.size 55 [.int .i64 0, .slice none 0 0]) rfl 5 rfl (by rw [sd.1]; decide) (st_alloc 55 rfl _ _ (by kernel_rfl) (Nat.le_refl _)) ?_
  intro f9 w9 df2 sz2 old2 new2 hb
  replace hbS0 := hbS
  replace hbS := hbS.trans (Below.mono hb hbS.size)
  replace bl0 := bl
  replace x3 := tr old2 x3 rfl
  replace x9 := tr old2 x9 rfl
  replace x10 := tr old2 x10 rfl
  replace x11 := tr old2 x11 rfl
  replace x13 := tr old2 x13 rfl
  replace x15 := tr old2 x15 rfl
  have x5 : Fk.f (.nw w8.heap.size 55 [.int .i64 0, .slice none 0 0]) (f9.eval (.tmp 5)) w9 := new2
  replace mg := Ob.below mg hb
  replace bl := bgo bl hb
  replace sd := sd2 sz2 df2 sd
  clear df2 sz2 old2 new2 hb
  obtain ⟨g5, hg5, e5, m5⟩ := x5
  have x5 := e5
  clear e5
  have hw5 : w.heap.size ≤ g5 := Nat.le_trans bl0.size hg5
  have hs5 := Nat.le_trans hbS0.size hg5
  refine wl_one (.eq (.int .i64 (k : Int))) rfl 4 rfl (by rw [sd.1]; decide) (st_assign (.tmp 13) rfl x13) ?_
  intro f10 w10 df2 sz2 old2 new2 hb
  replace hbS0 := hbS
  replace hbS := hbS.trans (Below.mono hb hbS.size)
  replace x3 := tr old2 x3 rfl
  replace x9 := tr old2 x9 rfl
  replace x10 := tr old2 x10 rfl
  replace x11 := tr old2 x11 rfl
  replace x13 := tr old2 x13 rfl
  replace x15 := tr old2 x15 rfl
  replace x5 := tr old2 x5 rfl
  have x4 := Fk.e new2
  replace m5 := Ob.below m5 hb
  replace mg := Ob.below mg hb
  replace bl := bgo bl hb
  replace sd := sd2 sz2 df2 sd
  clear df2 sz2 old2 new2 hb
  clear x13
  refine wl_str rfl 55 (.tmp 5) (.tmp 15) rfl rfl (g5) ([.int .i64 cc.p, cc.vb] : List Value).toArray x5 x15 55 _ m5 (by kernel_rfl) (by kernel_rfl) (by kernel_rfl) ?_
  replace m5 : Ob (w10.setRow g5 ([.int .i64 cc.p, cc.vb] : List Value).toArray) (g5) 55 ([.int .i64 cc.p, cc.vb]) := Ob.setRow m5 ([.int .i64 cc.p, cc.vb])
  replace hbS : Below _ _ (w10.setRow g5 ([.int .i64 cc.p, cc.vb] : List Value).toArray) := hbS.trans (below_setRow _ _ _ _ hs5)
  replace mg := Ob.below S_mg hbS
  replace bl : Below w.heap.size w (w10.setRow g5 ([.int .i64 cc.p, cc.vb] : List Value).toArray) := bl.trans (below_setRow _ _ _ _ hw5)
  generalize w10.setRow g5 ([.int .i64 cc.p, cc.vb] : List Value).toArray = w11b at bl m5 mg hbS ⊢
  refine wpList_nil ?_
  clear hbS hbS0 S_mg
  clear x15
  show Code.wp _ _ _ _ _
  refine wr_s [.eq (.slice (some ⟨g, 0, none⟩) (l.length) (l.length)), .eq (.int .i64 (k : Int)), .eq (.pointer (some ⟨g5, 0, none⟩)), .eq (.int .i64 cc.p), .eq (.pointer (some ⟨g, k, none⟩))] (by rw [sd.1]; kernel_rfl) ⟨fun hw ac u K => ?_, fun hw ac u K => ?_, fun hw ac u K => ?_, fun hw ac u K => ?_, fun hw ac u K => ?_, trivial⟩ ?_
  · exact st_move (.tmp 3) rfl (K.t x3 rfl)
  · exact st_move (.tmp 4) rfl (K.t x4 rfl)
  · exact st_field 55 0 (.tmp 5) rfl (K.t x5 rfl) (by kernel_rfl)
  · exact st_loadc 3 (.tmp 18) rfl (by kernel_rfl) (K.dep 2 18 rfl) (Ob.cell (Ob.below m5 K.grow) 0 rfl)
  · exact st_idxI (.tmp 16) (.tmp 17) rfl (K.dep 0 16 rfl) (k) (K.dep 1 17 rfl) (by omega)
  intro f12 w12 A hb
  have S_mg := mg
  have hbS0 := Below.refl w11b.heap.size w11b
  have hbS := hb
  replace x3 := A.t x3 rfl
  replace x9 := A.t x9 rfl
  replace x10 := A.t x10 rfl
  replace x11 := A.t x11 rfl
  replace x5 := A.t x5 rfl
  replace x4 := A.t x4 rfl
  have x19 := A.e 3 19 rfl rfl
  have x20 := A.e 4 20 rfl rfl
  replace m5 := Ob.below m5 hb
  replace mg := Ob.below mg hb
  replace bl := bgo bl hb
  replace sd := A.sd sd
  clear A hb
  clear x5
  clear x4
  refine wl_stc 3 rfl (.tmp 20) (.tmp 19) rfl rfl (by kernel_rfl) g (k) (.int .i64 (cc.p)) x20 x19 rfl rfl (Ob.there mg (k) (by rw [zv_len, ath_len l hk8]; omega)) ?_
  clear m5
  replace mg : Ob (w12.setCell ⟨g, k, none⟩ (.int .i64 (cc.p))) g 3 (zv (ath l (k + 1))) := by
    have := Ob.set mg (k) (.int .i64 (cc.p))
    rw [zv_set, ath_set hcck] at this
    exact this
  replace bl : Below w.heap.size w (w12.setCell ⟨g, k, none⟩ (.int .i64 (cc.p))) := bl.trans (below_setCell _ _ _ _ _ hwg)
  generalize w12.setCell ⟨g, k, none⟩ (.int .i64 (cc.p)) = w13b at bl mg ⊢
  replace bl0 := bl
  refine wpList_nil ?_
  clear hbS hbS0 S_mg
  clear x19
  clear x20
  show Code.wp _ _ _ _ _
  refine wr_s [.eq (.int .i64 ((k + 1 : Nat) : Int))] (by rw [sd.1]; kernel_rfl) ⟨fun hw ac u K => ?_, trivial⟩ ?_
  · exact st_addz (.tmp 11) (.const (.int .i64 1)) rfl _ _ _ (K.t x11 rfl) rfl (by omega) (by omega) (by omega)
  intro f14 w14 A hb
  replace x3 := A.t x3 rfl
  replace x9 := A.t x9 rfl
  replace x10 := A.t x10 rfl
  replace x11 := A.t x11 rfl
  have x21 := A.e 0 21 rfl rfl
  replace mg := Ob.below mg hb
  replace bl := bgo bl hb
  replace sd := A.sd sd
  clear A hb
  refine wl_one (.eq (.int .i64 ((k + 1 : Nat) : Int))) rfl 11 rfl (by rw [sd.1]; decide) (st_move (.tmp 21) rfl x21) ?_
  intro f15 w15 df2 sz2 old2 new2 hb
  replace x3 := tr old2 x3 rfl
  replace x9 := tr old2 x9 rfl
  replace x10 := tr old2 x10 rfl
  clear x11
  replace x21 := tr old2 x21 rfl
  have x11 := Fk.e new2
  replace mg := Ob.below mg hb
  replace bl := bgo bl hb
  replace sd := sd2 sz2 df2 sd
  clear df2 sz2 old2 new2 hb
  refine wpList_nil ?_
  clear x21
  show (∃ _, _) ∧ _
  refine ⟨⟨k + 1, by omega, sd.1, sd.2, x3, x9, x10, x11, mg, bl⟩, ?_⟩
  rw [show f15.eval (.tmp 11) = _ from x11, show _ = _ from hcnt]
  first | (simp [intOf]; done) | (simp [intOf]; omega)
end Go.Proofs.YtakdpkoigijonaaGreat
namespace Go.Proofs.YtakdpkoigijonaaGreat
set_option maxRecDepth 100000
open Go.RowKit
theorem put_own {ob : Nat} {v v' : Value} {w w1 w2 : World} {xs : List (BitVec 8)} (h : Put ob v v' w1 w2) (ho : HasOut w1 ob v xs) (hb : Below w.heap.size w w1) (hw : w.heap.size ≤ ob) : Below w.heap.size w w2 := hb.trans (Put.below h ho _ hw)
section
variable {ops : Array Oper} {rest : List Oper} {o : Oper} {a : Act} {w : World} {Q : Exit → Act → World → Prop}
/-- copy of bytes into a row of its own, from its head on. -/
theorem wl_copy12 (hgd : o.guard = none) (d s : Operand) (ho : o.op = .call { callee := .builtin .copy, args := #[d, s], argTypes := #[22, 22] }) (t : Nat) (ht : o.dst = some t) (_hsz : t < a.tmps.size) {g n : Nat} {xs bs : List (BitVec 8)}
    (hd : a.eval d = .slice (some ⟨g, 0, none⟩) n n) (hg : Ob w g 5 (xs.map V)) (hn : n = xs.length) (hs : (Fk.sl bs).f (a.eval s) w) (hl : bs.length ≤ n) {w0 : World} (hb : Below w0.heap.size w0 w) (hB : w0.heap.size ≤ g)
    (h : ∀ a2 w2, a2.defers = a.defers → a2.tmps.size = a.tmps.size → (∀ u, (u == t) = false → a2.eval (.tmp u) = a.eval (.tmp u)) → Ob w2 g 5 ((bs ++ xs.drop bs.length).map V) → Below w0.heap.size w0 w2 → wpList Tryz.prog ops Q rest a2 w2) : wpList Tryz.prog ops Q (o :: rest) a w := by
  obtain ⟨sp, m, c, b, so, es, hsl⟩ := hs
  have hm := hsl.len
  refine wpList_copy_splice hgd d s 22 22 ho 5 (by kernel_rfl) (by kernel_rfl) (some ⟨g, 0, none⟩) sp n n m c hd es g 0 (xs.map V) 5 hg (bs.map V) (by rw [List.length_map]; show _ = min m n; omega) (fun hp => ?_) (by rw [List.length_map, List.length_map]; omega) (fun v hv => by obtain ⟨x, _, rfl⟩ := List.mem_map.1 hv; rfl) w0.heap.size w0 hb hB (fun w' hG hb' => ?_)
  · rw [List.length_map] at hp
    obtain ⟨e1, _, e3⟩ := hsl.src (by omega)
    refine ⟨rfl, ⟨b, so, none⟩, e1, fun j v hj => ?_⟩
    rw [Addr.add_mid]
    exact range_of e3 j v hj
  · refine h _ _ (put_def _ _ _) (put_size _ _ _) (fun u hu => by rw [ht]; exact put_eval_other _ _ _ _ (fun e => by subst e; simp at hu)) ?_ hb'
    have := hG.out
    unfold splice at this
    rw [List.take_zero, List.nil_append, Nat.zero_add, List.length_map, ← List.map_drop, ← List.map_append] at this
    exact this
end
theorem fk_xheadOf {l : List Int} {z : Nat} (hz : 16 + 8 * l.length ≤ z) (hz4 : z ≤ 100000) {w : World} {va : Value} (hat : (Fk.is l).f va w) :
    Calls Tryz.prog 75 #[va, .int .i64 (z : Int)] w fun e w' => ∃ u, e = .returned u ∧ (Fk.sl (hdb z l)).f u w' ∧ Below w.heap.size w w' := by
  go_enter Tryz.func75, Tryz.ntmps75
  refine code_both (fun f w1 => f.tmps.size = 28 ∧ f.defers = [] ∧ f.eval (.tmp 0) = va ∧ f.eval (.tmp 1) = .int .i64 (z : Int) ∧ Below w.heap.size w (w1)) ⟨rfl, rfl, rfl, rfl, Below.refl _ _⟩ ?_
  rintro f0 w0 ⟨sz, df, x0, x1, bl⟩
  have sd := And.intro sz df
  clear sz df
  have bl0 := bl
  refine wp_seq ?_
  refine wr_a [.eq (.slice none 0 0)] (by rw [sd.1]; kernel_rfl) ⟨fun hw ac u K => ?_, trivial⟩ ?_
  · exact st_assign (.const (.slice none 0 0)) rfl rfl
  intro f1 w1 A hb
  replace x0 := A.t x0 rfl
  replace x1 := A.t x1 rfl
  replace bl := bgo bl hb
  replace sd := A.sd sd
  clear A hb
  show Code.wp _ _ _ _ _
  refine wp_seq ?_
  refine wr_a [.nw w1.heap.size 118 [.slice none 0 0]] (by rw [sd.1]; kernel_rfl) ⟨fun hw ac u K => ?_, trivial⟩ ?_
  · exact st_alloc 118 rfl _ _ (by kernel_rfl) K.grow.size
  intro f2 w2 A hb
  replace bl0 := bl
  replace x0 := A.t x0 rfl
  replace x1 := A.t x1 rfl
  have x5 : Fk.f (.nw w1.heap.size 118 [.slice none 0 0]) (f2.eval (.tmp 5)) w2 := A.has 0 5 rfl
  replace bl := bgo bl hb
  replace sd := A.sd sd
  clear A hb
  obtain ⟨g5, hg5, e5, m5⟩ := x5
  have x5 := e5
  clear e5
  have hw5 : w.heap.size ≤ g5 := Nat.le_trans bl0.size hg5
  show Code.wp _ _ _ _ _
  refine wp_seq ?_
  obtain ⟨vo, hvo⟩ : ∃ v : Value, v = .slice none 0 0 := ⟨_, rfl⟩
  have hO : HasOut w2 g5 vo [] := by rw [hvo]; exact out_nil m5
  clear m5 hvo
  refine wr_s [] (by rw [sd.1]; kernel_rfl) trivial ?_
  intro f3 w3 A hb
  replace x0 := A.t x0 rfl
  replace x1 := A.t x1 rfl
  replace x5 := A.t x5 rfl
  replace hO := HasOut.below hO hb
  replace bl := bgo bl hb
  replace sd := A.sd sd
  clear A hb
  refine wl_call 92 (.func 92) _ _ #[.pointer (some ⟨g5, 0, none⟩), .int .i64 (1)] rfl 9 rfl (by rw [sd.1]; decide) rfl rfl (two_arg x5 rfl) Tryz.enter92 (fun u W' => u = .pointer (some ⟨g5, 0, none⟩) ∧ ∃ v', HasOut W' g5 v' ([] ++ be8 (1)) ∧ Put g5 vo v' w3 W') ((oint_any g5 (1) vo ([]) _ hO (by simp)).mono (by rintro e w' ⟨rfl, q⟩; exact ⟨_, rfl, rfl, q⟩)) ?_
  rintro f4 w4 df2 sz2 old2 ⟨x9, v9, hO2, hP⟩
  replace bl := put_own hP hO bl hw5
  replace bl0 := bl
  clear hP hO
  obtain ⟨vo, hvo⟩ : ∃ v, v = v9 := ⟨_, rfl⟩
  rw [← hvo] at hO2
  clear hvo
  have hO := hO2
  clear hO2
  replace x0 := tr old2 x0 rfl
  replace x1 := tr old2 x1 rfl
  replace x5 := tr old2 x5 rfl
  replace sd := sd2 sz2 df2 sd
  clear df2 sz2 old2
  refine wl_one (.eq (va)) rfl 10 rfl (by rw [sd.1]; decide) (st_move (.tmp 0) rfl x0) ?_
  intro f5 w5 df2 sz2 old2 new2 hb
  replace x0 := tr old2 x0 rfl
  replace x1 := tr old2 x1 rfl
  replace x5 := tr old2 x5 rfl
  replace x9 := tr old2 x9 rfl
  have x10 := Fk.e new2
  replace hO := HasOut.below hO hb
  replace bl := bgo bl hb
  replace sd := sd2 sz2 df2 sd
  clear df2 sz2 old2 new2 hb
  refine wl_one (.eq (.int .i64 (l.length : Int))) rfl 11 rfl (by rw [sd.1]; decide) (st_lenis (.tmp 10) rfl (fk_val x10 (Fk.mono _ _ _ _ hat bl))) ?_
  intro f6 w6 df2 sz2 old2 new2 hb
  replace x0 := tr old2 x0 rfl
  replace x1 := tr old2 x1 rfl
  replace x5 := tr old2 x5 rfl
  replace x9 := tr old2 x9 rfl
  replace x10 := tr old2 x10 rfl
  have x11 := Fk.e new2
  replace hO := HasOut.below hO hb
  replace bl := bgo bl hb
  replace sd := sd2 sz2 df2 sd
  clear df2 sz2 old2 new2 hb
  clear x10
  refine wl_call 92 (.func 92) _ _ #[.pointer (some ⟨g5, 0, none⟩), .int .i64 ((l.length : Int))] rfl 12 rfl (by rw [sd.1]; decide) rfl rfl (two_arg x9 x11) Tryz.enter92 (fun u W' => u = .pointer (some ⟨g5, 0, none⟩) ∧ ∃ v', HasOut W' g5 v' ([] ++ be8 (1) ++ be8 ((l.length : Int))) ∧ Put g5 vo v' w6 W') ((oint_any g5 ((l.length : Int)) vo ([] ++ be8 (1)) _ hO (by simp [be8_len])).mono (by rintro e w' ⟨rfl, q⟩; exact ⟨_, rfl, rfl, q⟩)) ?_
  rintro f7 w7 df2 sz2 old2 ⟨x12, v9, hO2, hP⟩
  replace bl := put_own hP hO bl hw5
  replace bl0 := bl
  clear hP hO
  obtain ⟨vo, hvo⟩ : ∃ v, v = v9 := ⟨_, rfl⟩
  rw [← hvo] at hO2
  clear hvo
  have hO := hO2
  clear hO2
  replace x0 := tr old2 x0 rfl
  replace x1 := tr old2 x1 rfl
  replace x5 := tr old2 x5 rfl
  replace x9 := tr old2 x9 rfl
  replace x11 := tr old2 x11 rfl
  replace sd := sd2 sz2 df2 sd
  clear df2 sz2 old2
  refine wpList_nil ?_
  clear x9
  clear x11
  clear x12
  show Code.wp _ _ _ _ _
  refine wp_seq ?_
  refine wp_seq ?_
  refine wr_a [.eq (va), .eq (.int .i64 (l.length : Int)), .eq (.int .i64 0)] (by rw [sd.1]; kernel_rfl) ⟨fun hw ac u K => ?_, fun hw ac u K => ?_, fun hw ac u K => ?_, trivial⟩ ?_
  · exact st_move (.tmp 0) rfl (K.t x0 rfl)
  · exact st_lenis (.tmp 13) rfl (fk_val (K.dep 0 13 rfl) (Fk.mono _ _ _ _ hat (bgo bl K.grow)))
  · exact st_move (.const (.int .i64 0)) rfl rfl
  intro f8 w8 A hb
  replace x0 := A.t x0 rfl
  replace x1 := A.t x1 rfl
  replace x5 := A.t x5 rfl
  have x13 := A.e 0 13 rfl rfl
  have x14 := A.e 1 14 rfl rfl
  have x15 := A.e 2 15 rfl rfl
  replace hO := HasOut.below hO hb
  replace bl := bgo bl hb
  replace sd := A.sd sd
  clear A hb
  clear x0
  show Code.wp _ _ _ _ _
  refine wp_block ?_
  refine wp_loop (fun f v1 => ∃ (k : Nat) (vo : Value), k ≤ l.length ∧ f.tmps.size = 28 ∧ f.defers = [] ∧ f.eval (.tmp 1) = .int .i64 (z : Int) ∧ f.eval (.tmp 5) = .pointer (some ⟨g5, 0, none⟩) ∧ f.eval (.tmp 13) = va ∧ f.eval (.tmp 14) = .int .i64 (l.length : Int) ∧ f.eval (.tmp 15) = .int .i64 (k : Int) ∧ HasOut v1 g5 vo (hbs l.length (l.take k)) ∧ Below w.heap.size w (v1)) (fun f _ => l.length - (intOf (f.eval (.tmp 15))).toNat) ⟨0, vo, Nat.zero_le _, sd.1, sd.2, x1, x5, x13, x14, x15, (by rw [show hbs l.length (l.take 0) = [] ++ be8 1 ++ be8 (l.length : Int) from by unfold hbs; simp]; exact hO), bl⟩ ?_
  intro f9 w9 hI
  clear sd bl bl0 x1 x5 x13 x14 x15 hO
  obtain ⟨k, vo, hk8, sz, df, x1, x5, x13, x14, x15, hO, bl⟩ := hI
  have sd := And.intro sz df
  clear sz df
  have bl0 := bl
  have hcnt := x15
  refine wp_seq ?_
  by_cases hlt : k < l.length
  rotate_left
  · skip
    have hkl : k = l.length := by omega
    rw [hkl, List.take_of_length_le (Nat.le_refl _)] at hO
    refine wr_a [.eq (.bool false)] (by rw [sd.1]; kernel_rfl) ⟨fun hw ac u K => ?_, trivial⟩ ?_
    · exact st_lss 3 (.tmp 15) (.tmp 14) rfl .i64 ((k : Int)) ((l.length : Int)) (K.t x15 rfl) (K.t x14 rfl) _ (by rw [eq_comm, decide_eq_false_iff_not]; exact fun h => hlt (Int.ofNat_lt.1 h))
    intro f10 w10 A hb
    replace x1 := A.t x1 rfl
    replace x5 := A.t x5 rfl
    replace x13 := A.t x13 rfl
    replace x14 := A.t x14 rfl
    replace x15 := A.t x15 rfl
    have x16 := A.e 0 16 rfl rfl
    replace hO := HasOut.below hO hb
    replace bl := bgo bl hb
    replace sd := A.sd sd
    clear A hb
    show Code.wp _ _ _ _ _
    refine wp_seq ?_
    refine wp_cond_false x16 ?_
    refine wp_exit ?_
    show Code.wp _ _ _ _ _
    refine wp_seq ?_
    refine wr_s [.eq (.int .i64 (z : Int))] (by rw [sd.1]; kernel_rfl) ⟨fun hw ac u K => ?_, trivial⟩ ?_
    · exact st_move (.tmp 1) rfl (K.t x1 rfl)
    intro f11 w11 A hb
    replace x1 := A.t x1 rfl
    replace x5 := A.t x5 rfl
    replace x13 := A.t x13 rfl
    replace x14 := A.t x14 rfl
    replace x15 := A.t x15 rfl
    replace x16 := A.t x16 rfl
    have x22 := A.e 0 22 rfl rfl
    replace hO := HasOut.below hO hb
    replace bl := bgo bl hb
    replace sd := A.sd sd
    clear A hb
    clear x16
    refine wl_makeB rfl _ _ rfl 23 rfl (by rw [sd.1]; decide) (z) hz4 x22 x22 ?_
    intro f12 w12 gb df2 sz2 old2 x23 hggb mgb hb
    replace x1 := tr old2 x1 rfl
    replace x5 := tr old2 x5 rfl
    replace x13 := tr old2 x13 rfl
    replace x14 := tr old2 x14 rfl
    replace x15 := tr old2 x15 rfl
    replace x22 := tr old2 x22 rfl
    replace hO := HasOut.below hO hb
    have hwgb : w.heap.size ≤ gb := Nat.le_trans bl.size hggb
    replace bl := bgo bl hb
    replace bl0 := bl
    replace sd := sd2 sz2 df2 sd
    clear df2 sz2 old2 hb
    clear x22
    refine wl_one (.eq (.slice (some ⟨gb, 0, none⟩) (z) (z))) rfl 8 rfl (by rw [sd.1]; decide) (st_assign (.tmp 23) rfl x23) ?_
    intro f13 w13 df2 sz2 old2 new2 hb
    replace x1 := tr old2 x1 rfl
    replace x5 := tr old2 x5 rfl
    replace x13 := tr old2 x13 rfl
    replace x14 := tr old2 x14 rfl
    replace x15 := tr old2 x15 rfl
    replace x23 := tr old2 x23 rfl
    have x8 := Fk.e new2
    replace hO := HasOut.below hO hb
    replace mgb := Ob.below mgb hb
    replace bl := bgo bl hb
    replace sd := sd2 sz2 df2 sd
    clear df2 sz2 old2 new2 hb
    refine wpList_nil ?_
    clear x23
    show Code.wp _ _ _ _ _
    refine wp_seq ?_
    refine wr_s [.eq (.slice (some ⟨gb, 0, none⟩) (z) (z))] (by rw [sd.1]; kernel_rfl) ⟨fun hw ac u K => ?_, trivial⟩ ?_
    · exact st_move (.tmp 8) rfl (K.t x8 rfl)
    intro f14 w14 A hb
    replace x1 := A.t x1 rfl
    replace x5 := A.t x5 rfl
    replace x13 := A.t x13 rfl
    replace x14 := A.t x14 rfl
    replace x15 := A.t x15 rfl
    replace x8 := A.t x8 rfl
    have x24 := A.e 0 24 rfl rfl
    replace hO := HasOut.below hO hb
    replace mgb := Ob.below mgb hb
    replace bl := bgo bl hb
    replace sd := A.sd sd
    clear A hb
    obtain ⟨gv, hrv⟩ := out_rv hO
    refine wl_call 93 (.func 93) _ _ #[.pointer (some ⟨g5, 0, none⟩)] rfl 25 rfl (by rw [sd.1]; decide) rfl rfl (one_arg x5) Tryz.enter93 (fun u W' => (Fk.sl (hbs l.length l)).f u W' ∧ Below w14.heap.size w14 W') ((all_any g5 vo gv _ _ hO.1 hrv (by rw [hbs_len]; omega)).mono (by rintro e w' ⟨v, rfl, h1, h2⟩; exact ⟨_, rfl, own_sl h1, h2⟩)) ?_
    rintro f15 w15 df2 sz2 old2 ⟨x25, hb⟩
    replace bl0 := bl
    replace x1 := tr old2 x1 rfl
    replace x5 := tr old2 x5 rfl
    replace x13 := tr old2 x13 rfl
    replace x14 := tr old2 x14 rfl
    replace x15 := tr old2 x15 rfl
    replace x8 := tr old2 x8 rfl
    replace x24 := tr old2 x24 rfl
    replace hO := HasOut.below hO hb
    replace mgb := Ob.below mgb hb
    replace bl := bgo bl hb
    replace sd := sd2 sz2 df2 sd
    replace bl0 := bl
    clear df2 sz2 old2 hb hrv
    refine wl_copy12 rfl _ _ rfl 26 rfl (by rw [sd.1]; decide) x24 mgb (by simp [zs]) x25 (by rw [hbs_len]; omega) bl hwgb ?_
    intro f16 w16 df2 sz2 old2 mg2 bl2
    clear x25
    replace x1 := tr old2 x1 rfl
    replace x5 := tr old2 x5 rfl
    replace x13 := tr old2 x13 rfl
    replace x14 := tr old2 x14 rfl
    replace x15 := tr old2 x15 rfl
    replace x8 := tr old2 x8 rfl
    replace x24 := tr old2 x24 rfl
    have mgb : Ob w16 gb 5 ((hdb z l).map V) := by
      have e : hbs l.length l ++ (zs z).drop (hbs l.length l).length = hdb z l := by
        unfold hdb zs
        rw [List.drop_replicate, hbs_len]
      rw [e] at mg2
      exact mg2
    replace bl := bl2
    replace bl0 := bl
    replace sd := sd2 sz2 df2 sd
    clear df2 sz2 old2 mg2 bl2
    refine wpList_nil ?_
    clear x24
    show Code.wp _ _ _ _ _
    refine wp_seq ?_
    refine wr_a [.eq (.slice (some ⟨gb, 0, none⟩) (z) (z)), .eq (.slice (some ⟨gb, 0, none⟩) (z) (z))] (by rw [sd.1]; kernel_rfl) ⟨fun hw ac u K => ?_, fun hw ac u K => ?_, trivial⟩ ?_
    · exact st_move (.tmp 8) rfl (K.t x8 rfl)
    · exact st_assign (.tmp 27) rfl (K.dep 0 27 rfl)
    intro f17 w17 A hb
    replace x1 := A.t x1 rfl
    replace x5 := A.t x5 rfl
    replace x13 := A.t x13 rfl
    replace x14 := A.t x14 rfl
    replace x15 := A.t x15 rfl
    replace x8 := A.t x8 rfl
    have x4 := A.e 1 4 rfl rfl
    replace mgb := Ob.below mgb hb
    replace bl := bgo bl hb
    replace sd := A.sd sd
    clear A hb
    clear x8
    show Code.wp _ _ _ _ _
    refine wp_ret ?_
    repeat (first | with_reducible refine then_ret ?_ | with_reducible refine block_ret ?_)
    have hsl := obB_sl mgb
    have hlz : (hdb z l).length = z := hdb_len hz
    rw [hlz] at hsl
    exact bodyPost_ret (v := .slice (some ⟨gb, 0, none⟩) z z) (ret_slot rfl f17 _ x4 _ _) sd.2 ⟨_, rfl, hsl, bl⟩
  obtain ⟨y, hy⟩ : ∃ p, l[k]? = some p := ⟨_, List.getElem?_eq_getElem hlt⟩
  refine wr_a [.eq (.bool true)] (by rw [sd.1]; kernel_rfl) ⟨fun hw ac u K => ?_, trivial⟩ ?_
  · exact st_lss 3 (.tmp 15) (.tmp 14) rfl .i64 ((k : Int)) ((l.length : Int)) (K.t x15 rfl) (K.t x14 rfl) _ (by rw [eq_comm, decide_eq_true_iff]; exact Int.ofNat_lt.2 hlt)
  intro f10 w10 A hb
  replace x1 := A.t x1 rfl
  replace x5 := A.t x5 rfl
  replace x13 := A.t x13 rfl
  replace x14 := A.t x14 rfl
  replace x15 := A.t x15 rfl
  have x16 := A.e 0 16 rfl rfl
  replace hO := HasOut.below hO hb
  replace bl := bgo bl hb
  replace sd := A.sd sd
  clear A hb
  show Code.wp _ _ _ _ _
  refine wp_seq ?_
  refine wp_cond_true x16 ?_
  refine wp_skip ?_
  show Code.wp _ _ _ _ _
  refine wp_seq ?_
  refine wp_block ?_
  refine wp_seq ?_
  refine wr_a [.prg [.int .i64 (y)], .eq (.int .i64 (y)), .eq (.int .i64 (y))] (by rw [sd.1]; kernel_rfl) ⟨fun hw ac u K => ?_, fun hw ac u K => ?_, fun hw ac u K => ?_, trivial⟩ ?_
  · exact st_idxis (.tmp 13) (.tmp 15) rfl (fk_val (K.t x13 rfl) (Fk.mono _ _ _ _ hat (bgo bl K.grow))) k (K.t x15 rfl) y hy
  · exact st_loadr1 3 (.tmp 17) rfl (by kernel_rfl) (K.dep 0 17 rfl)
  · exact st_assign (.tmp 18) rfl (K.dep 1 18 rfl)
  intro f11 w11 A hb
  replace x1 := A.t x1 rfl
  replace x5 := A.t x5 rfl
  replace x13 := A.t x13 rfl
  replace x14 := A.t x14 rfl
  replace x15 := A.t x15 rfl
  replace x16 := A.t x16 rfl
  have x7 := A.e 2 7 rfl rfl
  replace hO := HasOut.below hO hb
  replace bl := bgo bl hb
  replace sd := A.sd sd
  clear A hb
  clear x16
  show Code.wp _ _ _ _ _
  refine wr_s [.eq (.int .i64 (y))] (by rw [sd.1]; kernel_rfl) ⟨fun hw ac u K => ?_, trivial⟩ ?_
  · exact st_move (.tmp 7) rfl (K.t x7 rfl)
  intro f12 w12 A hb
  replace x1 := A.t x1 rfl
  replace x5 := A.t x5 rfl
  replace x13 := A.t x13 rfl
  replace x14 := A.t x14 rfl
  replace x15 := A.t x15 rfl
  replace x7 := A.t x7 rfl
  have x19 := A.e 0 19 rfl rfl
  replace hO := HasOut.below hO hb
  replace bl := bgo bl hb
  replace sd := A.sd sd
  clear A hb
  clear x7
  refine wl_call 92 (.func 92) _ _ #[.pointer (some ⟨g5, 0, none⟩), .int .i64 (y)] rfl 20 rfl (by rw [sd.1]; decide) rfl rfl (two_arg x5 x19) Tryz.enter92 (fun u W' => u = .pointer (some ⟨g5, 0, none⟩) ∧ ∃ v', HasOut W' g5 v' ((hbs l.length (l.take k)) ++ be8 (y)) ∧ Put g5 vo v' w12 W') ((oint_any g5 (y) vo ((hbs l.length (l.take k))) _ hO (by rw [hbs_len, List.length_take]; omega)).mono (by rintro e w' ⟨rfl, q⟩; exact ⟨_, rfl, rfl, q⟩)) ?_
  rintro f13 w13 df2 sz2 old2 ⟨x20, v9, hO2, hP⟩
  replace bl := put_own hP hO bl hw5
  replace bl0 := bl
  clear hP hO
  obtain ⟨vo, hvo⟩ : ∃ v, v = v9 := ⟨_, rfl⟩
  rw [← hvo] at hO2
  clear hvo
  have hO := hO2
  clear hO2
  replace x1 := tr old2 x1 rfl
  replace x5 := tr old2 x5 rfl
  replace x13 := tr old2 x13 rfl
  replace x14 := tr old2 x14 rfl
  replace x15 := tr old2 x15 rfl
  replace x19 := tr old2 x19 rfl
  replace sd := sd2 sz2 df2 sd
  clear df2 sz2 old2
  refine wpList_nil ?_
  clear x19
  clear x20
  show Code.wp _ _ _ _ _
  refine wr_s [.eq (.int .i64 ((k + 1 : Nat) : Int))] (by rw [sd.1]; kernel_rfl) ⟨fun hw ac u K => ?_, trivial⟩ ?_
  · exact st_addz (.tmp 15) (.const (.int .i64 1)) rfl _ _ _ (K.t x15 rfl) rfl (by omega) (by omega) (by omega)
  intro f14 w14 A hb
  replace x1 := A.t x1 rfl
  replace x5 := A.t x5 rfl
  replace x13 := A.t x13 rfl
  replace x14 := A.t x14 rfl
  replace x15 := A.t x15 rfl
  have x21 := A.e 0 21 rfl rfl
  replace hO := HasOut.below hO hb
  replace bl := bgo bl hb
  replace sd := A.sd sd
  clear A hb
  refine wl_one (.eq (.int .i64 ((k + 1 : Nat) : Int))) rfl 15 rfl (by rw [sd.1]; decide) (st_move (.tmp 21) rfl x21) ?_
  intro f15 w15 df2 sz2 old2 new2 hb
  replace x1 := tr old2 x1 rfl
  replace x5 := tr old2 x5 rfl
  replace x13 := tr old2 x13 rfl
  replace x14 := tr old2 x14 rfl
  clear x15
  replace x21 := tr old2 x21 rfl
  have x15 := Fk.e new2
  replace hO := HasOut.below hO hb
  replace bl := bgo bl hb
  replace sd := sd2 sz2 df2 sd
  clear df2 sz2 old2 new2 hb
  refine wpList_nil ?_
  clear x21
  show (∃ _, _) ∧ _
  refine ⟨⟨k + 1, vo, by omega, sd.1, sd.2, x1, x5, x13, x14, x15, (by rw [hbs_snoc hy]; exact hO), bl⟩, ?_⟩
  rw [show f15.eval (.tmp 15) = _ from x15, show _ = _ from hcnt]
  first | (simp [intOf]; done) | (simp [intOf]; omega)
end Go.Proofs.YtakdpkoigijonaaGreat
