/- The reference's Int, Join, Head. The reference's Read. The head, plainly. The reference's Parse. The wal, plainly: what stays over crashes and openings. What the laws know between their calls. Openings, again and again; tampered heads. The law's step at any two states: nothing, Flush, Arm, Crash, Tamper. The law's step: a Read. The law's step: a Write. What the program's disk tells (open); the law's same. The step of every kind; New (open). Calls of the program's disk; awake. -/
import Derived.Test.YtakdpkoigijonaaGreatM8
import Derived.Test.YtakdpkoigijonaaGreatM7
import Derived.Test.YtakdpkoigijonaaGreatM3
import Derived.Laws.AppendOwnNone
namespace Go.Proofs.YtakdpkoigijonaaGreat
set_option maxRecDepth 100000
open Go.RowKit
/-- Bytes of the call's own. -/
def Fk.oy (base : Nat) (bs : List (BitVec 8)) : Fk := Fk.orw base 5 1 bs.length (bs.map V)
def slen : Value → Nat
  | .slice _ n _ => n
  | _ => 0
theorem oy_slen {base : Nat} {bs : List (BitVec 8)} {v : Value} {w : World} (h : (Fk.oy base bs).f v w) : slen v = bs.length := by
  obtain ⟨_, h2⟩ := h
  rcases h2 with ⟨rfl, h0⟩ | ⟨g, cap, cur, rfl, _⟩
  · exact h0.symm
  · rfl
theorem oy_one (bs : List (BitVec 8)) : ∀ u ∈ bs.map V, u.oneCell' = true := fun u hu => by
  obtain ⟨x, _, rfl⟩ := List.mem_map.1 hu
  rfl
theorem Tryz.bld8z (w : World) : (Instr.buildSlice 22 1 #[(0, .int .u8 0)]).run Tryz.prog w = .ok (.slice (some ⟨w.heap.size, 0, none⟩) 1 1) (w.alloc (.cells (([0] : List (BitVec 8)).map V).toArray 5)) := by kernel_rfl
section
variable {Q : Exit → Act → World → Prop} {o : Oper} {a : Act} {w : World} {ops : Array Oper} {rest : List Oper}
theorem wl_appy (hgd : o.guard = none) (s x : Operand) (ho : o.op = .call { callee := .builtin .append, args := #[s, x], argTypes := #[22, 22] }) (d : Nat) (hd : o.dst = some d) (hsz : d < a.tmps.size)
    {wL : World} {b : Nat} {cs ds : List (BitVec 8)} (hs1 : (Fk.oy wL.heap.size cs).f (a.eval s) w) (hx : (Fk.oy b ds).f (a.eval x) w) (hm : 1 ≤ ds.length) (hL : Below wL.heap.size wL w) (hN : cs.length + ds.length ≤ 100000)
    (h : ∀ a2 w2, a2.defers = a.defers → a2.tmps.size = a.tmps.size → (∀ t, (t == d) = false → a2.eval (.tmp t) = a.eval (.tmp t)) → (Fk.oy wL.heap.size (cs ++ ds)).f (a2.eval (.tmp d)) w2 → Below wL.heap.size wL w2 → wpList Tryz.prog ops Q rest a2 w2) : wpList Tryz.prog ops Q (o :: rest) a w :=
  wl_appr 22 5 1 1 (by kernel_rfl) Tryz.info5 rfl (by decide) hgd s x ho d hd hsz hs1 hx hm (oy_one ds) hL hN (by decide) (fun a2 w2 h1 h2 h3 h4 h5 => h a2 w2 h1 h2 h3 (by unfold Fk.oy; rw [List.length_append, List.map_append]; exact h4) h5)
theorem st_by0 (ho : o.op = .buildSlice 22 1 #[(0, .const (.int .u8 0))]) (g0 : Nat) (hg : g0 ≤ w.heap.size) : o.wp Tryz.prog a w (Ends a o.dst w (Fk.oy g0 [0]).f) Q := st_bldr 22 5 1 (.const (.int .u8 0)) ho _ rfl Tryz.bld8z rfl g0 hg
theorem st_leny (x : Operand) (ho : o.op = .call { callee := .builtin .len, args := #[x], argTypes := #[22] }) {b : Nat} {bs : List (BitVec 8)} (h : (Fk.oy b bs).f (a.eval x) w) : o.wp Tryz.prog a w (Ends a o.dst w (Fk.eq (.int .i64 (bs.length : Int))).f) Q := st_lenr 22 5 (by kernel_rfl) (by kernel_rfl) x ho (orw_rdw h)
end
theorem oy_new {B0 : Nat} {w : World} {g : Nat} {bs : List (BitVec 8)} (h : HasV w g 5 bs) (hb : B0 ≤ g) (hm : bs.length ≤ maxLen) : (Fk.oy B0 bs).f (.slice (some ⟨g, 0, none⟩) bs.length bs.length) w := own_of_HasVW h hm hb
theorem fk_rint (n : Int) {B0 : Nat} (w : World) (hB : B0 ≤ w.heap.size) : Calls Tryz.prog 33 #[.int .i64 n] w fun e w' => ∃ u, e = .returned u ∧ (Fk.oy B0 (be8 n)).f u w' ∧ Below w.heap.size w w' := by
  refine (refInt_any n w).mono ?_
  rintro e w' ⟨rfl, h1, h2⟩
  have h8 := be8_len n
  refine ⟨_, rfl, ?_, h2⟩
  have := oy_new h1 hB (by rw [h8]; unfold maxLen; omega)
  rw [h8] at this
  exact this
theorem fk_rjoin {n : Nat} {bs : List (BitVec 8)} {v : Value} {B0 : Nat} {w : World} (hB : B0 ≤ w.heap.size) (hT : bs.length ≤ 900000) (hN : n ≤ 1000) (h : (Fk.ls n bs).f v w) :
    Calls Tryz.prog 32 #[v] w fun e w' => ∃ u, e = .returned u ∧ (Fk.oy B0 bs).f u w' ∧ Below w.heap.size w w' := by
  obtain ⟨A, C, lb, lo, ps, rfl, h1, rfl, h3, rfl⟩ := h
  refine (join_own A C lb lo ps w h1 h3 hT hN).mono ?_
  rintro e w' ⟨u, rfl, h4, h5⟩
  exact ⟨u, rfl, orw_le hB h4, h5⟩
/-- A head's bytes: the number 1, how many, and each home sector; then noughts. -/
def hbs (n : Nat) (l : List Int) : List (BitVec 8) := be8 1 ++ be8 (n : Int) ++ l.flatMap be8
theorem flat8_len (l : List Int) : (l.flatMap be8).length = 8 * l.length := by
  induction l with
  | nil => rfl
  | cons z l ih => rw [List.flatMap_cons, List.length_append, ih, be8_len, List.length_cons]; omega
theorem hbs_len (n : Nat) (l : List Int) : (hbs n l).length = 16 + 8 * l.length := by
  unfold hbs
  rw [List.length_append, List.length_append, be8_len, be8_len, flat8_len]
theorem hbs_snoc {n k : Nat} {l : List Int} {z : Int} (h : l[k]? = some z) : hbs n (l.take (k + 1)) = hbs n (l.take k) ++ be8 z := by
  unfold hbs
  rw [take_one12 h, List.flatMap_append, List.append_assoc (be8 1 ++ be8 (n : Int))]
  simp
def hdb (z : Nat) (l : List Int) : List (BitVec 8) := hbs l.length l ++ List.replicate (z - (16 + 8 * l.length)) 0
section
variable {Q : Exit → Act → World → Prop} {o : Oper} {a : Act} {w : World}
theorem st_lenyk (x : Operand) (ho : o.op = .call { callee := .builtin .len, args := #[x], argTypes := #[22] }) {b : Nat} {bs : List (BitVec 8)} (h : (Fk.oy b bs).f (a.eval x) w) {k : Nat} (hk : bs.length = k) : o.wp Tryz.prog a w (Ends a o.dst w (Fk.eq (.int .i64 (k : Int))).f) Q := by
  subst hk
  exact st_leny x ho h
end
theorem fk_rhead {L : List Int} {vl : Value} {z : Nat} {w : World} (hz : z ≤ 5000) (hl : L.length ≤ 1000) (hvl : (Fk.is L).f vl w) :
    Calls Tryz.prog 12 #[.int .i64 (z : Int), vl] w fun e w' => ∃ u, e = .returned u ∧ (Fk.oy w.heap.size (hdb z L)).f u w' ∧ Below w.heap.size w w' := by
  go_enter Tryz.func12, Tryz.ntmps12
  refine code_both (fun f w1 => f.tmps.size = 34 ∧ f.defers = [] ∧ f.eval (.tmp 0) = .int .i64 (z : Int) ∧ f.eval (.tmp 1) = vl ∧ Below w.heap.size w (w1)) ⟨rfl, rfl, rfl, rfl, Below.refl _ _⟩ ?_
  rintro f0 w0 ⟨sz, df, x0, x1, bl⟩
  have sd := And.intro sz df
  clear sz df
  have bl0 := bl
  refine wp_seq ?_
  refine wr_a [.eq (.slice none 0 0)] (by rw [sd.1]; kernel_rfl) ⟨fun hw ac u K => ?_, trivial⟩ ?_
  · exact st_assign (.const (.slice none 0 0)) rfl rfl
  intro f1 w1 A hb
  replace x0 := A.t x0 rfl
  replace x1 := A.t x1 rfl
  replace bl := bgo bl hb
  replace sd := A.sd sd
  clear A hb
  show Code.wp _ _ _ _ _
  refine wp_seq ?_
  refine wr_a [.sl (be8 1), .eq (vl), .eq (.int .i64 (((L).length : Nat) : Int)), .sl (be8 (L.length : Int)), .ls 2 (be8 1 ++ be8 (L.length : Int)), .oy w.heap.size (be8 1 ++ be8 (L.length : Int)), .oy w.heap.size (be8 1 ++ be8 (L.length : Int))] (by rw [sd.1]; kernel_rfl) ⟨fun hw ac u K => ?_, fun hw ac u K => ?_, fun hw ac u K => ?_, fun hw ac u K => ?_, fun hw ac u K => ?_, fun hw ac u K => ?_, fun hw ac u K => ?_, trivial⟩ ?_
  · exact st_call 33 (.func 33) _ _ _ rfl rfl (one_arg rfl) Tryz.enter33 (fk_refInt 1 _)
  · exact st_move (.tmp 1) rfl (K.t x1 rfl)
  · exact st_lenis (.tmp 8) rfl (fk_val (K.dep 1 8 rfl) (Fk.mono _ _ _ _ hvl (bgo bl K.grow)))
  · exact st_call 33 (.func 33) _ _ _ rfl rfl (one_arg (K.dep 2 9 rfl)) Tryz.enter33 (fk_refInt _ _)
  · exact st_build2 (.tmp 7) (.tmp 10) rfl (K.dep 0 7 rfl) (K.dep 3 10 rfl)
  · exact st_call 32 (.func 32) _ _ _ rfl rfl (one_arg rfl) Tryz.enter32 (fk_rjoin (Nat.le_trans bl.size K.grow.size) (by rw [List.length_append, be8_len, be8_len]; decide) (by decide) (K.dep 4 11 rfl))
  · exact st_assign (.tmp 12) rfl (K.dep 5 12 rfl)
  intro f2 w2 A hb
  replace x0 := A.t x0 rfl
  replace x1 := A.t x1 rfl
  have x5 : Fk.f (.oy w.heap.size (be8 1 ++ be8 (L.length : Int))) (f2.eval (.tmp 5)) w2 := A.has 6 5 rfl
  replace bl := bgo bl hb
  replace sd := A.sd sd
  clear A hb
  show Code.wp _ _ _ _ _
  refine wp_seq ?_
  refine wp_seq ?_
  refine wr_a [.eq (.int .i64 0)] (by rw [sd.1]; kernel_rfl) ⟨fun hw ac u K => ?_, trivial⟩ ?_
  · exact st_assign (.const (.int .i64 0)) rfl rfl
  intro f3 w3 A hb
  replace x0 := A.t x0 rfl
  replace x1 := A.t x1 rfl
  replace x5 := f_at (A.old 5 rfl) (Fk.mono _ _ _ _ x5 hb)
  have x6 := A.e 0 6 rfl rfl
  replace bl := bgo bl hb
  replace sd := A.sd sd
  clear A hb
  show Code.wp _ _ _ _ _
  refine wp_block ?_
  refine wp_loop (fun f v1 => ∃ k : Nat, k ≤ L.length ∧ f.tmps.size = 34 ∧ f.defers = [] ∧ f.eval (.tmp 0) = .int .i64 (z : Int) ∧ f.eval (.tmp 1) = vl ∧ f.eval (.tmp 6) = .int .i64 (k : Int) ∧ Fk.f (.oy w.heap.size (hbs L.length (L.take k))) (f.eval (.tmp 5)) v1 ∧ Below w.heap.size w (v1)) (fun f _ => L.length - (intOf (f.eval (.tmp 6))).toNat) ⟨0, Nat.zero_le _, sd.1, sd.2, x0, x1, x6, (by rw [List.take_zero, show hbs L.length [] = be8 1 ++ be8 (L.length : Int) from List.append_nil _]; exact x5), bl⟩ ?_
  intro f4 w4 hI
  clear sd bl bl0 x0 x1 x5 x6
  obtain ⟨k, hk8, sz, df, x0, x1, x6, x5, bl⟩ := hI
  have sd := And.intro sz df
  clear sz df
  have bl0 := bl
  have hcnt := x6
  refine wp_seq ?_
  refine wp_seq ?_
  by_cases hlt : k < L.length
  rotate_left
  · skip
    rw [List.take_of_length_le (by omega)] at x5
    refine wr_a [.eq (.int .i64 (k : Int)), .eq (vl), .eq (.int .i64 (((L).length : Nat) : Int)), .eq (.bool false)] (by rw [sd.1]; kernel_rfl) ⟨fun hw ac u K => ?_, fun hw ac u K => ?_, fun hw ac u K => ?_, fun hw ac u K => ?_, trivial⟩ ?_
    · exact st_move (.tmp 6) rfl (K.t x6 rfl)
    · exact st_move (.tmp 1) rfl (K.t x1 rfl)
    · exact st_lenis (.tmp 14) rfl (fk_val (K.dep 1 14 rfl) (Fk.mono _ _ _ _ hvl (bgo bl K.grow)))
    · exact st_lss 3 (.tmp 13) (.tmp 15) rfl .i64 ((k : Int)) ((((L).length : Nat) : Int)) (K.dep 0 13 rfl) (K.dep 2 15 rfl) _ (by rw [eq_comm, decide_eq_false_iff_not]; exact fun h => hlt (Int.ofNat_lt.1 h))
    intro f5 w5 A hb
    replace x0 := A.t x0 rfl
    replace x1 := A.t x1 rfl
    replace x5 := f_at (A.old 5 rfl) (Fk.mono _ _ _ _ x5 hb)
    replace x6 := A.t x6 rfl
    have x16 := A.e 3 16 rfl rfl
    replace bl := bgo bl hb
    replace sd := A.sd sd
    clear A hb
    show Code.wp _ _ _ _ _
    refine wp_cond_false x16 ?_
    refine wp_exit ?_
    show Code.wp _ _ _ _ _
    refine wp_seq ?_
    refine wp_block ?_
    refine wp_loop (fun f v1 => ∃ m : Nat, m ≤ z - (16 + 8 * L.length) ∧ f.tmps.size = 34 ∧ f.defers = [] ∧ f.eval (.tmp 0) = .int .i64 (z : Int) ∧ f.eval (.tmp 1) = vl ∧ f.eval (.tmp 6) = .int .i64 (k : Int) ∧ f.eval (.tmp 16) = .bool false ∧ Fk.f (.oy w.heap.size (hbs L.length L ++ List.replicate m 0)) (f.eval (.tmp 5)) v1 ∧ Below w.heap.size w (v1)) (fun f _ => z - slen (f.eval (.tmp 5))) ⟨0, Nat.zero_le _, sd.1, sd.2, x0, x1, x6, x16, (by rw [List.replicate_zero, List.append_nil]; exact x5), bl⟩ ?_
    intro f6 w6 hI
    clear sd bl bl0 x0 x1 x5 x6 x16
    obtain ⟨m, hm8, sz, df, x0, x1, x6, x16, x5, bl⟩ := hI
    have sd := And.intro sz df
    clear sz df
    have bl0 := bl
    have hcn5 : slen (f6.eval (.tmp 5)) = (hbs L.length L ++ List.replicate m 0).length := oy_slen x5
    rw [List.length_append, hbs_len, List.length_replicate] at hcn5
    refine wp_seq ?_
    refine wp_seq ?_
    have hln5 : (hbs L.length L ++ List.replicate m (0 : BitVec 8)).length = 16 + 8 * L.length + m := by rw [List.length_append, hbs_len, List.length_replicate]
    by_cases hmt : 16 + 8 * L.length + m < z
    rotate_left
    · skip
      refine wr_a [.oy w.heap.size (hbs L.length L ++ List.replicate m 0), .eq (.int .i64 ((16 + 8 * L.length + m : Nat) : Int)), .eq (.int .i64 (z : Int)), .eq (.bool false)] (by rw [sd.1]; kernel_rfl) ⟨fun hw ac u K => ?_, fun hw ac u K => ?_, fun hw ac u K => ?_, fun hw ac u K => ?_, trivial⟩ ?_
      · exact st_move (.tmp 5) rfl (f_at (K.old 5 rfl) (Fk.mono _ _ _ _ x5 K.grow))
      · exact st_lenyk (.tmp 26) rfl (K.dep 0 26 rfl) hln5
      · exact st_move (.tmp 0) rfl (K.t x0 rfl)
      · exact st_lss 3 (.tmp 27) (.tmp 28) rfl .i64 (((16 + 8 * L.length + m : Nat) : Int)) ((z : Int)) (K.dep 1 27 rfl) (K.dep 2 28 rfl) _ (by rw [eq_comm, decide_eq_false_iff_not]; exact fun h => hmt (Int.ofNat_lt.1 h))
      intro f7 w7 A hb
      replace x0 := A.t x0 rfl
      replace x1 := A.t x1 rfl
      replace x5 := f_at (A.old 5 rfl) (Fk.mono _ _ _ _ x5 hb)
      replace x6 := A.t x6 rfl
      replace x16 := A.t x16 rfl
      have x29 := A.e 3 29 rfl rfl
      replace bl := bgo bl hb
      replace sd := A.sd sd
      clear A hb
      show Code.wp _ _ _ _ _
      refine wp_cond_false x29 ?_
      refine wp_exit ?_
      show Code.wp _ _ _ _ _
      refine wp_seq ?_
      refine wr_a [.oy w.heap.size (hbs L.length L ++ List.replicate m 0), .oy w.heap.size (hbs L.length L ++ List.replicate m 0)] (by rw [sd.1]; kernel_rfl) ⟨fun hw ac u K => ?_, fun hw ac u K => ?_, trivial⟩ ?_
      · exact st_move (.tmp 5) rfl (f_at (K.old 5 rfl) (Fk.mono _ _ _ _ x5 K.grow))
      · exact st_assign (.tmp 33) rfl (K.dep 0 33 rfl)
      intro f8 w8 A hb
      replace x0 := A.t x0 rfl
      replace x1 := A.t x1 rfl
      replace x5 := f_at (A.old 5 rfl) (Fk.mono _ _ _ _ x5 hb)
      replace x6 := A.t x6 rfl
      replace x16 := A.t x16 rfl
      replace x29 := A.t x29 rfl
      have x4 : Fk.f (.oy w.heap.size (hbs L.length L ++ List.replicate m 0)) (f8.eval (.tmp 4)) w8 := A.has 1 4 rfl
      replace bl := bgo bl hb
      replace sd := A.sd sd
      clear A hb
      clear x29
      show Code.wp _ _ _ _ _
      refine wp_ret ?_
      repeat (first | with_reducible refine then_ret ?_ | with_reducible refine block_ret ?_)
      have hme : m = z - (16 + 8 * L.length) := by omega
      exact bodyPost_ret (v := f8.eval (.tmp 4)) (ret_slot rfl f8 _ rfl _ _) sd.2 ⟨_, rfl, (by rw [show hdb z L = hbs L.length L ++ List.replicate m 0 by rw [hme]; rfl]; exact x4), bl⟩
    refine wr_a [.oy w.heap.size (hbs L.length L ++ List.replicate m 0), .eq (.int .i64 ((16 + 8 * L.length + m : Nat) : Int)), .eq (.int .i64 (z : Int)), .eq (.bool true)] (by rw [sd.1]; kernel_rfl) ⟨fun hw ac u K => ?_, fun hw ac u K => ?_, fun hw ac u K => ?_, fun hw ac u K => ?_, trivial⟩ ?_
    · exact st_move (.tmp 5) rfl (f_at (K.old 5 rfl) (Fk.mono _ _ _ _ x5 K.grow))
    · exact st_lenyk (.tmp 26) rfl (K.dep 0 26 rfl) hln5
    · exact st_move (.tmp 0) rfl (K.t x0 rfl)
    · exact st_lss 3 (.tmp 27) (.tmp 28) rfl .i64 (((16 + 8 * L.length + m : Nat) : Int)) ((z : Int)) (K.dep 1 27 rfl) (K.dep 2 28 rfl) _ (by rw [eq_comm, decide_eq_true_iff]; exact Int.ofNat_lt.2 hmt)
    intro f7 w7 A hb
    replace x0 := A.t x0 rfl
    replace x1 := A.t x1 rfl
    replace x5 := f_at (A.old 5 rfl) (Fk.mono _ _ _ _ x5 hb)
    replace x6 := A.t x6 rfl
    replace x16 := A.t x16 rfl
    have x29 := A.e 3 29 rfl rfl
    replace bl := bgo bl hb
    replace sd := A.sd sd
    clear A hb
    show Code.wp _ _ _ _ _
    refine wp_cond_true x29 ?_
    refine wp_skip ?_
    show Code.wp _ _ _ _ _
    refine wp_block ?_
    refine wr_s [.oy w.heap.size (hbs L.length L ++ List.replicate m 0), .oy w.heap.size ([0])] (by rw [sd.1]; kernel_rfl) ⟨fun hw ac u K => ?_, fun hw ac u K => ?_, trivial⟩ ?_
    · exact st_move (.tmp 5) rfl (f_at (K.old 5 rfl) (Fk.mono _ _ _ _ x5 K.grow))
    · exact st_by0 rfl _ (Nat.le_trans bl.size K.grow.size)
    intro f8 w8 A hb
    replace x0 := A.t x0 rfl
    replace x1 := A.t x1 rfl
    replace x5 := f_at (A.old 5 rfl) (Fk.mono _ _ _ _ x5 hb)
    replace x6 := A.t x6 rfl
    replace x16 := A.t x16 rfl
    replace x29 := A.t x29 rfl
    have x30 : Fk.f (.oy w.heap.size (hbs L.length L ++ List.replicate m 0)) (f8.eval (.tmp 30)) w8 := A.has 0 30 rfl
    have x31 : Fk.f (.oy w.heap.size ([0])) (f8.eval (.tmp 31)) w8 := A.has 1 31 rfl
    replace bl := bgo bl hb
    replace sd := A.sd sd
    clear A hb
    clear x29
    refine wl_appy rfl (.tmp 30) (.tmp 31) rfl 32 rfl (by rw [sd.1]; decide) x30 x31 (by decide) bl (by rw [hln5]; show _ + 1 ≤ _; omega) ?_
    intro f9 w9 df2 sz2 old2 x329 hL2
    clear x30
    clear x31
    replace x0 := tr old2 x0 rfl
    replace x1 := tr old2 x1 rfl
    clear x5
    replace x6 := tr old2 x6 rfl
    replace x16 := tr old2 x16 rfl
    have x32 := x329
    clear x329
    replace bl := hL2
    replace bl0 := bl
    clear hL2
    replace sd := sd2 sz2 df2 sd
    clear df2 sz2 old2
    refine wl_one (.oy w.heap.size (hbs L.length L ++ List.replicate m 0 ++ [0])) rfl 5 rfl (by rw [sd.1]; decide) (st_assign (.tmp 32) rfl x32) ?_
    intro f10 w10 df2 sz2 old2 new2 hb
    replace x0 := tr old2 x0 rfl
    replace x1 := tr old2 x1 rfl
    replace x6 := tr old2 x6 rfl
    replace x16 := tr old2 x16 rfl
    replace x32 := f_at (old2 32 rfl) (Fk.mono _ _ _ _ x32 hb)
    have x5 : Fk.f (.oy w.heap.size (hbs L.length L ++ List.replicate m 0 ++ [0])) (f10.eval (.tmp 5)) w10 := new2
    replace bl := bgo bl hb
    replace sd := sd2 sz2 df2 sd
    clear df2 sz2 old2 new2 hb
    refine wpList_nil ?_
    clear x32
    show (∃ _, _) ∧ _
    replace x5 : Fk.f (.oy w.heap.size (hbs L.length L ++ List.replicate (m + 1) 0)) (f10.eval (.tmp 5)) w10 := (by rw [List.replicate_succ', ← List.append_assoc]; exact x5)
    refine ⟨⟨m + 1, by omega, sd.1, sd.2, x0, x1, x6, x16, x5, bl⟩, ?_⟩
    rw [hcn5, show slen _ = _ from oy_slen x5, List.length_append, hbs_len, List.length_replicate]
    omega
  obtain ⟨zz, hzk⟩ : ∃ p, L[k]? = some p := ⟨_, List.getElem?_eq_getElem hlt⟩
  refine wr_a [.eq (.int .i64 (k : Int)), .eq (vl), .eq (.int .i64 (((L).length : Nat) : Int)), .eq (.bool true)] (by rw [sd.1]; kernel_rfl) ⟨fun hw ac u K => ?_, fun hw ac u K => ?_, fun hw ac u K => ?_, fun hw ac u K => ?_, trivial⟩ ?_
  · exact st_move (.tmp 6) rfl (K.t x6 rfl)
  · exact st_move (.tmp 1) rfl (K.t x1 rfl)
  · exact st_lenis (.tmp 14) rfl (fk_val (K.dep 1 14 rfl) (Fk.mono _ _ _ _ hvl (bgo bl K.grow)))
  · exact st_lss 3 (.tmp 13) (.tmp 15) rfl .i64 ((k : Int)) ((((L).length : Nat) : Int)) (K.dep 0 13 rfl) (K.dep 2 15 rfl) _ (by rw [eq_comm, decide_eq_true_iff]; exact Int.ofNat_lt.2 hlt)
  intro f5 w5 A hb
  replace x0 := A.t x0 rfl
  replace x1 := A.t x1 rfl
  replace x5 := f_at (A.old 5 rfl) (Fk.mono _ _ _ _ x5 hb)
  replace x6 := A.t x6 rfl
  have x16 := A.e 3 16 rfl rfl
  replace bl := bgo bl hb
  replace sd := A.sd sd
  clear A hb
  show Code.wp _ _ _ _ _
  refine wp_cond_true x16 ?_
  refine wp_skip ?_
  show Code.wp _ _ _ _ _
  refine wp_seq ?_
  refine wp_block ?_
  refine wr_s [.oy w.heap.size (hbs L.length (L.take k)), .eq (vl), .eq (.int .i64 (k : Int)), .prg [.int .i64 zz], .eq (.int .i64 zz), .oy w.heap.size (be8 zz)] (by rw [sd.1]; kernel_rfl) ⟨fun hw ac u K => ?_, fun hw ac u K => ?_, fun hw ac u K => ?_, fun hw ac u K => ?_, fun hw ac u K => ?_, fun hw ac u K => ?_, trivial⟩ ?_
  · exact st_move (.tmp 5) rfl (f_at (K.old 5 rfl) (Fk.mono _ _ _ _ x5 K.grow))
  · exact st_move (.tmp 1) rfl (K.t x1 rfl)
  · exact st_move (.tmp 6) rfl (K.t x6 rfl)
  · exact st_idxis (.tmp 20) (.tmp 21) rfl (fk_val (K.dep 1 20 rfl) (Fk.mono _ _ _ _ hvl (bgo bl K.grow))) k (K.dep 2 21 rfl) zz hzk
  · exact st_loadr1 3 (.tmp 22) rfl (by kernel_rfl) (K.dep 3 22 rfl)
  · exact st_call 33 (.func 33) _ _ _ rfl rfl (one_arg (K.dep 4 23 rfl)) Tryz.enter33 (fk_rint zz _ (Nat.le_trans bl.size K.grow.size))
  intro f6 w6 A hb
  replace x0 := A.t x0 rfl
  replace x1 := A.t x1 rfl
  replace x5 := f_at (A.old 5 rfl) (Fk.mono _ _ _ _ x5 hb)
  replace x6 := A.t x6 rfl
  replace x16 := A.t x16 rfl
  have x19 : Fk.f (.oy w.heap.size (hbs L.length (L.take k))) (f6.eval (.tmp 19)) w6 := A.has 0 19 rfl
  have x24 : Fk.f (.oy w.heap.size (be8 zz)) (f6.eval (.tmp 24)) w6 := A.has 5 24 rfl
  replace bl := bgo bl hb
  replace sd := A.sd sd
  clear A hb
  clear x16
  refine wl_appy rfl (.tmp 19) (.tmp 24) rfl 25 rfl (by rw [sd.1]; decide) x19 x24 (by rw [be8_len]; decide) bl (by rw [hbs_len, be8_len, List.length_take]; omega) ?_
  intro f7 w7 df2 sz2 old2 x259 hL2
  clear x19
  clear x24
  replace x0 := tr old2 x0 rfl
  replace x1 := tr old2 x1 rfl
  clear x5
  replace x6 := tr old2 x6 rfl
  have x25 := x259
  clear x259
  replace bl := hL2
  replace bl0 := bl
  clear hL2
  replace sd := sd2 sz2 df2 sd
  clear df2 sz2 old2
  refine wl_one (.oy w.heap.size (hbs L.length (L.take k) ++ be8 zz)) rfl 5 rfl (by rw [sd.1]; decide) (st_assign (.tmp 25) rfl x25) ?_
  intro f8 w8 df2 sz2 old2 new2 hb
  replace x0 := tr old2 x0 rfl
  replace x1 := tr old2 x1 rfl
  replace x6 := tr old2 x6 rfl
  replace x25 := f_at (old2 25 rfl) (Fk.mono _ _ _ _ x25 hb)
  have x5 : Fk.f (.oy w.heap.size (hbs L.length (L.take k) ++ be8 zz)) (f8.eval (.tmp 5)) w8 := new2
  replace bl := bgo bl hb
  replace sd := sd2 sz2 df2 sd
  clear df2 sz2 old2 new2 hb
  refine wpList_nil ?_
  clear x25
  show Code.wp _ _ _ _ _
  refine wr_s [.eq (.int .i64 (k : Int)), .eq (.int .i64 ((k + 1 : Nat) : Int))] (by rw [sd.1]; kernel_rfl) ⟨fun hw ac u K => ?_, fun hw ac u K => ?_, trivial⟩ ?_
  · exact st_move (.tmp 6) rfl (K.t x6 rfl)
  · exact st_addz (.tmp 17) (.const (.int .i64 1)) rfl _ _ _ (K.dep 0 17 rfl) rfl (by omega) (by omega) (by omega)
  intro f9 w9 A hb
  replace x0 := A.t x0 rfl
  replace x1 := A.t x1 rfl
  replace x6 := A.t x6 rfl
  replace x5 := f_at (A.old 5 rfl) (Fk.mono _ _ _ _ x5 hb)
  have x18 := A.e 1 18 rfl rfl
  replace bl := bgo bl hb
  replace sd := A.sd sd
  clear A hb
  refine wl_one (.eq (.int .i64 ((k + 1 : Nat) : Int))) rfl 6 rfl (by rw [sd.1]; decide) (st_assign (.tmp 18) rfl x18) ?_
  intro f10 w10 df2 sz2 old2 new2 hb
  replace x0 := tr old2 x0 rfl
  replace x1 := tr old2 x1 rfl
  clear x6
  replace x5 := f_at (old2 5 rfl) (Fk.mono _ _ _ _ x5 hb)
  replace x18 := tr old2 x18 rfl
  have x6 := Fk.e new2
  replace bl := bgo bl hb
  replace sd := sd2 sz2 df2 sd
  clear df2 sz2 old2 new2 hb
  refine wpList_nil ?_
  clear x18
  show (∃ _, _) ∧ _
  replace x5 : Fk.f (.oy w.heap.size (hbs L.length (L.take (k + 1)))) (f10.eval (.tmp 5)) w10 := (by rw [hbs_snoc hzk]; exact x5)
  refine ⟨⟨k + 1, by omega, sd.1, sd.2, x0, x1, x6, x5, bl⟩, ?_⟩
  rw [show f10.eval (.tmp 6) = _ from x6, show _ = _ from hcnt]
  first | (simp [intOf]; done) | (simp [intOf]; omega)
end Go.Proofs.YtakdpkoigijonaaGreat
namespace Go.Proofs.YtakdpkoigijonaaGreat
set_option maxRecDepth 100000
open Go.RowKit
/-- So many bytes at a place, as a number. -/
def rdAt (bs : List (BitVec 8)) (at_ size : Nat) : Int := IntKind.i64.wrap (num ((bs.drop at_).take size) : Int)
set_option maxHeartbeats 400000 in
theorem read_yes (v : Value) (gb at_ size : Nat) (bs : List (BitVec 8)) (w : World) (hr : Rv w v bs gb) (hl : bs.length ≤ 1000000) (hs : size ≤ 8) (hle : at_ + size ≤ bs.length) :
    Calls Tryz.prog 23 #[v, .int .i64 (at_ : Int), .int .i64 (size : Int)] w fun e w' => e = .returned (.tuple #[.int .i64 (rdAt bs at_ size), .bool true]) ∧ w' = w := by
  obtain ⟨a, c, hve, _⟩ := hr.shape
  subst hve
  have hr' := Box.mk hr
  have d1 : decide ((bs.length : Int) < (at_ : Int) + size) = false := by simp; omega
  clear hr
  go_enter Tryz.func23, Tryz.ntmps23
  go_wp2
  go_loopw [8, 9] (fun x i wr => ∃ (k : Nat) (z : Int), k ≤ size ∧ i = .int .i64 k ∧ x = .int .i64 z ∧ Box (z = rdAt bs at_ k) ∧ wr = w) (fun _ i _ => size - (intOf i).toNat)
  case atStart => exact ⟨0, 0, by omega, rfl, rfl, ⟨by unfold rdAt; rw [List.take_zero]; rfl⟩, rfl⟩
  case round =>
    obtain ⟨k, z, hk, rfl, rfl, hz, rfl⟩ := hrel
    by_cases hlt : k < size
    · rcases hr'.out with ⟨e, rfl⟩ | ⟨go, c', e, _, hgl, hB⟩
      · simp at hle; omega
      · simp only [Value.slice.injEq] at e
        obtain ⟨rfl, _, rfl⟩ := e
        have c0 := hB (at_ + k) (by omega)
        have hst := num_take (bs.drop at_) k (by simp; omega)
        rw [show (bs.drop at_).getD k 0 = bs.getD (at_ + k) 0 by simp] at hst
        generalize bs.getD (at_ + k) 0 = x at c0 hst
        have hx := bv_range x
        have hp := i64_push (num ((bs.drop at_).take k)) x
        rw [← hst] at hp
        have hp' : Box (bits .or .i64 (IntKind.i64.wrap (z * 256)) (bv x) = rdAt bs at_ (k + 1)) := ⟨by rw [hz.out]; exact hp⟩
        clear hst hB hp hz
        go_wp2
        go_roundw
        case rel => exact ⟨k + 1, _, by omega, by go_num, rfl, ⟨by rw [← hp'.out, ← w64]⟩, by first | rfl | trivial⟩
        case measure => simp [intOf]; omega
    · have hkn : Box (z = rdAt bs at_ size) := ⟨by rw [hz.out, show k = size by omega]⟩
      go_wp2
      go_ret2
      rw [← hkn.out]
      exact ⟨rfl, rfl⟩
end Go.Proofs.YtakdpkoigijonaaGreat
namespace Go.Proofs.YtakdpkoigijonaaGreat
set_option maxRecDepth 100000
open Go.RowKit
/-- What a head's bytes tell: how many; the home sectors. -/
def atsOf (b : Byt) (c : Nat) : List Int := (List.range c).map fun i => rdAt b (16 + 8 * i) 8
/-- The home sectors that a head names; none: it is not right. -/
def prsP (n : Nat) (b : Byt) : Option (List Nat) :=
  if b = zs b.length then some [] else
    if rdAt b 8 8 < 0 ∨ (roomN n b.length : Int) < rdAt b 8 8 then none else
      if (∀ z ∈ atsOf b (rdAt b 8 8).toNat, 0 ≤ z ∧ z < homN n) ∧ hdb b.length (atsOf b (rdAt b 8 8).toNat) = b then some ((atsOf b (rdAt b 8 8).toNat).map Int.toNat) else none
def hdz (z : Nat) (l : List Nat) : Byt := hdb z (l.map fun k : Nat => (k : Int))
theorem rdAt_be8 {b : Byt} {p : Nat} {a : Byt} {z : Int} {r : Byt} (hb : b = a ++ (be8 z ++ r)) (hp : p = a.length) (h1 : -9223372036854775808 ≤ z) (h2 : z ≤ 9223372036854775807) : rdAt b p 8 = z := by
  subst hp
  unfold rdAt
  rw [hb, List.drop_left, List.take_left' (be8_len z)]
  unfold be8
  rw [num_beN, IntKind.wrap_i64]
  omega
theorem flat_split (l : List Int) : ∀ (i : Nat) (z : Int), l[i]? = some z → ∃ a r, l.flatMap be8 = a ++ (be8 z ++ r) ∧ a.length = 8 * i := by
  induction l with
  | nil => exact fun i z h => by cases h
  | cons x l ih =>
    intro i z h
    cases i with
    | zero =>
      obtain rfl := Option.some.inj h
      exact ⟨[], l.flatMap be8, by rw [List.flatMap_cons]; rfl, rfl⟩
    | succ i =>
      obtain ⟨a, r, h1, h2⟩ := ih i z h
      exact ⟨be8 x ++ a, r, by rw [List.flatMap_cons, h1, List.append_assoc], by rw [List.length_append, be8_len, h2]; omega⟩
theorem hdb_len {z : Nat} {l : List Int} (h : 16 + 8 * l.length ≤ z) : (hdb z l).length = z := by
  unfold hdb
  rw [List.length_append, hbs_len, List.length_replicate]
  omega
theorem hdb_count {z : Nat} {l : List Int} (hl : l.length ≤ 1000000) : rdAt (hdb z l) 8 8 = l.length := by
  refine rdAt_be8 (a := be8 1) (z := (l.length : Int)) (r := l.flatMap be8 ++ List.replicate (z - (16 + 8 * l.length)) 0) ?_ (be8_len 1).symm (by omega) (by omega)
  unfold hdb hbs
  rw [List.append_assoc, List.append_assoc]
theorem hdb_at {z : Nat} {l : List Int} {i : Nat} {y : Int} (hi : l[i]? = some y) (h1 : -9223372036854775808 ≤ y) (h2 : y ≤ 9223372036854775807) : rdAt (hdb z l) (16 + 8 * i) 8 = y := by
  obtain ⟨a, r, e1, e2⟩ := flat_split l i y hi
  refine rdAt_be8 (a := be8 1 ++ (be8 (l.length : Int) ++ a)) (z := y) (r := r ++ List.replicate (z - (16 + 8 * l.length)) 0) ?_ (by rw [List.length_append, List.length_append, be8_len, be8_len, e2]; omega) h1 h2
  unfold hdb hbs
  rw [e1]
  simp only [List.append_assoc]
theorem hdb_zs {z : Nat} {l : List Int} : hdb z l ≠ zs (hdb z l).length := fun e => by
  have h : (hdb z l)[7]? = some 1 := by
    unfold hdb hbs
    rw [List.append_assoc, List.append_assoc, List.getElem?_append_left (by rw [be8_len]; decide)]
    rfl
  rw [e] at h
  unfold zs at h
  rw [List.getElem?_replicate] at h
  split at h
  · cases h
  · cases h
theorem atsOf_hdb {z : Nat} {l : List Int} (h : ∀ y ∈ l, -9223372036854775808 ≤ y ∧ y ≤ 9223372036854775807) : atsOf (hdb z l) l.length = l := by
  refine List.ext_getElem? fun i => ?_
  unfold atsOf
  rw [List.getElem?_map]
  by_cases hi : i < l.length
  · rw [List.getElem?_range hi, List.getElem?_eq_getElem hi]
    exact congrArg some (hdb_at (List.getElem?_eq_getElem hi) (h _ (List.getElem_mem hi)).1 (h _ (List.getElem_mem hi)).2)
  · rw [List.getElem?_eq_none (by rw [List.length_range]; omega), List.getElem?_eq_none (by omega)]
    rfl
/-- The head's bytes and their reading go together. -/
theorem hd_ok {n z : Nat} (h3 : 3 ≤ n) (h32 : 32 ≤ z) (hn : n ≤ 100000) : Hd n z (homN n) (roomN n z) (prsP n) (hdz z) := by
  have hh : 1 + homN n + jouN n = n := by unfold jouN homN; omega
  have hr1 : roomN n z ≤ jouN n := Nat.min_le_left _ _
  have hr2 : roomN n z ≤ (z - 16) / 8 := Nat.min_le_right _ _
  refine ⟨by omega, fun l hl => ?_, fun l hl hal => ?_, fun b l hb hp => ?_⟩
  · exact hdb_len (by rw [List.length_map]; omega)
  · have hlen : (hdz z l).length = z := hdb_len (by rw [List.length_map]; omega)
    have hc : rdAt (hdz z l) 8 8 = l.length := by
      have := hdb_count (z := z) (l := l.map fun k : Nat => (k : Int)) (by rw [List.length_map]; omega)
      rw [List.length_map] at this
      exact this
    have hat : atsOf (hdz z l) l.length = l.map fun k : Nat => (k : Int) := by
      have := atsOf_hdb (z := z) (l := l.map fun k : Nat => (k : Int)) (fun y hy => by
        obtain ⟨k, hk, rfl⟩ := List.mem_map.1 hy
        have := hal k hk
        omega)
      rw [List.length_map] at this
      exact this
    unfold prsP
    rw [if_neg (show ¬ hdz z l = zs (hdz z l).length from hdb_zs), hlen, hc, if_neg (by omega), Int.toNat_natCast, hat, if_pos]
    · rw [List.map_map]
      exact congrArg some (List.map_id'' (fun k => Int.toNat_natCast k) l)
    · refine ⟨fun y hy => ?_, rfl⟩
      obtain ⟨k, hk, rfl⟩ := List.mem_map.1 hy
      have := hal k hk
      omega
  · unfold prsP at hp
    split at hp
    · cases hp
      exact ⟨Nat.zero_le _, fun a q => by cases q⟩
    · split at hp
      · cases hp
      · rename_i h2
        split at hp
        · rename_i h4
          cases hp
          rw [hb] at h2
          refine ⟨by unfold atsOf; rw [List.length_map, List.length_map, List.length_range]; omega, fun a q => ?_⟩
          obtain ⟨y, hy, rfl⟩ := List.mem_map.1 q
          have := h4.1 y hy
          omega
        · cases hp
end Go.Proofs.YtakdpkoigijonaaGreat
namespace Go.Proofs.YtakdpkoigijonaaGreat
set_option maxRecDepth 100000
open Go.RowKit
theorem oy_sl12 {base : Nat} {bs : List (BitVec 8)} {v : Value} {w : World} (h : (Fk.oy base bs).f v w) : (Fk.sl bs).f v w := own_sl h
theorem fk_rread {bs : List (BitVec 8)} {v : Value} {w : World} {p : Nat} (hv : (Fk.sl bs).f v w) (hl : bs.length ≤ 1000000) (hp : p + 8 ≤ bs.length) :
    Calls Tryz.prog 23 #[v, .int .i64 (p : Int), .int .i64 8] w fun e w' => ∃ u, e = .returned u ∧ (Fk.eq (.tuple #[.int .i64 (rdAt bs p 8), .bool true])).f u w' ∧ Below w.heap.size w w' := by
  rcases sl_rv hv with ⟨gb, hr⟩ | ⟨_, _, _, e⟩
  · refine (read_yes v gb p 8 bs w hr hl (by decide) hp).mono ?_
    rintro e w' ⟨rfl, rfl⟩
    exact ⟨_, rfl, rfl, Below.refl _ _⟩
  · rw [e] at hp
    exact absurd hp (by show ¬ p + 8 ≤ 0; omega)
theorem atsOf_succ (b : Byt) (k : Nat) : atsOf b (k + 1) = atsOf b k ++ [rdAt b (16 + 8 * k) 8] := by
  unfold atsOf
  rw [List.range_succ, List.map_append]
  rfl
theorem atsOf_len (b : Byt) (k : Nat) : (atsOf b k).length = k := by unfold atsOf; rw [List.length_map, List.length_range]
section
variable {Q : Exit → Act → World → Prop} {o : Oper} {a : Act} {w : World}
end
theorem ats_back {l : List Int} {n : Nat} (h : ∀ y ∈ l, 0 ≤ y ∧ y < homN n) : ((l.map Int.toNat).map fun k : Nat => (k : Int)) = l := by
  rw [List.map_map]
  conv => rhs; rw [← List.map_id l]
  exact List.map_congr_left fun y hy => Int.toNat_of_nonneg (h y hy).1
theorem fk_rparse {bs : List (BitVec 8)} {vb : Value} {n : Nat} {w : World} (h1 : 1 ≤ n) (hn : n ≤ 100000) (h16 : 16 ≤ bs.length) (hl5 : bs.length ≤ 5000) (hvb : (Fk.sl bs).f vb w) :
    Calls Tryz.prog 8 #[vb, .int .i64 (n : Int)] w fun e w' => ∃ v ok, e = .returned (.tuple #[v, .bool ok]) ∧ (ok = true → ∃ l, prsP n bs = some l ∧ (Fk.oi w.heap.size (l.map fun k : Nat => (k : Int))).f v w') ∧ (ok = false → prsP n bs = none) ∧ Below w.heap.size w w' := by
  have hlz : 16 ≤ bs.length := h16
  obtain ⟨c, hc⟩ : ∃ c, c = rdAt bs 8 8 := ⟨_, rfl⟩
  go_enter Tryz.func8, Tryz.ntmps8
  refine code_both (fun f w1 => f.tmps.size = 68 ∧ f.defers = [] ∧ f.eval (.tmp 0) = vb ∧ f.eval (.tmp 1) = .int .i64 (n : Int) ∧ Below w.heap.size w (w1)) ⟨rfl, rfl, rfl, rfl, Below.refl _ _⟩ ?_
  rintro f0 w0 ⟨sz, df, x0, x1, bl⟩
  have sd := And.intro sz df
  clear sz df
  have bl0 := bl
  refine wp_seq ?_
  refine wr_a [.eq (.slice none 0 0), .eq (.bool false)] (by rw [sd.1]; kernel_rfl) ⟨fun hwt ac u K => ?_, fun hwt ac u K => ?_, trivial⟩ ?_
  · exact st_assign (.const (.slice none 0 0)) rfl rfl
  · exact st_assign (.const (.bool false)) rfl rfl
  intro f1 w1 A hb
  replace x0 := A.t x0 rfl
  replace x1 := A.t x1 rfl
  replace bl := bgo bl hb
  replace sd := A.sd sd
  clear A hb
  show Code.wp _ _ _ _ _
  refine wp_seq ?_
  refine wp_seq ?_
  by_cases hz : bs = zs bs.length
  rotate_left
  · skip
    refine wr_d [.eq (vb), .eq (.string (str bs)), .eq (vb), .eq (.int .i64 (((bs).length : Nat) : Int)), .sl (zs bs.length), .eq (.string (str (zs bs.length))), .eq (.bool false)] Tryz.mixed (by rw [sd.1]; kernel_rfl) ⟨fun hwt ac u K => ?_, fun hwt ac u K => ?_, fun hwt ac u K => ?_, fun hwt ac u K => ?_, fun hwt ac u K => ?_, fun hwt ac u K => ?_, fun hwt ac u K => ?_, trivial⟩ ?_
    · exact st_move (.tmp 0) rfl (K.t x0 rfl)
    · exact st_stra (.tmp 12) rfl (fk_val (K.dep 0 12 rfl) (Fk.mono _ _ _ _ hvb (bgo bl K.grow)))
    · exact st_move (.tmp 0) rfl (K.t x0 rfl)
    · exact st_lenb (.tmp 14) rfl (fk_val (K.dep 2 14 rfl) (Fk.mono _ _ _ _ hvb (bgo bl K.grow)))
    · exact st_makeb (.tmp 15) (.tmp 15) rfl bs.length (by omega) (K.dep 3 15 rfl) (K.dep 3 15 rfl)
    · exact st_stra (.tmp 16) rfl (K.dep 4 16 rfl)
    · exact st_eqs (.tmp 13) (.tmp 17) rfl (str bs) (str (zs bs.length)) (K.dep 1 13 rfl) (K.dep 5 17 rfl) _ (by rw [eq_comm, decide_eq_false_iff_not]; exact fun h => hz (str_inj h))
    intro f2 w2 A hb
    replace x0 := A.t x0 rfl
    replace x1 := A.t x1 rfl
    have x18 := A.e 6 18 rfl rfl
    replace bl := bgo bl hb
    replace sd := A.sd sd
    clear A hb
    show Code.wp _ _ _ _ _
    refine wp_cond_false x18 ?_
    refine wp_skip ?_
    show Code.wp _ _ _ _ _
    refine wp_seq ?_
    refine wr_a [.eq (vb), .eq (.tuple #[.int .i64 c, .bool true]), .eq (.tuple #[.int .i64 c, .bool true]), .eq (.int .i64 c), .eq (.bool true), .eq (.int .i64 c), .eq (.bool true)] (by rw [sd.1]; kernel_rfl) ⟨fun hwt ac u K => ?_, fun hwt ac u K => ?_, fun hwt ac u K => ?_, fun hwt ac u K => ?_, fun hwt ac u K => ?_, fun hwt ac u K => ?_, fun hwt ac u K => ?_, trivial⟩ ?_
    · exact st_move (.tmp 0) rfl (K.t x0 rfl)
    · exact st_call 23 (.func 23) _ _ _ rfl rfl (arg3 (K.dep 0 20 rfl) rfl rfl) Tryz.enter23 ((hc ▸ fk_rread (Fk.mono _ _ _ _ hvb (bgo bl K.grow)) (by omega) (p := 8) (by omega)))
    · exact st_move (.tmp 21) rfl (K.dep 1 21 rfl)
    · exact st_extv (.tmp 19) 0 rfl (K.dep 2 19 rfl) rfl
    · exact st_extv (.tmp 19) 1 rfl (K.dep 2 19 rfl) rfl
    · exact st_assign (.tmp 22) rfl (K.dep 3 22 rfl)
    · exact st_assign (.tmp 23) rfl (K.dep 4 23 rfl)
    intro f3 w3 A hb
    replace x0 := A.t x0 rfl
    replace x1 := A.t x1 rfl
    replace x18 := A.t x18 rfl
    have x6 := A.e 5 6 rfl rfl
    replace bl := bgo bl hb
    replace sd := A.sd sd
    clear A hb
    clear x18
    show Code.wp _ _ _ _ _
    refine wp_seq ?_
    refine wp_seq ?_
    have h3 : c < 0 ∨ (¬ c < 0 ∧ (roomN n bs.length : Int) < c) ∨ (¬ c < 0 ∧ ¬ (roomN n bs.length : Int) < c) := by omega
    rcases h3 with h3 | ⟨h3, h4⟩ | ⟨h3, h4⟩
    · skip
      refine wr_a [.eq (.int .i64 c), .eq (.bool true), .eq (.bool true), .any, .any, .any, .any, .any, .any, .eq (.bool true)] (by rw [sd.1]; kernel_rfl) ⟨fun hwt ac u K => ?_, fun hwt ac u K => ?_, fun hwt ac u K => ?_, fun hwt ac u K => ?_, fun hwt ac u K => ?_, fun hwt ac u K => ?_, fun hwt ac u K => ?_, fun hwt ac u K => ?_, fun hwt ac u K => ?_, fun hwt ac u K => ?_, trivial⟩ ?_
      · exact st_move (.tmp 6) rfl (K.t x6 rfl)
      · exact st_lss 3 (.tmp 24) (.const (.int .i64 0)) rfl .i64 (c) (0) (K.dep 0 24 rfl) rfl _ (by rw [eq_comm, decide_eq_true_iff]; exact h3)
      · exact st_move (.tmp 25) rfl (K.dep 1 25 rfl)
      · exact (Bool.false_ne_true hwt).elim
      · exact (Bool.false_ne_true hwt).elim
      · exact (Bool.false_ne_true hwt).elim
      · exact (Bool.false_ne_true hwt).elim
      · exact (Bool.false_ne_true hwt).elim
      · exact (Bool.false_ne_true hwt).elim
      · exact st_pick_t (.tmp 26) (.const (.bool true)) (.tmp 32) rfl (K.dep 2 26 rfl) rfl
      intro f4 w4 A hb
      replace x0 := A.t x0 rfl
      replace x1 := A.t x1 rfl
      replace x6 := A.t x6 rfl
      have x33 := A.e 9 33 rfl rfl
      replace bl := bgo bl hb
      replace sd := A.sd sd
      clear A hb
      show Code.wp _ _ _ _ _
      refine wp_cond_true x33 ?_
      refine wp_seq ?_
      refine wr_a [.eq (.slice none 0 0), .eq (.bool false)] (by rw [sd.1]; kernel_rfl) ⟨fun hwt ac u K => ?_, fun hwt ac u K => ?_, trivial⟩ ?_
      · exact st_assign (.const (.slice none 0 0)) rfl rfl
      · exact st_assign (.const (.bool false)) rfl rfl
      intro f5 w5 A hb
      replace x0 := A.t x0 rfl
      replace x1 := A.t x1 rfl
      replace x6 := A.t x6 rfl
      replace x33 := A.t x33 rfl
      have x4 := A.e 0 4 rfl rfl
      have x5 := A.e 1 5 rfl rfl
      replace bl := bgo bl hb
      replace sd := A.sd sd
      clear A hb
      clear x0
      clear x1
      clear x6
      clear x33
      show Code.wp _ _ _ _ _
      refine wp_ret ?_
      repeat (first | with_reducible refine then_ret ?_ | with_reducible refine block_ret ?_)
      have hpr : prsP n bs = none := by unfold prsP; rw [if_neg hz, ← hc, if_pos (.inl h3)]
      exact bodyPost_ret (v := .tuple #[.slice none 0 0, .bool false]) (ret_two rfl f5 _ _ x4 x5 _ _) sd.2 ⟨_, _, rfl, fun e => absurd e (by decide), fun _ => hpr, bl⟩
    · skip
      refine wr_a [.eq (.int .i64 c), .eq (.bool false), .eq (.bool false), .eq (.int .i64 c), .eq (.int .i64 (n : Int)), .eq (vb), .eq (.int .i64 (((bs).length : Nat) : Int)), .eq (.int .i64 ((roomN n bs.length : Nat) : Int)), .eq (.bool true), .eq (.bool true)] (by rw [sd.1]; kernel_rfl) ⟨fun hwt ac u K => ?_, fun hwt ac u K => ?_, fun hwt ac u K => ?_, fun hwt ac u K => ?_, fun hwt ac u K => ?_, fun hwt ac u K => ?_, fun hwt ac u K => ?_, fun hwt ac u K => ?_, fun hwt ac u K => ?_, fun hwt ac u K => ?_, trivial⟩ ?_
      · exact st_move (.tmp 6) rfl (K.t x6 rfl)
      · exact st_lss 3 (.tmp 24) (.const (.int .i64 0)) rfl .i64 (c) (0) (K.dep 0 24 rfl) rfl _ (by rw [eq_comm, decide_eq_false_iff_not]; exact h3)
      · exact st_move (.tmp 25) rfl (K.dep 1 25 rfl)
      · exact st_move (.tmp 6) rfl (K.t x6 rfl)
      · exact st_move (.tmp 1) rfl (K.t x1 rfl)
      · exact st_move (.tmp 0) rfl (K.t x0 rfl)
      · exact st_lenb (.tmp 29) rfl (fk_val (K.dep 5 29 rfl) (Fk.mono _ _ _ _ hvb (bgo bl K.grow)))
      · exact st_call 24 (.func 24) _ _ _ rfl rfl (arg2 (K.dep 4 28 rfl) (K.dep 6 30 rfl)) Tryz.enter24 (fk_room h1 hn _)
      · exact st_gtr 3 (.tmp 27) (.tmp 31) rfl .i64 (c) (((roomN n bs.length : Nat) : Int)) (K.dep 3 27 rfl) (K.dep 7 31 rfl) _ (by rw [eq_comm, decide_eq_true_iff]; exact h4)
      · exact st_pick_f' (.tmp 26) (.const (.bool true)) (.tmp 32) rfl (K.dep 2 26 rfl) (K.dep 8 32 rfl)
      intro f4 w4 A hb
      replace x0 := A.t x0 rfl
      replace x1 := A.t x1 rfl
      replace x6 := A.t x6 rfl
      have x33 := A.e 9 33 rfl rfl
      replace bl := bgo bl hb
      replace sd := A.sd sd
      clear A hb
      show Code.wp _ _ _ _ _
      refine wp_cond_true x33 ?_
      refine wp_seq ?_
      refine wr_a [.eq (.slice none 0 0), .eq (.bool false)] (by rw [sd.1]; kernel_rfl) ⟨fun hwt ac u K => ?_, fun hwt ac u K => ?_, trivial⟩ ?_
      · exact st_assign (.const (.slice none 0 0)) rfl rfl
      · exact st_assign (.const (.bool false)) rfl rfl
      intro f5 w5 A hb
      replace x0 := A.t x0 rfl
      replace x1 := A.t x1 rfl
      replace x6 := A.t x6 rfl
      replace x33 := A.t x33 rfl
      have x4 := A.e 0 4 rfl rfl
      have x5 := A.e 1 5 rfl rfl
      replace bl := bgo bl hb
      replace sd := A.sd sd
      clear A hb
      clear x0
      clear x1
      clear x6
      clear x33
      show Code.wp _ _ _ _ _
      refine wp_ret ?_
      repeat (first | with_reducible refine then_ret ?_ | with_reducible refine block_ret ?_)
      have hpr : prsP n bs = none := by unfold prsP; rw [if_neg hz, ← hc, if_pos (.inr h4)]
      exact bodyPost_ret (v := .tuple #[.slice none 0 0, .bool false]) (ret_two rfl f5 _ _ x4 x5 _ _) sd.2 ⟨_, _, rfl, fun e => absurd e (by decide), fun _ => hpr, bl⟩
    obtain ⟨cN, hcN⟩ : ∃ q : Nat, c = q := ⟨c.toNat, by omega⟩
    have hcr : cN ≤ roomN n bs.length := by omega
    have hr2 : roomN n bs.length ≤ (bs.length - 16) / 8 := Nat.min_le_right _ _
    refine wr_a [.eq (.int .i64 c), .eq (.bool false), .eq (.bool false), .eq (.int .i64 c), .eq (.int .i64 (n : Int)), .eq (vb), .eq (.int .i64 (((bs).length : Nat) : Int)), .eq (.int .i64 ((roomN n bs.length : Nat) : Int)), .eq (.bool false), .eq (.bool false)] (by rw [sd.1]; kernel_rfl) ⟨fun hwt ac u K => ?_, fun hwt ac u K => ?_, fun hwt ac u K => ?_, fun hwt ac u K => ?_, fun hwt ac u K => ?_, fun hwt ac u K => ?_, fun hwt ac u K => ?_, fun hwt ac u K => ?_, fun hwt ac u K => ?_, fun hwt ac u K => ?_, trivial⟩ ?_
    · exact st_move (.tmp 6) rfl (K.t x6 rfl)
    · exact st_lss 3 (.tmp 24) (.const (.int .i64 0)) rfl .i64 (c) (0) (K.dep 0 24 rfl) rfl _ (by rw [eq_comm, decide_eq_false_iff_not]; exact h3)
    · exact st_move (.tmp 25) rfl (K.dep 1 25 rfl)
    · exact st_move (.tmp 6) rfl (K.t x6 rfl)
    · exact st_move (.tmp 1) rfl (K.t x1 rfl)
    · exact st_move (.tmp 0) rfl (K.t x0 rfl)
    · exact st_lenb (.tmp 29) rfl (fk_val (K.dep 5 29 rfl) (Fk.mono _ _ _ _ hvb (bgo bl K.grow)))
    · exact st_call 24 (.func 24) _ _ _ rfl rfl (arg2 (K.dep 4 28 rfl) (K.dep 6 30 rfl)) Tryz.enter24 (fk_room h1 hn _)
    · exact st_gtr 3 (.tmp 27) (.tmp 31) rfl .i64 (c) (((roomN n bs.length : Nat) : Int)) (K.dep 3 27 rfl) (K.dep 7 31 rfl) _ (by rw [eq_comm, decide_eq_false_iff_not]; exact h4)
    · exact st_pick_f' (.tmp 26) (.const (.bool true)) (.tmp 32) rfl (K.dep 2 26 rfl) (K.dep 8 32 rfl)
    intro f4 w4 A hb
    replace x0 := A.t x0 rfl
    replace x1 := A.t x1 rfl
    replace x6 := A.t x6 rfl
    have x33 := A.e 9 33 rfl rfl
    replace bl := bgo bl hb
    replace sd := A.sd sd
    clear A hb
    show Code.wp _ _ _ _ _
    refine wp_cond_false x33 ?_
    refine wp_skip ?_
    show Code.wp _ _ _ _ _
    refine wp_seq ?_
    refine wr_a [.oi w.heap.size []] (by rw [sd.1]; kernel_rfl) ⟨fun hwt ac u K => ?_, trivial⟩ ?_
    · exact st_assign (.const (.slice none 0 0)) rfl (oi_nil _ _)
    intro f5 w5 A hb
    replace x0 := A.t x0 rfl
    replace x1 := A.t x1 rfl
    replace x6 := A.t x6 rfl
    replace x33 := A.t x33 rfl
    have x8 : Fk.f (.oi w.heap.size []) (f5.eval (.tmp 8)) w5 := A.has 0 8 rfl
    replace bl := bgo bl hb
    replace sd := A.sd sd
    clear A hb
    clear x33
    show Code.wp _ _ _ _ _
    refine wp_seq ?_
    refine wp_seq ?_
    refine wr_a [.eq (.int .i64 0)] (by rw [sd.1]; kernel_rfl) ⟨fun hwt ac u K => ?_, trivial⟩ ?_
    · exact st_assign (.const (.int .i64 0)) rfl rfl
    intro f6 w6 A hb
    replace x0 := A.t x0 rfl
    replace x1 := A.t x1 rfl
    replace x6 := A.t x6 rfl
    replace x8 := f_at (A.old 8 rfl) (Fk.mono _ _ _ _ x8 hb)
    have x9 := A.e 0 9 rfl rfl
    replace bl := bgo bl hb
    replace sd := A.sd sd
    clear A hb
    show Code.wp _ _ _ _ _
    refine wp_block ?_
    refine wp_loop (fun f v1 => ∃ k : Nat, k ≤ cN ∧ (∀ y ∈ atsOf bs k, 0 ≤ y ∧ y < homN n) ∧ f.tmps.size = 68 ∧ f.defers = [] ∧ f.eval (.tmp 0) = vb ∧ f.eval (.tmp 1) = .int .i64 (n : Int) ∧ f.eval (.tmp 6) = .int .i64 c ∧ f.eval (.tmp 9) = .int .i64 (k : Int) ∧ Fk.f (.oi w.heap.size (atsOf bs k)) (f.eval (.tmp 8)) v1 ∧ Below w.heap.size w (v1)) (fun f _ => cN - (intOf (f.eval (.tmp 9))).toNat) ⟨0, Nat.zero_le _, (fun y hy => by cases hy), sd.1, sd.2, x0, x1, x6, x9, x8, bl⟩ ?_
    intro f7 w7 hI
    clear sd bl bl0 x0 x1 x6 x8 x9
    obtain ⟨k, hk8, hal, sz, df, x0, x1, x6, x9, x8, bl⟩ := hI
    have sd := And.intro sz df
    clear sz df
    have bl0 := bl
    have hcnt := x9
    refine wp_seq ?_
    refine wp_seq ?_
    by_cases hlt : k < cN
    rotate_left
    · skip
      have hkc : k = cN := by omega
      rw [hkc] at hal x8
      refine wr_a [.eq (.int .i64 (k : Int)), .eq (.int .i64 c), .eq (.bool false)] (by rw [sd.1]; kernel_rfl) ⟨fun hwt ac u K => ?_, fun hwt ac u K => ?_, fun hwt ac u K => ?_, trivial⟩ ?_
      · exact st_move (.tmp 9) rfl (K.t x9 rfl)
      · exact st_move (.tmp 6) rfl (K.t x6 rfl)
      · exact st_lss 3 (.tmp 34) (.tmp 35) rfl .i64 ((k : Int)) (c) (K.dep 0 34 rfl) (K.dep 1 35 rfl) _ (by rw [eq_comm, decide_eq_false_iff_not]; omega)
      intro f8 w8 A hb
      replace x0 := A.t x0 rfl
      replace x1 := A.t x1 rfl
      replace x6 := A.t x6 rfl
      replace x8 := f_at (A.old 8 rfl) (Fk.mono _ _ _ _ x8 hb)
      replace x9 := A.t x9 rfl
      have x36 := A.e 2 36 rfl rfl
      replace bl := bgo bl hb
      replace sd := A.sd sd
      clear A hb
      show Code.wp _ _ _ _ _
      refine wp_cond_false x36 ?_
      refine wp_exit ?_
      show Code.wp _ _ _ _ _
      refine wp_seq ?_
      by_cases hb : hdb bs.length (atsOf bs cN) = bs
      rotate_left
      · skip
        refine wr_d [.oi w.heap.size (atsOf bs cN), .eq (vb), .eq (.int .i64 (((bs).length : Nat) : Int)), .oi w.heap.size (atsOf bs cN), .oy w.heap.size (hdb bs.length (atsOf bs cN)), .eq (.string (str (hdb bs.length (atsOf bs cN)))), .eq (vb), .eq (.string (str bs)), .eq (.bool false), .oi w.heap.size (atsOf bs cN), .eq (.bool false)] Tryz.mixed (by rw [sd.1]; kernel_rfl) ⟨fun hwt ac u K => ?_, fun hwt ac u K => ?_, fun hwt ac u K => ?_, fun hwt ac u K => ?_, fun hwt ac u K => ?_, fun hwt ac u K => ?_, fun hwt ac u K => ?_, fun hwt ac u K => ?_, fun hwt ac u K => ?_, fun hwt ac u K => ?_, fun hwt ac u K => ?_, trivial⟩ ?_
        · exact st_move (.tmp 8) rfl (f_at (K.old 8 rfl) (Fk.mono _ _ _ _ x8 K.grow))
        · exact st_move (.tmp 0) rfl (K.t x0 rfl)
        · exact st_lenb (.tmp 60) rfl (fk_val (K.dep 1 60 rfl) (Fk.mono _ _ _ _ hvb (bgo bl K.grow)))
        · exact st_move (.tmp 8) rfl (f_at (K.old 8 rfl) (Fk.mono _ _ _ _ x8 K.grow))
        · exact st_call 12 (.func 12) _ _ _ rfl rfl (arg2 (K.dep 2 61 rfl) rfl) Tryz.enter12 (fk_orw (Nat.le_trans bl.size K.grow.size) (fk_rhead hl5 (by rw [atsOf_len]; omega) (oi_is (K.dep 3 62 rfl))))
        · exact st_stra (.tmp 63) rfl (oy_sl12 (K.dep 4 63 rfl))
        · exact st_move (.tmp 0) rfl (K.t x0 rfl)
        · exact st_stra (.tmp 65) rfl (fk_val (K.dep 6 65 rfl) (Fk.mono _ _ _ _ hvb (bgo bl K.grow)))
        · exact st_eqs (.tmp 64) (.tmp 66) rfl (str (hdb bs.length (atsOf bs cN))) (str bs) (K.dep 5 64 rfl) (K.dep 7 66 rfl) _ (by rw [eq_comm, decide_eq_false_iff_not]; exact fun h => hb (str_inj h))
        · exact st_assign (.tmp 59) rfl (K.dep 0 59 rfl)
        · exact st_assign (.tmp 67) rfl (K.dep 8 67 rfl)
        intro f9 w9 A hb
        replace x0 := A.t x0 rfl
        replace x1 := A.t x1 rfl
        replace x6 := A.t x6 rfl
        replace x8 := f_at (A.old 8 rfl) (Fk.mono _ _ _ _ x8 hb)
        replace x9 := A.t x9 rfl
        replace x36 := A.t x36 rfl
        have x4 : Fk.f (.oi w.heap.size (atsOf bs cN)) (f9.eval (.tmp 4)) w9 := A.has 9 4 rfl
        have x5 := A.e 10 5 rfl rfl
        replace bl := bgo bl hb
        replace sd := A.sd sd
        clear A hb
        clear x36
        show Code.wp _ _ _ _ _
        refine wp_ret ?_
        repeat (first | with_reducible refine then_ret ?_ | with_reducible refine block_ret ?_)
        have hpr : prsP n bs = none := by
          unfold prsP
          rw [if_neg hz, ← hc, if_neg (by omega), hcN, Int.toNat_natCast, if_neg (fun q => hb q.2)]
        exact bodyPost_ret (v := .tuple #[f9.eval (.tmp 4), .bool false]) (ret_two rfl f9 _ _ rfl x5 _ _) sd.2 ⟨_, _, rfl, fun e => absurd e (by decide), fun _ => hpr, bl⟩
      refine wr_d [.oi w.heap.size (atsOf bs cN), .eq (vb), .eq (.int .i64 (((bs).length : Nat) : Int)), .oi w.heap.size (atsOf bs cN), .oy w.heap.size (hdb bs.length (atsOf bs cN)), .eq (.string (str (hdb bs.length (atsOf bs cN)))), .eq (vb), .eq (.string (str bs)), .eq (.bool true), .oi w.heap.size (atsOf bs cN), .eq (.bool true)] Tryz.mixed (by rw [sd.1]; kernel_rfl) ⟨fun hwt ac u K => ?_, fun hwt ac u K => ?_, fun hwt ac u K => ?_, fun hwt ac u K => ?_, fun hwt ac u K => ?_, fun hwt ac u K => ?_, fun hwt ac u K => ?_, fun hwt ac u K => ?_, fun hwt ac u K => ?_, fun hwt ac u K => ?_, fun hwt ac u K => ?_, trivial⟩ ?_
      · exact st_move (.tmp 8) rfl (f_at (K.old 8 rfl) (Fk.mono _ _ _ _ x8 K.grow))
      · exact st_move (.tmp 0) rfl (K.t x0 rfl)
      · exact st_lenb (.tmp 60) rfl (fk_val (K.dep 1 60 rfl) (Fk.mono _ _ _ _ hvb (bgo bl K.grow)))
      · exact st_move (.tmp 8) rfl (f_at (K.old 8 rfl) (Fk.mono _ _ _ _ x8 K.grow))
      · exact st_call 12 (.func 12) _ _ _ rfl rfl (arg2 (K.dep 2 61 rfl) rfl) Tryz.enter12 (fk_orw (Nat.le_trans bl.size K.grow.size) (fk_rhead hl5 (by rw [atsOf_len]; omega) (oi_is (K.dep 3 62 rfl))))
      · exact st_stra (.tmp 63) rfl (oy_sl12 (K.dep 4 63 rfl))
      · exact st_move (.tmp 0) rfl (K.t x0 rfl)
      · exact st_stra (.tmp 65) rfl (fk_val (K.dep 6 65 rfl) (Fk.mono _ _ _ _ hvb (bgo bl K.grow)))
      · exact st_eqs (.tmp 64) (.tmp 66) rfl (str (hdb bs.length (atsOf bs cN))) (str bs) (K.dep 5 64 rfl) (K.dep 7 66 rfl) _ (by rw [eq_comm, decide_eq_true_iff]; rw [hb])
      · exact st_assign (.tmp 59) rfl (K.dep 0 59 rfl)
      · exact st_assign (.tmp 67) rfl (K.dep 8 67 rfl)
      intro f9 w9 A hb
      replace x0 := A.t x0 rfl
      replace x1 := A.t x1 rfl
      replace x6 := A.t x6 rfl
      replace x8 := f_at (A.old 8 rfl) (Fk.mono _ _ _ _ x8 hb)
      replace x9 := A.t x9 rfl
      replace x36 := A.t x36 rfl
      have x4 : Fk.f (.oi w.heap.size (atsOf bs cN)) (f9.eval (.tmp 4)) w9 := A.has 9 4 rfl
      have x5 := A.e 10 5 rfl rfl
      replace bl := bgo bl hb
      replace sd := A.sd sd
      clear A hb
      clear x36
      show Code.wp _ _ _ _ _
      refine wp_ret ?_
      repeat (first | with_reducible refine then_ret ?_ | with_reducible refine block_ret ?_)
      have hpr : prsP n bs = some ((atsOf bs cN).map Int.toNat) := by
        unfold prsP
        rw [if_neg hz, ← hc, if_neg (by omega), hcN, Int.toNat_natCast, if_pos ⟨hal, hb⟩]
      exact bodyPost_ret (v := .tuple #[f9.eval (.tmp 4), .bool true]) (ret_two rfl f9 _ _ rfl x5 _ _) sd.2 ⟨_, _, rfl, fun _ => ⟨_, hpr, by rw [ats_back hal]; exact x4⟩, fun e => absurd e (by decide), bl⟩
    obtain ⟨zz, hzz⟩ : ∃ z, z = rdAt bs (16 + 8 * k) 8 := ⟨_, rfl⟩
    refine wr_a [.eq (.int .i64 (k : Int)), .eq (.int .i64 c), .eq (.bool true)] (by rw [sd.1]; kernel_rfl) ⟨fun hwt ac u K => ?_, fun hwt ac u K => ?_, fun hwt ac u K => ?_, trivial⟩ ?_
    · exact st_move (.tmp 9) rfl (K.t x9 rfl)
    · exact st_move (.tmp 6) rfl (K.t x6 rfl)
    · exact st_lss 3 (.tmp 34) (.tmp 35) rfl .i64 ((k : Int)) (c) (K.dep 0 34 rfl) (K.dep 1 35 rfl) _ (by rw [eq_comm, decide_eq_true_iff]; omega)
    intro f8 w8 A hb
    replace x0 := A.t x0 rfl
    replace x1 := A.t x1 rfl
    replace x6 := A.t x6 rfl
    replace x8 := f_at (A.old 8 rfl) (Fk.mono _ _ _ _ x8 hb)
    replace x9 := A.t x9 rfl
    have x36 := A.e 2 36 rfl rfl
    replace bl := bgo bl hb
    replace sd := A.sd sd
    clear A hb
    show Code.wp _ _ _ _ _
    refine wp_cond_true x36 ?_
    refine wp_skip ?_
    show Code.wp _ _ _ _ _
    refine wp_seq ?_
    refine wp_block ?_
    refine wp_seq ?_
    refine wr_a [.eq (vb), .eq (.int .i64 (k : Int)), .eq (.int .i64 ((8 * k : Nat) : Int)), .eq (.int .i64 ((16 + 8 * k : Nat) : Int)), .eq (.tuple #[.int .i64 zz, .bool true]), .eq (.tuple #[.int .i64 zz, .bool true]), .eq (.int .i64 zz), .eq (.bool true), .eq (.int .i64 zz), .eq (.bool true)] (by rw [sd.1]; kernel_rfl) ⟨fun hwt ac u K => ?_, fun hwt ac u K => ?_, fun hwt ac u K => ?_, fun hwt ac u K => ?_, fun hwt ac u K => ?_, fun hwt ac u K => ?_, fun hwt ac u K => ?_, fun hwt ac u K => ?_, fun hwt ac u K => ?_, fun hwt ac u K => ?_, trivial⟩ ?_
    · exact st_move (.tmp 0) rfl (K.t x0 rfl)
    · exact st_move (.tmp 9) rfl (K.t x9 rfl)
    · exact st_mul (.const (.int .i64 8)) (.tmp 41) rfl 8 k (8 * k) rfl (K.dep 1 41 rfl) rfl (by omega)
    · exact st_add (.const (.int .i64 16)) (.tmp 42) rfl 16 (8 * k) (16 + 8 * k) rfl (K.dep 2 42 rfl) rfl (by omega)
    · exact st_call 23 (.func 23) _ _ _ rfl rfl (arg3 (K.dep 0 40 rfl) (K.dep 3 43 rfl) rfl) Tryz.enter23 ((hzz ▸ fk_rread (Fk.mono _ _ _ _ hvb (bgo bl K.grow)) (by omega) (p := 16 + 8 * k) (by omega)))
    · exact st_move (.tmp 44) rfl (K.dep 4 44 rfl)
    · exact st_extv (.tmp 39) 0 rfl (K.dep 5 39 rfl) rfl
    · exact st_extv (.tmp 39) 1 rfl (K.dep 5 39 rfl) rfl
    · exact st_assign (.tmp 45) rfl (K.dep 6 45 rfl)
    · exact st_assign (.tmp 46) rfl (K.dep 7 46 rfl)
    intro f9 w9 A hb
    replace x0 := A.t x0 rfl
    replace x1 := A.t x1 rfl
    replace x6 := A.t x6 rfl
    replace x8 := f_at (A.old 8 rfl) (Fk.mono _ _ _ _ x8 hb)
    replace x9 := A.t x9 rfl
    replace x36 := A.t x36 rfl
    have x10 := A.e 8 10 rfl rfl
    replace bl := bgo bl hb
    replace sd := A.sd sd
    clear A hb
    clear x36
    show Code.wp _ _ _ _ _
    refine wp_seq ?_
    refine wp_seq ?_
    have h5 : zz < 0 ∨ (¬ zz < 0 ∧ (homN n : Int) ≤ zz) ∨ (¬ zz < 0 ∧ ¬ (homN n : Int) ≤ zz) := by omega
    rcases h5 with h5 | ⟨h5, h6⟩ | ⟨h5, h6⟩
    · skip
      refine wr_a [.eq (.int .i64 zz), .eq (.bool true), .eq (.bool true), .any, .any, .any, .any, .eq (.bool true)] (by rw [sd.1]; kernel_rfl) ⟨fun hwt ac u K => ?_, fun hwt ac u K => ?_, fun hwt ac u K => ?_, fun hwt ac u K => ?_, fun hwt ac u K => ?_, fun hwt ac u K => ?_, fun hwt ac u K => ?_, fun hwt ac u K => ?_, trivial⟩ ?_
      · exact st_move (.tmp 10) rfl (K.t x10 rfl)
      · exact st_lss 3 (.tmp 47) (.const (.int .i64 0)) rfl .i64 (zz) (0) (K.dep 0 47 rfl) rfl _ (by rw [eq_comm, decide_eq_true_iff]; exact h5)
      · exact st_move (.tmp 48) rfl (K.dep 1 48 rfl)
      · exact (Bool.false_ne_true hwt).elim
      · exact (Bool.false_ne_true hwt).elim
      · exact (Bool.false_ne_true hwt).elim
      · exact (Bool.false_ne_true hwt).elim
      · exact st_pick_t (.tmp 49) (.const (.bool true)) (.tmp 53) rfl (K.dep 2 49 rfl) rfl
      intro f10 w10 A hb
      replace x0 := A.t x0 rfl
      replace x1 := A.t x1 rfl
      replace x6 := A.t x6 rfl
      replace x8 := f_at (A.old 8 rfl) (Fk.mono _ _ _ _ x8 hb)
      replace x9 := A.t x9 rfl
      replace x10 := A.t x10 rfl
      have x54 := A.e 7 54 rfl rfl
      replace bl := bgo bl hb
      replace sd := A.sd sd
      clear A hb
      show Code.wp _ _ _ _ _
      refine wp_cond_true x54 ?_
      refine wp_seq ?_
      refine wr_a [.eq (.slice none 0 0), .eq (.bool false)] (by rw [sd.1]; kernel_rfl) ⟨fun hwt ac u K => ?_, fun hwt ac u K => ?_, trivial⟩ ?_
      · exact st_assign (.const (.slice none 0 0)) rfl rfl
      · exact st_assign (.const (.bool false)) rfl rfl
      intro f11 w11 A hb
      replace x0 := A.t x0 rfl
      replace x1 := A.t x1 rfl
      replace x6 := A.t x6 rfl
      replace x8 := f_at (A.old 8 rfl) (Fk.mono _ _ _ _ x8 hb)
      replace x9 := A.t x9 rfl
      replace x10 := A.t x10 rfl
      replace x54 := A.t x54 rfl
      have x4 := A.e 0 4 rfl rfl
      have x5 := A.e 1 5 rfl rfl
      replace bl := bgo bl hb
      replace sd := A.sd sd
      clear A hb
      clear x10
      clear x54
      show Code.wp _ _ _ _ _
      refine wp_ret ?_
      repeat (first | with_reducible refine then_ret ?_ | with_reducible refine block_ret ?_)
      have hpr : prsP n bs = none := by
        unfold prsP
        rw [if_neg hz, ← hc, if_neg (by omega), if_neg]
        rintro ⟨q, _⟩
        have := q zz (by rw [hcN, Int.toNat_natCast, hzz]; exact List.mem_map.2 ⟨k, List.mem_range.2 hlt, rfl⟩)
        omega
      exact bodyPost_ret (v := .tuple #[.slice none 0 0, .bool false]) (ret_two rfl f11 _ _ x4 x5 _ _) sd.2 ⟨_, _, rfl, fun e => absurd e (by decide), fun _ => hpr, bl⟩
    · skip
      refine wr_a [.eq (.int .i64 zz), .eq (.bool false), .eq (.bool false), .eq (.int .i64 zz), .eq (.int .i64 (n : Int)), .eq (.int .i64 ((homN n : Nat) : Int)), .eq (.bool true), .eq (.bool true)] (by rw [sd.1]; kernel_rfl) ⟨fun hwt ac u K => ?_, fun hwt ac u K => ?_, fun hwt ac u K => ?_, fun hwt ac u K => ?_, fun hwt ac u K => ?_, fun hwt ac u K => ?_, fun hwt ac u K => ?_, fun hwt ac u K => ?_, trivial⟩ ?_
      · exact st_move (.tmp 10) rfl (K.t x10 rfl)
      · exact st_lss 3 (.tmp 47) (.const (.int .i64 0)) rfl .i64 (zz) (0) (K.dep 0 47 rfl) rfl _ (by rw [eq_comm, decide_eq_false_iff_not]; exact h5)
      · exact st_move (.tmp 48) rfl (K.dep 1 48 rfl)
      · exact st_move (.tmp 10) rfl (K.t x10 rfl)
      · exact st_move (.tmp 1) rfl (K.t x1 rfl)
      · exact st_call 25 (.func 25) _ _ _ rfl rfl (one_arg (K.dep 4 51 rfl)) Tryz.enter25 (fk_home h1 hn _)
      · exact st_geq 3 (.tmp 50) (.tmp 52) rfl .i64 (zz) (((homN n : Nat) : Int)) (K.dep 3 50 rfl) (K.dep 5 52 rfl) _ (by rw [eq_comm, decide_eq_true_iff]; exact h6)
      · exact st_pick_f' (.tmp 49) (.const (.bool true)) (.tmp 53) rfl (K.dep 2 49 rfl) (K.dep 6 53 rfl)
      intro f10 w10 A hb
      replace x0 := A.t x0 rfl
      replace x1 := A.t x1 rfl
      replace x6 := A.t x6 rfl
      replace x8 := f_at (A.old 8 rfl) (Fk.mono _ _ _ _ x8 hb)
      replace x9 := A.t x9 rfl
      replace x10 := A.t x10 rfl
      have x54 := A.e 7 54 rfl rfl
      replace bl := bgo bl hb
      replace sd := A.sd sd
      clear A hb
      show Code.wp _ _ _ _ _
      refine wp_cond_true x54 ?_
      refine wp_seq ?_
      refine wr_a [.eq (.slice none 0 0), .eq (.bool false)] (by rw [sd.1]; kernel_rfl) ⟨fun hwt ac u K => ?_, fun hwt ac u K => ?_, trivial⟩ ?_
      · exact st_assign (.const (.slice none 0 0)) rfl rfl
      · exact st_assign (.const (.bool false)) rfl rfl
      intro f11 w11 A hb
      replace x0 := A.t x0 rfl
      replace x1 := A.t x1 rfl
      replace x6 := A.t x6 rfl
      replace x8 := f_at (A.old 8 rfl) (Fk.mono _ _ _ _ x8 hb)
      replace x9 := A.t x9 rfl
      replace x10 := A.t x10 rfl
      replace x54 := A.t x54 rfl
      have x4 := A.e 0 4 rfl rfl
      have x5 := A.e 1 5 rfl rfl
      replace bl := bgo bl hb
      replace sd := A.sd sd
      clear A hb
      clear x10
      clear x54
      show Code.wp _ _ _ _ _
      refine wp_ret ?_
      repeat (first | with_reducible refine then_ret ?_ | with_reducible refine block_ret ?_)
      have hpr : prsP n bs = none := by
        unfold prsP
        rw [if_neg hz, ← hc, if_neg (by omega), if_neg]
        rintro ⟨q, _⟩
        have := q zz (by rw [hcN, Int.toNat_natCast, hzz]; exact List.mem_map.2 ⟨k, List.mem_range.2 hlt, rfl⟩)
        omega
      exact bodyPost_ret (v := .tuple #[.slice none 0 0, .bool false]) (ret_two rfl f11 _ _ x4 x5 _ _) sd.2 ⟨_, _, rfl, fun e => absurd e (by decide), fun _ => hpr, bl⟩
    refine wr_a [.eq (.int .i64 zz), .eq (.bool false), .eq (.bool false), .eq (.int .i64 zz), .eq (.int .i64 (n : Int)), .eq (.int .i64 ((homN n : Nat) : Int)), .eq (.bool false), .eq (.bool false)] (by rw [sd.1]; kernel_rfl) ⟨fun hwt ac u K => ?_, fun hwt ac u K => ?_, fun hwt ac u K => ?_, fun hwt ac u K => ?_, fun hwt ac u K => ?_, fun hwt ac u K => ?_, fun hwt ac u K => ?_, fun hwt ac u K => ?_, trivial⟩ ?_
    · exact st_move (.tmp 10) rfl (K.t x10 rfl)
    · exact st_lss 3 (.tmp 47) (.const (.int .i64 0)) rfl .i64 (zz) (0) (K.dep 0 47 rfl) rfl _ (by rw [eq_comm, decide_eq_false_iff_not]; exact h5)
    · exact st_move (.tmp 48) rfl (K.dep 1 48 rfl)
    · exact st_move (.tmp 10) rfl (K.t x10 rfl)
    · exact st_move (.tmp 1) rfl (K.t x1 rfl)
    · exact st_call 25 (.func 25) _ _ _ rfl rfl (one_arg (K.dep 4 51 rfl)) Tryz.enter25 (fk_home h1 hn _)
    · exact st_geq 3 (.tmp 50) (.tmp 52) rfl .i64 (zz) (((homN n : Nat) : Int)) (K.dep 3 50 rfl) (K.dep 5 52 rfl) _ (by rw [eq_comm, decide_eq_false_iff_not]; exact h6)
    · exact st_pick_f' (.tmp 49) (.const (.bool true)) (.tmp 53) rfl (K.dep 2 49 rfl) (K.dep 6 53 rfl)
    intro f10 w10 A hb
    replace x0 := A.t x0 rfl
    replace x1 := A.t x1 rfl
    replace x6 := A.t x6 rfl
    replace x8 := f_at (A.old 8 rfl) (Fk.mono _ _ _ _ x8 hb)
    replace x9 := A.t x9 rfl
    replace x10 := A.t x10 rfl
    have x54 := A.e 7 54 rfl rfl
    replace bl := bgo bl hb
    replace sd := A.sd sd
    clear A hb
    show Code.wp _ _ _ _ _
    refine wp_cond_false x54 ?_
    refine wp_skip ?_
    show Code.wp _ _ _ _ _
    refine wr_s [.oi w.heap.size (atsOf bs k), .eq (.int .i64 zz), .oi 0 [zz]] (by rw [sd.1]; kernel_rfl) ⟨fun hwt ac u K => ?_, fun hwt ac u K => ?_, fun hwt ac u K => ?_, trivial⟩ ?_
    · exact st_move (.tmp 8) rfl (f_at (K.old 8 rfl) (Fk.mono _ _ _ _ x8 K.grow))
    · exact st_move (.tmp 10) rfl (K.t x10 rfl)
    · exact st_bi1 (.tmp 56) rfl zz (K.dep 1 56 rfl) 0 (Nat.zero_le _)
    intro f11 w11 A hb
    replace x0 := A.t x0 rfl
    replace x1 := A.t x1 rfl
    replace x6 := A.t x6 rfl
    replace x8 := f_at (A.old 8 rfl) (Fk.mono _ _ _ _ x8 hb)
    replace x9 := A.t x9 rfl
    replace x10 := A.t x10 rfl
    replace x54 := A.t x54 rfl
    have x55 : Fk.f (.oi w.heap.size (atsOf bs k)) (f11.eval (.tmp 55)) w11 := A.has 0 55 rfl
    have x57 : Fk.f (.oi 0 [zz]) (f11.eval (.tmp 57)) w11 := A.has 2 57 rfl
    replace bl := bgo bl hb
    replace sd := A.sd sd
    clear A hb
    clear x10
    clear x54
    refine wl_appendi rfl (.tmp 55) (.tmp 57) rfl 58 rfl (by rw [sd.1]; decide) x55 x57 (by simp) bl (by rw [atsOf_len]; simp only [List.length_cons, List.length_nil]; omega) ?_
    intro f12 w12 df2 sz2 old2 x589 hL2
    clear x55
    clear x57
    replace x0 := tr old2 x0 rfl
    replace x1 := tr old2 x1 rfl
    replace x6 := tr old2 x6 rfl
    clear x8
    replace x9 := tr old2 x9 rfl
    have x58 := x589
    clear x589
    replace bl := hL2
    replace bl0 := bl
    clear hL2
    replace sd := sd2 sz2 df2 sd
    clear df2 sz2 old2
    refine wl_one (.oi w.heap.size (atsOf bs k ++ [zz])) rfl 8 rfl (by rw [sd.1]; decide) (st_assign (.tmp 58) rfl x58) ?_
    intro f13 w13 df2 sz2 old2 new2 hb
    replace x0 := tr old2 x0 rfl
    replace x1 := tr old2 x1 rfl
    replace x6 := tr old2 x6 rfl
    replace x9 := tr old2 x9 rfl
    replace x58 := f_at (old2 58 rfl) (Fk.mono _ _ _ _ x58 hb)
    have x8 : Fk.f (.oi w.heap.size (atsOf bs k ++ [zz])) (f13.eval (.tmp 8)) w13 := new2
    replace bl := bgo bl hb
    replace sd := sd2 sz2 df2 sd
    clear df2 sz2 old2 new2 hb
    refine wpList_nil ?_
    clear x58
    show Code.wp _ _ _ _ _
    refine wr_s [.eq (.int .i64 (k : Int)), .eq (.int .i64 ((k + 1 : Nat) : Int))] (by rw [sd.1]; kernel_rfl) ⟨fun hwt ac u K => ?_, fun hwt ac u K => ?_, trivial⟩ ?_
    · exact st_move (.tmp 9) rfl (K.t x9 rfl)
    · exact st_addz (.tmp 37) (.const (.int .i64 1)) rfl _ _ _ (K.dep 0 37 rfl) rfl (by omega) (by omega) (by omega)
    intro f14 w14 A hb
    replace x0 := A.t x0 rfl
    replace x1 := A.t x1 rfl
    replace x6 := A.t x6 rfl
    replace x9 := A.t x9 rfl
    replace x8 := f_at (A.old 8 rfl) (Fk.mono _ _ _ _ x8 hb)
    have x38 := A.e 1 38 rfl rfl
    replace bl := bgo bl hb
    replace sd := A.sd sd
    clear A hb
    refine wl_one (.eq (.int .i64 ((k + 1 : Nat) : Int))) rfl 9 rfl (by rw [sd.1]; decide) (st_assign (.tmp 38) rfl x38) ?_
    intro f15 w15 df2 sz2 old2 new2 hb
    replace x0 := tr old2 x0 rfl
    replace x1 := tr old2 x1 rfl
    replace x6 := tr old2 x6 rfl
    clear x9
    replace x8 := f_at (old2 8 rfl) (Fk.mono _ _ _ _ x8 hb)
    replace x38 := tr old2 x38 rfl
    have x9 := Fk.e new2
    replace bl := bgo bl hb
    replace sd := sd2 sz2 df2 sd
    clear df2 sz2 old2 new2 hb
    refine wpList_nil ?_
    clear x38
    show (∃ _, _) ∧ _
    replace x8 : Fk.f (.oi w.heap.size (atsOf bs (k + 1))) (f15.eval (.tmp 8)) w15 := (by rw [atsOf_succ, ← hzz]; exact x8)
    refine ⟨⟨k + 1, by omega, (by rw [atsOf_succ]; intro y hy; rcases List.mem_append.1 hy with hy | hy; exact hal y hy; obtain rfl := List.mem_singleton.1 hy; rw [← hzz]; exact ⟨by omega, by omega⟩), sd.1, sd.2, x0, x1, x6, x9, x8, bl⟩, ?_⟩
    rw [show f15.eval (.tmp 9) = _ from x9, show _ = _ from hcnt]
    first | (simp [intOf]; done) | (simp [intOf]; omega)
  refine wr_d [.eq (vb), .eq (.string (str bs)), .eq (vb), .eq (.int .i64 (((bs).length : Nat) : Int)), .sl (zs bs.length), .eq (.string (str (zs bs.length))), .eq (.bool true)] Tryz.mixed (by rw [sd.1]; kernel_rfl) ⟨fun hwt ac u K => ?_, fun hwt ac u K => ?_, fun hwt ac u K => ?_, fun hwt ac u K => ?_, fun hwt ac u K => ?_, fun hwt ac u K => ?_, fun hwt ac u K => ?_, trivial⟩ ?_
  · exact st_move (.tmp 0) rfl (K.t x0 rfl)
  · exact st_stra (.tmp 12) rfl (fk_val (K.dep 0 12 rfl) (Fk.mono _ _ _ _ hvb (bgo bl K.grow)))
  · exact st_move (.tmp 0) rfl (K.t x0 rfl)
  · exact st_lenb (.tmp 14) rfl (fk_val (K.dep 2 14 rfl) (Fk.mono _ _ _ _ hvb (bgo bl K.grow)))
  · exact st_makeb (.tmp 15) (.tmp 15) rfl bs.length (by omega) (K.dep 3 15 rfl) (K.dep 3 15 rfl)
  · exact st_stra (.tmp 16) rfl (K.dep 4 16 rfl)
  · exact st_eqs (.tmp 13) (.tmp 17) rfl (str bs) (str (zs bs.length)) (K.dep 1 13 rfl) (K.dep 5 17 rfl) _ (by rw [eq_comm, decide_eq_true_iff]; rw [← hz])
  intro f2 w2 A hb
  replace x0 := A.t x0 rfl
  replace x1 := A.t x1 rfl
  have x18 := A.e 6 18 rfl rfl
  replace bl := bgo bl hb
  replace sd := A.sd sd
  clear A hb
  show Code.wp _ _ _ _ _
  refine wp_cond_true x18 ?_
  refine wp_seq ?_
  refine wr_a [.eq (.slice none 0 0), .eq (.bool true)] (by rw [sd.1]; kernel_rfl) ⟨fun hwt ac u K => ?_, fun hwt ac u K => ?_, trivial⟩ ?_
  · exact st_assign (.const (.slice none 0 0)) rfl rfl
  · exact st_assign (.const (.bool true)) rfl rfl
  intro f3 w3 A hb
  replace x0 := A.t x0 rfl
  replace x1 := A.t x1 rfl
  replace x18 := A.t x18 rfl
  have x4 := A.e 0 4 rfl rfl
  have x5 := A.e 1 5 rfl rfl
  replace bl := bgo bl hb
  replace sd := A.sd sd
  clear A hb
  clear x0
  clear x1
  clear x18
  show Code.wp _ _ _ _ _
  refine wp_ret ?_
  repeat (first | with_reducible refine then_ret ?_ | with_reducible refine block_ret ?_)
  have hpr : prsP n bs = some [] := by unfold prsP; rw [if_pos hz]
  exact bodyPost_ret (v := .tuple #[.slice none 0 0, .bool true]) (ret_two rfl f3 _ _ x4 x5 _ _) sd.2 ⟨_, _, rfl, fun _ => ⟨[], hpr, oi_nil _ _⟩, fun e => absurd e (by decide), bl⟩
end Go.Proofs.YtakdpkoigijonaaGreat
namespace Go.Proofs.YtakdpkoigijonaaGreat
set_option maxRecDepth 100000
open Go.RowKit
section
variable {n z h R : Nat} {prs : Byt → Option (List Nat)} {H : List Nat → Byt}
/-- Nothing is under way: a crash leaves home as it is. -/
theorem Quiet.inv (hd : Hd n z h R prs H) {a : Bool} {s : Dst} {now : List Byt} (hq : Quiet n z h prs a s now) : Inv n h prs s (· = now) := fun f hf => by
  have hroom := hd.room
  refine ⟨[], now, ?_, rfl, hq.len, fun k hk => ?_⟩
  · rw [(hf 0 (by omega)).settled hq.head0]
    exact hq.head
  · show now.getD k [] = f (1 + k)
    rw [(hf (1 + k) (by omega)).settled (hq.home k hk).1]
    exact (hq.home k hk).2.symm
theorem Inv.mono {s : Dst} {P P2 : List Byt → Prop} (hi : Inv n h prs s P) (hP : ∀ v, P v → P2 v) : Inv n h prs s P2 := fun f hf => by
  obtain ⟨l, v, h1, h2, h3⟩ := hi f hf
  exact ⟨l, v, h1, hP v h2, h3⟩
/-- What is told of home. -/
theorem Quiet.homes {a : Bool} {s : Dst} {now : List Byt} (hq : Quiet n z h prs a s now) : (List.range h).map (fun k => nowO s (1 + k)) = now := by
  refine List.ext_getElem (by rw [List.length_map, List.length_range, hq.len]) fun k h1 h2 => ?_
  rw [List.length_map, List.length_range] at h1
  rw [List.getElem_map, List.getElem_range]
  unfold nowO
  rw [if_pos (hq.home k h1).1, (hq.home k h1).2, List.getD_eq_getElem?_getD, List.getElem?_eq_getElem h2]
  rfl
theorem Inv.view {s : Dst} {P : List Byt → Prop} (hi : Inv n h prs s P) {t : Dst} (ht : ∀ j, j < n → May s j (stO t j)) : ∃ l v, prs (stO t 0) = some l ∧ P v ∧ v.length = h ∧ ∀ k, k < h → v.getD k [] = vw h l (stO t) k := hi (stO t) ht
/-- A crash, and Open: home is as P asks. -/
theorem open_crash (hd : Hd n z h R prs H) (h3 : 3 ≤ n) (h32 : 32 ≤ z) {s : Dst} (g : Gw s n z) {P : List Byt → Prop} (hi : Inv n h prs s P) (lost : List Int) : ∃ v, P v ∧ (wopn h prs H (crs s lost)).1 = 0 ∧ Quiet n z h prs false (wopn h prs H (crs s lost)).2 v ∧ ∀ j, caO (wopn h prs H (crs s lost)).2 j = [] := by
  obtain ⟨c1, c2, c3⟩ := crs_res g lost
  obtain ⟨l, v, e1, e2, e3, e4⟩ := hi.view c3
  rcases wopn_res hd h3 h32 c1 c2 e1 e3 e4 with ⟨w1, w2⟩ | ⟨_, w2⟩
  · exact ⟨v, e2, w1, w2.1, w2.2.1⟩
  · exact absurd w2.1.2.1 (by decide)
/-- A crash, the power set anew, and Open: opened with home v, or down with home v behind any crash. -/
theorem open_armed (hd : Hd n z h R prs H) (h3 : 3 ≤ n) (h32 : 32 ≤ z) {a : Bool} {t : Dst} (hu : Up t n z a) (hc : ∀ j, caO t j = []) {l : List Nat} {v : List Byt} (e1 : prs (stO t 0) = some l) (e3 : v.length = h) (e4 : ∀ k, k < h → v.getD k [] = vw h l (stO t) k) :
    ((wopn h prs H t).1 = 0 ∧ Quiet n z h prs a (wopn h prs H t).2 v) ∨ ((wopn h prs H t).1 = 30 ∧ Gw (wopn h prs H t).2 n z ∧ Inv n h prs (wopn h prs H t).2 (· = v)) :=
  (wopn_res hd h3 h32 hu hc e1 e3 e4).imp (fun q => ⟨q.1, q.2.1⟩) (fun q => ⟨q.1, q.2.1.1, q.2.2⟩)
/-- Other power, same sectors. -/
theorem Up.power {s : Dst} {a : Bool} (h : Up s n z a) (left : Int) (a2 : Bool) : Up { s with left := left, armed := a2 } n z a2 := ⟨⟨h.1.has, h.1.cch, h.1.size, h.1.pos, h.1.hl, h.1.cl⟩, rfl, h.2.2⟩
theorem Gw.power {s : Dst} (g : Gw s n z) (left : Int) (a2 : Bool) : Gw { s with left := left, armed := a2 } n z := ⟨g.has, g.cch, g.size, g.pos, g.hl, g.cl⟩
theorem Quiet.power {a : Bool} {s : Dst} {now : List Byt} (hq : Quiet n z h prs a s now) (left : Int) (a2 : Bool) : Quiet n z h prs a2 { s with left := left, armed := a2 } now := ⟨hq.up.power left a2, hq.head, hq.head0, hq.len, hq.home⟩
theorem Inv.power {s : Dst} {P : List Byt → Prop} (hi : Inv n h prs s P) (left : Int) (a2 : Bool) : Inv n h prs { s with left := left, armed := a2 } P := hi
/-- A disk without an armed end: a commit is done. -/
theorem wcom_on (hd : Hd n z h R prs H) {s : Dst} {now : List Byt} (hq : Quiet n z h prs false s now) {l : List (Nat × Byt)} (hl : ∀ c ∈ l, c.1 < h ∧ c.2.length = z) (hR : l.length ≤ R) : (wcom h H s l).1 = 0 ∧ Quiet n z h prs false (wcom h H s l).2 (chg now l) ∧ ∀ j, caO (wcom h H s l).2 j = [] := by
  rcases wcom_res hd hq hl hR with ⟨w1, w2⟩ | ⟨_, w2⟩
  · exact ⟨w1, w2⟩
  · exact absurd w2.1.2.1 (by decide)
end
end Go.Proofs.YtakdpkoigijonaaGreat
namespace Go.Proofs.YtakdpkoigijonaaGreat
set_option maxRecDepth 100000
open Go.RowKit
theorem zs_get {n z i : Nat} (hi : i < n) : (List.replicate n (zs z)).getD i [] = zs z := by
  rw [List.getD_eq_getElem?_getD, List.getElem?_replicate, if_pos hi]
  rfl
theorem nil_get {n i : Nat} : (List.replicate n ([] : Byt)).getD i [] = [] := by
  rw [List.getD_eq_getElem?_getD, List.getElem?_replicate]
  split <;> rfl
theorem zs_len12 (z : Nat) : (zs z).length = z := List.length_replicate
theorem gw_newd {n z : Nat} (hz : 0 < z) : Gw (newd n z) n z := ⟨List.length_replicate, List.length_replicate, rfl, hz, fun i hi => by
  show ((List.replicate n (zs z)).getD i []).length = z
  rw [zs_get hi, zs_len12], fun i _ => .inl nil_get⟩
/-- A new disk: nothing is under way, home is of noughts. -/
theorem quiet_newd {n z : Nat} (h3 : 3 ≤ n) (hz : 0 < z) : Quiet n z (homN n) (prsP n) false (newd n z) (List.replicate (homN n) (zs z)) := by
  have hh : 1 + homN n ≤ n := by unfold homN; omega
  refine ⟨⟨gw_newd hz, rfl, rfl⟩, ?_, nil_get, List.length_replicate, fun k hk => ⟨nil_get, ?_⟩⟩
  · show prsP n ((List.replicate n (zs z)).getD 0 []) = some []
    rw [zs_get (by omega)]
    unfold prsP
    rw [if_pos (by rw [zs_len12])]
  · show (List.replicate n (zs z)).getD (1 + k) [] = _
    rw [zs_get (by omega), zs_get hk]
theorem wopn_quiet {n z h : Nat} {prs : Byt → Option (List Nat)} {H : List Nat → Byt} {a : Bool} {s : Dst} {now : List Byt} (h3 : 3 ≤ n) (h32 : 32 ≤ z) (hq : Quiet n z h prs a s now) : wopn h prs H s = (0, s) := by
  have hn : nowO s 0 = stO s 0 := by unfold nowO; rw [if_pos hq.head0]
  unfold wopn
  rw [if_neg (by rw [hq.up.1.has, hq.up.1.size]; omega), if_neg (by rw [hq.up.2.2]; simp), hn, hq.head]
/-- Changes with which nothing is wrong. -/
theorem wrong_ok {l : List Cng} {n z : Nat} (h : WrongIs l n z 0) : (∀ c ∈ prc l, c.1 < homN n ∧ c.2.length = z) ∧ (prc l).length ≤ roomN n z ∧ ∀ c ∈ l, 0 ≤ c.p ∧ c.p < homN n := by
  rcases h with ⟨e, _⟩ | ⟨h1, h2⟩
  · cases e
  · rcases h2 with ⟨e, _⟩ | ⟨h2, h3⟩
    · cases e
    · rcases h3 with ⟨e, _⟩ | ⟨_, h3⟩
      · cases e
      · have hat : ∀ c ∈ l, 0 ≤ c.p ∧ c.p < homN n := fun c hc => by
          have := h1 c hc
          unfold BadAt at this
          omega
        refine ⟨fun c hc => ?_, by unfold prc; rw [List.length_map]; exact h3, hat⟩
        obtain ⟨d, hd, rfl⟩ := List.mem_map.1 hc
        have := hat d hd
        refine ⟨by show d.p.toNat < homN n; omega, Classical.byContradiction fun e => ?_⟩
        obtain ⟨i, hi⟩ := List.mem_iff_getElem?.1 hd
        exact h2 ⟨i, d, (List.getElem?_eq_some_iff.1 hi).1, hi, .inl e⟩
/-- What the law on crashes knows between its calls: the wal is up and home is now; or it is down, and a crash leaves now, or maybe. -/
def LI (n z : Nat) (s : Dst) (dn : Bool) (now : List Byt) (mb : Option (List Byt)) : Prop := now.length = homN n ∧ ((dn = false ∧ mb = none ∧ ∃ a, Quiet n z (homN n) (prsP n) a s now) ∨ (dn = true ∧ Gw s n z ∧ Inv n (homN n) (prsP n) s (fun v => v = now ∨ mb = some v)))
theorem LI.gw {n z : Nat} {s : Dst} {dn : Bool} {now : List Byt} {mb : Option (List Byt)} (h : LI n z s dn now mb) : Gw s n z := by
  rcases h.2 with ⟨_, _, _, q⟩ | ⟨_, q, _⟩
  · exact q.up.1
  · exact q
theorem LI.crash {n z : Nat} (h3 : 3 ≤ n) (h32 : 32 ≤ z) (hn : n ≤ 100000) {s : Dst} {dn : Bool} {now : List Byt} {mb : Option (List Byt)} (h : LI n z s dn now mb) (lost : List Int) :
    ∃ v, (v = now ∨ mb = some v) ∧ (wopn (homN n) (prsP n) (hdz z) (crs s lost)).1 = 0 ∧ LI n z (wopn (homN n) (prsP n) (hdz z) (crs s lost)).2 false v none ∧ (wopn (homN n) (prsP n) (hdz z) (crs s lost)).2.down = false ∧ (List.range (homN n)).map (fun k => nowO (wopn (homN n) (prsP n) (hdz z) (crs s lost)).2 (1 + k)) = v := by
  have hi : Inv n (homN n) (prsP n) s (fun v => v = now ∨ mb = some v) := by
    rcases h.2 with ⟨_, _, a, q⟩ | ⟨_, _, q⟩
    · exact (q.inv (hd_ok h3 h32 hn)).mono (fun v e => .inl e)
    · exact q
  obtain ⟨v, e1, e2, e3, _⟩ := open_crash (hd_ok h3 h32 hn) h3 h32 h.gw hi lost
  exact ⟨v, e1, e2, ⟨e3.len, .inl ⟨rfl, rfl, _, e3⟩⟩, e3.up.2.2, e3.homes⟩
theorem LI.start {n z : Nat} (h3 : 3 ≤ n) (hz : 0 < z) : LI n z (newd n z) false (List.replicate (homN n) (zs z)) none := ⟨List.length_replicate, .inl ⟨rfl, rfl, _, quiet_newd h3 hz⟩⟩
end Go.Proofs.YtakdpkoigijonaaGreat
namespace Go.Proofs.YtakdpkoigijonaaGreat
set_option maxRecDepth 100000
open Go.RowKit
/-- A disk behind a crash: up, nothing cached, and Open would make home v of it. -/
def SV (n z : Nat) (t : Dst) (v : List Byt) : Prop := (∃ a, Up t n z a) ∧ (∀ j, caO t j = []) ∧ ∃ l, prsP n (stO t 0) = some l ∧ v.length = homN n ∧ ∀ k, k < homN n → v.getD k [] = vw (homN n) l (stO t) k
theorem SV.crash {n z : Nat} {s : Dst} (g : Gw s n z) {P : List Byt → Prop} (hi : Inv n (homN n) (prsP n) s P) (lost : List Int) : ∃ v, P v ∧ SV n z (crs s lost) v := by
  obtain ⟨c1, c2, c3⟩ := crs_res g lost
  obtain ⟨l, v, e1, e2, e3, e4⟩ := hi.view c3
  exact ⟨v, e2, ⟨_, c1⟩, c2, l, e1, e3, e4⟩
/-- Opened, whatever the power does: home is v; or down, and home is v behind any crash. -/
theorem SV.open {n z : Nat} (h3 : 3 ≤ n) (h32 : 32 ≤ z) (hn : n ≤ 100000) {t : Dst} {v : List Byt} (h : SV n z t v) :
    (((wopn (homN n) (prsP n) (hdz z) t).1 = 0 ∧ (wopn (homN n) (prsP n) (hdz z) t).2.down = false ∧ (List.range (homN n)).map (fun k => nowO (wopn (homN n) (prsP n) (hdz z) t).2 (1 + k)) = v) ∨ (wopn (homN n) (prsP n) (hdz z) t).1 = 30) ∧ ∀ lost, SV n z (crs (wopn (homN n) (prsP n) (hdz z) t).2 lost) v := by
  obtain ⟨⟨a, h1⟩, h2, l, e1, e3, e4⟩ := h
  rcases open_armed (hd_ok h3 h32 hn) h3 h32 h1 h2 e1 e3 e4 with ⟨w1, w2⟩ | ⟨w1, w2, w3⟩
  · refine ⟨.inl ⟨w1, w2.up.2.2, w2.homes⟩, fun lost => ?_⟩
    obtain ⟨v', rfl, q⟩ := SV.crash w2.up.1 (w2.inv (hd_ok h3 h32 hn)) lost
    exact q
  · refine ⟨.inr w1, fun lost => ?_⟩
    obtain ⟨v', rfl, q⟩ := SV.crash w2 w3 lost
    exact q
/-- A head that is not right. -/
theorem wopn_bad {n z : Nat} (h3 : 3 ≤ n) (h32 : 32 ≤ z) {s : Dst} {a : Bool} (hu : Up s n z a) (hc : caO s 0 = []) (hp : prsP n (stO s 0) = none) {H : List Nat → Byt} : wopn (homN n) (prsP n) H s = (32, s) := by
  have hn : nowO s 0 = stO s 0 := by unfold nowO; rw [if_pos hc]
  unfold wopn
  rw [if_neg (by rw [hu.1.has, hu.1.size]; omega), if_neg (by rw [hu.2.2]; simp), hn, hp]
/-- A sector was tampered with. -/
theorem tmr_up {s : Dst} {n z : Nat} {a : Bool} (hu : Up s n z a) {i : Nat} (hi : i < n) {b : Byt} (hb : b.length = z) : (tmr s (i : Int) b).1 = 0 ∧ Up (tmr s (i : Int) b).2 n z a ∧ (∀ j, stO (tmr s (i : Int) b).2 j = if j = i then b else stO s j) ∧ ∀ j, caO (tmr s (i : Int) b).2 j = if j = i then [] else caO s j := by
  obtain ⟨g, h1, h2⟩ := hu
  have e1 : tmr s (i : Int) b = (0, { s with has := s.has.set i b, cch := s.cch.set i [] }) := by
    unfold tmr
    rw [if_neg (by rw [g.has]; omega), if_neg (by rw [g.size, hb]; simp)]
    rfl
  have q1 : ∀ j, (s.has.set i b).getD j [] = if j = i then b else stO s j := fun j => getD_set (by rw [g.has]; exact hi)
  have q2 : ∀ j, (s.cch.set i []).getD j [] = if j = i then [] else caO s j := fun j => getD_set (by rw [g.cch]; exact hi)
  rw [e1]
  refine ⟨rfl, ⟨⟨by show (s.has.set i b).length = n; rw [List.length_set, g.has], by show (s.cch.set i []).length = n; rw [List.length_set, g.cch], g.size, g.pos, fun j hj => ?_, fun j hj => ?_⟩, h1, h2⟩, q1, q2⟩
  · show ((s.has.set i b).getD j []).length = z
    rw [q1]
    split
    · exact hb
    · exact g.hl j hj
  · show (s.cch.set i []).getD j [] = [] ∨ ((s.cch.set i []).getD j []).length = z
    rw [q2]
    split
    · exact .inl rfl
    · exact g.cl j hj
end Go.Proofs.YtakdpkoigijonaaGreat
namespace Go.Proofs.YtakdpkoigijonaaGreat
set_option maxRecDepth 100000
open Go.RowKit
end Go.Proofs.YtakdpkoigijonaaGreat
namespace Go.Proofs.YtakdpkoigijonaaGreat
set_option maxRecDepth 100000
open Go.RowKit
end Go.Proofs.YtakdpkoigijonaaGreat
namespace Go.Proofs.YtakdpkoigijonaaGreat
set_option maxRecDepth 100000
open Go.RowKit
end Go.Proofs.YtakdpkoigijonaaGreat
namespace Go.Proofs.YtakdpkoigijonaaGreat
set_option maxRecDepth 100000
open Go.RowKit
end Go.Proofs.YtakdpkoigijonaaGreat
namespace Go.Proofs.YtakdpkoigijonaaGreat
set_option maxRecDepth 100000
open Go.RowKit
/-- A disk of n sectors of z bytes that did k commands at most. -/
structure Gd (s : Dst) (n z k : Nat) : Prop where
  has : s.has.length = n
  cch : s.cch.length = n
  size : s.size = z
  done : s.done ≤ k
  hl : ∀ y ∈ s.has, y.length ≤ z
  cl : ∀ y ∈ s.cch, y.length ≤ z
theorem gd_new (n z : Nat) : Gd (newd n z) n z 0 := ⟨List.length_replicate, List.length_replicate, rfl, Nat.le_refl _, fun y hy => by rw [List.eq_of_mem_replicate hy]; simp [zs], fun y hy => by rw [List.eq_of_mem_replicate hy]; simp⟩
theorem Gd.le {s : Dst} {n z k k' : Nat} (g : Gd s n z k) (h : k ≤ k') : Gd s n z k' := ⟨g.has, g.cch, g.size, Nat.le_trans g.done h, g.hl, g.cl⟩
theorem gd_cmd {s : Dst} {n z k : Nat} (g : Gd s n z k) : Gd (cmd s).2 n z (k + 1) := by
  unfold cmd
  split
  · exact ⟨g.has, g.cch, g.size, Nat.le_succ_of_le g.done, g.hl, g.cl⟩
  · exact ⟨g.has, g.cch, g.size, Nat.succ_le_succ g.done, g.hl, g.cl⟩
theorem set_le {l : List (List (BitVec 8))} {z : Nat} (h : ∀ y ∈ l, y.length ≤ z) (i : Nat) {b : List (BitVec 8)} (hb : b.length ≤ z) : ∀ y ∈ l.set i b, y.length ≤ z := fun y hy => by
  rcases List.mem_or_eq_of_mem_set hy with hy | rfl
  · exact h y hy
  · exact hb
theorem gd_stl {s : Dst} {n z k : Nat} (g : Gd s n z k) : Gd (stl s) n z k := by
  refine ⟨?_, ?_, g.size, g.done, fun y hy => ?_, fun y hy => ?_⟩
  · show (List.zipWith pickc s.has s.cch).length = n
    rw [List.length_zipWith, g.has, g.cch, Nat.min_self]
  · show (s.cch.map fun _ => ([] : List (BitVec 8))).length = n
    rw [List.length_map, g.cch]
  · replace hy : y ∈ List.zipWith pickc s.has s.cch := hy
    obtain ⟨i, hi, rfl⟩ := List.mem_iff_getElem.1 hy
    rw [List.getElem_zipWith]
    unfold pickc
    split
    · exact g.hl _ (List.getElem_mem _)
    · exact g.cl _ (List.getElem_mem _)
  · obtain ⟨_, _, rfl⟩ := List.mem_map.1 hy
    exact Nat.zero_le _
theorem gd_flu {s : Dst} {n z k : Nat} (g : Gd s n z k) : Gd (flu s).2 n z (k + 1) := by
  unfold flu
  split
  · exact g.le (Nat.le_succ _)
  · split
    · exact gd_stl (gd_cmd g)
    · exact gd_cmd g
theorem gd_wrt {s : Dst} {n z k : Nat} (g : Gd s n z k) (i : Int) (b : List (BitVec 8)) : Gd (wrt s i b).2 n z (k + 1) := by
  unfold wrt
  split
  · exact g.le (Nat.le_succ _)
  · split
    · exact g.le (Nat.le_succ _)
    · split
      · exact g.le (Nat.le_succ _)
      · rename_i h
        refine gd_cmd ⟨g.has, ?_, g.size, g.done, g.hl, set_le g.cl _ ?_⟩
        · show (s.cch.set i.toNat b).length = n
          rw [List.length_set, g.cch]
        · have := g.size
          omega
theorem gd_tmr {s : Dst} {n z k : Nat} (g : Gd s n z k) (i : Int) (b : List (BitVec 8)) : Gd (tmr s i b).2 n z (k + 1) := by
  unfold tmr
  split
  · exact g.le (Nat.le_succ _)
  · split
    · exact g.le (Nat.le_succ _)
    · rename_i h
      refine ⟨?_, ?_, g.size, Nat.le_succ_of_le g.done, set_le g.hl _ ?_, set_le g.cl _ (Nat.zero_le _)⟩
      · show (s.has.set i.toNat b).length = n
        rw [List.length_set, g.has]
      · show (s.cch.set i.toNat []).length = n
        rw [List.length_set, g.cch]
      · have := g.size
        omega
end Go.Proofs.YtakdpkoigijonaaGreat
namespace Go.Proofs.YtakdpkoigijonaaGreat
set_option maxRecDepth 100000
open Go.RowKit
end Go.Proofs.YtakdpkoigijonaaGreat
