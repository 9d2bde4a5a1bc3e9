/- The reference's disk. -/
import Derived.Test.YtjdpomilifnlaaaM2
namespace Go.Proofs.Ytjdpomilifnlaaa
set_option maxRecDepth 100000
open Go.RowKit
theorem ref_cmd {w : World} {x h c : Nat} {s : Dst} (hx : HX w x h c s) (hd : s.done ≤ 1000000) :
    Calls Try.prog 48 #[.pointer (some ⟨x, 0, none⟩)] w fun e w' => e = .returned (.int .i64 (cmd s).1) ∧ HX w' x h c (cmd s).2 ∧ Only x w w' := by
  obtain ⟨Ch, Cc, m0, rh, rc, hl, n1, n2, n3, ha, hm⟩ := hx
  obtain ⟨has, cch, size, left, done, armed, down⟩ := s
  dsimp only at *
  have back : ∀ {e : Exit} {w' : World} {l' : Int} {d' : Nat} {dn' : Bool}, Only x w w' → Ob w' x 66 [.slice (some ⟨h, 0, none⟩) has.length Ch, .slice (some ⟨c, 0, none⟩) has.length Cc, .int .i64 (size : Int), .int .i64 l', .int .i64 (d' : Int), .bool armed, .bool dn'] → (armed = true → 0 ≤ l') → l' ≤ 9223372036854775807 → HX w' x h c ⟨has, cch, size, l', d', armed, dn'⟩ := by
    intro e w' l' d' dn' O m h1 h2
    exact ⟨Ch, Cc, m, rh.keep (O.block h rh.lt (fun e => n1 e.symm)), rc.keep (O.block c rc.lt (fun e => n2 e.symm)), hl, n1, n2, n3, h1, h2⟩
  cases armed with
  | false =>
    refine (cmd_free m0 hd).mono ?_
    rintro e w' ⟨rfl, m, O⟩
    refine ⟨by simp [cmd], ?_, O⟩
    have : (cmd ⟨has, cch, size, left, done, false, down⟩).2 = ⟨has, cch, size, left, done + 1, false, down⟩ := by simp [cmd]
    rw [this]
    exact back (e := .normal) O m (fun e => by cases e) hm
  | true =>
    by_cases h0 : left = 0
    · subst h0
      refine (cmd_down m0).mono ?_
      rintro e w' ⟨rfl, m, O⟩
      refine ⟨by simp [cmd], ?_, O⟩
      have : (cmd ⟨has, cch, size, 0, done, true, down⟩).2 = ⟨has, cch, size, 0, done, true, true⟩ := by simp [cmd]
      rw [this]
      exact back (e := .normal) O m (fun _ => Int.le_refl _) hm
    · have hl0 := ha rfl
      refine (cmd_left m0 hd (by omega) hm).mono ?_
      rintro e w' ⟨rfl, m, O⟩
      refine ⟨by simp [cmd, h0], ?_, O⟩
      have : (cmd ⟨has, cch, size, left, done, true, down⟩).2 = ⟨has, cch, size, left - 1, done + 1, true, down⟩ := by simp [cmd, h0]
      rw [this]
      exact back (e := .normal) O m (fun _ => by omega) (by omega)
def nowv (yh yc : List (BitVec 8)) : List (BitVec 8) := if yc = [] then yh else yc
theorem now_any {w : World} {x h c n Ch Cc z d i : Nat} {l : Int} {a dn : Bool} {hs cs : List (List (BitVec 8))} (m0 : Ob w x 66 [.slice (some ⟨h, 0, none⟩) n Ch, .slice (some ⟨c, 0, none⟩) n Cc, .int .i64 (z : Int), .int .i64 (l), .int .i64 (d : Int), .bool a, .bool dn]) (rh : Rs w h hs) (rc : Rs w c cs) (hi : i < n) {yh yc : List (BitVec 8)} (hyh : hs[i]? = some yh) (hyc : cs[i]? = some yc) :
    Calls Try.prog 17 #[.pointer (some ⟨x, 0, none⟩), .int .i64 (i : Int)] w fun e w' => e = .returned (.string (str (nowv yh yc))) ∧ Below w.heap.size w w' := by
  go_enter Try.func17, Try.ntmps17
  refine code_both (fun f w1 => f.tmps.size = 27 ∧ f.defers = [] ∧ f.eval (.tmp 0) = .pointer (some ⟨x, 0, none⟩) ∧ f.eval (.tmp 1) = .int .i64 (i : Int) ∧ Below w.heap.size w (w1)) ⟨rfl, rfl, rfl, rfl, Below.refl _ _⟩ ?_
  rintro f0 w0 ⟨sz, df, x0, x1, bl⟩
  have sd := And.intro sz df
  clear sz df
  have bl0 := bl
  refine wp_seq ?_
  refine wr_a [.eq (.string { data := #[] })] (by rw [sd.1]; kernel_rfl) ⟨fun hw ac u K => ?_, trivial⟩ ?_
  · exact st_assign (.const (.string { data := #[] })) rfl rfl
  intro f1 w1 A hb
  replace x0 := A.t x0 rfl
  replace x1 := A.t x1 rfl
  replace bl := bgo bl hb
  replace sd := A.sd sd
  clear A hb
  show Code.wp _ _ _ _ _
  refine wp_seq ?_
  refine wp_seq ?_
  by_cases hq : yc = []
  rotate_left
  · skip
    have hres : nowv yh yc = yc := by unfold nowv; rw [if_neg hq]
    refine wr_a [.eq (.pointer (some ⟨x, 0, none⟩)), .eq (.pointer (some ⟨x, 0, none⟩)), .eq (.pointer (some ⟨x, 1, none⟩)), .eq (.slice (some ⟨c, 0, none⟩) n Cc), .eq (.int .i64 (i : Int)), .eq (.pointer (some ⟨c, i, none⟩)), .eq (.string (str (yc))), .eq (.bool true)] (by rw [sd.1]; kernel_rfl) ⟨fun hw ac u K => ?_, fun hw ac u K => ?_, fun hw ac u K => ?_, fun hw ac u K => ?_, fun hw ac u K => ?_, fun hw ac u K => ?_, fun hw ac u K => ?_, fun hw ac u K => ?_, trivial⟩ ?_
    · exact st_move (.tmp 0) rfl (K.t x0 rfl)
    · exact st_nil (.tmp 5) rfl (K.dep 0 5 rfl)
    · exact st_field 66 1 (.tmp 6) rfl (K.dep 1 6 rfl) (by kernel_rfl)
    · exact st_loadc 45 (.tmp 7) rfl (by kernel_rfl) (K.dep 2 7 rfl) (Ob.cell (Ob.below m0 (bgo bl K.grow)) 1 rfl)
    · exact st_move (.tmp 1) rfl (K.t x1 rfl)
    · exact st_idxs (.tmp 8) (.tmp 9) rfl (K.dep 3 8 rfl) (i) (K.dep 4 9 rfl) hi
    · exact st_loadc 9 (.tmp 10) rfl (by kernel_rfl) (K.dep 5 10 rfl) ((Rs.below rc (bgo bl K.grow)).cell hyc)
    · exact st_nes (.tmp 11) (.const (.string { data := #[] })) rfl (str (yc)) _ (K.dep 6 11 rfl) rfl _ (by symm; rw [decide_eq_true_iff]; exact fun h => hq ((str_nil _).1 h))
    intro f2 w2 A hb
    replace x0 := A.t x0 rfl
    replace x1 := A.t x1 rfl
    have x12 := A.e 7 12 rfl rfl
    replace bl := bgo bl hb
    replace sd := A.sd sd
    clear A hb
    show Code.wp _ _ _ _ _
    refine wp_cond_true x12 ?_
    refine wp_seq ?_
    refine wr_a [.eq (.pointer (some ⟨x, 0, none⟩)), .eq (.pointer (some ⟨x, 0, none⟩)), .eq (.pointer (some ⟨x, 1, none⟩)), .eq (.slice (some ⟨c, 0, none⟩) n Cc), .eq (.int .i64 (i : Int)), .eq (.pointer (some ⟨c, i, none⟩)), .eq (.string (str (yc))), .eq (.string (str (yc)))] (by rw [sd.1]; kernel_rfl) ⟨fun hw ac u K => ?_, fun hw ac u K => ?_, fun hw ac u K => ?_, fun hw ac u K => ?_, fun hw ac u K => ?_, fun hw ac u K => ?_, fun hw ac u K => ?_, fun hw ac u K => ?_, trivial⟩ ?_
    · exact st_move (.tmp 0) rfl (K.t x0 rfl)
    · exact st_nil (.tmp 13) rfl (K.dep 0 13 rfl)
    · exact st_field 66 1 (.tmp 14) rfl (K.dep 1 14 rfl) (by kernel_rfl)
    · exact st_loadc 45 (.tmp 15) rfl (by kernel_rfl) (K.dep 2 15 rfl) (Ob.cell (Ob.below m0 (bgo bl K.grow)) 1 rfl)
    · exact st_move (.tmp 1) rfl (K.t x1 rfl)
    · exact st_idxs (.tmp 16) (.tmp 17) rfl (K.dep 3 16 rfl) (i) (K.dep 4 17 rfl) hi
    · exact st_loadc 9 (.tmp 18) rfl (by kernel_rfl) (K.dep 5 18 rfl) ((Rs.below rc (bgo bl K.grow)).cell hyc)
    · exact st_assign (.tmp 19) rfl (K.dep 6 19 rfl)
    intro f3 w3 A hb
    replace x0 := A.t x0 rfl
    replace x1 := A.t x1 rfl
    replace x12 := A.t x12 rfl
    have x4 := A.e 7 4 rfl rfl
    replace bl := bgo bl hb
    replace sd := A.sd sd
    clear A hb
    clear x0
    clear x1
    clear x12
    show Code.wp _ _ _ _ _
    refine wp_ret ?_
    repeat (first | with_reducible refine then_ret ?_ | with_reducible refine block_ret ?_)
    exact bodyPost_ret (v := .string (str yc)) (ret_slot rfl f3 _ x4 _ _) sd.2 ⟨by rw [hres], bl⟩
  have hres : nowv yh yc = yh := by unfold nowv; rw [if_pos hq]
  refine wr_a [.eq (.pointer (some ⟨x, 0, none⟩)), .eq (.pointer (some ⟨x, 0, none⟩)), .eq (.pointer (some ⟨x, 1, none⟩)), .eq (.slice (some ⟨c, 0, none⟩) n Cc), .eq (.int .i64 (i : Int)), .eq (.pointer (some ⟨c, i, none⟩)), .eq (.string (str (yc))), .eq (.bool false)] (by rw [sd.1]; kernel_rfl) ⟨fun hw ac u K => ?_, fun hw ac u K => ?_, fun hw ac u K => ?_, fun hw ac u K => ?_, fun hw ac u K => ?_, fun hw ac u K => ?_, fun hw ac u K => ?_, fun hw ac u K => ?_, trivial⟩ ?_
  · exact st_move (.tmp 0) rfl (K.t x0 rfl)
  · exact st_nil (.tmp 5) rfl (K.dep 0 5 rfl)
  · exact st_field 66 1 (.tmp 6) rfl (K.dep 1 6 rfl) (by kernel_rfl)
  · exact st_loadc 45 (.tmp 7) rfl (by kernel_rfl) (K.dep 2 7 rfl) (Ob.cell (Ob.below m0 (bgo bl K.grow)) 1 rfl)
  · exact st_move (.tmp 1) rfl (K.t x1 rfl)
  · exact st_idxs (.tmp 8) (.tmp 9) rfl (K.dep 3 8 rfl) (i) (K.dep 4 9 rfl) hi
  · exact st_loadc 9 (.tmp 10) rfl (by kernel_rfl) (K.dep 5 10 rfl) ((Rs.below rc (bgo bl K.grow)).cell hyc)
  · exact st_nes (.tmp 11) (.const (.string { data := #[] })) rfl (str (yc)) _ (K.dep 6 11 rfl) rfl _ (by rw [hq]; rfl)
  intro f2 w2 A hb
  replace x0 := A.t x0 rfl
  replace x1 := A.t x1 rfl
  have x12 := A.e 7 12 rfl rfl
  replace bl := bgo bl hb
  replace sd := A.sd sd
  clear A hb
  show Code.wp _ _ _ _ _
  refine wp_cond_false x12 ?_
  refine wp_skip ?_
  show Code.wp _ _ _ _ _
  refine wp_seq ?_
  refine wr_a [.eq (.pointer (some ⟨x, 0, none⟩)), .eq (.pointer (some ⟨x, 0, none⟩)), .eq (.pointer (some ⟨x, 0, none⟩)), .eq (.slice (some ⟨h, 0, none⟩) n Ch), .eq (.int .i64 (i : Int)), .eq (.pointer (some ⟨h, i, none⟩)), .eq (.string (str (yh))), .eq (.string (str (yh)))] (by rw [sd.1]; kernel_rfl) ⟨fun hw ac u K => ?_, fun hw ac u K => ?_, fun hw ac u K => ?_, fun hw ac u K => ?_, fun hw ac u K => ?_, fun hw ac u K => ?_, fun hw ac u K => ?_, fun hw ac u K => ?_, trivial⟩ ?_
  · exact st_move (.tmp 0) rfl (K.t x0 rfl)
  · exact st_nil (.tmp 20) rfl (K.dep 0 20 rfl)
  · exact st_field 66 0 (.tmp 21) rfl (K.dep 1 21 rfl) (by kernel_rfl)
  · exact st_loadc 45 (.tmp 22) rfl (by kernel_rfl) (K.dep 2 22 rfl) (Ob.cell (Ob.below m0 (bgo bl K.grow)) 0 rfl)
  · exact st_move (.tmp 1) rfl (K.t x1 rfl)
  · exact st_idxs (.tmp 23) (.tmp 24) rfl (K.dep 3 23 rfl) (i) (K.dep 4 24 rfl) hi
  · exact st_loadc 9 (.tmp 25) rfl (by kernel_rfl) (K.dep 5 25 rfl) ((Rs.below rh (bgo bl K.grow)).cell hyh)
  · exact st_assign (.tmp 26) rfl (K.dep 6 26 rfl)
  intro f3 w3 A hb
  replace x0 := A.t x0 rfl
  replace x1 := A.t x1 rfl
  replace x12 := A.t x12 rfl
  have x4 := A.e 7 4 rfl rfl
  replace bl := bgo bl hb
  replace sd := A.sd sd
  clear A hb
  clear x0
  clear x1
  clear x12
  show Code.wp _ _ _ _ _
  refine wp_ret ?_
  repeat (first | with_reducible refine then_ret ?_ | with_reducible refine block_ret ?_)
  exact bodyPost_ret (v := .string (str yh)) (ret_slot rfl f3 _ x4 _ _) sd.2 ⟨by rw [hres], bl⟩
theorem wr_down {w : World} {x h c Ch Cc size done : Nat} {left : Int} {armed : Bool} {has cch : List (List (BitVec 8))} (m0 : Ob w x 66 [.slice (some ⟨h, 0, none⟩) has.length Ch, .slice (some ⟨c, 0, none⟩) has.length Cc, .int .i64 (size : Int), .int .i64 (left), .int .i64 (done : Int), .bool armed, .bool true]) (rh : Rs w h has) (rc : Rs w c cch) {vb : Value} {i : Int} :
    Calls Try.prog 30 #[.pointer (some ⟨x, 0, none⟩), .int .i64 i, vb] w fun e w' => e = .returned (.int .i64 30) ∧ Ob w' x 66 [.slice (some ⟨h, 0, none⟩) has.length Ch, .slice (some ⟨c, 0, none⟩) has.length Cc, .int .i64 (size : Int), .int .i64 (left), .int .i64 (done : Int), .bool armed, .bool true] ∧ Rs w' h has ∧ Rs w' c cch ∧ Fr (fun j => j = x ∨ j = h ∨ j = c) w w' := by
  go_enter Try.func30, Try.ntmps30
  refine code_both (fun f w1 => f.tmps.size = 39 ∧ f.defers = [] ∧ f.eval (.tmp 0) = .pointer (some ⟨x, 0, none⟩) ∧ f.eval (.tmp 1) = .int .i64 (i) ∧ f.eval (.tmp 2) = vb ∧ Ob w1 x 66 ([.slice (some ⟨h, 0, none⟩) has.length Ch, .slice (some ⟨c, 0, none⟩) has.length Cc, .int .i64 (size : Int), .int .i64 (left), .int .i64 (done : Int), .bool armed, .bool true]) ∧ Rs w1 h has ∧ Rs w1 c cch ∧ Fr (fun j => j = x ∨ j = h ∨ j = c) w (w1)) ⟨rfl, rfl, rfl, rfl, rfl, m0, rh, rc, Fr.refl _ _⟩ ?_
  clear m0 rh rc
  rintro f0 w0 ⟨sz, df, x0, x1, x2, m0, rh, rc, bl⟩
  have sd := And.intro sz df
  clear sz df
  have bl0 := bl
  refine wp_seq ?_
  refine wr_a [.eq (.int .i64 0)] (by rw [sd.1]; kernel_rfl) ⟨fun hw ac u K => ?_, trivial⟩ ?_
  · exact st_assign (.const (.int .i64 0)) rfl rfl
  intro f1 w1 A hb
  replace x0 := A.t x0 rfl
  replace x1 := A.t x1 rfl
  replace x2 := A.t x2 rfl
  replace m0 := Ob.below m0 hb
  replace rh := Rs.below rh hb
  replace rc := Rs.below rc hb
  replace bl := (Fr.grow bl hb)
  replace sd := A.sd sd
  clear A hb
  show Code.wp _ _ _ _ _
  refine wp_seq ?_
  refine wp_seq ?_
  refine wr_a [.eq (.pointer (some ⟨x, 0, none⟩)), .eq (.pointer (some ⟨x, 0, none⟩)), .eq (.pointer (some ⟨x, 6, none⟩)), .eq (.bool true)] (by rw [sd.1]; kernel_rfl) ⟨fun hw ac u K => ?_, fun hw ac u K => ?_, fun hw ac u K => ?_, fun hw ac u K => ?_, trivial⟩ ?_
  · exact st_move (.tmp 0) rfl (K.t x0 rfl)
  · exact st_nil (.tmp 7) rfl (K.dep 0 7 rfl)
  · exact st_field 66 6 (.tmp 8) rfl (K.dep 1 8 rfl) (by kernel_rfl)
  · exact st_loadc 4 (.tmp 9) rfl (by kernel_rfl) (K.dep 2 9 rfl) (Ob.cell (Ob.below m0 K.grow) 6 rfl)
  intro f2 w2 A hb
  replace x0 := A.t x0 rfl
  replace x1 := A.t x1 rfl
  replace x2 := A.t x2 rfl
  have x10 := A.e 3 10 rfl rfl
  replace m0 := Ob.below m0 hb
  replace rh := Rs.below rh hb
  replace rc := Rs.below rc hb
  replace bl := (Fr.grow bl hb)
  replace sd := A.sd sd
  clear A hb
  show Code.wp _ _ _ _ _
  refine wp_cond_true x10 ?_
  refine wp_seq ?_
  refine wr_a [.eq (.int .i64 30)] (by rw [sd.1]; kernel_rfl) ⟨fun hw ac u K => ?_, trivial⟩ ?_
  · exact st_assign (.const (.int .i64 30)) rfl rfl
  intro f3 w3 A hb
  replace x0 := A.t x0 rfl
  replace x1 := A.t x1 rfl
  replace x2 := A.t x2 rfl
  replace x10 := A.t x10 rfl
  have x6 := A.e 0 6 rfl rfl
  replace m0 := Ob.below m0 hb
  replace rh := Rs.below rh hb
  replace rc := Rs.below rc hb
  replace bl := (Fr.grow bl hb)
  replace sd := A.sd sd
  clear A hb
  clear x0
  clear x1
  clear x2
  clear x10
  show Code.wp _ _ _ _ _
  refine wp_ret ?_
  repeat (first | with_reducible refine then_ret ?_ | with_reducible refine block_ret ?_)
  exact bodyPost_ret (v := .int .i64 30) (ret_slot rfl f3 _ x6 _ _) sd.2 ⟨rfl, m0, rh, rc, bl⟩
theorem wr_range {w : World} {x h c Ch Cc size done : Nat} {left : Int} {armed : Bool} {has cch : List (List (BitVec 8))} (m0 : Ob w x 66 [.slice (some ⟨h, 0, none⟩) has.length Ch, .slice (some ⟨c, 0, none⟩) has.length Cc, .int .i64 (size : Int), .int .i64 (left), .int .i64 (done : Int), .bool armed, .bool false]) (rh : Rs w h has) (rc : Rs w c cch) {vb : Value} {i : Int} (hi : i < 0 ∨ (has.length : Int) ≤ i) :
    Calls Try.prog 30 #[.pointer (some ⟨x, 0, none⟩), .int .i64 i, vb] w fun e w' => e = .returned (.int .i64 11) ∧ Ob w' x 66 [.slice (some ⟨h, 0, none⟩) has.length Ch, .slice (some ⟨c, 0, none⟩) has.length Cc, .int .i64 (size : Int), .int .i64 (left), .int .i64 (done : Int), .bool armed, .bool false] ∧ Rs w' h has ∧ Rs w' c cch ∧ Fr (fun j => j = x ∨ j = h ∨ j = c) w w' := by
  go_enter Try.func30, Try.ntmps30
  refine code_both (fun f w1 => f.tmps.size = 39 ∧ f.defers = [] ∧ f.eval (.tmp 0) = .pointer (some ⟨x, 0, none⟩) ∧ f.eval (.tmp 1) = .int .i64 (i) ∧ f.eval (.tmp 2) = vb ∧ Ob w1 x 66 ([.slice (some ⟨h, 0, none⟩) has.length Ch, .slice (some ⟨c, 0, none⟩) has.length Cc, .int .i64 (size : Int), .int .i64 (left), .int .i64 (done : Int), .bool armed, .bool false]) ∧ Rs w1 h has ∧ Rs w1 c cch ∧ Fr (fun j => j = x ∨ j = h ∨ j = c) w (w1)) ⟨rfl, rfl, rfl, rfl, rfl, m0, rh, rc, Fr.refl _ _⟩ ?_
  clear m0 rh rc
  rintro f0 w0 ⟨sz, df, x0, x1, x2, m0, rh, rc, bl⟩
  have sd := And.intro sz df
  clear sz df
  have bl0 := bl
  refine wp_seq ?_
  refine wr_a [.eq (.int .i64 0)] (by rw [sd.1]; kernel_rfl) ⟨fun hw ac u K => ?_, trivial⟩ ?_
  · exact st_assign (.const (.int .i64 0)) rfl rfl
  intro f1 w1 A hb
  replace x0 := A.t x0 rfl
  replace x1 := A.t x1 rfl
  replace x2 := A.t x2 rfl
  replace m0 := Ob.below m0 hb
  replace rh := Rs.below rh hb
  replace rc := Rs.below rc hb
  replace bl := (Fr.grow bl hb)
  replace sd := A.sd sd
  clear A hb
  show Code.wp _ _ _ _ _
  refine wp_seq ?_
  refine wp_seq ?_
  refine wr_a [.eq (.pointer (some ⟨x, 0, none⟩)), .eq (.pointer (some ⟨x, 0, none⟩)), .eq (.pointer (some ⟨x, 6, none⟩)), .eq (.bool false)] (by rw [sd.1]; kernel_rfl) ⟨fun hw ac u K => ?_, fun hw ac u K => ?_, fun hw ac u K => ?_, fun hw ac u K => ?_, trivial⟩ ?_
  · exact st_move (.tmp 0) rfl (K.t x0 rfl)
  · exact st_nil (.tmp 7) rfl (K.dep 0 7 rfl)
  · exact st_field 66 6 (.tmp 8) rfl (K.dep 1 8 rfl) (by kernel_rfl)
  · exact st_loadc 4 (.tmp 9) rfl (by kernel_rfl) (K.dep 2 9 rfl) (Ob.cell (Ob.below m0 K.grow) 6 rfl)
  intro f2 w2 A hb
  replace x0 := A.t x0 rfl
  replace x1 := A.t x1 rfl
  replace x2 := A.t x2 rfl
  have x10 := A.e 3 10 rfl rfl
  replace m0 := Ob.below m0 hb
  replace rh := Rs.below rh hb
  replace rc := Rs.below rc hb
  replace bl := (Fr.grow bl hb)
  replace sd := A.sd sd
  clear A hb
  show Code.wp _ _ _ _ _
  refine wp_cond_false x10 ?_
  refine wp_skip ?_
  show Code.wp _ _ _ _ _
  refine wp_seq ?_
  refine wp_seq ?_
  by_cases h1 : i < 0
  rotate_left
  · skip
    refine wr_a [.eq (.int .i64 (i)), .eq (.bool false), .eq (.bool false), .eq (.int .i64 (i)), .eq (.pointer (some ⟨x, 0, none⟩)), .eq (.pointer (some ⟨x, 0, none⟩)), .eq (.pointer (some ⟨x, 0, none⟩)), .eq (.slice (some ⟨h, 0, none⟩) has.length Ch), .eq (.int .i64 (has.length : Int)), .eq (.bool true), .eq (.bool true)] (by rw [sd.1]; kernel_rfl) ⟨fun hw ac u K => ?_, fun hw ac u K => ?_, fun hw ac u K => ?_, fun hw ac u K => ?_, fun hw ac u K => ?_, fun hw ac u K => ?_, fun hw ac u K => ?_, fun hw ac u K => ?_, fun hw ac u K => ?_, fun hw ac u K => ?_, fun hw ac u K => ?_, trivial⟩ ?_
    · exact st_move (.tmp 1) rfl (K.t x1 rfl)
    · exact st_lss 3 (.tmp 11) (.const (.int .i64 0)) rfl .i64 ((i)) (0) (K.dep 0 11 rfl) rfl _ (by rw [eq_comm, decide_eq_false_iff_not]; omega)
    · exact st_move (.tmp 12) rfl (K.dep 1 12 rfl)
    · exact st_move (.tmp 1) rfl (K.t x1 rfl)
    · exact st_move (.tmp 0) rfl (K.t x0 rfl)
    · exact st_nil (.tmp 15) rfl (K.dep 4 15 rfl)
    · exact st_field 66 0 (.tmp 16) rfl (K.dep 5 16 rfl) (by kernel_rfl)
    · exact st_loadc 45 (.tmp 17) rfl (by kernel_rfl) (K.dep 6 17 rfl) (Ob.cell (Ob.below m0 K.grow) 0 rfl)
    · exact st_lens (.tmp 18) rfl (K.dep 7 18 rfl)
    · exact st_geq 3 (.tmp 14) (.tmp 19) rfl .i64 ((i)) ((has.length : Int)) (K.dep 3 14 rfl) (K.dep 8 19 rfl) _ (by rw [eq_comm, decide_eq_true_iff]; omega)
    · exact st_pick_f' (.tmp 13) (.const (.bool true)) (.tmp 20) rfl (K.dep 2 13 rfl) (K.dep 9 20 rfl)
    intro f3 w3 A hb
    replace x0 := A.t x0 rfl
    replace x1 := A.t x1 rfl
    replace x2 := A.t x2 rfl
    replace x10 := A.t x10 rfl
    have x21 := A.e 10 21 rfl rfl
    replace m0 := Ob.below m0 hb
    replace rh := Rs.below rh hb
    replace rc := Rs.below rc hb
    replace bl := (Fr.grow bl hb)
    replace sd := A.sd sd
    clear A hb
    clear x10
    show Code.wp _ _ _ _ _
    refine wp_cond_true x21 ?_
    refine wp_seq ?_
    refine wr_a [.eq (.int .i64 11)] (by rw [sd.1]; kernel_rfl) ⟨fun hw ac u K => ?_, trivial⟩ ?_
    · exact st_assign (.const (.int .i64 11)) rfl rfl
    intro f4 w4 A hb
    replace x0 := A.t x0 rfl
    replace x1 := A.t x1 rfl
    replace x2 := A.t x2 rfl
    replace x21 := A.t x21 rfl
    have x6 := A.e 0 6 rfl rfl
    replace m0 := Ob.below m0 hb
    replace rh := Rs.below rh hb
    replace rc := Rs.below rc hb
    replace bl := (Fr.grow bl hb)
    replace sd := A.sd sd
    clear A hb
    clear x0
    clear x1
    clear x2
    clear x21
    show Code.wp _ _ _ _ _
    refine wp_ret ?_
    repeat (first | with_reducible refine then_ret ?_ | with_reducible refine block_ret ?_)
    exact bodyPost_ret (v := .int .i64 11) (ret_slot rfl f4 _ x6 _ _) sd.2 ⟨rfl, m0, rh, rc, bl⟩
  refine wr_a [.eq (.int .i64 (i)), .eq (.bool true), .eq (.bool true), .any, .any, .any, .any, .any, .any, .any, .eq (.bool true)] (by rw [sd.1]; kernel_rfl) ⟨fun hw ac u K => ?_, fun hw ac u K => ?_, fun hw ac u K => ?_, fun hw ac u K => ?_, fun hw ac u K => ?_, fun hw ac u K => ?_, fun hw ac u K => ?_, fun hw ac u K => ?_, fun hw ac u K => ?_, fun hw ac u K => ?_, fun hw ac u K => ?_, trivial⟩ ?_
  · exact st_move (.tmp 1) rfl (K.t x1 rfl)
  · exact st_lss 3 (.tmp 11) (.const (.int .i64 0)) rfl .i64 ((i)) (0) (K.dep 0 11 rfl) rfl _ (by rw [eq_comm, decide_eq_true_iff]; omega)
  · exact st_move (.tmp 12) rfl (K.dep 1 12 rfl)
  · exact (Bool.false_ne_true hw).elim
  · exact (Bool.false_ne_true hw).elim
  · exact (Bool.false_ne_true hw).elim
  · exact (Bool.false_ne_true hw).elim
  · exact (Bool.false_ne_true hw).elim
  · exact (Bool.false_ne_true hw).elim
  · exact (Bool.false_ne_true hw).elim
  · exact st_pick_t (.tmp 13) (.const (.bool true)) (.tmp 20) rfl (K.dep 2 13 rfl) rfl
  intro f3 w3 A hb
  replace x0 := A.t x0 rfl
  replace x1 := A.t x1 rfl
  replace x2 := A.t x2 rfl
  replace x10 := A.t x10 rfl
  have x21 := A.e 10 21 rfl rfl
  replace m0 := Ob.below m0 hb
  replace rh := Rs.below rh hb
  replace rc := Rs.below rc hb
  replace bl := (Fr.grow bl hb)
  replace sd := A.sd sd
  clear A hb
  clear x10
  show Code.wp _ _ _ _ _
  refine wp_cond_true x21 ?_
  refine wp_seq ?_
  refine wr_a [.eq (.int .i64 11)] (by rw [sd.1]; kernel_rfl) ⟨fun hw ac u K => ?_, trivial⟩ ?_
  · exact st_assign (.const (.int .i64 11)) rfl rfl
  intro f4 w4 A hb
  replace x0 := A.t x0 rfl
  replace x1 := A.t x1 rfl
  replace x2 := A.t x2 rfl
  replace x21 := A.t x21 rfl
  have x6 := A.e 0 6 rfl rfl
  replace m0 := Ob.below m0 hb
  replace rh := Rs.below rh hb
  replace rc := Rs.below rc hb
  replace bl := (Fr.grow bl hb)
  replace sd := A.sd sd
  clear A hb
  clear x0
  clear x1
  clear x2
  clear x21
  show Code.wp _ _ _ _ _
  refine wp_ret ?_
  repeat (first | with_reducible refine then_ret ?_ | with_reducible refine block_ret ?_)
  exact bodyPost_ret (v := .int .i64 11) (ret_slot rfl f4 _ x6 _ _) sd.2 ⟨rfl, m0, rh, rc, bl⟩
theorem wr_form {w : World} {x h c Ch Cc size done : Nat} {left : Int} {armed : Bool} {has cch : List (List (BitVec 8))} (m0 : Ob w x 66 [.slice (some ⟨h, 0, none⟩) has.length Ch, .slice (some ⟨c, 0, none⟩) has.length Cc, .int .i64 (size : Int), .int .i64 (left), .int .i64 (done : Int), .bool armed, .bool false]) (rh : Rs w h has) (rc : Rs w c cch) {b : List (BitVec 8)} {vb : Value} (hbF : ∀ {W : World}, Fr (fun j => j = x ∨ j = h ∨ j = c) w W → (Fk.sl b).f vb W) {j : Nat} (hj : j < has.length) (hf : b.length ≠ size) :
    Calls Try.prog 30 #[.pointer (some ⟨x, 0, none⟩), .int .i64 (j : Int), vb] w fun e w' => e = .returned (.int .i64 10) ∧ Ob w' x 66 [.slice (some ⟨h, 0, none⟩) has.length Ch, .slice (some ⟨c, 0, none⟩) has.length Cc, .int .i64 (size : Int), .int .i64 (left), .int .i64 (done : Int), .bool armed, .bool false] ∧ Rs w' h has ∧ Rs w' c cch ∧ Fr (fun j => j = x ∨ j = h ∨ j = c) w w' := by
  go_enter Try.func30, Try.ntmps30
  refine code_both (fun f w1 => f.tmps.size = 39 ∧ f.defers = [] ∧ f.eval (.tmp 0) = .pointer (some ⟨x, 0, none⟩) ∧ f.eval (.tmp 1) = .int .i64 (j : Int) ∧ f.eval (.tmp 2) = vb ∧ Ob w1 x 66 ([.slice (some ⟨h, 0, none⟩) has.length Ch, .slice (some ⟨c, 0, none⟩) has.length Cc, .int .i64 (size : Int), .int .i64 (left), .int .i64 (done : Int), .bool armed, .bool false]) ∧ Rs w1 h has ∧ Rs w1 c cch ∧ Fr (fun j => j = x ∨ j = h ∨ j = c) w (w1)) ⟨rfl, rfl, rfl, rfl, rfl, m0, rh, rc, Fr.refl _ _⟩ ?_
  clear m0 rh rc
  rintro f0 w0 ⟨sz, df, x0, x1, x2, m0, rh, rc, bl⟩
  have sd := And.intro sz df
  clear sz df
  have bl0 := bl
  refine wp_seq ?_
  refine wr_a [.eq (.int .i64 0)] (by rw [sd.1]; kernel_rfl) ⟨fun hw ac u K => ?_, trivial⟩ ?_
  · exact st_assign (.const (.int .i64 0)) rfl rfl
  intro f1 w1 A hb
  replace x0 := A.t x0 rfl
  replace x1 := A.t x1 rfl
  replace x2 := A.t x2 rfl
  replace m0 := Ob.below m0 hb
  replace rh := Rs.below rh hb
  replace rc := Rs.below rc hb
  replace bl := (Fr.grow bl hb)
  replace sd := A.sd sd
  clear A hb
  show Code.wp _ _ _ _ _
  refine wp_seq ?_
  refine wp_seq ?_
  refine wr_a [.eq (.pointer (some ⟨x, 0, none⟩)), .eq (.pointer (some ⟨x, 0, none⟩)), .eq (.pointer (some ⟨x, 6, none⟩)), .eq (.bool false)] (by rw [sd.1]; kernel_rfl) ⟨fun hw ac u K => ?_, fun hw ac u K => ?_, fun hw ac u K => ?_, fun hw ac u K => ?_, trivial⟩ ?_
  · exact st_move (.tmp 0) rfl (K.t x0 rfl)
  · exact st_nil (.tmp 7) rfl (K.dep 0 7 rfl)
  · exact st_field 66 6 (.tmp 8) rfl (K.dep 1 8 rfl) (by kernel_rfl)
  · exact st_loadc 4 (.tmp 9) rfl (by kernel_rfl) (K.dep 2 9 rfl) (Ob.cell (Ob.below m0 K.grow) 6 rfl)
  intro f2 w2 A hb
  replace x0 := A.t x0 rfl
  replace x1 := A.t x1 rfl
  replace x2 := A.t x2 rfl
  have x10 := A.e 3 10 rfl rfl
  replace m0 := Ob.below m0 hb
  replace rh := Rs.below rh hb
  replace rc := Rs.below rc hb
  replace bl := (Fr.grow bl hb)
  replace sd := A.sd sd
  clear A hb
  show Code.wp _ _ _ _ _
  refine wp_cond_false x10 ?_
  refine wp_skip ?_
  show Code.wp _ _ _ _ _
  refine wp_seq ?_
  refine wp_seq ?_
  refine wr_a [.eq (.int .i64 (j : Int)), .eq (.bool false), .eq (.bool false), .eq (.int .i64 (j : Int)), .eq (.pointer (some ⟨x, 0, none⟩)), .eq (.pointer (some ⟨x, 0, none⟩)), .eq (.pointer (some ⟨x, 0, none⟩)), .eq (.slice (some ⟨h, 0, none⟩) has.length Ch), .eq (.int .i64 (has.length : Int)), .eq (.bool false), .eq (.bool false)] (by rw [sd.1]; kernel_rfl) ⟨fun hw ac u K => ?_, fun hw ac u K => ?_, fun hw ac u K => ?_, fun hw ac u K => ?_, fun hw ac u K => ?_, fun hw ac u K => ?_, fun hw ac u K => ?_, fun hw ac u K => ?_, fun hw ac u K => ?_, fun hw ac u K => ?_, fun hw ac u K => ?_, trivial⟩ ?_
  · exact st_move (.tmp 1) rfl (K.t x1 rfl)
  · exact st_lss 3 (.tmp 11) (.const (.int .i64 0)) rfl .i64 ((j : Int)) (0) (K.dep 0 11 rfl) rfl _ (by rw [eq_comm, decide_eq_false_iff_not]; omega)
  · exact st_move (.tmp 12) rfl (K.dep 1 12 rfl)
  · exact st_move (.tmp 1) rfl (K.t x1 rfl)
  · exact st_move (.tmp 0) rfl (K.t x0 rfl)
  · exact st_nil (.tmp 15) rfl (K.dep 4 15 rfl)
  · exact st_field 66 0 (.tmp 16) rfl (K.dep 5 16 rfl) (by kernel_rfl)
  · exact st_loadc 45 (.tmp 17) rfl (by kernel_rfl) (K.dep 6 17 rfl) (Ob.cell (Ob.below m0 K.grow) 0 rfl)
  · exact st_lens (.tmp 18) rfl (K.dep 7 18 rfl)
  · exact st_geq 3 (.tmp 14) (.tmp 19) rfl .i64 ((j : Int)) ((has.length : Int)) (K.dep 3 14 rfl) (K.dep 8 19 rfl) _ (by rw [eq_comm, decide_eq_false_iff_not]; omega)
  · exact st_pick_f' (.tmp 13) (.const (.bool true)) (.tmp 20) rfl (K.dep 2 13 rfl) (K.dep 9 20 rfl)
  intro f3 w3 A hb
  replace x0 := A.t x0 rfl
  replace x1 := A.t x1 rfl
  replace x2 := A.t x2 rfl
  replace x10 := A.t x10 rfl
  have x21 := A.e 10 21 rfl rfl
  replace m0 := Ob.below m0 hb
  replace rh := Rs.below rh hb
  replace rc := Rs.below rc hb
  replace bl := (Fr.grow bl hb)
  replace sd := A.sd sd
  clear A hb
  clear x10
  show Code.wp _ _ _ _ _
  refine wp_cond_false x21 ?_
  refine wp_skip ?_
  show Code.wp _ _ _ _ _
  refine wp_seq ?_
  refine wp_seq ?_
  refine wr_a [.eq (vb), .eq (.int .i64 (((b).length : Nat) : Int)), .eq (.pointer (some ⟨x, 0, none⟩)), .eq (.pointer (some ⟨x, 0, none⟩)), .eq (.pointer (some ⟨x, 2, none⟩)), .eq (.int .i64 (size : Int)), .eq (.bool true)] (by rw [sd.1]; kernel_rfl) ⟨fun hw ac u K => ?_, fun hw ac u K => ?_, fun hw ac u K => ?_, fun hw ac u K => ?_, fun hw ac u K => ?_, fun hw ac u K => ?_, fun hw ac u K => ?_, trivial⟩ ?_
  · exact st_move (.tmp 2) rfl (K.t x2 rfl)
  · exact st_lenb (.tmp 22) rfl (fk_val (K.dep 0 22 rfl) (hbF (Fr.grow bl K.grow)))
  · exact st_move (.tmp 0) rfl (K.t x0 rfl)
  · exact st_nil (.tmp 24) rfl (K.dep 2 24 rfl)
  · exact st_field 66 2 (.tmp 25) rfl (K.dep 3 25 rfl) (by kernel_rfl)
  · exact st_loadc 3 (.tmp 26) rfl (by kernel_rfl) (K.dep 4 26 rfl) (Ob.cell (Ob.below m0 K.grow) 2 rfl)
  · exact st_neqi 3 (.tmp 23) (.tmp 27) rfl .i64 ((((b).length : Nat) : Int)) ((size : Int)) (K.dep 1 23 rfl) (K.dep 5 27 rfl) _ (by rw [eq_comm, decide_eq_true_iff]; omega)
  intro f4 w4 A hb
  replace x0 := A.t x0 rfl
  replace x1 := A.t x1 rfl
  replace x2 := A.t x2 rfl
  replace x21 := A.t x21 rfl
  have x28 := A.e 6 28 rfl rfl
  replace m0 := Ob.below m0 hb
  replace rh := Rs.below rh hb
  replace rc := Rs.below rc hb
  replace bl := (Fr.grow bl hb)
  replace sd := A.sd sd
  clear A hb
  clear x21
  show Code.wp _ _ _ _ _
  refine wp_cond_true x28 ?_
  refine wp_seq ?_
  refine wr_a [.eq (.int .i64 10)] (by rw [sd.1]; kernel_rfl) ⟨fun hw ac u K => ?_, trivial⟩ ?_
  · exact st_assign (.const (.int .i64 10)) rfl rfl
  intro f5 w5 A hb
  replace x0 := A.t x0 rfl
  replace x1 := A.t x1 rfl
  replace x2 := A.t x2 rfl
  replace x28 := A.t x28 rfl
  have x6 := A.e 0 6 rfl rfl
  replace m0 := Ob.below m0 hb
  replace rh := Rs.below rh hb
  replace rc := Rs.below rc hb
  replace bl := (Fr.grow bl hb)
  replace sd := A.sd sd
  clear A hb
  clear x0
  clear x1
  clear x2
  clear x28
  show Code.wp _ _ _ _ _
  refine wp_ret ?_
  repeat (first | with_reducible refine then_ret ?_ | with_reducible refine block_ret ?_)
  exact bodyPost_ret (v := .int .i64 10) (ret_slot rfl f5 _ x6 _ _) sd.2 ⟨rfl, m0, rh, rc, bl⟩
theorem wr_ok {w : World} {x h c Ch Cc size done : Nat} {left : Int} {armed : Bool} {has cch : List (List (BitVec 8))} (m0 : Ob w x 66 [.slice (some ⟨h, 0, none⟩) has.length Ch, .slice (some ⟨c, 0, none⟩) has.length Cc, .int .i64 (size : Int), .int .i64 (left), .int .i64 (done : Int), .bool armed, .bool false]) (rh : Rs w h has) (rc : Rs w c cch) (n1 : x ≠ h) (n2 : x ≠ c) (n3 : h ≠ c) {b : List (BitVec 8)} {vb : Value} (hbF : ∀ {W : World}, Fr (fun j => j = x ∨ j = h ∨ j = c) w W → (Fk.sl b).f vb W) (hl : cch.length = has.length) (ha : armed = true → 0 ≤ left) (hm : left ≤ 9223372036854775807) (hd : done ≤ 1000000) {j : Nat} (hj : j < has.length) (hf : b.length = size) :
    Calls Try.prog 30 #[.pointer (some ⟨x, 0, none⟩), .int .i64 (j : Int), vb] w fun e w' => e = .returned (.int .i64 (cmd ⟨has, cch.set j b, size, left, done, armed, false⟩).1) ∧ HX w' x h c (cmd ⟨has, cch.set j b, size, left, done, armed, false⟩).2 ∧ Fr (fun j => j = x ∨ j = h ∨ j = c) w w' := by
  have hjc : j < cch.length := by omega
  go_enter Try.func30, Try.ntmps30
  refine code_both (fun f w1 => f.tmps.size = 39 ∧ f.defers = [] ∧ f.eval (.tmp 0) = .pointer (some ⟨x, 0, none⟩) ∧ f.eval (.tmp 1) = .int .i64 (j : Int) ∧ f.eval (.tmp 2) = vb ∧ Ob w1 x 66 ([.slice (some ⟨h, 0, none⟩) has.length Ch, .slice (some ⟨c, 0, none⟩) has.length Cc, .int .i64 (size : Int), .int .i64 (left), .int .i64 (done : Int), .bool armed, .bool false]) ∧ Rs w1 h has ∧ Rs w1 c cch ∧ Fr (fun j => j = x ∨ j = h ∨ j = c) w (w1)) ⟨rfl, rfl, rfl, rfl, rfl, m0, rh, rc, Fr.refl _ _⟩ ?_
  clear m0 rh rc
  rintro f0 w0 ⟨sz, df, x0, x1, x2, m0, rh, rc, bl⟩
  have sd := And.intro sz df
  clear sz df
  have bl0 := bl
  refine wp_seq ?_
  refine wr_a [.eq (.int .i64 0)] (by rw [sd.1]; kernel_rfl) ⟨fun hw ac u K => ?_, trivial⟩ ?_
  · exact st_assign (.const (.int .i64 0)) rfl rfl
  intro f1 w1 A hb
  replace x0 := A.t x0 rfl
  replace x1 := A.t x1 rfl
  replace x2 := A.t x2 rfl
  replace m0 := Ob.below m0 hb
  replace rh := Rs.below rh hb
  replace rc := Rs.below rc hb
  replace bl := (Fr.grow bl hb)
  replace sd := A.sd sd
  clear A hb
  show Code.wp _ _ _ _ _
  refine wp_seq ?_
  refine wp_seq ?_
  refine wr_a [.eq (.pointer (some ⟨x, 0, none⟩)), .eq (.pointer (some ⟨x, 0, none⟩)), .eq (.pointer (some ⟨x, 6, none⟩)), .eq (.bool false)] (by rw [sd.1]; kernel_rfl) ⟨fun hw ac u K => ?_, fun hw ac u K => ?_, fun hw ac u K => ?_, fun hw ac u K => ?_, trivial⟩ ?_
  · exact st_move (.tmp 0) rfl (K.t x0 rfl)
  · exact st_nil (.tmp 7) rfl (K.dep 0 7 rfl)
  · exact st_field 66 6 (.tmp 8) rfl (K.dep 1 8 rfl) (by kernel_rfl)
  · exact st_loadc 4 (.tmp 9) rfl (by kernel_rfl) (K.dep 2 9 rfl) (Ob.cell (Ob.below m0 K.grow) 6 rfl)
  intro f2 w2 A hb
  replace x0 := A.t x0 rfl
  replace x1 := A.t x1 rfl
  replace x2 := A.t x2 rfl
  have x10 := A.e 3 10 rfl rfl
  replace m0 := Ob.below m0 hb
  replace rh := Rs.below rh hb
  replace rc := Rs.below rc hb
  replace bl := (Fr.grow bl hb)
  replace sd := A.sd sd
  clear A hb
  show Code.wp _ _ _ _ _
  refine wp_cond_false x10 ?_
  refine wp_skip ?_
  show Code.wp _ _ _ _ _
  refine wp_seq ?_
  refine wp_seq ?_
  refine wr_a [.eq (.int .i64 (j : Int)), .eq (.bool false), .eq (.bool false), .eq (.int .i64 (j : Int)), .eq (.pointer (some ⟨x, 0, none⟩)), .eq (.pointer (some ⟨x, 0, none⟩)), .eq (.pointer (some ⟨x, 0, none⟩)), .eq (.slice (some ⟨h, 0, none⟩) has.length Ch), .eq (.int .i64 (has.length : Int)), .eq (.bool false), .eq (.bool false)] (by rw [sd.1]; kernel_rfl) ⟨fun hw ac u K => ?_, fun hw ac u K => ?_, fun hw ac u K => ?_, fun hw ac u K => ?_, fun hw ac u K => ?_, fun hw ac u K => ?_, fun hw ac u K => ?_, fun hw ac u K => ?_, fun hw ac u K => ?_, fun hw ac u K => ?_, fun hw ac u K => ?_, trivial⟩ ?_
  · exact st_move (.tmp 1) rfl (K.t x1 rfl)
  · exact st_lss 3 (.tmp 11) (.const (.int .i64 0)) rfl .i64 ((j : Int)) (0) (K.dep 0 11 rfl) rfl _ (by rw [eq_comm, decide_eq_false_iff_not]; omega)
  · exact st_move (.tmp 12) rfl (K.dep 1 12 rfl)
  · exact st_move (.tmp 1) rfl (K.t x1 rfl)
  · exact st_move (.tmp 0) rfl (K.t x0 rfl)
  · exact st_nil (.tmp 15) rfl (K.dep 4 15 rfl)
  · exact st_field 66 0 (.tmp 16) rfl (K.dep 5 16 rfl) (by kernel_rfl)
  · exact st_loadc 45 (.tmp 17) rfl (by kernel_rfl) (K.dep 6 17 rfl) (Ob.cell (Ob.below m0 K.grow) 0 rfl)
  · exact st_lens (.tmp 18) rfl (K.dep 7 18 rfl)
  · exact st_geq 3 (.tmp 14) (.tmp 19) rfl .i64 ((j : Int)) ((has.length : Int)) (K.dep 3 14 rfl) (K.dep 8 19 rfl) _ (by rw [eq_comm, decide_eq_false_iff_not]; omega)
  · exact st_pick_f' (.tmp 13) (.const (.bool true)) (.tmp 20) rfl (K.dep 2 13 rfl) (K.dep 9 20 rfl)
  intro f3 w3 A hb
  replace x0 := A.t x0 rfl
  replace x1 := A.t x1 rfl
  replace x2 := A.t x2 rfl
  replace x10 := A.t x10 rfl
  have x21 := A.e 10 21 rfl rfl
  replace m0 := Ob.below m0 hb
  replace rh := Rs.below rh hb
  replace rc := Rs.below rc hb
  replace bl := (Fr.grow bl hb)
  replace sd := A.sd sd
  clear A hb
  clear x10
  show Code.wp _ _ _ _ _
  refine wp_cond_false x21 ?_
  refine wp_skip ?_
  show Code.wp _ _ _ _ _
  refine wp_seq ?_
  refine wp_seq ?_
  refine wr_a [.eq (vb), .eq (.int .i64 (((b).length : Nat) : Int)), .eq (.pointer (some ⟨x, 0, none⟩)), .eq (.pointer (some ⟨x, 0, none⟩)), .eq (.pointer (some ⟨x, 2, none⟩)), .eq (.int .i64 (size : Int)), .eq (.bool false)] (by rw [sd.1]; kernel_rfl) ⟨fun hw ac u K => ?_, fun hw ac u K => ?_, fun hw ac u K => ?_, fun hw ac u K => ?_, fun hw ac u K => ?_, fun hw ac u K => ?_, fun hw ac u K => ?_, trivial⟩ ?_
  · exact st_move (.tmp 2) rfl (K.t x2 rfl)
  · exact st_lenb (.tmp 22) rfl (fk_val (K.dep 0 22 rfl) (hbF (Fr.grow bl K.grow)))
  · exact st_move (.tmp 0) rfl (K.t x0 rfl)
  · exact st_nil (.tmp 24) rfl (K.dep 2 24 rfl)
  · exact st_field 66 2 (.tmp 25) rfl (K.dep 3 25 rfl) (by kernel_rfl)
  · exact st_loadc 3 (.tmp 26) rfl (by kernel_rfl) (K.dep 4 26 rfl) (Ob.cell (Ob.below m0 K.grow) 2 rfl)
  · exact st_neqi 3 (.tmp 23) (.tmp 27) rfl .i64 ((((b).length : Nat) : Int)) ((size : Int)) (K.dep 1 23 rfl) (K.dep 5 27 rfl) _ (by rw [eq_comm, decide_eq_false_iff_not]; omega)
  intro f4 w4 A hb
  replace x0 := A.t x0 rfl
  replace x1 := A.t x1 rfl
  replace x2 := A.t x2 rfl
  replace x21 := A.t x21 rfl
  have x28 := A.e 6 28 rfl rfl
  replace m0 := Ob.below m0 hb
  replace rh := Rs.below rh hb
  replace rc := Rs.below rc hb
  replace bl := (Fr.grow bl hb)
  replace sd := A.sd sd
  clear A hb
  clear x21
  show Code.wp _ _ _ _ _
  refine wp_cond_false x28 ?_
  refine wp_skip ?_
  show Code.wp _ _ _ _ _
  refine wp_seq ?_
  refine wr_t [.eq (.pointer (some ⟨x, 0, none⟩)), .eq (.pointer (some ⟨x, 0, none⟩)), .eq (.pointer (some ⟨x, 1, none⟩)), .eq (.slice (some ⟨c, 0, none⟩) has.length Cc), .eq (.int .i64 (j : Int)), .eq (vb), .eq (.string (str (b))), .eq (.pointer (some ⟨c, j, none⟩))] [8] Try.mixed (by rw [sd.1]; kernel_rfl) ⟨fun hw ac u K => ?_, fun hw ac u K => ?_, fun hw ac u K => ?_, fun hw ac u K => ?_, fun hw ac u K => ?_, fun hw ac u K => ?_, fun hw ac u K => ?_, fun hw ac u K => ?_, trivial⟩ ?_
  · exact st_move (.tmp 0) rfl (K.t x0 rfl)
  · exact st_nil (.tmp 29) rfl (K.dep 0 29 rfl)
  · exact st_field 66 1 (.tmp 30) rfl (K.dep 1 30 rfl) (by kernel_rfl)
  · exact st_loadc 45 (.tmp 31) rfl (by kernel_rfl) (K.dep 2 31 rfl) (Ob.cell (Ob.below m0 K.grow) 1 rfl)
  · exact st_move (.tmp 1) rfl (K.t x1 rfl)
  · exact st_move (.tmp 2) rfl (K.t x2 rfl)
  · exact st_stra (.tmp 34) rfl (fk_val (K.dep 5 34 rfl) (hbF (Fr.grow bl K.grow)))
  · exact st_idxs (.tmp 32) (.tmp 33) rfl (K.dep 3 32 rfl) (j) (K.dep 4 33 rfl) hj
  intro f5 w5 A hb
  replace x0 := A.t x0 rfl
  replace x1 := A.t x1 rfl
  replace x2 := A.t x2 rfl
  replace x28 := A.t x28 rfl
  have x35 := A.e 6 35 rfl rfl
  have x36 := A.e 7 36 rfl rfl
  replace m0 := Ob.below m0 hb
  replace rh := Rs.below rh hb
  replace rc := Rs.below rc hb
  replace bl := (Fr.grow bl hb)
  replace sd := A.sd sd
  clear A hb
  clear x1
  clear x2
  clear x28
  refine wl_stc 9 rfl (.tmp 36) (.tmp 35) rfl rfl (by kernel_rfl) c (j) (.string (str (b))) x36 x35 rfl rfl (rc.there hjc) ?_
  replace m0 : Ob (w5.setCell ⟨c, j, none⟩ (.string (str (b)))) x 66 [.slice (some ⟨h, 0, none⟩) has.length Ch, .slice (some ⟨c, 0, none⟩) has.length Cc, .int .i64 (size : Int), .int .i64 (left), .int .i64 (done : Int), .bool armed, .bool false] := Ob.setCell_other m0 _ _ n2
  replace rh := Rs.other (b := c) (i := j) (v := .string (str (b))) rh n3
  replace rc := Rs.set rc hjc (b)
  replace bl : Fr (fun j => j = x ∨ j = h ∨ j = c) w (w5.setCell ⟨c, j, none⟩ (.string (str (b)))) := bl.setCell (.inl (.inr (.inr rfl))) _
  generalize w5.setCell ⟨c, j, none⟩ (.string (str (b))) = w6b at bl m0 rh rc ⊢
  replace bl0 := bl
  refine wpList_nil ?_
  clear x35
  clear x36
  show Code.wp _ _ _ _ _
  refine wp_seq ?_
  refine wr_s [.eq (.pointer (some ⟨x, 0, none⟩))] (by rw [sd.1]; kernel_rfl) ⟨fun hw ac u K => ?_, trivial⟩ ?_
  · exact st_move (.tmp 0) rfl (K.t x0 rfl)
  intro f7 w7 A hb
  replace x0 := A.t x0 rfl
  have x37 := A.e 0 37 rfl rfl
  replace m0 := Ob.below m0 hb
  replace rh := Rs.below rh hb
  replace rc := Rs.below rc hb
  replace bl := (Fr.grow bl hb)
  replace sd := A.sd sd
  clear A hb
  clear x0
  have hx1 : HX w7 x h c (⟨has, cch.set j b, size, left, done, armed, false⟩ : Dst) := ⟨Ch, Cc, m0, rh, rc, by show (cch.set j b).length = _; rw [List.length_set]; exact hl, n1, n2, n3, ha, hm⟩
  refine wl_call 48 (.func 48) _ _ #[.pointer (some ⟨x, 0, none⟩)] rfl 38 rfl (by rw [sd.1]; decide) rfl rfl (one_arg x37) Try.enter48 (fun u W' => u = .int .i64 (cmd (⟨has, cch.set j b, size, left, done, armed, false⟩ : Dst)).1 ∧ HX W' x h c (cmd (⟨has, cch.set j b, size, left, done, armed, false⟩ : Dst)).2 ∧ Only x w7 W') ((ref_cmd hx1 hd).mono (by rintro e w' ⟨rfl, q1, q2⟩; exact ⟨_, rfl, rfl, q1, q2⟩)) ?_
  rintro f8 w8 df2 sz2 old2 ⟨x38, hx2, O⟩
  clear m0 rh rc
  replace x37 := tr old2 x37 rfl
  replace bl := bl.trans (Fr.of_only O (.inl rfl))
  replace bl0 := bl
  replace sd := sd2 sz2 df2 sd
  clear df2 sz2 old2 O hx1
  clear x37
  refine wl_one (.eq (.int .i64 (cmd (⟨has, cch.set j b, size, left, done, armed, false⟩ : Dst)).1)) rfl 6 rfl (by rw [sd.1]; decide) (st_assign (.tmp 38) rfl x38) ?_
  intro f9 w9 df2 sz2 old2 new2 hb
  replace x38 := tr old2 x38 rfl
  have x6 := Fk.e new2
  replace hx2 := HX.below hx2 hb
  replace bl := (Fr.grow bl hb)
  replace sd := sd2 sz2 df2 sd
  clear df2 sz2 old2 new2 hb
  refine wpList_nil ?_
  clear x38
  show Code.wp _ _ _ _ _
  refine wp_ret ?_
  repeat (first | with_reducible refine then_ret ?_ | with_reducible refine block_ret ?_)
  exact bodyPost_ret (v := .int .i64 (cmd ⟨has, cch.set j b, size, left, done, armed, false⟩).1) (ret_slot rfl f9 _ x6 _ _) sd.2 ⟨rfl, hx2, bl⟩
theorem ref_write {w : World} {x h c : Nat} {s : Dst} (hx : HX w x h c s) (hd : s.done ≤ 1000000) (i : Int) {b : List (BitVec 8)} {vb : Value} (hbF : ∀ {W : World}, Fr (fun j => j = x ∨ j = h ∨ j = c) w W → (Fk.sl b).f vb W) :
    Calls Try.prog 30 #[.pointer (some ⟨x, 0, none⟩), .int .i64 i, vb] w fun e w' => e = .returned (.int .i64 (wrt s i b).1) ∧ HX w' x h c (wrt s i b).2 ∧ Fr (fun j => j = x ∨ j = h ∨ j = c) w w' := by
  obtain ⟨Ch, Cc, m0, rh, rc, hl, n1, n2, n3, ha, hm⟩ := hx
  obtain ⟨has, cch, size, left, done, armed, down⟩ := s
  dsimp only at *
  cases down with
  | true =>
    refine (wr_down m0 rh rc).mono ?_
    rintro e w' ⟨rfl, q0, q1, q2, q3⟩
    exact ⟨by simp [wrt], by simp only [wrt, if_true]; exact ⟨Ch, Cc, q0, q1, q2, hl, n1, n2, n3, ha, hm⟩, q3⟩
  | false =>
    by_cases hi : i < 0 ∨ (has.length : Int) ≤ i
    · refine (wr_range m0 rh rc hi).mono ?_
      rintro e w' ⟨rfl, q0, q1, q2, q3⟩
      have e1 : wrt ⟨has, cch, size, left, done, armed, false⟩ i b = (11, ⟨has, cch, size, left, done, armed, false⟩) := by simp only [wrt, Bool.false_eq_true, if_false, if_pos hi]
      rw [e1]
      exact ⟨rfl, ⟨Ch, Cc, q0, q1, q2, hl, n1, n2, n3, ha, hm⟩, q3⟩
    · obtain ⟨j, rfl⟩ : ∃ j : Nat, i = (j : Int) := ⟨i.toNat, by omega⟩
      by_cases hf : b.length = size
      · refine (wr_ok m0 rh rc n1 n2 n3 hbF hl ha hm hd (j := j) (by omega) hf).mono ?_
        have e1 : wrt ⟨has, cch, size, left, done, armed, false⟩ (j : Int) b = cmd ⟨has, cch.set j b, size, left, done, armed, false⟩ := by simp only [wrt, Bool.false_eq_true, if_false, if_neg hi, hf, ne_eq, not_true, Int.toNat_natCast]
        rw [e1]
        rintro e w' ⟨rfl, q1, q2⟩
        exact ⟨rfl, q1, q2⟩
      · refine (wr_form m0 rh rc hbF (j := j) (by omega) hf).mono ?_
        rintro e w' ⟨rfl, q0, q1, q2, q3⟩
        have e1 : wrt ⟨has, cch, size, left, done, armed, false⟩ (j : Int) b = (10, ⟨has, cch, size, left, done, armed, false⟩) := by simp only [wrt, Bool.false_eq_true, if_false, if_neg hi, ne_eq, hf, not_false_eq_true, if_true]
        rw [e1]
        exact ⟨rfl, ⟨Ch, Cc, q0, q1, q2, hl, n1, n2, n3, ha, hm⟩, q3⟩
theorem tm_range {w : World} {x h c Ch Cc size done : Nat} {left : Int} {armed dn : Bool} {has cch : List (List (BitVec 8))} (m0 : Ob w x 66 [.slice (some ⟨h, 0, none⟩) has.length Ch, .slice (some ⟨c, 0, none⟩) has.length Cc, .int .i64 (size : Int), .int .i64 (left), .int .i64 (done : Int), .bool armed, .bool dn]) (rh : Rs w h has) (rc : Rs w c cch) {vb : Value} {i : Int} (hi : i < 0 ∨ (has.length : Int) ≤ i) :
    Calls Try.prog 32 #[.pointer (some ⟨x, 0, none⟩), .int .i64 i, vb] w fun e w' => e = .returned (.int .i64 11) ∧ Ob w' x 66 [.slice (some ⟨h, 0, none⟩) has.length Ch, .slice (some ⟨c, 0, none⟩) has.length Cc, .int .i64 (size : Int), .int .i64 (left), .int .i64 (done : Int), .bool armed, .bool dn] ∧ Rs w' h has ∧ Rs w' c cch ∧ Fr (fun j => j = x ∨ j = h ∨ j = c) w w' := by
  go_enter Try.func32, Try.ntmps32
  refine code_both (fun f w1 => f.tmps.size = 39 ∧ f.defers = [] ∧ f.eval (.tmp 0) = .pointer (some ⟨x, 0, none⟩) ∧ f.eval (.tmp 1) = .int .i64 (i) ∧ f.eval (.tmp 2) = vb ∧ Ob w1 x 66 ([.slice (some ⟨h, 0, none⟩) has.length Ch, .slice (some ⟨c, 0, none⟩) has.length Cc, .int .i64 (size : Int), .int .i64 (left), .int .i64 (done : Int), .bool armed, .bool dn]) ∧ Rs w1 h has ∧ Rs w1 c cch ∧ Fr (fun j => j = x ∨ j = h ∨ j = c) w (w1)) ⟨rfl, rfl, rfl, rfl, rfl, m0, rh, rc, Fr.refl _ _⟩ ?_
  clear m0 rh rc
  rintro f0 w0 ⟨sz, df, x0, x1, x2, m0, rh, rc, bl⟩
  have sd := And.intro sz df
  clear sz df
  have bl0 := bl
  refine wp_seq ?_
  refine wr_a [.eq (.int .i64 0)] (by rw [sd.1]; kernel_rfl) ⟨fun hw ac u K => ?_, trivial⟩ ?_
  · exact st_assign (.const (.int .i64 0)) rfl rfl
  intro f1 w1 A hb
  replace x0 := A.t x0 rfl
  replace x1 := A.t x1 rfl
  replace x2 := A.t x2 rfl
  replace m0 := Ob.below m0 hb
  replace rh := Rs.below rh hb
  replace rc := Rs.below rc hb
  replace bl := (Fr.grow bl hb)
  replace sd := A.sd sd
  clear A hb
  show Code.wp _ _ _ _ _
  refine wp_seq ?_
  refine wp_seq ?_
  by_cases h1 : i < 0
  rotate_left
  · skip
    refine wr_a [.eq (.int .i64 (i)), .eq (.bool false), .eq (.bool false), .eq (.int .i64 (i)), .eq (.pointer (some ⟨x, 0, none⟩)), .eq (.pointer (some ⟨x, 0, none⟩)), .eq (.pointer (some ⟨x, 0, none⟩)), .eq (.slice (some ⟨h, 0, none⟩) has.length Ch), .eq (.int .i64 (has.length : Int)), .eq (.bool true), .eq (.bool true)] (by rw [sd.1]; kernel_rfl) ⟨fun hw ac u K => ?_, fun hw ac u K => ?_, fun hw ac u K => ?_, fun hw ac u K => ?_, fun hw ac u K => ?_, fun hw ac u K => ?_, fun hw ac u K => ?_, fun hw ac u K => ?_, fun hw ac u K => ?_, fun hw ac u K => ?_, fun hw ac u K => ?_, trivial⟩ ?_
    · exact st_move (.tmp 1) rfl (K.t x1 rfl)
    · exact st_lss 3 (.tmp 7) (.const (.int .i64 0)) rfl .i64 ((i)) (0) (K.dep 0 7 rfl) rfl _ (by rw [eq_comm, decide_eq_false_iff_not]; omega)
    · exact st_move (.tmp 8) rfl (K.dep 1 8 rfl)
    · exact st_move (.tmp 1) rfl (K.t x1 rfl)
    · exact st_move (.tmp 0) rfl (K.t x0 rfl)
    · exact st_nil (.tmp 11) rfl (K.dep 4 11 rfl)
    · exact st_field 66 0 (.tmp 12) rfl (K.dep 5 12 rfl) (by kernel_rfl)
    · exact st_loadc 45 (.tmp 13) rfl (by kernel_rfl) (K.dep 6 13 rfl) (Ob.cell (Ob.below m0 K.grow) 0 rfl)
    · exact st_lens (.tmp 14) rfl (K.dep 7 14 rfl)
    · exact st_geq 3 (.tmp 10) (.tmp 15) rfl .i64 ((i)) ((has.length : Int)) (K.dep 3 10 rfl) (K.dep 8 15 rfl) _ (by rw [eq_comm, decide_eq_true_iff]; omega)
    · exact st_pick_f' (.tmp 9) (.const (.bool true)) (.tmp 16) rfl (K.dep 2 9 rfl) (K.dep 9 16 rfl)
    intro f2 w2 A hb
    replace x0 := A.t x0 rfl
    replace x1 := A.t x1 rfl
    replace x2 := A.t x2 rfl
    have x17 := A.e 10 17 rfl rfl
    replace m0 := Ob.below m0 hb
    replace rh := Rs.below rh hb
    replace rc := Rs.below rc hb
    replace bl := (Fr.grow bl hb)
    replace sd := A.sd sd
    clear A hb
    show Code.wp _ _ _ _ _
    refine wp_cond_true x17 ?_
    refine wp_seq ?_
    refine wr_a [.eq (.int .i64 11)] (by rw [sd.1]; kernel_rfl) ⟨fun hw ac u K => ?_, trivial⟩ ?_
    · exact st_assign (.const (.int .i64 11)) rfl rfl
    intro f3 w3 A hb
    replace x0 := A.t x0 rfl
    replace x1 := A.t x1 rfl
    replace x2 := A.t x2 rfl
    replace x17 := A.t x17 rfl
    have x6 := A.e 0 6 rfl rfl
    replace m0 := Ob.below m0 hb
    replace rh := Rs.below rh hb
    replace rc := Rs.below rc hb
    replace bl := (Fr.grow bl hb)
    replace sd := A.sd sd
    clear A hb
    clear x0
    clear x1
    clear x2
    clear x17
    show Code.wp _ _ _ _ _
    refine wp_ret ?_
    repeat (first | with_reducible refine then_ret ?_ | with_reducible refine block_ret ?_)
    exact bodyPost_ret (v := .int .i64 11) (ret_slot rfl f3 _ x6 _ _) sd.2 ⟨rfl, m0, rh, rc, bl⟩
  refine wr_a [.eq (.int .i64 (i)), .eq (.bool true), .eq (.bool true), .any, .any, .any, .any, .any, .any, .any, .eq (.bool true)] (by rw [sd.1]; kernel_rfl) ⟨fun hw ac u K => ?_, fun hw ac u K => ?_, fun hw ac u K => ?_, fun hw ac u K => ?_, fun hw ac u K => ?_, fun hw ac u K => ?_, fun hw ac u K => ?_, fun hw ac u K => ?_, fun hw ac u K => ?_, fun hw ac u K => ?_, fun hw ac u K => ?_, trivial⟩ ?_
  · exact st_move (.tmp 1) rfl (K.t x1 rfl)
  · exact st_lss 3 (.tmp 7) (.const (.int .i64 0)) rfl .i64 ((i)) (0) (K.dep 0 7 rfl) rfl _ (by rw [eq_comm, decide_eq_true_iff]; omega)
  · exact st_move (.tmp 8) rfl (K.dep 1 8 rfl)
  · exact (Bool.false_ne_true hw).elim
  · exact (Bool.false_ne_true hw).elim
  · exact (Bool.false_ne_true hw).elim
  · exact (Bool.false_ne_true hw).elim
  · exact (Bool.false_ne_true hw).elim
  · exact (Bool.false_ne_true hw).elim
  · exact (Bool.false_ne_true hw).elim
  · exact st_pick_t (.tmp 9) (.const (.bool true)) (.tmp 16) rfl (K.dep 2 9 rfl) rfl
  intro f2 w2 A hb
  replace x0 := A.t x0 rfl
  replace x1 := A.t x1 rfl
  replace x2 := A.t x2 rfl
  have x17 := A.e 10 17 rfl rfl
  replace m0 := Ob.below m0 hb
  replace rh := Rs.below rh hb
  replace rc := Rs.below rc hb
  replace bl := (Fr.grow bl hb)
  replace sd := A.sd sd
  clear A hb
  show Code.wp _ _ _ _ _
  refine wp_cond_true x17 ?_
  refine wp_seq ?_
  refine wr_a [.eq (.int .i64 11)] (by rw [sd.1]; kernel_rfl) ⟨fun hw ac u K => ?_, trivial⟩ ?_
  · exact st_assign (.const (.int .i64 11)) rfl rfl
  intro f3 w3 A hb
  replace x0 := A.t x0 rfl
  replace x1 := A.t x1 rfl
  replace x2 := A.t x2 rfl
  replace x17 := A.t x17 rfl
  have x6 := A.e 0 6 rfl rfl
  replace m0 := Ob.below m0 hb
  replace rh := Rs.below rh hb
  replace rc := Rs.below rc hb
  replace bl := (Fr.grow bl hb)
  replace sd := A.sd sd
  clear A hb
  clear x0
  clear x1
  clear x2
  clear x17
  show Code.wp _ _ _ _ _
  refine wp_ret ?_
  repeat (first | with_reducible refine then_ret ?_ | with_reducible refine block_ret ?_)
  exact bodyPost_ret (v := .int .i64 11) (ret_slot rfl f3 _ x6 _ _) sd.2 ⟨rfl, m0, rh, rc, bl⟩
theorem tm_form {w : World} {x h c Ch Cc size done : Nat} {left : Int} {armed dn : Bool} {has cch : List (List (BitVec 8))} (m0 : Ob w x 66 [.slice (some ⟨h, 0, none⟩) has.length Ch, .slice (some ⟨c, 0, none⟩) has.length Cc, .int .i64 (size : Int), .int .i64 (left), .int .i64 (done : Int), .bool armed, .bool dn]) (rh : Rs w h has) (rc : Rs w c cch) {b : List (BitVec 8)} {vb : Value} (hbF : ∀ {W : World}, Fr (fun j => j = x ∨ j = h ∨ j = c) w W → (Fk.sl b).f vb W) {j : Nat} (hj : j < has.length) (hf : b.length ≠ size) :
    Calls Try.prog 32 #[.pointer (some ⟨x, 0, none⟩), .int .i64 (j : Int), vb] w fun e w' => e = .returned (.int .i64 10) ∧ Ob w' x 66 [.slice (some ⟨h, 0, none⟩) has.length Ch, .slice (some ⟨c, 0, none⟩) has.length Cc, .int .i64 (size : Int), .int .i64 (left), .int .i64 (done : Int), .bool armed, .bool dn] ∧ Rs w' h has ∧ Rs w' c cch ∧ Fr (fun j => j = x ∨ j = h ∨ j = c) w w' := by
  go_enter Try.func32, Try.ntmps32
  refine code_both (fun f w1 => f.tmps.size = 39 ∧ f.defers = [] ∧ f.eval (.tmp 0) = .pointer (some ⟨x, 0, none⟩) ∧ f.eval (.tmp 1) = .int .i64 (j : Int) ∧ f.eval (.tmp 2) = vb ∧ Ob w1 x 66 ([.slice (some ⟨h, 0, none⟩) has.length Ch, .slice (some ⟨c, 0, none⟩) has.length Cc, .int .i64 (size : Int), .int .i64 (left), .int .i64 (done : Int), .bool armed, .bool dn]) ∧ Rs w1 h has ∧ Rs w1 c cch ∧ Fr (fun j => j = x ∨ j = h ∨ j = c) w (w1)) ⟨rfl, rfl, rfl, rfl, rfl, m0, rh, rc, Fr.refl _ _⟩ ?_
  clear m0 rh rc
  rintro f0 w0 ⟨sz, df, x0, x1, x2, m0, rh, rc, bl⟩
  have sd := And.intro sz df
  clear sz df
  have bl0 := bl
  refine wp_seq ?_
  refine wr_a [.eq (.int .i64 0)] (by rw [sd.1]; kernel_rfl) ⟨fun hw ac u K => ?_, trivial⟩ ?_
  · exact st_assign (.const (.int .i64 0)) rfl rfl
  intro f1 w1 A hb
  replace x0 := A.t x0 rfl
  replace x1 := A.t x1 rfl
  replace x2 := A.t x2 rfl
  replace m0 := Ob.below m0 hb
  replace rh := Rs.below rh hb
  replace rc := Rs.below rc hb
  replace bl := (Fr.grow bl hb)
  replace sd := A.sd sd
  clear A hb
  show Code.wp _ _ _ _ _
  refine wp_seq ?_
  refine wp_seq ?_
  refine wr_a [.eq (.int .i64 (j : Int)), .eq (.bool false), .eq (.bool false), .eq (.int .i64 (j : Int)), .eq (.pointer (some ⟨x, 0, none⟩)), .eq (.pointer (some ⟨x, 0, none⟩)), .eq (.pointer (some ⟨x, 0, none⟩)), .eq (.slice (some ⟨h, 0, none⟩) has.length Ch), .eq (.int .i64 (has.length : Int)), .eq (.bool false), .eq (.bool false)] (by rw [sd.1]; kernel_rfl) ⟨fun hw ac u K => ?_, fun hw ac u K => ?_, fun hw ac u K => ?_, fun hw ac u K => ?_, fun hw ac u K => ?_, fun hw ac u K => ?_, fun hw ac u K => ?_, fun hw ac u K => ?_, fun hw ac u K => ?_, fun hw ac u K => ?_, fun hw ac u K => ?_, trivial⟩ ?_
  · exact st_move (.tmp 1) rfl (K.t x1 rfl)
  · exact st_lss 3 (.tmp 7) (.const (.int .i64 0)) rfl .i64 ((j : Int)) (0) (K.dep 0 7 rfl) rfl _ (by rw [eq_comm, decide_eq_false_iff_not]; omega)
  · exact st_move (.tmp 8) rfl (K.dep 1 8 rfl)
  · exact st_move (.tmp 1) rfl (K.t x1 rfl)
  · exact st_move (.tmp 0) rfl (K.t x0 rfl)
  · exact st_nil (.tmp 11) rfl (K.dep 4 11 rfl)
  · exact st_field 66 0 (.tmp 12) rfl (K.dep 5 12 rfl) (by kernel_rfl)
  · exact st_loadc 45 (.tmp 13) rfl (by kernel_rfl) (K.dep 6 13 rfl) (Ob.cell (Ob.below m0 K.grow) 0 rfl)
  · exact st_lens (.tmp 14) rfl (K.dep 7 14 rfl)
  · exact st_geq 3 (.tmp 10) (.tmp 15) rfl .i64 ((j : Int)) ((has.length : Int)) (K.dep 3 10 rfl) (K.dep 8 15 rfl) _ (by rw [eq_comm, decide_eq_false_iff_not]; omega)
  · exact st_pick_f' (.tmp 9) (.const (.bool true)) (.tmp 16) rfl (K.dep 2 9 rfl) (K.dep 9 16 rfl)
  intro f2 w2 A hb
  replace x0 := A.t x0 rfl
  replace x1 := A.t x1 rfl
  replace x2 := A.t x2 rfl
  have x17 := A.e 10 17 rfl rfl
  replace m0 := Ob.below m0 hb
  replace rh := Rs.below rh hb
  replace rc := Rs.below rc hb
  replace bl := (Fr.grow bl hb)
  replace sd := A.sd sd
  clear A hb
  show Code.wp _ _ _ _ _
  refine wp_cond_false x17 ?_
  refine wp_skip ?_
  show Code.wp _ _ _ _ _
  refine wp_seq ?_
  refine wp_seq ?_
  refine wr_a [.eq (vb), .eq (.int .i64 (((b).length : Nat) : Int)), .eq (.pointer (some ⟨x, 0, none⟩)), .eq (.pointer (some ⟨x, 0, none⟩)), .eq (.pointer (some ⟨x, 2, none⟩)), .eq (.int .i64 (size : Int)), .eq (.bool true)] (by rw [sd.1]; kernel_rfl) ⟨fun hw ac u K => ?_, fun hw ac u K => ?_, fun hw ac u K => ?_, fun hw ac u K => ?_, fun hw ac u K => ?_, fun hw ac u K => ?_, fun hw ac u K => ?_, trivial⟩ ?_
  · exact st_move (.tmp 2) rfl (K.t x2 rfl)
  · exact st_lenb (.tmp 18) rfl (fk_val (K.dep 0 18 rfl) (hbF (Fr.grow bl K.grow)))
  · exact st_move (.tmp 0) rfl (K.t x0 rfl)
  · exact st_nil (.tmp 20) rfl (K.dep 2 20 rfl)
  · exact st_field 66 2 (.tmp 21) rfl (K.dep 3 21 rfl) (by kernel_rfl)
  · exact st_loadc 3 (.tmp 22) rfl (by kernel_rfl) (K.dep 4 22 rfl) (Ob.cell (Ob.below m0 K.grow) 2 rfl)
  · exact st_neqi 3 (.tmp 19) (.tmp 23) rfl .i64 ((((b).length : Nat) : Int)) ((size : Int)) (K.dep 1 19 rfl) (K.dep 5 23 rfl) _ (by rw [eq_comm, decide_eq_true_iff]; omega)
  intro f3 w3 A hb
  replace x0 := A.t x0 rfl
  replace x1 := A.t x1 rfl
  replace x2 := A.t x2 rfl
  replace x17 := A.t x17 rfl
  have x24 := A.e 6 24 rfl rfl
  replace m0 := Ob.below m0 hb
  replace rh := Rs.below rh hb
  replace rc := Rs.below rc hb
  replace bl := (Fr.grow bl hb)
  replace sd := A.sd sd
  clear A hb
  clear x17
  show Code.wp _ _ _ _ _
  refine wp_cond_true x24 ?_
  refine wp_seq ?_
  refine wr_a [.eq (.int .i64 10)] (by rw [sd.1]; kernel_rfl) ⟨fun hw ac u K => ?_, trivial⟩ ?_
  · exact st_assign (.const (.int .i64 10)) rfl rfl
  intro f4 w4 A hb
  replace x0 := A.t x0 rfl
  replace x1 := A.t x1 rfl
  replace x2 := A.t x2 rfl
  replace x24 := A.t x24 rfl
  have x6 := A.e 0 6 rfl rfl
  replace m0 := Ob.below m0 hb
  replace rh := Rs.below rh hb
  replace rc := Rs.below rc hb
  replace bl := (Fr.grow bl hb)
  replace sd := A.sd sd
  clear A hb
  clear x0
  clear x1
  clear x2
  clear x24
  show Code.wp _ _ _ _ _
  refine wp_ret ?_
  repeat (first | with_reducible refine then_ret ?_ | with_reducible refine block_ret ?_)
  exact bodyPost_ret (v := .int .i64 10) (ret_slot rfl f4 _ x6 _ _) sd.2 ⟨rfl, m0, rh, rc, bl⟩
theorem tm_ok {w : World} {x h c Ch Cc size done : Nat} {left : Int} {armed dn : Bool} {has cch : List (List (BitVec 8))} (m0 : Ob w x 66 [.slice (some ⟨h, 0, none⟩) has.length Ch, .slice (some ⟨c, 0, none⟩) has.length Cc, .int .i64 (size : Int), .int .i64 (left), .int .i64 (done : Int), .bool armed, .bool dn]) (rh : Rs w h has) (rc : Rs w c cch) (n1 : x ≠ h) (n2 : x ≠ c) (n3 : h ≠ c) {b : List (BitVec 8)} {vb : Value} (hbF : ∀ {W : World}, Fr (fun j => j = x ∨ j = h ∨ j = c) w W → (Fk.sl b).f vb W) (hl : cch.length = has.length) {j : Nat} (hj : j < has.length) (hf : b.length = size) :
    Calls Try.prog 32 #[.pointer (some ⟨x, 0, none⟩), .int .i64 (j : Int), vb] w fun e w' => e = .returned (.int .i64 0) ∧ Ob w' x 66 [.slice (some ⟨h, 0, none⟩) has.length Ch, .slice (some ⟨c, 0, none⟩) has.length Cc, .int .i64 (size : Int), .int .i64 (left), .int .i64 (done : Int), .bool armed, .bool dn] ∧ Rs w' h (has.set j b) ∧ Rs w' c (cch.set j []) ∧ Fr (fun j => j = x ∨ j = h ∨ j = c) w w' := by
  have hjc : j < cch.length := by omega
  go_enter Try.func32, Try.ntmps32
  refine code_both (fun f w1 => f.tmps.size = 39 ∧ f.defers = [] ∧ f.eval (.tmp 0) = .pointer (some ⟨x, 0, none⟩) ∧ f.eval (.tmp 1) = .int .i64 (j : Int) ∧ f.eval (.tmp 2) = vb ∧ Ob w1 x 66 ([.slice (some ⟨h, 0, none⟩) has.length Ch, .slice (some ⟨c, 0, none⟩) has.length Cc, .int .i64 (size : Int), .int .i64 (left), .int .i64 (done : Int), .bool armed, .bool dn]) ∧ Rs w1 h has ∧ Rs w1 c cch ∧ Fr (fun j => j = x ∨ j = h ∨ j = c) w (w1)) ⟨rfl, rfl, rfl, rfl, rfl, m0, rh, rc, Fr.refl _ _⟩ ?_
  clear m0 rh rc
  rintro f0 w0 ⟨sz, df, x0, x1, x2, m0, rh, rc, bl⟩
  have sd := And.intro sz df
  clear sz df
  have bl0 := bl
  refine wp_seq ?_
  refine wr_a [.eq (.int .i64 0)] (by rw [sd.1]; kernel_rfl) ⟨fun hw ac u K => ?_, trivial⟩ ?_
  · exact st_assign (.const (.int .i64 0)) rfl rfl
  intro f1 w1 A hb
  replace x0 := A.t x0 rfl
  replace x1 := A.t x1 rfl
  replace x2 := A.t x2 rfl
  replace m0 := Ob.below m0 hb
  replace rh := Rs.below rh hb
  replace rc := Rs.below rc hb
  replace bl := (Fr.grow bl hb)
  replace sd := A.sd sd
  clear A hb
  show Code.wp _ _ _ _ _
  refine wp_seq ?_
  refine wp_seq ?_
  refine wr_a [.eq (.int .i64 (j : Int)), .eq (.bool false), .eq (.bool false), .eq (.int .i64 (j : Int)), .eq (.pointer (some ⟨x, 0, none⟩)), .eq (.pointer (some ⟨x, 0, none⟩)), .eq (.pointer (some ⟨x, 0, none⟩)), .eq (.slice (some ⟨h, 0, none⟩) has.length Ch), .eq (.int .i64 (has.length : Int)), .eq (.bool false), .eq (.bool false)] (by rw [sd.1]; kernel_rfl) ⟨fun hw ac u K => ?_, fun hw ac u K => ?_, fun hw ac u K => ?_, fun hw ac u K => ?_, fun hw ac u K => ?_, fun hw ac u K => ?_, fun hw ac u K => ?_, fun hw ac u K => ?_, fun hw ac u K => ?_, fun hw ac u K => ?_, fun hw ac u K => ?_, trivial⟩ ?_
  · exact st_move (.tmp 1) rfl (K.t x1 rfl)
  · exact st_lss 3 (.tmp 7) (.const (.int .i64 0)) rfl .i64 ((j : Int)) (0) (K.dep 0 7 rfl) rfl _ (by rw [eq_comm, decide_eq_false_iff_not]; omega)
  · exact st_move (.tmp 8) rfl (K.dep 1 8 rfl)
  · exact st_move (.tmp 1) rfl (K.t x1 rfl)
  · exact st_move (.tmp 0) rfl (K.t x0 rfl)
  · exact st_nil (.tmp 11) rfl (K.dep 4 11 rfl)
  · exact st_field 66 0 (.tmp 12) rfl (K.dep 5 12 rfl) (by kernel_rfl)
  · exact st_loadc 45 (.tmp 13) rfl (by kernel_rfl) (K.dep 6 13 rfl) (Ob.cell (Ob.below m0 K.grow) 0 rfl)
  · exact st_lens (.tmp 14) rfl (K.dep 7 14 rfl)
  · exact st_geq 3 (.tmp 10) (.tmp 15) rfl .i64 ((j : Int)) ((has.length : Int)) (K.dep 3 10 rfl) (K.dep 8 15 rfl) _ (by rw [eq_comm, decide_eq_false_iff_not]; omega)
  · exact st_pick_f' (.tmp 9) (.const (.bool true)) (.tmp 16) rfl (K.dep 2 9 rfl) (K.dep 9 16 rfl)
  intro f2 w2 A hb
  replace x0 := A.t x0 rfl
  replace x1 := A.t x1 rfl
  replace x2 := A.t x2 rfl
  have x17 := A.e 10 17 rfl rfl
  replace m0 := Ob.below m0 hb
  replace rh := Rs.below rh hb
  replace rc := Rs.below rc hb
  replace bl := (Fr.grow bl hb)
  replace sd := A.sd sd
  clear A hb
  show Code.wp _ _ _ _ _
  refine wp_cond_false x17 ?_
  refine wp_skip ?_
  show Code.wp _ _ _ _ _
  refine wp_seq ?_
  refine wp_seq ?_
  refine wr_a [.eq (vb), .eq (.int .i64 (((b).length : Nat) : Int)), .eq (.pointer (some ⟨x, 0, none⟩)), .eq (.pointer (some ⟨x, 0, none⟩)), .eq (.pointer (some ⟨x, 2, none⟩)), .eq (.int .i64 (size : Int)), .eq (.bool false)] (by rw [sd.1]; kernel_rfl) ⟨fun hw ac u K => ?_, fun hw ac u K => ?_, fun hw ac u K => ?_, fun hw ac u K => ?_, fun hw ac u K => ?_, fun hw ac u K => ?_, fun hw ac u K => ?_, trivial⟩ ?_
  · exact st_move (.tmp 2) rfl (K.t x2 rfl)
  · exact st_lenb (.tmp 18) rfl (fk_val (K.dep 0 18 rfl) (hbF (Fr.grow bl K.grow)))
  · exact st_move (.tmp 0) rfl (K.t x0 rfl)
  · exact st_nil (.tmp 20) rfl (K.dep 2 20 rfl)
  · exact st_field 66 2 (.tmp 21) rfl (K.dep 3 21 rfl) (by kernel_rfl)
  · exact st_loadc 3 (.tmp 22) rfl (by kernel_rfl) (K.dep 4 22 rfl) (Ob.cell (Ob.below m0 K.grow) 2 rfl)
  · exact st_neqi 3 (.tmp 19) (.tmp 23) rfl .i64 ((((b).length : Nat) : Int)) ((size : Int)) (K.dep 1 19 rfl) (K.dep 5 23 rfl) _ (by rw [eq_comm, decide_eq_false_iff_not]; omega)
  intro f3 w3 A hb
  replace x0 := A.t x0 rfl
  replace x1 := A.t x1 rfl
  replace x2 := A.t x2 rfl
  replace x17 := A.t x17 rfl
  have x24 := A.e 6 24 rfl rfl
  replace m0 := Ob.below m0 hb
  replace rh := Rs.below rh hb
  replace rc := Rs.below rc hb
  replace bl := (Fr.grow bl hb)
  replace sd := A.sd sd
  clear A hb
  clear x17
  show Code.wp _ _ _ _ _
  refine wp_cond_false x24 ?_
  refine wp_skip ?_
  show Code.wp _ _ _ _ _
  refine wp_seq ?_
  refine wr_t [.eq (.pointer (some ⟨x, 0, none⟩)), .eq (.pointer (some ⟨x, 0, none⟩)), .eq (.pointer (some ⟨x, 0, none⟩)), .eq (.slice (some ⟨h, 0, none⟩) has.length Ch), .eq (.int .i64 (j : Int)), .eq (vb), .eq (.string (str (b))), .eq (.pointer (some ⟨h, j, none⟩))] [8] Try.mixed (by rw [sd.1]; kernel_rfl) ⟨fun hw ac u K => ?_, fun hw ac u K => ?_, fun hw ac u K => ?_, fun hw ac u K => ?_, fun hw ac u K => ?_, fun hw ac u K => ?_, fun hw ac u K => ?_, fun hw ac u K => ?_, trivial⟩ ?_
  · exact st_move (.tmp 0) rfl (K.t x0 rfl)
  · exact st_nil (.tmp 25) rfl (K.dep 0 25 rfl)
  · exact st_field 66 0 (.tmp 26) rfl (K.dep 1 26 rfl) (by kernel_rfl)
  · exact st_loadc 45 (.tmp 27) rfl (by kernel_rfl) (K.dep 2 27 rfl) (Ob.cell (Ob.below m0 K.grow) 0 rfl)
  · exact st_move (.tmp 1) rfl (K.t x1 rfl)
  · exact st_move (.tmp 2) rfl (K.t x2 rfl)
  · exact st_stra (.tmp 30) rfl (fk_val (K.dep 5 30 rfl) (hbF (Fr.grow bl K.grow)))
  · exact st_idxs (.tmp 28) (.tmp 29) rfl (K.dep 3 28 rfl) (j) (K.dep 4 29 rfl) hj
  intro f4 w4 A hb
  replace x0 := A.t x0 rfl
  replace x1 := A.t x1 rfl
  replace x2 := A.t x2 rfl
  replace x24 := A.t x24 rfl
  have x31 := A.e 6 31 rfl rfl
  have x32 := A.e 7 32 rfl rfl
  replace m0 := Ob.below m0 hb
  replace rh := Rs.below rh hb
  replace rc := Rs.below rc hb
  replace bl := (Fr.grow bl hb)
  replace sd := A.sd sd
  clear A hb
  clear x2
  clear x24
  refine wl_stc 9 rfl (.tmp 32) (.tmp 31) rfl rfl (by kernel_rfl) h (j) (.string (str (b))) x32 x31 rfl rfl (rh.there hj) ?_
  replace m0 : Ob (w4.setCell ⟨h, j, none⟩ (.string (str (b)))) x 66 [.slice (some ⟨h, 0, none⟩) has.length Ch, .slice (some ⟨c, 0, none⟩) has.length Cc, .int .i64 (size : Int), .int .i64 (left), .int .i64 (done : Int), .bool armed, .bool dn] := Ob.setCell_other m0 _ _ n1
  replace rc := Rs.other (b := h) (i := j) (v := .string (str (b))) rc n3.symm
  replace rh := Rs.set rh hj (b)
  replace bl : Fr (fun j => j = x ∨ j = h ∨ j = c) w (w4.setCell ⟨h, j, none⟩ (.string (str (b)))) := bl.setCell (.inl (.inr (.inl rfl))) _
  generalize w4.setCell ⟨h, j, none⟩ (.string (str (b))) = w5b at bl m0 rh rc ⊢
  replace bl0 := bl
  refine wpList_nil ?_
  clear x31
  clear x32
  show Code.wp _ _ _ _ _
  refine wp_seq ?_
  refine wr_s [.eq (.pointer (some ⟨x, 0, none⟩)), .eq (.pointer (some ⟨x, 0, none⟩)), .eq (.pointer (some ⟨x, 1, none⟩)), .eq (.slice (some ⟨c, 0, none⟩) has.length Cc), .eq (.int .i64 (j : Int)), .eq (.pointer (some ⟨c, j, none⟩))] (by rw [sd.1]; kernel_rfl) ⟨fun hw ac u K => ?_, fun hw ac u K => ?_, fun hw ac u K => ?_, fun hw ac u K => ?_, fun hw ac u K => ?_, fun hw ac u K => ?_, trivial⟩ ?_
  · exact st_move (.tmp 0) rfl (K.t x0 rfl)
  · exact st_nil (.tmp 33) rfl (K.dep 0 33 rfl)
  · exact st_field 66 1 (.tmp 34) rfl (K.dep 1 34 rfl) (by kernel_rfl)
  · exact st_loadc 45 (.tmp 35) rfl (by kernel_rfl) (K.dep 2 35 rfl) (Ob.cell (Ob.below m0 K.grow) 1 rfl)
  · exact st_move (.tmp 1) rfl (K.t x1 rfl)
  · exact st_idxs (.tmp 36) (.tmp 37) rfl (K.dep 3 36 rfl) (j) (K.dep 4 37 rfl) hj
  intro f6 w6 A hb
  replace x0 := A.t x0 rfl
  replace x1 := A.t x1 rfl
  have x38 := A.e 5 38 rfl rfl
  replace m0 := Ob.below m0 hb
  replace rh := Rs.below rh hb
  replace rc := Rs.below rc hb
  replace bl := (Fr.grow bl hb)
  replace sd := A.sd sd
  clear A hb
  clear x0
  clear x1
  refine wl_stc 9 rfl (.tmp 38) (.const (.string { data := #[] })) rfl rfl (by kernel_rfl) c (j) (.string (str ([]))) x38 rfl rfl rfl (rc.there hjc) ?_
  replace m0 : Ob (w6.setCell ⟨c, j, none⟩ (.string (str ([])))) x 66 [.slice (some ⟨h, 0, none⟩) has.length Ch, .slice (some ⟨c, 0, none⟩) has.length Cc, .int .i64 (size : Int), .int .i64 (left), .int .i64 (done : Int), .bool armed, .bool dn] := Ob.setCell_other m0 _ _ n2
  replace rh := Rs.other (b := c) (i := j) (v := .string (str ([]))) rh n3
  replace rc := Rs.set rc hjc ([])
  replace bl : Fr (fun j => j = x ∨ j = h ∨ j = c) w (w6.setCell ⟨c, j, none⟩ (.string (str ([])))) := bl.setCell (.inl (.inr (.inr rfl))) _
  generalize w6.setCell ⟨c, j, none⟩ (.string (str ([]))) = w7b at bl m0 rh rc ⊢
  replace bl0 := bl
  refine wpList_nil ?_
  clear x38
  show Code.wp _ _ _ _ _
  refine wp_seq ?_
  refine wr_a [.eq (.int .i64 0)] (by rw [sd.1]; kernel_rfl) ⟨fun hw ac u K => ?_, trivial⟩ ?_
  · exact st_assign (.const (.int .i64 0)) rfl rfl
  intro f8 w8 A hb
  have x6 := A.e 0 6 rfl rfl
  replace m0 := Ob.below m0 hb
  replace rh := Rs.below rh hb
  replace rc := Rs.below rc hb
  replace bl := (Fr.grow bl hb)
  replace sd := A.sd sd
  clear A hb
  show Code.wp _ _ _ _ _
  refine wp_ret ?_
  repeat (first | with_reducible refine then_ret ?_ | with_reducible refine block_ret ?_)
  exact bodyPost_ret (v := .int .i64 0) (ret_slot rfl f8 _ x6 _ _) sd.2 ⟨rfl, m0, rh, rc, bl⟩
theorem ref_tamper {w : World} {x h c : Nat} {s : Dst} (hx : HX w x h c s) (i : Int) {b : List (BitVec 8)} {vb : Value} (hbF : ∀ {W : World}, Fr (fun j => j = x ∨ j = h ∨ j = c) w W → (Fk.sl b).f vb W) :
    Calls Try.prog 32 #[.pointer (some ⟨x, 0, none⟩), .int .i64 i, vb] w fun e w' => e = .returned (.int .i64 (tmr s i b).1) ∧ HX w' x h c (tmr s i b).2 ∧ Fr (fun j => j = x ∨ j = h ∨ j = c) w w' := by
  obtain ⟨Ch, Cc, m0, rh, rc, hl, n1, n2, n3, ha, hm⟩ := hx
  obtain ⟨has, cch, size, left, done, armed, down⟩ := s
  dsimp only at *
  by_cases hi : i < 0 ∨ (has.length : Int) ≤ i
  · refine (tm_range m0 rh rc hi).mono ?_
    rintro e w' ⟨rfl, q0, q1, q2, q3⟩
    have e1 : tmr ⟨has, cch, size, left, done, armed, down⟩ i b = (11, ⟨has, cch, size, left, done, armed, down⟩) := by simp only [tmr, if_pos hi]
    rw [e1]
    exact ⟨rfl, ⟨Ch, Cc, q0, q1, q2, hl, n1, n2, n3, ha, hm⟩, q3⟩
  · obtain ⟨j, rfl⟩ : ∃ j : Nat, i = (j : Int) := ⟨i.toNat, by omega⟩
    by_cases hf : b.length = size
    · refine (tm_ok m0 rh rc n1 n2 n3 hbF hl (j := j) (by omega) hf).mono ?_
      rintro e w' ⟨rfl, q0, q1, q2, q3⟩
      have e1 : tmr ⟨has, cch, size, left, done, armed, down⟩ (j : Int) b = (0, ⟨has.set j b, cch.set j [], size, left, done, armed, down⟩) := by simp only [tmr, if_neg hi, hf, ne_eq, not_true, if_false, Int.toNat_natCast]
      rw [e1]
      refine ⟨rfl, ⟨Ch, Cc, ?_, q1, q2, ?_, n1, n2, n3, ha, hm⟩, q3⟩
      · show Ob _ _ _ [.slice _ (has.set j b).length _, .slice _ (has.set j b).length _, _, _, _, _, _]
        rw [List.length_set]
        exact q0
      · show (cch.set j []).length = (has.set j b).length
        rw [List.length_set, List.length_set]
        exact hl
    · refine (tm_form m0 rh rc hbF (j := j) (by omega) hf).mono ?_
      rintro e w' ⟨rfl, q0, q1, q2, q3⟩
      have e1 : tmr ⟨has, cch, size, left, done, armed, down⟩ (j : Int) b = (10, ⟨has, cch, size, left, done, armed, down⟩) := by simp only [tmr, if_neg hi, ne_eq, hf, not_false_eq_true, if_true]
      rw [e1]
      exact ⟨rfl, ⟨Ch, Cc, q0, q1, q2, hl, n1, n2, n3, ha, hm⟩, q3⟩
end Go.Proofs.Ytjdpomilifnlaaa
