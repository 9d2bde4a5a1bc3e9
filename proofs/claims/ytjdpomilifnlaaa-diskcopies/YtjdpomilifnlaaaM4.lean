/- The reference's settle, Flush, Crash. Slices of hashes that are cut: what is told of them. Slices of numbers, and of pairs of numbers: of the call's own, and to be read. The reference's Crash. -/
import Derived.Test.YtjdpomilifnlaaaM3
import Derived.Test.YtjdpomilifnlaaaM2
namespace Go.Proofs.Ytjdpomilifnlaaa
set_option maxRecDepth 100000
open Go.RowKit
/-- The rows behind k rounds. -/
def hk (hs cs : List (List (BitVec 8))) (k : Nat) : List (List (BitVec 8)) := (List.zipWith pickc hs cs).take k ++ hs.drop k
def ck (cs : List (List (BitVec 8))) (k : Nat) : List (List (BitVec 8)) := (cs.map fun _ => []).take k ++ cs.drop k
theorem hk_zero (hs cs : List (List (BitVec 8))) : hk hs cs 0 = hs := by simp [hk]
theorem ck_zero (cs : List (List (BitVec 8))) : ck cs 0 = cs := by simp [ck]
theorem two_step {α : Type} {A B : List α} {k : Nat} {a b : α} (ha : A[k]? = some a) (hb : B[k]? = some b) : A.take k ++ B.drop k = (A.take k ++ [b]) ++ B.drop (k + 1) ∧ A.take (k + 1) = A.take k ++ [a] := by
  have hlt := (List.getElem?_eq_some_iff.1 hb).1
  constructor
  · rw [List.drop_eq_getElem_cons hlt, (List.getElem?_eq_some_iff.1 hb).2, List.append_assoc]
    rfl
  · rw [List.take_add_one, ha]
    rfl
theorem two_set {α : Type} {A B : List α} {k : Nat} {a b : α} (ha : A[k]? = some a) (hb : B[k]? = some b) : (A.take k ++ B.drop k).set k a = A.take (k + 1) ++ B.drop (k + 1) := by
  obtain ⟨e1, e2⟩ := two_step ha hb
  have hA := (List.getElem?_eq_some_iff.1 ha).1
  have hl : (A.take k).length = k := by rw [List.length_take]; omega
  rw [e1, e2, List.append_assoc, List.append_assoc, List.set_append_right _ _ (by omega), hl, Nat.sub_self]
  rfl
theorem two_same {α : Type} {A B : List α} {k : Nat} {a : α} (ha : A[k]? = some a) (hb : B[k]? = some a) : A.take k ++ B.drop k = A.take (k + 1) ++ B.drop (k + 1) := by
  obtain ⟨e1, e2⟩ := two_step ha hb
  rw [e1, e2]
theorem two_at {α : Type} {A B : List α} {k : Nat} {b : α} (hl : A.length = B.length) (hb : B[k]? = some b) : (A.take k ++ B.drop k)[k]? = some b := by
  have hlt := (List.getElem?_eq_some_iff.1 hb).1
  have h2 : (A.take k).length = k := by rw [List.length_take]; omega
  rw [List.getElem?_append_right (by omega), h2, Nat.sub_self, List.getElem?_drop]
  exact hb
theorem two_all {α : Type} {A B : List α} {n : Nat} (h1 : A.length = n) (h2 : B.length = n) : A.take n ++ B.drop n = A := by
  rw [List.take_of_length_le (by omega), List.drop_eq_nil_of_le (by omega), List.append_nil]
theorem zip_at {hs cs : List (List (BitVec 8))} {k : Nat} {a b : List (BitVec 8)} (ha : hs[k]? = some a) (hb : cs[k]? = some b) : (List.zipWith pickc hs cs)[k]? = some (pickc a b) := by rw [List.getElem?_zipWith, ha, hb]
theorem map_at {cs : List (List (BitVec 8))} {k : Nat} {b : List (BitVec 8)} (hb : cs[k]? = some b) : (cs.map fun _ => ([] : List (BitVec 8)))[k]? = some [] := by rw [List.getElem?_map, hb]; rfl
theorem hk_len {hs cs : List (List (BitVec 8))} (hl : cs.length = hs.length) (k : Nat) (hk_ : k ≤ hs.length) : (hk hs cs k).length = hs.length := by
  unfold hk
  rw [List.length_append, List.length_take, List.length_drop, List.length_zipWith]
  omega
theorem ck_len (cs : List (List (BitVec 8))) (k : Nat) (h : k ≤ cs.length) : (ck cs k).length = cs.length := by
  unfold ck
  rw [List.length_append, List.length_take, List.length_drop, List.length_map]
  omega
theorem settle_any {w : World} {x h c Ch Cc size done : Nat} {left : Int} {armed dn : Bool} {has cch : List (List (BitVec 8))} (m0 : Ob w x 66 [.slice (some ⟨h, 0, none⟩) has.length Ch, .slice (some ⟨c, 0, none⟩) has.length Cc, .int .i64 (size : Int), .int .i64 (left), .int .i64 (done : Int), .bool armed, .bool dn]) (rh : Rs w h has) (rc : Rs w c cch) (n1 : x ≠ h) (n2 : x ≠ c) (n3 : h ≠ c) (hl : cch.length = has.length) (h60 : has.length ≤ 100000) :
    Calls Try.prog 36 #[.pointer (some ⟨x, 0, none⟩)] w fun e w' => e = .returned (.tuple #[]) ∧ Ob w' x 66 [.slice (some ⟨h, 0, none⟩) has.length Ch, .slice (some ⟨c, 0, none⟩) has.length Cc, .int .i64 (size : Int), .int .i64 (left), .int .i64 (done : Int), .bool armed, .bool dn] ∧ Rs w' h (List.zipWith pickc has cch) ∧ Rs w' c (cch.map fun _ => []) ∧ Fr (fun j => j = x ∨ j = h ∨ j = c) w w' := by
  go_enter Try.func36, Try.ntmps36
  refine code_both (fun f w1 => f.tmps.size = 39 ∧ f.defers = [] ∧ f.eval (.tmp 0) = .pointer (some ⟨x, 0, none⟩) ∧ Ob w1 x 66 ([.slice (some ⟨h, 0, none⟩) has.length Ch, .slice (some ⟨c, 0, none⟩) has.length Cc, .int .i64 (size : Int), .int .i64 (left), .int .i64 (done : Int), .bool armed, .bool dn]) ∧ Rs w1 h has ∧ Rs w1 c cch ∧ Fr (fun j => j = x ∨ j = h ∨ j = c) w (w1)) ⟨rfl, rfl, rfl, m0, rh, rc, Fr.refl _ _⟩ ?_
  clear m0 rh rc
  rintro f0 w0 ⟨sz, df, x0, m0, rh, rc, bl⟩
  have sd := And.intro sz df
  clear sz df
  have bl0 := bl
  refine wp_seq ?_
  refine wr_a [.eq (.int .i64 0)] (by rw [sd.1]; kernel_rfl) ⟨fun hw ac u K => ?_, trivial⟩ ?_
  · exact st_assign (.const (.int .i64 0)) rfl rfl
  intro f1 w1 A hb
  replace x0 := A.t x0 rfl
  have x2 := A.e 0 2 rfl rfl
  replace m0 := Ob.below m0 hb
  replace rh := Rs.below rh hb
  replace rc := Rs.below rc hb
  replace bl := (Fr.grow bl hb)
  replace sd := A.sd sd
  clear A hb
  show Code.wp _ _ _ _ _
  refine wp_block ?_
  refine wp_loop (fun f v1 => ∃ k : Nat, k ≤ has.length ∧ f.tmps.size = 39 ∧ f.defers = [] ∧ f.eval (.tmp 0) = .pointer (some ⟨x, 0, none⟩) ∧ f.eval (.tmp 2) = .int .i64 (k : Int) ∧ Ob v1 (x) 66 ([.slice (some ⟨h, 0, none⟩) has.length Ch, .slice (some ⟨c, 0, none⟩) has.length Cc, .int .i64 (size : Int), .int .i64 (left), .int .i64 (done : Int), .bool armed, .bool dn]) ∧ Rs v1 h (hk has cch k) ∧ Rs v1 c (ck cch k) ∧ Fr (fun j => j = x ∨ j = h ∨ j = c) w (v1)) (fun f _ => (has).length - (intOf (f.eval (.tmp 2))).toNat) ⟨0, Nat.zero_le _, sd.1, sd.2, x0, x2, m0, (by rw [hk_zero]; exact rh), (by rw [ck_zero]; exact rc), bl⟩ ?_
  intro f2 w2 hI
  clear sd bl bl0 x0 x2 m0 rh rc
  obtain ⟨k, hk8, sz, df, x0, x2, m0, rh, rc, bl⟩ := hI
  have sd := And.intro sz df
  clear sz df
  have bl0 := bl
  have hcnt := x2
  refine wp_seq ?_
  refine wp_seq ?_
  by_cases hlt : k < has.length
  rotate_left
  · skip
    have hk9 : k = has.length := by omega
    rw [hk9] at rh rc
    rw [show hk has cch has.length = List.zipWith pickc has cch from two_all (by rw [List.length_zipWith]; omega) rfl] at rh
    rw [show ck cch has.length = cch.map (fun _ => []) from two_all (by rw [List.length_map]; exact hl) hl] at rc
    refine wr_a [.eq (.int .i64 (k : Int)), .eq (.pointer (some ⟨x, 0, none⟩)), .eq (.pointer (some ⟨x, 0, none⟩)), .eq (.pointer (some ⟨x, 0, none⟩)), .eq (.slice (some ⟨h, 0, none⟩) has.length Ch), .eq (.int .i64 (has.length : Int)), .eq (.bool false)] (by rw [sd.1]; kernel_rfl) ⟨fun hw ac u K => ?_, fun hw ac u K => ?_, fun hw ac u K => ?_, fun hw ac u K => ?_, fun hw ac u K => ?_, fun hw ac u K => ?_, fun hw ac u K => ?_, trivial⟩ ?_
    · exact st_move (.tmp 2) rfl (K.t x2 rfl)
    · exact st_move (.tmp 0) rfl (K.t x0 rfl)
    · exact st_nil (.tmp 4) rfl (K.dep 1 4 rfl)
    · exact st_field 66 0 (.tmp 5) rfl (K.dep 2 5 rfl) (by kernel_rfl)
    · exact st_loadc 45 (.tmp 6) rfl (by kernel_rfl) (K.dep 3 6 rfl) (Ob.cell (Ob.below m0 K.grow) 0 rfl)
    · exact st_lens (.tmp 7) rfl (K.dep 4 7 rfl)
    · exact st_lss 3 (.tmp 3) (.tmp 8) rfl .i64 ((k : Int)) ((has.length : Int)) (K.dep 0 3 rfl) (K.dep 5 8 rfl) _ (by rw [eq_comm, decide_eq_false_iff_not]; omega)
    intro f3 w3 A hb
    replace x0 := A.t x0 rfl
    replace x2 := A.t x2 rfl
    have x9 := A.e 6 9 rfl rfl
    replace m0 := Ob.below m0 hb
    replace rh := Rs.below rh hb
    replace rc := Rs.below rc hb
    replace bl := (Fr.grow bl hb)
    replace sd := A.sd sd
    clear A hb
    show Code.wp _ _ _ _ _
    refine wp_cond_false x9 ?_
    refine wp_exit ?_
    repeat (first | with_reducible refine then_exit ?_ | with_reducible refine block_exit ?_)
    show bodyPost _ _ _ _ _ _
    exact bodyPost_end (results_none rfl _ _ _) sd.2 ⟨rfl, m0, rh, rc, bl⟩
  obtain ⟨yh, hyh⟩ : ∃ y, has[k]? = some y := ⟨_, List.getElem?_eq_getElem hlt⟩
  obtain ⟨yc, hyc⟩ : ∃ y, cch[k]? = some y := ⟨_, List.getElem?_eq_getElem (by omega)⟩
  have hck : k < cch.length := by omega
  have hzk := zip_at hyh hyc
  have hmk := map_at hyc
  have hrc : (ck cch k)[k]? = some yc := two_at (by rw [List.length_map]) hyc
  have hl1 : k < (hk has cch k).length := by rw [hk_len hl k (by omega)]; exact hlt
  have hl2 : k < (ck cch k).length := by rw [ck_len cch k (by omega)]; exact hck
  refine wr_a [.eq (.int .i64 (k : Int)), .eq (.pointer (some ⟨x, 0, none⟩)), .eq (.pointer (some ⟨x, 0, none⟩)), .eq (.pointer (some ⟨x, 0, none⟩)), .eq (.slice (some ⟨h, 0, none⟩) has.length Ch), .eq (.int .i64 (has.length : Int)), .eq (.bool true)] (by rw [sd.1]; kernel_rfl) ⟨fun hw ac u K => ?_, fun hw ac u K => ?_, fun hw ac u K => ?_, fun hw ac u K => ?_, fun hw ac u K => ?_, fun hw ac u K => ?_, fun hw ac u K => ?_, trivial⟩ ?_
  · exact st_move (.tmp 2) rfl (K.t x2 rfl)
  · exact st_move (.tmp 0) rfl (K.t x0 rfl)
  · exact st_nil (.tmp 4) rfl (K.dep 1 4 rfl)
  · exact st_field 66 0 (.tmp 5) rfl (K.dep 2 5 rfl) (by kernel_rfl)
  · exact st_loadc 45 (.tmp 6) rfl (by kernel_rfl) (K.dep 3 6 rfl) (Ob.cell (Ob.below m0 K.grow) 0 rfl)
  · exact st_lens (.tmp 7) rfl (K.dep 4 7 rfl)
  · exact st_lss 3 (.tmp 3) (.tmp 8) rfl .i64 ((k : Int)) ((has.length : Int)) (K.dep 0 3 rfl) (K.dep 5 8 rfl) _ (by rw [eq_comm, decide_eq_true_iff]; omega)
  intro f3 w3 A hb
  replace x0 := A.t x0 rfl
  replace x2 := A.t x2 rfl
  have x9 := A.e 6 9 rfl rfl
  replace m0 := Ob.below m0 hb
  replace rh := Rs.below rh hb
  replace rc := Rs.below rc hb
  replace bl := (Fr.grow bl hb)
  replace sd := A.sd sd
  clear A hb
  show Code.wp _ _ _ _ _
  refine wp_cond_true x9 ?_
  refine wp_skip ?_
  show Code.wp _ _ _ _ _
  refine wp_seq ?_
  refine wp_block ?_
  refine wp_seq ?_
  by_cases hq : yc = []
  rotate_left
  · skip
    refine wr_a [.eq (.pointer (some ⟨x, 0, none⟩)), .eq (.pointer (some ⟨x, 0, none⟩)), .eq (.pointer (some ⟨x, 1, none⟩)), .eq (.slice (some ⟨c, 0, none⟩) has.length Cc), .eq (.int .i64 (k : Int)), .eq (.pointer (some ⟨c, k, none⟩)), .eq (.string (str (yc))), .eq (.bool true)] (by rw [sd.1]; kernel_rfl) ⟨fun hw ac u K => ?_, fun hw ac u K => ?_, fun hw ac u K => ?_, fun hw ac u K => ?_, fun hw ac u K => ?_, fun hw ac u K => ?_, fun hw ac u K => ?_, fun hw ac u K => ?_, trivial⟩ ?_
    · exact st_move (.tmp 0) rfl (K.t x0 rfl)
    · exact st_nil (.tmp 12) rfl (K.dep 0 12 rfl)
    · exact st_field 66 1 (.tmp 13) rfl (K.dep 1 13 rfl) (by kernel_rfl)
    · exact st_loadc 45 (.tmp 14) rfl (by kernel_rfl) (K.dep 2 14 rfl) (Ob.cell (Ob.below m0 K.grow) 1 rfl)
    · exact st_move (.tmp 2) rfl (K.t x2 rfl)
    · exact st_idxs (.tmp 15) (.tmp 16) rfl (K.dep 3 15 rfl) (k) (K.dep 4 16 rfl) (by omega)
    · exact st_loadc 9 (.tmp 17) rfl (by kernel_rfl) (K.dep 5 17 rfl) ((Rs.below rc K.grow).cell hrc)
    · exact st_nes (.tmp 18) (.const (.string { data := #[] })) rfl (str (yc)) _ (K.dep 6 18 rfl) rfl _ (by symm; rw [decide_eq_true_iff]; exact fun h => hq ((str_nil _).1 h))
    intro f4 w4 A hb
    replace x0 := A.t x0 rfl
    replace x2 := A.t x2 rfl
    replace x9 := A.t x9 rfl
    have x19 := A.e 7 19 rfl rfl
    replace m0 := Ob.below m0 hb
    replace rh := Rs.below rh hb
    replace rc := Rs.below rc hb
    replace bl := (Fr.grow bl hb)
    replace sd := A.sd sd
    clear A hb
    clear x9
    show Code.wp _ _ _ _ _
    refine wp_cond_true x19 ?_
    refine wp_seq ?_
    refine wr_t [.eq (.pointer (some ⟨x, 0, none⟩)), .eq (.pointer (some ⟨x, 0, none⟩)), .eq (.pointer (some ⟨x, 0, none⟩)), .eq (.slice (some ⟨h, 0, none⟩) has.length Ch), .eq (.int .i64 (k : Int)), .eq (.pointer (some ⟨x, 0, none⟩)), .eq (.pointer (some ⟨x, 0, none⟩)), .eq (.pointer (some ⟨x, 1, none⟩)), .eq (.slice (some ⟨c, 0, none⟩) has.length Cc), .eq (.int .i64 (k : Int)), .eq (.pointer (some ⟨c, k, none⟩)), .eq (.string (str (yc))), .eq (.pointer (some ⟨h, k, none⟩))] [13] Try.mixed (by rw [sd.1]; kernel_rfl) ⟨fun hw ac u K => ?_, fun hw ac u K => ?_, fun hw ac u K => ?_, fun hw ac u K => ?_, fun hw ac u K => ?_, fun hw ac u K => ?_, fun hw ac u K => ?_, fun hw ac u K => ?_, fun hw ac u K => ?_, fun hw ac u K => ?_, fun hw ac u K => ?_, fun hw ac u K => ?_, fun hw ac u K => ?_, trivial⟩ ?_
    · exact st_move (.tmp 0) rfl (K.t x0 rfl)
    · exact st_nil (.tmp 20) rfl (K.dep 0 20 rfl)
    · exact st_field 66 0 (.tmp 21) rfl (K.dep 1 21 rfl) (by kernel_rfl)
    · exact st_loadc 45 (.tmp 22) rfl (by kernel_rfl) (K.dep 2 22 rfl) (Ob.cell (Ob.below m0 K.grow) 0 rfl)
    · exact st_move (.tmp 2) rfl (K.t x2 rfl)
    · exact st_move (.tmp 0) rfl (K.t x0 rfl)
    · exact st_nil (.tmp 25) rfl (K.dep 5 25 rfl)
    · exact st_field 66 1 (.tmp 26) rfl (K.dep 6 26 rfl) (by kernel_rfl)
    · exact st_loadc 45 (.tmp 27) rfl (by kernel_rfl) (K.dep 7 27 rfl) (Ob.cell (Ob.below m0 K.grow) 1 rfl)
    · exact st_move (.tmp 2) rfl (K.t x2 rfl)
    · exact st_idxs (.tmp 28) (.tmp 29) rfl (K.dep 8 28 rfl) (k) (K.dep 9 29 rfl) (by omega)
    · exact st_loadc 9 (.tmp 30) rfl (by kernel_rfl) (K.dep 10 30 rfl) ((Rs.below rc K.grow).cell hrc)
    · exact st_idxs (.tmp 23) (.tmp 24) rfl (K.dep 3 23 rfl) (k) (K.dep 4 24 rfl) (by omega)
    intro f5 w5 A hb
    replace x0 := A.t x0 rfl
    replace x2 := A.t x2 rfl
    replace x19 := A.t x19 rfl
    have x31 := A.e 11 31 rfl rfl
    have x32 := A.e 12 32 rfl rfl
    replace m0 := Ob.below m0 hb
    replace rh := Rs.below rh hb
    replace rc := Rs.below rc hb
    replace bl := (Fr.grow bl hb)
    replace sd := A.sd sd
    clear A hb
    clear x19
    refine wl_stc 9 rfl (.tmp 32) (.tmp 31) rfl rfl (by kernel_rfl) h (k) (.string (str (yc))) x32 x31 rfl rfl (rh.there hl1) ?_
    replace m0 : Ob (w5.setCell ⟨h, k, none⟩ (.string (str (yc)))) x 66 [.slice (some ⟨h, 0, none⟩) has.length Ch, .slice (some ⟨c, 0, none⟩) has.length Cc, .int .i64 (size : Int), .int .i64 (left), .int .i64 (done : Int), .bool armed, .bool dn] := Ob.setCell_other m0 _ _ n1
    replace rc := Rs.other (b := h) (i := k) (v := .string (str (yc))) rc n3.symm
    replace rh := Rs.set rh hl1 (yc)
    replace bl : Fr (fun j => j = x ∨ j = h ∨ j = c) w (w5.setCell ⟨h, k, none⟩ (.string (str (yc)))) := bl.setCell (.inl (.inr (.inl rfl))) _
    generalize w5.setCell ⟨h, k, none⟩ (.string (str (yc))) = w6b at bl m0 rh rc ⊢
    replace bl0 := bl
    refine wpList_nil ?_
    clear x31
    clear x32
    show Code.wp _ _ _ _ _
    refine wr_s [.eq (.pointer (some ⟨x, 0, none⟩)), .eq (.pointer (some ⟨x, 0, none⟩)), .eq (.pointer (some ⟨x, 1, none⟩)), .eq (.slice (some ⟨c, 0, none⟩) has.length Cc), .eq (.int .i64 (k : Int)), .eq (.pointer (some ⟨c, k, none⟩))] (by rw [sd.1]; kernel_rfl) ⟨fun hw ac u K => ?_, fun hw ac u K => ?_, fun hw ac u K => ?_, fun hw ac u K => ?_, fun hw ac u K => ?_, fun hw ac u K => ?_, trivial⟩ ?_
    · exact st_move (.tmp 0) rfl (K.t x0 rfl)
    · exact st_nil (.tmp 33) rfl (K.dep 0 33 rfl)
    · exact st_field 66 1 (.tmp 34) rfl (K.dep 1 34 rfl) (by kernel_rfl)
    · exact st_loadc 45 (.tmp 35) rfl (by kernel_rfl) (K.dep 2 35 rfl) (Ob.cell (Ob.below m0 K.grow) 1 rfl)
    · exact st_move (.tmp 2) rfl (K.t x2 rfl)
    · exact st_idxs (.tmp 36) (.tmp 37) rfl (K.dep 3 36 rfl) (k) (K.dep 4 37 rfl) (by omega)
    intro f7 w7 A hb
    replace x0 := A.t x0 rfl
    replace x2 := A.t x2 rfl
    have x38 := A.e 5 38 rfl rfl
    replace m0 := Ob.below m0 hb
    replace rh := Rs.below rh hb
    replace rc := Rs.below rc hb
    replace bl := (Fr.grow bl hb)
    replace sd := A.sd sd
    clear A hb
    refine wl_stc 9 rfl (.tmp 38) (.const (.string { data := #[] })) rfl rfl (by kernel_rfl) c (k) (.string (str ([]))) x38 rfl rfl rfl (rc.there hl2) ?_
    replace m0 : Ob (w7.setCell ⟨c, k, none⟩ (.string (str ([])))) x 66 [.slice (some ⟨h, 0, none⟩) has.length Ch, .slice (some ⟨c, 0, none⟩) has.length Cc, .int .i64 (size : Int), .int .i64 (left), .int .i64 (done : Int), .bool armed, .bool dn] := Ob.setCell_other m0 _ _ n2
    replace rh := Rs.other (b := c) (i := k) (v := .string (str ([]))) rh n3
    replace rc := Rs.set rc hl2 ([])
    replace bl : Fr (fun j => j = x ∨ j = h ∨ j = c) w (w7.setCell ⟨c, k, none⟩ (.string (str ([])))) := bl.setCell (.inl (.inr (.inr rfl))) _
    generalize w7.setCell ⟨c, k, none⟩ (.string (str ([]))) = w8b at bl m0 rh rc ⊢
    replace bl0 := bl
    refine wpList_nil ?_
    clear x38
    show Code.wp _ _ _ _ _
    replace rh : Rs w8b h (hk has cch (k + 1)) := by
      have e : (hk has cch k).set k yc = hk has cch (k + 1) := by
        have e2 := two_set (A := List.zipWith pickc has cch) (B := has) hzk hyh
        rw [show pickc yh yc = yc by unfold pickc; rw [if_neg hq]] at e2
        exact e2
      rw [← e]; exact rh
    replace rc : Rs w8b c (ck cch (k + 1)) := by
      have e : (ck cch k).set k [] = ck cch (k + 1) := two_set hmk hyc
      rw [← e]; exact rc
    refine wr_s [.eq (.int .i64 (k : Int)), .eq (.int .i64 ((k + 1 : Nat) : Int))] (by rw [sd.1]; kernel_rfl) ⟨fun hw ac u K => ?_, fun hw ac u K => ?_, trivial⟩ ?_
    · exact st_move (.tmp 2) rfl (K.t x2 rfl)
    · exact st_add (.tmp 10) (.const (.int .i64 1)) rfl (k) (1) (k + 1) (K.dep 0 10 rfl) rfl (by omega) (by omega)
    intro f9 w9 A hb
    replace x0 := A.t x0 rfl
    replace x2 := A.t x2 rfl
    have x11 := A.e 1 11 rfl rfl
    replace m0 := Ob.below m0 hb
    replace rh := Rs.below rh hb
    replace rc := Rs.below rc hb
    replace bl := (Fr.grow bl hb)
    replace sd := A.sd sd
    clear A hb
    refine wl_one (.eq (.int .i64 ((k + 1 : Nat) : Int))) rfl 2 rfl (by rw [sd.1]; decide) (st_assign (.tmp 11) rfl x11) ?_
    intro f10 w10 df2 sz2 old2 new2 hb
    replace x0 := tr old2 x0 rfl
    clear x2
    replace x11 := tr old2 x11 rfl
    have x2 := Fk.e new2
    replace m0 := Ob.below m0 hb
    replace rh := Rs.below rh hb
    replace rc := Rs.below rc hb
    replace bl := (Fr.grow bl hb)
    replace sd := sd2 sz2 df2 sd
    clear df2 sz2 old2 new2 hb
    refine wpList_nil ?_
    clear x11
    show (∃ _, _) ∧ _
    refine ⟨⟨k + 1, by omega, sd.1, sd.2, x0, x2, m0, rh, rc, bl⟩, ?_⟩
    rw [show f10.eval (.tmp 2) = _ from x2, show _ = _ from hcnt]
    first | (simp [intOf]; done) | (simp [intOf]; omega)
  refine wr_a [.eq (.pointer (some ⟨x, 0, none⟩)), .eq (.pointer (some ⟨x, 0, none⟩)), .eq (.pointer (some ⟨x, 1, none⟩)), .eq (.slice (some ⟨c, 0, none⟩) has.length Cc), .eq (.int .i64 (k : Int)), .eq (.pointer (some ⟨c, k, none⟩)), .eq (.string (str (yc))), .eq (.bool false)] (by rw [sd.1]; kernel_rfl) ⟨fun hw ac u K => ?_, fun hw ac u K => ?_, fun hw ac u K => ?_, fun hw ac u K => ?_, fun hw ac u K => ?_, fun hw ac u K => ?_, fun hw ac u K => ?_, fun hw ac u K => ?_, trivial⟩ ?_
  · exact st_move (.tmp 0) rfl (K.t x0 rfl)
  · exact st_nil (.tmp 12) rfl (K.dep 0 12 rfl)
  · exact st_field 66 1 (.tmp 13) rfl (K.dep 1 13 rfl) (by kernel_rfl)
  · exact st_loadc 45 (.tmp 14) rfl (by kernel_rfl) (K.dep 2 14 rfl) (Ob.cell (Ob.below m0 K.grow) 1 rfl)
  · exact st_move (.tmp 2) rfl (K.t x2 rfl)
  · exact st_idxs (.tmp 15) (.tmp 16) rfl (K.dep 3 15 rfl) (k) (K.dep 4 16 rfl) (by omega)
  · exact st_loadc 9 (.tmp 17) rfl (by kernel_rfl) (K.dep 5 17 rfl) ((Rs.below rc K.grow).cell hrc)
  · exact st_nes (.tmp 18) (.const (.string { data := #[] })) rfl (str (yc)) _ (K.dep 6 18 rfl) rfl _ (by rw [hq]; rfl)
  intro f4 w4 A hb
  replace x0 := A.t x0 rfl
  replace x2 := A.t x2 rfl
  replace x9 := A.t x9 rfl
  have x19 := A.e 7 19 rfl rfl
  replace m0 := Ob.below m0 hb
  replace rh := Rs.below rh hb
  replace rc := Rs.below rc hb
  replace bl := (Fr.grow bl hb)
  replace sd := A.sd sd
  clear A hb
  clear x9
  show Code.wp _ _ _ _ _
  refine wp_cond_false x19 ?_
  refine wp_skip ?_
  show Code.wp _ _ _ _ _
  replace rh : Rs w4 h (hk has cch (k + 1)) := by
    have e : hk has cch k = hk has cch (k + 1) := two_same (by rw [hzk]; unfold pickc; rw [if_pos hq]) hyh
    rw [← e]; exact rh
  replace rc : Rs w4 c (ck cch (k + 1)) := by
    have e : ck cch k = ck cch (k + 1) := two_same hmk (by rw [hyc, hq])
    rw [← e]; exact rc
  refine wr_s [.eq (.int .i64 (k : Int)), .eq (.int .i64 ((k + 1 : Nat) : Int))] (by rw [sd.1]; kernel_rfl) ⟨fun hw ac u K => ?_, fun hw ac u K => ?_, trivial⟩ ?_
  · exact st_move (.tmp 2) rfl (K.t x2 rfl)
  · exact st_add (.tmp 10) (.const (.int .i64 1)) rfl (k) (1) (k + 1) (K.dep 0 10 rfl) rfl (by omega) (by omega)
  intro f5 w5 A hb
  replace x0 := A.t x0 rfl
  replace x2 := A.t x2 rfl
  replace x19 := A.t x19 rfl
  have x11 := A.e 1 11 rfl rfl
  replace m0 := Ob.below m0 hb
  replace rh := Rs.below rh hb
  replace rc := Rs.below rc hb
  replace bl := (Fr.grow bl hb)
  replace sd := A.sd sd
  clear A hb
  clear x19
  refine wl_one (.eq (.int .i64 ((k + 1 : Nat) : Int))) rfl 2 rfl (by rw [sd.1]; decide) (st_assign (.tmp 11) rfl x11) ?_
  intro f6 w6 df2 sz2 old2 new2 hb
  replace x0 := tr old2 x0 rfl
  clear x2
  replace x11 := tr old2 x11 rfl
  have x2 := Fk.e new2
  replace m0 := Ob.below m0 hb
  replace rh := Rs.below rh hb
  replace rc := Rs.below rc hb
  replace bl := (Fr.grow bl hb)
  replace sd := sd2 sz2 df2 sd
  clear df2 sz2 old2 new2 hb
  refine wpList_nil ?_
  clear x11
  show (∃ _, _) ∧ _
  refine ⟨⟨k + 1, by omega, sd.1, sd.2, x0, x2, m0, rh, rc, bl⟩, ?_⟩
  rw [show f6.eval (.tmp 2) = _ from x2, show _ = _ from hcnt]
  first | (simp [intOf]; done) | (simp [intOf]; omega)
theorem ref_settle {w : World} {x h c : Nat} {s : Dst} (hx : HX w x h c s) (h60 : s.has.length ≤ 100000) :
    Calls Try.prog 36 #[.pointer (some ⟨x, 0, none⟩)] w fun e w' => e = .returned (.tuple #[]) ∧ HX w' x h c (stl s) ∧ Fr (fun j => j = x ∨ j = h ∨ j = c) w w' := by
  obtain ⟨Ch, Cc, m0, rh, rc, hl, n1, n2, n3, ha, hm⟩ := hx
  obtain ⟨has, cch, size, left, done, armed, down⟩ := s
  dsimp only at *
  refine (settle_any m0 rh rc n1 n2 n3 hl h60).mono ?_
  rintro e w' ⟨rfl, q0, q1, q2, q3⟩
  have e1 : (List.zipWith pickc has cch).length = has.length := by rw [List.length_zipWith]; omega
  refine ⟨rfl, ⟨Ch, Cc, ?_, q1, q2, ?_, n1, n2, n3, ha, hm⟩, q3⟩
  · show Ob _ _ _ [.slice _ (List.zipWith pickc has cch).length _, .slice _ (List.zipWith pickc has cch).length _, _, _, _, _, _]
    rw [e1]
    exact q0
  · show (cch.map fun _ => []).length = (List.zipWith pickc has cch).length
    rw [List.length_map, e1]
    exact hl
theorem fl_down {w : World} {x h c Ch Cc size done : Nat} {left : Int} {armed : Bool} {has cch : List (List (BitVec 8))} (m0 : Ob w x 66 [.slice (some ⟨h, 0, none⟩) has.length Ch, .slice (some ⟨c, 0, none⟩) has.length Cc, .int .i64 (size : Int), .int .i64 (left), .int .i64 (done : Int), .bool armed, .bool true]) (rh : Rs w h has) (rc : Rs w c cch) :
    Calls Try.prog 31 #[.pointer (some ⟨x, 0, none⟩)] w fun e w' => e = .returned (.int .i64 30) ∧ Ob w' x 66 [.slice (some ⟨h, 0, none⟩) has.length Ch, .slice (some ⟨c, 0, none⟩) has.length Cc, .int .i64 (size : Int), .int .i64 (left), .int .i64 (done : Int), .bool armed, .bool true] ∧ Rs w' h has ∧ Rs w' c cch ∧ Fr (fun j => j = x ∨ j = h ∨ j = c) w w' := by
  go_enter Try.func31, Try.ntmps31
  refine code_both (fun f w1 => f.tmps.size = 15 ∧ f.defers = [] ∧ f.eval (.tmp 0) = .pointer (some ⟨x, 0, none⟩) ∧ Ob w1 x 66 ([.slice (some ⟨h, 0, none⟩) has.length Ch, .slice (some ⟨c, 0, none⟩) has.length Cc, .int .i64 (size : Int), .int .i64 (left), .int .i64 (done : Int), .bool armed, .bool true]) ∧ Rs w1 h has ∧ Rs w1 c cch ∧ Fr (fun j => j = x ∨ j = h ∨ j = c) w (w1)) ⟨rfl, rfl, rfl, m0, rh, rc, Fr.refl _ _⟩ ?_
  clear m0 rh rc
  rintro f0 w0 ⟨sz, df, x0, m0, rh, rc, bl⟩
  have sd := And.intro sz df
  clear sz df
  have bl0 := bl
  refine wp_seq ?_
  refine wr_a [.eq (.int .i64 0)] (by rw [sd.1]; kernel_rfl) ⟨fun hw ac u K => ?_, trivial⟩ ?_
  · exact st_assign (.const (.int .i64 0)) rfl rfl
  intro f1 w1 A hb
  replace x0 := A.t x0 rfl
  replace m0 := Ob.below m0 hb
  replace rh := Rs.below rh hb
  replace rc := Rs.below rc hb
  replace bl := (Fr.grow bl hb)
  replace sd := A.sd sd
  clear A hb
  show Code.wp _ _ _ _ _
  refine wp_seq ?_
  refine wp_seq ?_
  refine wr_a [.eq (.pointer (some ⟨x, 0, none⟩)), .eq (.pointer (some ⟨x, 0, none⟩)), .eq (.pointer (some ⟨x, 6, none⟩)), .eq (.bool true)] (by rw [sd.1]; kernel_rfl) ⟨fun hw ac u K => ?_, fun hw ac u K => ?_, fun hw ac u K => ?_, fun hw ac u K => ?_, trivial⟩ ?_
  · exact st_move (.tmp 0) rfl (K.t x0 rfl)
  · exact st_nil (.tmp 4) rfl (K.dep 0 4 rfl)
  · exact st_field 66 6 (.tmp 5) rfl (K.dep 1 5 rfl) (by kernel_rfl)
  · exact st_loadc 4 (.tmp 6) rfl (by kernel_rfl) (K.dep 2 6 rfl) (Ob.cell (Ob.below m0 K.grow) 6 rfl)
  intro f2 w2 A hb
  replace x0 := A.t x0 rfl
  have x7 := A.e 3 7 rfl rfl
  replace m0 := Ob.below m0 hb
  replace rh := Rs.below rh hb
  replace rc := Rs.below rc hb
  replace bl := (Fr.grow bl hb)
  replace sd := A.sd sd
  clear A hb
  show Code.wp _ _ _ _ _
  refine wp_cond_true x7 ?_
  refine wp_seq ?_
  refine wr_a [.eq (.int .i64 30)] (by rw [sd.1]; kernel_rfl) ⟨fun hw ac u K => ?_, trivial⟩ ?_
  · exact st_assign (.const (.int .i64 30)) rfl rfl
  intro f3 w3 A hb
  replace x0 := A.t x0 rfl
  replace x7 := A.t x7 rfl
  have x2 := A.e 0 2 rfl rfl
  replace m0 := Ob.below m0 hb
  replace rh := Rs.below rh hb
  replace rc := Rs.below rc hb
  replace bl := (Fr.grow bl hb)
  replace sd := A.sd sd
  clear A hb
  clear x0
  clear x7
  show Code.wp _ _ _ _ _
  refine wp_ret ?_
  repeat (first | with_reducible refine then_ret ?_ | with_reducible refine block_ret ?_)
  exact bodyPost_ret (v := .int .i64 30) (ret_slot rfl f3 _ x2 _ _) sd.2 ⟨rfl, m0, rh, rc, bl⟩
theorem cmd_has (s : Dst) : (cmd s).2.has = s.has := by unfold cmd; split <;> rfl
theorem fl_up {w : World} {x h c Ch Cc size done : Nat} {left : Int} {armed : Bool} {has cch : List (List (BitVec 8))} (m0 : Ob w x 66 [.slice (some ⟨h, 0, none⟩) has.length Ch, .slice (some ⟨c, 0, none⟩) has.length Cc, .int .i64 (size : Int), .int .i64 (left), .int .i64 (done : Int), .bool armed, .bool false]) (rh : Rs w h has) (rc : Rs w c cch) (n1 : x ≠ h) (n2 : x ≠ c) (n3 : h ≠ c) (hl : cch.length = has.length) (ha : armed = true → 0 ≤ left) (hm : left ≤ 9223372036854775807) (hd : done ≤ 1000000) (h60 : has.length ≤ 100000) :
    Calls Try.prog 31 #[.pointer (some ⟨x, 0, none⟩)] w fun e w' => e = .returned (.int .i64 (cmd (⟨has, cch, size, left, done, armed, false⟩ : Dst)).1) ∧ HX w' x h c (if (cmd (⟨has, cch, size, left, done, armed, false⟩ : Dst)).1 = 0 then stl (cmd (⟨has, cch, size, left, done, armed, false⟩ : Dst)).2 else (cmd (⟨has, cch, size, left, done, armed, false⟩ : Dst)).2) ∧ Fr (fun j => j = x ∨ j = h ∨ j = c) w w' := by
  go_enter Try.func31, Try.ntmps31
  refine code_both (fun f w1 => f.tmps.size = 15 ∧ f.defers = [] ∧ f.eval (.tmp 0) = .pointer (some ⟨x, 0, none⟩) ∧ Ob w1 x 66 ([.slice (some ⟨h, 0, none⟩) has.length Ch, .slice (some ⟨c, 0, none⟩) has.length Cc, .int .i64 (size : Int), .int .i64 (left), .int .i64 (done : Int), .bool armed, .bool false]) ∧ Rs w1 h has ∧ Rs w1 c cch ∧ Fr (fun j => j = x ∨ j = h ∨ j = c) w (w1)) ⟨rfl, rfl, rfl, m0, rh, rc, Fr.refl _ _⟩ ?_
  clear m0 rh rc
  rintro f0 w0 ⟨sz, df, x0, m0, rh, rc, bl⟩
  have sd := And.intro sz df
  clear sz df
  have bl0 := bl
  refine wp_seq ?_
  refine wr_a [.eq (.int .i64 0)] (by rw [sd.1]; kernel_rfl) ⟨fun hw ac u K => ?_, trivial⟩ ?_
  · exact st_assign (.const (.int .i64 0)) rfl rfl
  intro f1 w1 A hb
  replace x0 := A.t x0 rfl
  replace m0 := Ob.below m0 hb
  replace rh := Rs.below rh hb
  replace rc := Rs.below rc hb
  replace bl := (Fr.grow bl hb)
  replace sd := A.sd sd
  clear A hb
  show Code.wp _ _ _ _ _
  refine wp_seq ?_
  refine wp_seq ?_
  refine wr_a [.eq (.pointer (some ⟨x, 0, none⟩)), .eq (.pointer (some ⟨x, 0, none⟩)), .eq (.pointer (some ⟨x, 6, none⟩)), .eq (.bool false)] (by rw [sd.1]; kernel_rfl) ⟨fun hw ac u K => ?_, fun hw ac u K => ?_, fun hw ac u K => ?_, fun hw ac u K => ?_, trivial⟩ ?_
  · exact st_move (.tmp 0) rfl (K.t x0 rfl)
  · exact st_nil (.tmp 4) rfl (K.dep 0 4 rfl)
  · exact st_field 66 6 (.tmp 5) rfl (K.dep 1 5 rfl) (by kernel_rfl)
  · exact st_loadc 4 (.tmp 6) rfl (by kernel_rfl) (K.dep 2 6 rfl) (Ob.cell (Ob.below m0 K.grow) 6 rfl)
  intro f2 w2 A hb
  replace x0 := A.t x0 rfl
  have x7 := A.e 3 7 rfl rfl
  replace m0 := Ob.below m0 hb
  replace rh := Rs.below rh hb
  replace rc := Rs.below rc hb
  replace bl := (Fr.grow bl hb)
  replace sd := A.sd sd
  clear A hb
  show Code.wp _ _ _ _ _
  refine wp_cond_false x7 ?_
  refine wp_skip ?_
  show Code.wp _ _ _ _ _
  refine wp_seq ?_
  refine wr_s [.eq (.pointer (some ⟨x, 0, none⟩))] (by rw [sd.1]; kernel_rfl) ⟨fun hw ac u K => ?_, trivial⟩ ?_
  · exact st_move (.tmp 0) rfl (K.t x0 rfl)
  intro f3 w3 A hb
  replace x0 := A.t x0 rfl
  replace x7 := A.t x7 rfl
  have x8 := A.e 0 8 rfl rfl
  replace m0 := Ob.below m0 hb
  replace rh := Rs.below rh hb
  replace rc := Rs.below rc hb
  replace bl := (Fr.grow bl hb)
  replace sd := A.sd sd
  clear A hb
  clear x7
  have hx : HX w3 x h c (⟨has, cch, size, left, done, armed, false⟩ : Dst) := ⟨Ch, Cc, m0, rh, rc, hl, n1, n2, n3, ha, hm⟩
  refine wl_call 48 (.func 48) _ _ #[.pointer (some ⟨x, 0, none⟩)] rfl 9 rfl (by rw [sd.1]; decide) rfl rfl (one_arg x8) Try.enter48 (fun u W' => u = .int .i64 (cmd (⟨has, cch, size, left, done, armed, false⟩ : Dst)).1 ∧ HX W' x h c ((cmd (⟨has, cch, size, left, done, armed, false⟩ : Dst)).2) ∧ Only x w3 W') ((ref_cmd hx hd).mono (by rintro e w' ⟨rfl, q1, q2⟩; exact ⟨_, rfl, rfl, q1, q2⟩)) ?_
  rintro f4 w4 df2 sz2 old2 ⟨x9, hx2, O⟩
  clear m0 rh rc
  replace x0 := tr old2 x0 rfl
  replace x8 := tr old2 x8 rfl
  replace bl := bl.trans (Fr.of_only O (.inl rfl))
  replace bl0 := bl
  replace sd := sd2 sz2 df2 sd
  clear df2 sz2 old2 O hx
  have hx := hx2
  clear hx2
  clear x8
  refine wl_one (.eq (.int .i64 (cmd (⟨has, cch, size, left, done, armed, false⟩ : Dst)).1)) rfl 3 rfl (by rw [sd.1]; decide) (st_assign (.tmp 9) rfl x9) ?_
  intro f5 w5 df2 sz2 old2 new2 hb
  replace x0 := tr old2 x0 rfl
  replace x9 := tr old2 x9 rfl
  have x3 := Fk.e new2
  replace hx := HX.below hx hb
  replace bl := (Fr.grow bl hb)
  replace sd := sd2 sz2 df2 sd
  clear df2 sz2 old2 new2 hb
  refine wpList_nil ?_
  clear x9
  show Code.wp _ _ _ _ _
  refine wp_seq ?_
  refine wp_seq ?_
  by_cases h0 : (cmd (⟨has, cch, size, left, done, armed, false⟩ : Dst)).1 = 0
  rotate_left
  · skip
    refine wr_a [.eq (.int .i64 (cmd (⟨has, cch, size, left, done, armed, false⟩ : Dst)).1), .eq (.bool false)] (by rw [sd.1]; kernel_rfl) ⟨fun hw ac u K => ?_, fun hw ac u K => ?_, trivial⟩ ?_
    · exact st_move (.tmp 3) rfl (K.t x3 rfl)
    · exact st_eqi 3 (.tmp 10) (.const (.int .i64 0)) rfl .i64 ((cmd (⟨has, cch, size, left, done, armed, false⟩ : Dst)).1) (0) (K.dep 0 10 rfl) rfl _ (by symm; rw [decide_eq_false_iff_not]; exact h0)
    intro f6 w6 A hb
    replace x0 := A.t x0 rfl
    replace x3 := A.t x3 rfl
    have x11 := A.e 1 11 rfl rfl
    replace hx := HX.below hx hb
    replace bl := (Fr.grow bl hb)
    replace sd := A.sd sd
    clear A hb
    show Code.wp _ _ _ _ _
    refine wp_cond_false x11 ?_
    refine wp_skip ?_
    show Code.wp _ _ _ _ _
    refine wp_seq ?_
    refine wr_a [.eq (.int .i64 (cmd (⟨has, cch, size, left, done, armed, false⟩ : Dst)).1), .eq (.int .i64 (cmd (⟨has, cch, size, left, done, armed, false⟩ : Dst)).1)] (by rw [sd.1]; kernel_rfl) ⟨fun hw ac u K => ?_, fun hw ac u K => ?_, trivial⟩ ?_
    · exact st_move (.tmp 3) rfl (K.t x3 rfl)
    · exact st_assign (.tmp 14) rfl (K.dep 0 14 rfl)
    intro f7 w7 A hb
    replace x0 := A.t x0 rfl
    replace x3 := A.t x3 rfl
    replace x11 := A.t x11 rfl
    have x2 := A.e 1 2 rfl rfl
    replace hx := HX.below hx hb
    replace bl := (Fr.grow bl hb)
    replace sd := A.sd sd
    clear A hb
    clear x0
    clear x3
    clear x11
    show Code.wp _ _ _ _ _
    refine wp_ret ?_
    repeat (first | with_reducible refine then_ret ?_ | with_reducible refine block_ret ?_)
    exact bodyPost_ret (v := .int .i64 (cmd (⟨has, cch, size, left, done, armed, false⟩ : Dst)).1) (ret_slot rfl f7 _ x2 _ _) sd.2 ⟨rfl, by rw [if_neg h0]; exact hx, bl⟩
  refine wr_a [.eq (.int .i64 (cmd (⟨has, cch, size, left, done, armed, false⟩ : Dst)).1), .eq (.bool true)] (by rw [sd.1]; kernel_rfl) ⟨fun hw ac u K => ?_, fun hw ac u K => ?_, trivial⟩ ?_
  · exact st_move (.tmp 3) rfl (K.t x3 rfl)
  · exact st_eqi 3 (.tmp 10) (.const (.int .i64 0)) rfl .i64 ((cmd (⟨has, cch, size, left, done, armed, false⟩ : Dst)).1) (0) (K.dep 0 10 rfl) rfl _ (by symm; rw [decide_eq_true_iff]; exact h0)
  intro f6 w6 A hb
  replace x0 := A.t x0 rfl
  replace x3 := A.t x3 rfl
  have x11 := A.e 1 11 rfl rfl
  replace hx := HX.below hx hb
  replace bl := (Fr.grow bl hb)
  replace sd := A.sd sd
  clear A hb
  show Code.wp _ _ _ _ _
  refine wp_cond_true x11 ?_
  refine wr_s [.eq (.pointer (some ⟨x, 0, none⟩))] (by rw [sd.1]; kernel_rfl) ⟨fun hw ac u K => ?_, trivial⟩ ?_
  · exact st_move (.tmp 0) rfl (K.t x0 rfl)
  intro f7 w7 A hb
  replace x0 := A.t x0 rfl
  replace x3 := A.t x3 rfl
  replace x11 := A.t x11 rfl
  have x12 := A.e 0 12 rfl rfl
  replace hx := HX.below hx hb
  replace bl := (Fr.grow bl hb)
  replace sd := A.sd sd
  clear A hb
  clear x0
  clear x11
  refine wl_call 36 (.func 36) _ _ #[.pointer (some ⟨x, 0, none⟩)] rfl 13 rfl (by rw [sd.1]; decide) rfl rfl (one_arg x12) Try.enter36 (fun u W' => u = .tuple #[] ∧ HX W' x h c (stl (cmd (⟨has, cch, size, left, done, armed, false⟩ : Dst)).2) ∧ Fr (fun j => j = x ∨ j = h ∨ j = c) w7 W') ((ref_settle hx (by rw [cmd_has]; exact h60)).mono (by rintro e w' ⟨rfl, q1, q2⟩; exact ⟨_, rfl, rfl, q1, q2⟩)) ?_
  rintro f8 w8 df2 sz2 old2 ⟨x13, hx2, O⟩
  replace x3 := tr old2 x3 rfl
  replace x12 := tr old2 x12 rfl
  replace bl := bl.trans O
  replace bl0 := bl
  replace sd := sd2 sz2 df2 sd
  clear df2 sz2 old2 O hx
  have hx := hx2
  clear hx2
  refine wpList_nil ?_
  clear x12
  clear x13
  show Code.wp _ _ _ _ _
  refine wp_seq ?_
  refine wr_a [.eq (.int .i64 (cmd (⟨has, cch, size, left, done, armed, false⟩ : Dst)).1), .eq (.int .i64 (cmd (⟨has, cch, size, left, done, armed, false⟩ : Dst)).1)] (by rw [sd.1]; kernel_rfl) ⟨fun hw ac u K => ?_, fun hw ac u K => ?_, trivial⟩ ?_
  · exact st_move (.tmp 3) rfl (K.t x3 rfl)
  · exact st_assign (.tmp 14) rfl (K.dep 0 14 rfl)
  intro f9 w9 A hb
  replace x3 := A.t x3 rfl
  have x2 := A.e 1 2 rfl rfl
  replace hx := HX.below hx hb
  replace bl := (Fr.grow bl hb)
  replace sd := A.sd sd
  clear A hb
  clear x3
  show Code.wp _ _ _ _ _
  refine wp_ret ?_
  repeat (first | with_reducible refine then_ret ?_ | with_reducible refine block_ret ?_)
  exact bodyPost_ret (v := .int .i64 (cmd (⟨has, cch, size, left, done, armed, false⟩ : Dst)).1) (ret_slot rfl f9 _ x2 _ _) sd.2 ⟨rfl, by rw [if_pos h0]; exact hx, bl⟩
theorem ref_flush {w : World} {x h c : Nat} {s : Dst} (hx : HX w x h c s) (hd : s.done ≤ 1000000) (h60 : s.has.length ≤ 100000) :
    Calls Try.prog 31 #[.pointer (some ⟨x, 0, none⟩)] w fun e w' => e = .returned (.int .i64 (flu s).1) ∧ HX w' x h c (flu s).2 ∧ Fr (fun j => j = x ∨ j = h ∨ j = c) w w' := by
  obtain ⟨Ch, Cc, m0, rh, rc, hl, n1, n2, n3, ha, hm⟩ := hx
  obtain ⟨has, cch, size, left, done, armed, down⟩ := s
  dsimp only at *
  cases down with
  | true =>
    refine (fl_down m0 rh rc).mono ?_
    rintro e w' ⟨rfl, q0, q1, q2, q3⟩
    have e1 : flu ⟨has, cch, size, left, done, armed, true⟩ = (30, ⟨has, cch, size, left, done, armed, true⟩) := by simp only [flu, if_true]
    rw [e1]
    exact ⟨rfl, ⟨Ch, Cc, q0, q1, q2, hl, n1, n2, n3, ha, hm⟩, q3⟩
  | false =>
    refine (fl_up m0 rh rc n1 n2 n3 hl ha hm hd h60).mono ?_
    rintro e w' ⟨rfl, q1, q2⟩
    by_cases h0 : (cmd ⟨has, cch, size, left, done, armed, false⟩).1 = 0
    · rw [if_pos h0] at q1
      have e1 : flu ⟨has, cch, size, left, done, armed, false⟩ = ((cmd ⟨has, cch, size, left, done, armed, false⟩).1, stl (cmd ⟨has, cch, size, left, done, armed, false⟩).2) := by simp only [flu, Bool.false_eq_true, if_false, if_pos h0]
      rw [e1]
      exact ⟨rfl, q1, q2⟩
    · rw [if_neg h0] at q1
      have e1 : flu ⟨has, cch, size, left, done, armed, false⟩ = cmd ⟨has, cch, size, left, done, armed, false⟩ := by simp only [flu, Bool.false_eq_true, if_false, if_neg h0]
      rw [e1]
      exact ⟨rfl, q1, q2⟩
end Go.Proofs.Ytjdpomilifnlaaa
namespace Go.Proofs.Ytjdpomilifnlaaa
set_option maxRecDepth 100000
open Go.RowKit
/-- A slice that has these hashes, and room for them. -/
def Fk.hc (hs : List (List (BitVec 8))) : Fk := .inr (.inl ⟨fun v w => ∃ A C lb lo, v = .slice A hs.length C ∧ hs.length ≤ C ∧ Hl w A lb lo hs, by
  rintro v w w' ⟨A, C, lb, lo, e, hg, h⟩ hb
  exact ⟨A, C, lb, lo, e, hg, h.below hb⟩⟩)
section
variable {Q : Exit → Act → World → Prop} {o : Oper} {a : Act} {w : World}
end
end Go.Proofs.Ytjdpomilifnlaaa
namespace Go.Proofs.Ytjdpomilifnlaaa
set_option maxRecDepth 100000
open Go.RowKit
/-- A slice of the call's own: n things of a type, of so many cells each. -/
def Fk.orw (base T sz n : Nat) (cs : List Value) : Fk := .inr (.inl ⟨fun v w => w.ownsRow base T sz v n cs, by
  rintro v w w' ⟨h1, h2⟩ hb
  refine ⟨h1, ?_⟩
  rcases h2 with h2 | ⟨g, cap, cur, e, hbg, hg, r⟩
  · exact .inl h2
  · exact .inr ⟨g, cap, cur, e, hbg, by rw [hb.block g (Array.getElem?_eq_some_iff.1 hg).1]; exact hg, r⟩⟩)
/-- A slice that may be read: n things, of so many cells each. -/
def Fk.rdw (sz n : Nat) (cs : List Value) : Fk := .inr (.inl ⟨fun v w => ∃ A C lb lo, v = .slice A n C ∧ (0 < n → A = some ⟨lb, lo, none⟩) ∧ cs.length = n * sz ∧ w.rangeAt lb lo cs, by
  rintro v w w' ⟨A, C, lb, lo, e, h1, h2, h3⟩ hb
  exact ⟨A, C, lb, lo, e, h1, h2, fun j u hj => by have := h3 j u hj; rw [hb.cell (block_lt_of_cell this)]; exact this⟩⟩)
theorem orw_rdw {base T sz n : Nat} {cs : List Value} {v : Value} {w : World} (h : (Fk.orw base T sz n cs).f v w) : (Fk.rdw sz n cs).f v w := by
  obtain ⟨h1, h2⟩ := h
  rcases h2 with ⟨rfl, rfl⟩ | ⟨g, cap, cur, rfl, hbg, hg, hnc, _, hcs, ht⟩
  · have : cs = [] := List.eq_nil_of_length_eq_zero (by rw [h1]; simp)
    subst this
    exact ⟨none, 0, 0, 0, rfl, fun h => absurd h (by decide), by simp, fun j u hj => by simp at hj⟩
  · refine ⟨_, cap, g, 0, rfl, fun _ => rfl, h1, fun j u hj => ?_⟩
    have hjl : j < n * sz := by rw [← h1]; exact (List.getElem?_eq_some_iff.1 hj).1
    rw [cell_of_row _ _ _ _ _ _ hg, Nat.zero_add]
    have e := congrArg (·[j]?) ht
    simp only [List.getElem?_take, hj, if_pos hjl, Array.getElem?_toList] at e
    exact e
theorem orw_nil (base T sz : Nat) (w : World) : (Fk.orw base T sz 0 []).f (.slice none 0 0) w := World.ownsRow_nil _ _ _ _
theorem orw_new {w : World} {base T sz : Nat} {cs : List Value} (hl : cs.length = sz) (hb : base ≤ w.heap.size) : (Fk.orw base T sz 1 cs).f (.slice (some ⟨w.heap.size, 0, none⟩) 1 1) (w.alloc (.cells cs.toArray T)) :=
  ⟨by rw [hl, Nat.one_mul], .inr ⟨w.heap.size, 1, cs.toArray, rfl, hb, heap_alloc_new _ _, Nat.le_refl _, by unfold maxLen; omega, by simp [hl], by simp [← hl]⟩⟩
section
variable {Q : Exit → Act → World → Prop} {o : Oper} {a : Act} {w : World} {ops : Array Oper} {rest : List Oper}
theorem st_lenr (ST T : Nat) (hu : Try.prog.underlying ST = some (.slice T)) (he : Try.prog.elem ST = T) (x : Operand) (ho : o.op = .call { callee := .builtin .len, args := #[x], argTypes := #[ST] }) {sz n : Nat} {cs : List Value} (h : (Fk.rdw sz n cs).f (a.eval x) w) : o.wp Try.prog a w (Ends a o.dst w (Fk.eq (.int .i64 ((n : Nat) : Int))).f) Q := by
  obtain ⟨A, C, lb, lo, e, _⟩ := h
  refine st_pure (v := .int .i64 (n : Int)) ?_ rfl
  have h1 := run_len_slice (P := Try.prog) (w := w) ST o.type A n C (by rw [he]; exact hu)
  unfold execOp
  simp [ho, resolve, invoke, builtin, e, h1, goInt]
/-- A pointer to these cells. -/
def Fk.prg (cs : List Value) : Fk := .inr (.inl ⟨fun v w => ∃ b o, v = .pointer (some ⟨b, o, none⟩) ∧ w.rangeAt b o cs, by
  rintro v w w' ⟨b, o, e, h⟩ hb
  exact ⟨b, o, e, fun j u hj => by have := h j u hj; rw [hb.cell (block_lt_of_cell this)]; exact this⟩⟩)
theorem st_idxr2 (ST T : Nat) (hu : Try.prog.underlying ST = some (.slice T)) (he : Try.prog.elem ST = T) {sz : Nat} (hs : ∀ w, (sizeOf T).run Try.prog w = .ok sz w) (x y : Operand) (ho : o.op = .indexAddr ST x y) {n : Nat} {cs : List Value} (h : (Fk.rdw sz n cs).f (a.eval x) w) (i : Nat) (hy : a.eval y = .int .i64 (i : Int)) (hi : i < n) (ds : List Value) (hd : ∀ (j : Nat) (v : Value), ds[j]? = some v → cs[i * sz + j]? = some v) : o.wp Try.prog a w (Ends a o.dst w (Fk.prg ds).f) Q := by
  obtain ⟨A, C, lb, lo, e, hp, hl, hr⟩ := h
  have hp := hp (by omega)
  subst hp
  refine st_pure (v := .pointer (some ⟨lb, lo + i * sz, none⟩)) ?_ ⟨lb, lo + i * sz, rfl, fun j u hj => by rw [Nat.add_assoc]; exact hr _ _ (hd j u hj)⟩
  have h1 := run_indexAt_slice (P := Try.prog) (w := w) ST ⟨lb, lo, none⟩ n C .i64 (i : Int) (by rw [he]; exact hu)
  rw [if_pos (by omega), he, hs] at h1
  simp only [Result.andThen_ok, Int.toNat_natCast, Addr.add_mid] at h1
  unfold execOp
  rw [ho]
  simp [e, hy, h1]
theorem st_loadr1 (T : TypeId) (x : Operand) (ho : o.op = .load T x) (h1 : (isAgg T).run Try.prog w = .ok false w) {u : Value} (h : (Fk.prg [u]).f (a.eval x) w) : o.wp Try.prog a w (Ends a o.dst w (Fk.eq u).f) Q := by
  obtain ⟨b, so, e, hr⟩ := h
  exact st_loadc T x ho h1 e (by have := hr 0 u rfl; simpa using this)
theorem st_bldr (ST T sz : Nat) (x : Operand) (ho : o.op = .buildSlice ST 1 #[(0, x)]) {u : Value} (cs : List Value) (hx : a.eval x = u) (hr : ∀ w, (Instr.buildSlice ST 1 #[(0, u)]).run Try.prog w = .ok (.slice (some ⟨w.heap.size, 0, none⟩) 1 1) (w.alloc (.cells cs.toArray T))) (hl : cs.length = sz) (g0 : Nat) (hg : g0 ≤ w.heap.size) : o.wp Try.prog a w (Ends a o.dst w (Fk.orw g0 T sz 1 cs).f) Q := by
  refine st_run (v := .slice (some ⟨w.heap.size, 0, none⟩) 1 1) (w' := w.alloc (.cells cs.toArray T)) ?_ ((Below.refl _ _).alloc (Nat.le_refl _) _) (orw_new hl hg)
  unfold execOp
  rw [ho]
  simp [hx, hr]
end
/-- Numbers in cells. -/
def zv (ds : List Int) : List Value := ds.map fun z => .int .i64 z
theorem zv_len (ds : List Int) : (zv ds).length = ds.length := List.length_map _
theorem zv_at {ds : List Int} {i : Nat} {z : Int} (h : ds[i]? = some z) : ∀ (j : Nat) (v : Value), ([.int .i64 z] : List Value)[j]? = some v → (zv ds)[i * 1 + j]? = some v := by
  intro j v hj
  cases j with
  | zero =>
    obtain rfl : Value.int .i64 z = v := by simpa using hj
    simp [zv, h]
  | succ j => simp at hj
/-- Pairs of numbers in cells. -/
def pv2 (ps : List (Nat × Nat)) : List Value := ps.flatMap fun p => [.int .i64 (p.1 : Int), .int .i64 (p.2 : Int)]
/-- Numbers of the call's own; to be read. -/
def Fk.oi (base : Nat) (ds : List Int) : Fk := Fk.orw base 3 1 ds.length (zv ds)
def Fk.is (ds : List Int) : Fk := Fk.rdw 1 ds.length (zv ds)
/-- Pairs of the call's own; to be read. -/
def Fk.op (base : Nat) (ps : List (Nat × Nat)) : Fk := Fk.orw base 52 2 ps.length (pv2 ps)
def Fk.ps (ps : List (Nat × Nat)) : Fk := Fk.rdw 2 ps.length (pv2 ps)
theorem Try.under30z : Try.prog.underlying 30 = some (.slice 3) := by kernel_rfl
theorem Try.elem30z : Try.prog.elem 30 = 3 := by kernel_rfl
theorem Try.size3z (w : World) : (sizeOf 3).run Try.prog w = .ok 1 w := by kernel_rfl
theorem Try.bld3z (z : Int) (w : World) : (Instr.buildSlice 30 1 #[(0, .int .i64 z)]).run Try.prog w = .ok (.slice (some ⟨w.heap.size, 0, none⟩) 1 1) (w.alloc (.cells (zv [z]).toArray 3)) := by kernel_rfl
theorem oi_is {base : Nat} {ds : List Int} {v : Value} {w : World} (h : (Fk.oi base ds).f v w) : (Fk.is ds).f v w := orw_rdw h
section
variable {Q : Exit → Act → World → Prop} {o : Oper} {a : Act} {w : World} {ops : Array Oper} {rest : List Oper}
theorem st_lenis (x : Operand) (ho : o.op = .call { callee := .builtin .len, args := #[x], argTypes := #[30] }) {ds : List Int} (h : (Fk.is ds).f (a.eval x) w) : o.wp Try.prog a w (Ends a o.dst w (Fk.eq (.int .i64 ((ds.length : Nat) : Int))).f) Q := st_lenr 30 3 Try.under30z Try.elem30z x ho h
theorem st_idxis (x y : Operand) (ho : o.op = .indexAddr 30 x y) {ds : List Int} (h : (Fk.is ds).f (a.eval x) w) (i : Nat) (hy : a.eval y = .int .i64 (i : Int)) (z : Int) (hi : ds[i]? = some z) : o.wp Try.prog a w (Ends a o.dst w (Fk.prg [.int .i64 z]).f) Q :=
  st_idxr2 30 3 Try.under30z Try.elem30z Try.size3z x y ho h i hy (List.getElem?_eq_some_iff.1 hi).1 _ (zv_at hi)
theorem st_bi1 (x : Operand) (ho : o.op = .buildSlice 30 1 #[(0, x)]) (z : Int) (hx : a.eval x = .int .i64 z) (g0 : Nat) (hg : g0 ≤ w.heap.size) : o.wp Try.prog a w (Ends a o.dst w (Fk.oi g0 [z]).f) Q := st_bldr 30 3 1 x ho _ hx (Try.bld3z z) rfl g0 hg
end
end Go.Proofs.Ytjdpomilifnlaaa
namespace Go.Proofs.Ytjdpomilifnlaaa
set_option maxRecDepth 100000
open Go.RowKit
/-- One loss. -/
def lose1 (c : List (List (BitVec 8))) (k : Int) : List (List (BitVec 8)) := if 0 ≤ k ∧ k < (c.length : Int) then c.set k.toNat [] else c
theorem lose_eq (c : List (List (BitVec 8))) (l : List Int) : lose c l = l.foldl lose1 c := rfl
theorem lose1_len (c : List (List (BitVec 8))) (k : Int) : (lose1 c k).length = c.length := by
  unfold lose1
  split
  · rw [List.length_set]
  · rfl
theorem lose_len (l : List Int) : ∀ c : List (List (BitVec 8)), (lose c l).length = c.length := by
  induction l with
  | nil => intro c; rfl
  | cons k l ih =>
    intro c
    show (lose (lose1 c k) l).length = c.length
    rw [ih, lose1_len]
theorem lose_take {c : List (List (BitVec 8))} {l : List Int} {k : Nat} {z : Int} (h : l[k]? = some z) : lose c (l.take (k + 1)) = lose1 (lose c (l.take k)) z := by
  rw [lose_eq, lose_eq, List.take_add_one, h, List.foldl_append]
  rfl
theorem lose_zero (c : List (List (BitVec 8))) (l : List Int) : lose c (l.take 0) = c := by rw [List.take_zero]; rfl
theorem crash_any {w : World} {x h c Ch Cc size done : Nat} {left : Int} {armed dn : Bool} {has cch : List (List (BitVec 8))} (m0 : Ob w x 66 [.slice (some ⟨h, 0, none⟩) has.length Ch, .slice (some ⟨c, 0, none⟩) has.length Cc, .int .i64 (size : Int), .int .i64 (left), .int .i64 (done : Int), .bool armed, .bool dn]) (rh : Rs w h has) (rc : Rs w c cch) (n1 : x ≠ h) (n2 : x ≠ c) (n3 : h ≠ c) {L : List Int} {vl : Value} (hlF : ∀ {W : World}, Fr (fun j => j = x ∨ j = h ∨ j = c) w W → (Fk.is L).f vl W) (hl : cch.length = has.length) (ha : armed = true → 0 ≤ left) (hm : left ≤ 9223372036854775807) (h60 : has.length ≤ 100000) (hL : L.length ≤ 100000) :
    Calls Try.prog 15 #[.pointer (some ⟨x, 0, none⟩), vl] w fun e w' => e = .returned (.tuple #[]) ∧ HX w' x h c (crs (⟨has, cch, size, left, done, armed, dn⟩ : Dst) L) ∧ Fr (fun j => j = x ∨ j = h ∨ j = c) w w' := by
  go_enter Try.func15, Try.ntmps15
  refine code_both (fun f w1 => f.tmps.size = 45 ∧ f.defers = [] ∧ f.eval (.tmp 0) = .pointer (some ⟨x, 0, none⟩) ∧ f.eval (.tmp 1) = vl ∧ Ob w1 x 66 ([.slice (some ⟨h, 0, none⟩) has.length Ch, .slice (some ⟨c, 0, none⟩) has.length Cc, .int .i64 (size : Int), .int .i64 (left), .int .i64 (done : Int), .bool armed, .bool dn]) ∧ Rs w1 h has ∧ Rs w1 c cch ∧ Fr (fun j => j = x ∨ j = h ∨ j = c) w (w1)) ⟨rfl, rfl, rfl, rfl, m0, rh, rc, Fr.refl _ _⟩ ?_
  clear m0 rh rc
  rintro f0 w0 ⟨sz, df, x0, x1, m0, rh, rc, bl⟩
  have sd := And.intro sz df
  clear sz df
  have bl0 := bl
  refine wp_seq ?_
  refine wp_seq ?_
  refine wr_a [.eq (.int .i64 0)] (by rw [sd.1]; kernel_rfl) ⟨fun hw ac u K => ?_, trivial⟩ ?_
  · exact st_assign (.const (.int .i64 0)) rfl rfl
  intro f1 w1 A hb
  replace x0 := A.t x0 rfl
  replace x1 := A.t x1 rfl
  have x4 := A.e 0 4 rfl rfl
  replace m0 := Ob.below m0 hb
  replace rh := Rs.below rh hb
  replace rc := Rs.below rc hb
  replace bl := (Fr.grow bl hb)
  replace sd := A.sd sd
  clear A hb
  show Code.wp _ _ _ _ _
  refine wp_block ?_
  refine wp_loop (fun f v1 => ∃ k : Nat, k ≤ L.length ∧ f.tmps.size = 45 ∧ f.defers = [] ∧ f.eval (.tmp 0) = .pointer (some ⟨x, 0, none⟩) ∧ f.eval (.tmp 1) = vl ∧ f.eval (.tmp 4) = .int .i64 (k : Int) ∧ Ob v1 (x) 66 ([.slice (some ⟨h, 0, none⟩) has.length Ch, .slice (some ⟨c, 0, none⟩) has.length Cc, .int .i64 (size : Int), .int .i64 (left), .int .i64 (done : Int), .bool armed, .bool dn]) ∧ Rs v1 h has ∧ Rs v1 c (lose cch (L.take k)) ∧ Fr (fun j => j = x ∨ j = h ∨ j = c) w (v1)) (fun f _ => L.length - (intOf (f.eval (.tmp 4))).toNat) ⟨0, Nat.zero_le _, sd.1, sd.2, x0, x1, x4, m0, rh, (by rw [lose_zero]; exact rc), bl⟩ ?_
  intro f2 w2 hI
  clear sd bl bl0 x0 x1 x4 m0 rh rc
  obtain ⟨k, hk8, sz, df, x0, x1, x4, m0, rh, rc, bl⟩ := hI
  have sd := And.intro sz df
  clear sz df
  have bl0 := bl
  have hcnt := x4
  refine wp_seq ?_
  refine wp_seq ?_
  by_cases hlt : k < L.length
  rotate_left
  · skip
    have hk9 : k = L.length := by omega
    rw [hk9, List.take_of_length_le (Nat.le_refl _)] at rc
    refine wr_a [.eq (.int .i64 (k : Int)), .eq (vl), .eq (.int .i64 (L.length : Int)), .eq (.bool false)] (by rw [sd.1]; kernel_rfl) ⟨fun hw ac u K => ?_, fun hw ac u K => ?_, fun hw ac u K => ?_, fun hw ac u K => ?_, trivial⟩ ?_
    · exact st_move (.tmp 4) rfl (K.t x4 rfl)
    · exact st_move (.tmp 1) rfl (K.t x1 rfl)
    · exact st_lenis (.tmp 6) rfl (fk_val (K.dep 1 6 rfl) (hlF (Fr.grow bl K.grow)))
    · exact st_lss 3 (.tmp 5) (.tmp 7) rfl .i64 ((k : Int)) ((L.length : Int)) (K.dep 0 5 rfl) (K.dep 2 7 rfl) _ (by rw [eq_comm, decide_eq_false_iff_not]; omega)
    intro f3 w3 A hb
    replace x0 := A.t x0 rfl
    replace x1 := A.t x1 rfl
    replace x4 := A.t x4 rfl
    have x8 := A.e 3 8 rfl rfl
    replace m0 := Ob.below m0 hb
    replace rh := Rs.below rh hb
    replace rc := Rs.below rc hb
    replace bl := (Fr.grow bl hb)
    replace sd := A.sd sd
    clear A hb
    show Code.wp _ _ _ _ _
    refine wp_cond_false x8 ?_
    refine wp_exit ?_
    show Code.wp _ _ _ _ _
    refine wp_seq ?_
    have hl9 : (lose cch L).length = has.length := by rw [lose_len]; exact hl
    refine wr_s [.eq (.pointer (some ⟨x, 0, none⟩))] (by rw [sd.1]; kernel_rfl) ⟨fun hw ac u K => ?_, trivial⟩ ?_
    · exact st_move (.tmp 0) rfl (K.t x0 rfl)
    intro f4 w4 A hb
    replace x0 := A.t x0 rfl
    replace x1 := A.t x1 rfl
    replace x4 := A.t x4 rfl
    replace x8 := A.t x8 rfl
    have x37 := A.e 0 37 rfl rfl
    replace m0 := Ob.below m0 hb
    replace rh := Rs.below rh hb
    replace rc := Rs.below rc hb
    replace bl := (Fr.grow bl hb)
    replace sd := A.sd sd
    clear A hb
    clear x8
    have hx : HX w4 x h c (⟨has, lose cch L, size, left, done, armed, dn⟩ : Dst) := ⟨Ch, Cc, m0, rh, rc, hl9, n1, n2, n3, ha, hm⟩
    refine wl_call 36 (.func 36) _ _ #[.pointer (some ⟨x, 0, none⟩)] rfl 38 rfl (by rw [sd.1]; decide) rfl rfl (one_arg x37) Try.enter36 (fun u W' => u = .tuple #[] ∧ HX W' x h c (stl (⟨has, lose cch L, size, left, done, armed, dn⟩ : Dst)) ∧ Fr (fun j => j = x ∨ j = h ∨ j = c) w4 W') ((ref_settle hx h60).mono (by rintro e w' ⟨rfl, q1, q2⟩; exact ⟨_, rfl, rfl, q1, q2⟩)) ?_
    rintro f5 w5 df2 sz2 old2 ⟨x38, hx2, O⟩
    clear m0 rh rc
    replace x0 := tr old2 x0 rfl
    replace x1 := tr old2 x1 rfl
    replace x4 := tr old2 x4 rfl
    replace x37 := tr old2 x37 rfl
    replace bl := bl.trans O
    replace bl0 := bl
    replace sd := sd2 sz2 df2 sd
    clear df2 sz2 old2 O hx
    have hx := hx2
    clear hx2
    refine wpList_nil ?_
    clear x37
    clear x38
    obtain ⟨Ch2, Cc2, m0, rh, rc, hl8, _, _, _, _, _⟩ := hx
    show Code.wp _ _ _ _ _
    refine wp_seq ?_
    refine wr_s [.eq (.pointer (some ⟨x, 0, none⟩)), .eq (.pointer (some ⟨x, 0, none⟩)), .eq (.pointer (some ⟨x, 5, none⟩))] (by rw [sd.1]; kernel_rfl) ⟨fun hw ac u K => ?_, fun hw ac u K => ?_, fun hw ac u K => ?_, trivial⟩ ?_
    · exact st_move (.tmp 0) rfl (K.t x0 rfl)
    · exact st_nil (.tmp 39) rfl (K.dep 0 39 rfl)
    · exact st_field 66 5 (.tmp 40) rfl (K.dep 1 40 rfl) (by kernel_rfl)
    intro f6 w6 A hb
    replace x0 := A.t x0 rfl
    replace x1 := A.t x1 rfl
    replace x4 := A.t x4 rfl
    have x41 := A.e 2 41 rfl rfl
    replace m0 := Ob.below m0 hb
    replace rh := Rs.below rh hb
    replace rc := Rs.below rc hb
    replace bl := (Fr.grow bl hb)
    replace sd := A.sd sd
    clear A hb
    refine wl_stc 4 rfl (.tmp 41) (.const (.bool false)) rfl rfl (by kernel_rfl) (x) 5 (.bool false) x41 rfl rfl rfl (Ob.there m0 5 (by simp)) ?_
    replace rh := Rs.other (b := x) (i := 5) (v := .bool false) rh n1.symm
    replace rc := Rs.other (b := x) (i := 5) (v := .bool false) rc n2.symm
    replace m0 : Ob (w6.setCell ⟨x, 5, none⟩ (.bool false)) (x) 66 ([.slice (some ⟨h, 0, none⟩) (stl (⟨has, lose cch L, size, left, done, armed, dn⟩ : Dst)).has.length Ch2, .slice (some ⟨c, 0, none⟩) (stl (⟨has, lose cch L, size, left, done, armed, dn⟩ : Dst)).has.length Cc2, .int .i64 (((stl (⟨has, lose cch L, size, left, done, armed, dn⟩ : Dst)).size : Nat) : Int), .int .i64 ((stl (⟨has, lose cch L, size, left, done, armed, dn⟩ : Dst)).left), .int .i64 (((stl (⟨has, lose cch L, size, left, done, armed, dn⟩ : Dst)).done : Nat) : Int), .bool false, .bool (stl (⟨has, lose cch L, size, left, done, armed, dn⟩ : Dst)).down]) := Ob.set m0 5 (.bool false)
    replace bl : Fr (fun j => j = x ∨ j = h ∨ j = c) w (w6.setCell ⟨x, 5, none⟩ (.bool false)) := bl.setCell (.inl (.inl rfl)) _
    generalize w6.setCell ⟨x, 5, none⟩ (.bool false) = w7b at bl m0 rh rc ⊢
    refine wpList_nil ?_
    clear x41
    show Code.wp _ _ _ _ _
    refine wr_s [.eq (.pointer (some ⟨x, 0, none⟩)), .eq (.pointer (some ⟨x, 0, none⟩)), .eq (.pointer (some ⟨x, 6, none⟩))] (by rw [sd.1]; kernel_rfl) ⟨fun hw ac u K => ?_, fun hw ac u K => ?_, fun hw ac u K => ?_, trivial⟩ ?_
    · exact st_move (.tmp 0) rfl (K.t x0 rfl)
    · exact st_nil (.tmp 42) rfl (K.dep 0 42 rfl)
    · exact st_field 66 6 (.tmp 43) rfl (K.dep 1 43 rfl) (by kernel_rfl)
    intro f8 w8 A hb
    replace x0 := A.t x0 rfl
    replace x1 := A.t x1 rfl
    replace x4 := A.t x4 rfl
    have x44 := A.e 2 44 rfl rfl
    replace m0 := Ob.below m0 hb
    replace rh := Rs.below rh hb
    replace rc := Rs.below rc hb
    replace bl := (Fr.grow bl hb)
    replace sd := A.sd sd
    clear A hb
    refine wl_stc 4 rfl (.tmp 44) (.const (.bool false)) rfl rfl (by kernel_rfl) (x) 6 (.bool false) x44 rfl rfl rfl (Ob.there m0 6 (by simp)) ?_
    replace rh := Rs.other (b := x) (i := 6) (v := .bool false) rh n1.symm
    replace rc := Rs.other (b := x) (i := 6) (v := .bool false) rc n2.symm
    replace m0 : Ob (w8.setCell ⟨x, 6, none⟩ (.bool false)) (x) 66 ([.slice (some ⟨h, 0, none⟩) (stl (⟨has, lose cch L, size, left, done, armed, dn⟩ : Dst)).has.length Ch2, .slice (some ⟨c, 0, none⟩) (stl (⟨has, lose cch L, size, left, done, armed, dn⟩ : Dst)).has.length Cc2, .int .i64 (((stl (⟨has, lose cch L, size, left, done, armed, dn⟩ : Dst)).size : Nat) : Int), .int .i64 ((stl (⟨has, lose cch L, size, left, done, armed, dn⟩ : Dst)).left), .int .i64 (((stl (⟨has, lose cch L, size, left, done, armed, dn⟩ : Dst)).done : Nat) : Int), .bool false, .bool false]) := Ob.set m0 6 (.bool false)
    replace bl : Fr (fun j => j = x ∨ j = h ∨ j = c) w (w8.setCell ⟨x, 6, none⟩ (.bool false)) := bl.setCell (.inl (.inl rfl)) _
    generalize w8.setCell ⟨x, 6, none⟩ (.bool false) = w9b at bl m0 rh rc ⊢
    refine wpList_nil ?_
    clear x44
    exact bodyPost_end (results_none rfl _ _ _) sd.2 ⟨rfl, ⟨Ch2, Cc2, m0, rh, rc, hl8, n1, n2, n3, (fun e => by cases e), hm⟩, bl⟩
  obtain ⟨z, hz⟩ : ∃ z, L[k]? = some z := ⟨_, List.getElem?_eq_getElem hlt⟩
  have hll := lose_len (L.take k) cch
  refine wr_a [.eq (.int .i64 (k : Int)), .eq (vl), .eq (.int .i64 (L.length : Int)), .eq (.bool true)] (by rw [sd.1]; kernel_rfl) ⟨fun hw ac u K => ?_, fun hw ac u K => ?_, fun hw ac u K => ?_, fun hw ac u K => ?_, trivial⟩ ?_
  · exact st_move (.tmp 4) rfl (K.t x4 rfl)
  · exact st_move (.tmp 1) rfl (K.t x1 rfl)
  · exact st_lenis (.tmp 6) rfl (fk_val (K.dep 1 6 rfl) (hlF (Fr.grow bl K.grow)))
  · exact st_lss 3 (.tmp 5) (.tmp 7) rfl .i64 ((k : Int)) ((L.length : Int)) (K.dep 0 5 rfl) (K.dep 2 7 rfl) _ (by rw [eq_comm, decide_eq_true_iff]; omega)
  intro f3 w3 A hb
  replace x0 := A.t x0 rfl
  replace x1 := A.t x1 rfl
  replace x4 := A.t x4 rfl
  have x8 := A.e 3 8 rfl rfl
  replace m0 := Ob.below m0 hb
  replace rh := Rs.below rh hb
  replace rc := Rs.below rc hb
  replace bl := (Fr.grow bl hb)
  replace sd := A.sd sd
  clear A hb
  show Code.wp _ _ _ _ _
  refine wp_cond_true x8 ?_
  refine wp_skip ?_
  show Code.wp _ _ _ _ _
  refine wp_seq ?_
  refine wp_block ?_
  refine wp_seq ?_
  by_cases h0 : 0 ≤ z
  rotate_left
  · skip
    refine wr_d [.eq (vl), .eq (.int .i64 (k : Int)), .prg [.int .i64 (z)], .eq (.int .i64 (z)), .eq (.bool false), .eq (.bool false), .any, .any, .any, .any, .any, .any, .any, .any, .any, .any, .eq (.bool false)] Try.mixed (by rw [sd.1]; kernel_rfl) ⟨fun hw ac u K => ?_, fun hw ac u K => ?_, fun hw ac u K => ?_, fun hw ac u K => ?_, fun hw ac u K => ?_, fun hw ac u K => ?_, fun hw ac u K => ?_, fun hw ac u K => ?_, fun hw ac u K => ?_, fun hw ac u K => ?_, fun hw ac u K => ?_, fun hw ac u K => ?_, fun hw ac u K => ?_, fun hw ac u K => ?_, fun hw ac u K => ?_, fun hw ac u K => ?_, fun hw ac u K => ?_, trivial⟩ ?_
    · exact st_move (.tmp 1) rfl (K.t x1 rfl)
    · exact st_move (.tmp 4) rfl (K.t x4 rfl)
    · exact st_idxis (.tmp 11) (.tmp 12) rfl (fk_val (K.dep 0 11 rfl) (hlF (Fr.grow bl K.grow))) k (K.dep 1 12 rfl) z hz
    · exact st_loadr1 3 (.tmp 13) rfl (by kernel_rfl) (K.dep 2 13 rfl)
    · exact st_geq 3 (.tmp 14) (.const (.int .i64 0)) rfl .i64 ((z)) (0) (K.dep 3 14 rfl) rfl _ (by symm; rw [decide_eq_false_iff_not]; exact h0)
    · exact st_move (.tmp 15) rfl (K.dep 4 15 rfl)
    · exact (Bool.false_ne_true hw).elim
    · exact (Bool.false_ne_true hw).elim
    · exact (Bool.false_ne_true hw).elim
    · exact (Bool.false_ne_true hw).elim
    · exact (Bool.false_ne_true hw).elim
    · exact (Bool.false_ne_true hw).elim
    · exact (Bool.false_ne_true hw).elim
    · exact (Bool.false_ne_true hw).elim
    · exact (Bool.false_ne_true hw).elim
    · exact (Bool.false_ne_true hw).elim
    · exact st_pick_f' (.tmp 16) (.tmp 26) (.const (.bool false)) rfl (K.dep 5 16 rfl) rfl
    intro f4 w4 A hb
    replace x0 := A.t x0 rfl
    replace x1 := A.t x1 rfl
    replace x4 := A.t x4 rfl
    replace x8 := A.t x8 rfl
    have x27 := A.e 16 27 rfl rfl
    replace m0 := Ob.below m0 hb
    replace rh := Rs.below rh hb
    replace rc := Rs.below rc hb
    replace bl := (Fr.grow bl hb)
    replace sd := A.sd sd
    clear A hb
    clear x8
    show Code.wp _ _ _ _ _
    refine wp_cond_false x27 ?_
    refine wp_skip ?_
    show Code.wp _ _ _ _ _
    replace rc : Rs w4 c (lose cch (L.take (k + 1))) := by rw [lose_take hz]; unfold lose1; rw [if_neg (fun h => h0 h.1)]; exact rc
    refine wr_s [.eq (.int .i64 (k : Int)), .eq (.int .i64 ((k + 1 : Nat) : Int))] (by rw [sd.1]; kernel_rfl) ⟨fun hw ac u K => ?_, fun hw ac u K => ?_, trivial⟩ ?_
    · exact st_move (.tmp 4) rfl (K.t x4 rfl)
    · exact st_add (.tmp 9) (.const (.int .i64 1)) rfl (k) (1) (k + 1) (K.dep 0 9 rfl) rfl (by omega) (by omega)
    intro f5 w5 A hb
    replace x0 := A.t x0 rfl
    replace x1 := A.t x1 rfl
    replace x4 := A.t x4 rfl
    replace x27 := A.t x27 rfl
    have x10 := A.e 1 10 rfl rfl
    replace m0 := Ob.below m0 hb
    replace rh := Rs.below rh hb
    replace rc := Rs.below rc hb
    replace bl := (Fr.grow bl hb)
    replace sd := A.sd sd
    clear A hb
    clear x27
    refine wl_one (.eq (.int .i64 ((k + 1 : Nat) : Int))) rfl 4 rfl (by rw [sd.1]; decide) (st_assign (.tmp 10) rfl x10) ?_
    intro f6 w6 df2 sz2 old2 new2 hb
    replace x0 := tr old2 x0 rfl
    replace x1 := tr old2 x1 rfl
    clear x4
    replace x10 := tr old2 x10 rfl
    have x4 := Fk.e new2
    replace m0 := Ob.below m0 hb
    replace rh := Rs.below rh hb
    replace rc := Rs.below rc hb
    replace bl := (Fr.grow bl hb)
    replace sd := sd2 sz2 df2 sd
    clear df2 sz2 old2 new2 hb
    refine wpList_nil ?_
    clear x10
    show (∃ _, _) ∧ _
    refine ⟨⟨k + 1, by omega, sd.1, sd.2, x0, x1, x4, m0, rh, rc, bl⟩, ?_⟩
    rw [show f6.eval (.tmp 4) = _ from x4, show _ = _ from hcnt]
    first | (simp [intOf]; done) | (simp [intOf]; omega)
  by_cases h1 : z < (has.length : Int)
  rotate_left
  · skip
    refine wr_d [.eq (vl), .eq (.int .i64 (k : Int)), .prg [.int .i64 (z)], .eq (.int .i64 (z)), .eq (.bool true), .eq (.bool true), .eq (vl), .eq (.int .i64 (k : Int)), .prg [.int .i64 (z)], .eq (.int .i64 (z)), .eq (.pointer (some ⟨x, 0, none⟩)), .eq (.pointer (some ⟨x, 0, none⟩)), .eq (.pointer (some ⟨x, 0, none⟩)), .eq (.slice (some ⟨h, 0, none⟩) has.length Ch), .eq (.int .i64 (has.length : Int)), .eq (.bool false), .eq (.bool false)] Try.mixed (by rw [sd.1]; kernel_rfl) ⟨fun hw ac u K => ?_, fun hw ac u K => ?_, fun hw ac u K => ?_, fun hw ac u K => ?_, fun hw ac u K => ?_, fun hw ac u K => ?_, fun hw ac u K => ?_, fun hw ac u K => ?_, fun hw ac u K => ?_, fun hw ac u K => ?_, fun hw ac u K => ?_, fun hw ac u K => ?_, fun hw ac u K => ?_, fun hw ac u K => ?_, fun hw ac u K => ?_, fun hw ac u K => ?_, fun hw ac u K => ?_, trivial⟩ ?_
    · exact st_move (.tmp 1) rfl (K.t x1 rfl)
    · exact st_move (.tmp 4) rfl (K.t x4 rfl)
    · exact st_idxis (.tmp 11) (.tmp 12) rfl (fk_val (K.dep 0 11 rfl) (hlF (Fr.grow bl K.grow))) k (K.dep 1 12 rfl) z hz
    · exact st_loadr1 3 (.tmp 13) rfl (by kernel_rfl) (K.dep 2 13 rfl)
    · exact st_geq 3 (.tmp 14) (.const (.int .i64 0)) rfl .i64 ((z)) (0) (K.dep 3 14 rfl) rfl _ (by symm; rw [decide_eq_true_iff]; exact h0)
    · exact st_move (.tmp 15) rfl (K.dep 4 15 rfl)
    · exact st_move (.tmp 1) rfl (K.t x1 rfl)
    · exact st_move (.tmp 4) rfl (K.t x4 rfl)
    · exact st_idxis (.tmp 17) (.tmp 18) rfl (fk_val (K.dep 6 17 rfl) (hlF (Fr.grow bl K.grow))) k (K.dep 7 18 rfl) z hz
    · exact st_loadr1 3 (.tmp 19) rfl (by kernel_rfl) (K.dep 8 19 rfl)
    · exact st_move (.tmp 0) rfl (K.t x0 rfl)
    · exact st_nil (.tmp 21) rfl (K.dep 10 21 rfl)
    · exact st_field 66 0 (.tmp 22) rfl (K.dep 11 22 rfl) (by kernel_rfl)
    · exact st_loadc 45 (.tmp 23) rfl (by kernel_rfl) (K.dep 12 23 rfl) (Ob.cell (Ob.below m0 K.grow) 0 rfl)
    · exact st_lens (.tmp 24) rfl (K.dep 13 24 rfl)
    · exact st_lss 3 (.tmp 20) (.tmp 25) rfl .i64 ((z)) ((has.length : Int)) (K.dep 9 20 rfl) (K.dep 14 25 rfl) _ (by symm; rw [decide_eq_false_iff_not]; exact h1)
    · exact st_pick_t (.tmp 16) (.tmp 26) (.const (.bool false)) rfl (K.dep 5 16 rfl) (K.dep 15 26 rfl)
    intro f4 w4 A hb
    replace x0 := A.t x0 rfl
    replace x1 := A.t x1 rfl
    replace x4 := A.t x4 rfl
    replace x8 := A.t x8 rfl
    have x27 := A.e 16 27 rfl rfl
    replace m0 := Ob.below m0 hb
    replace rh := Rs.below rh hb
    replace rc := Rs.below rc hb
    replace bl := (Fr.grow bl hb)
    replace sd := A.sd sd
    clear A hb
    clear x8
    show Code.wp _ _ _ _ _
    refine wp_cond_false x27 ?_
    refine wp_skip ?_
    show Code.wp _ _ _ _ _
    replace rc : Rs w4 c (lose cch (L.take (k + 1))) := by rw [lose_take hz]; unfold lose1; rw [if_neg (fun h => h1 (by have := h.2; rw [hll, hl] at this; exact this))]; exact rc
    refine wr_s [.eq (.int .i64 (k : Int)), .eq (.int .i64 ((k + 1 : Nat) : Int))] (by rw [sd.1]; kernel_rfl) ⟨fun hw ac u K => ?_, fun hw ac u K => ?_, trivial⟩ ?_
    · exact st_move (.tmp 4) rfl (K.t x4 rfl)
    · exact st_add (.tmp 9) (.const (.int .i64 1)) rfl (k) (1) (k + 1) (K.dep 0 9 rfl) rfl (by omega) (by omega)
    intro f5 w5 A hb
    replace x0 := A.t x0 rfl
    replace x1 := A.t x1 rfl
    replace x4 := A.t x4 rfl
    replace x27 := A.t x27 rfl
    have x10 := A.e 1 10 rfl rfl
    replace m0 := Ob.below m0 hb
    replace rh := Rs.below rh hb
    replace rc := Rs.below rc hb
    replace bl := (Fr.grow bl hb)
    replace sd := A.sd sd
    clear A hb
    clear x27
    refine wl_one (.eq (.int .i64 ((k + 1 : Nat) : Int))) rfl 4 rfl (by rw [sd.1]; decide) (st_assign (.tmp 10) rfl x10) ?_
    intro f6 w6 df2 sz2 old2 new2 hb
    replace x0 := tr old2 x0 rfl
    replace x1 := tr old2 x1 rfl
    clear x4
    replace x10 := tr old2 x10 rfl
    have x4 := Fk.e new2
    replace m0 := Ob.below m0 hb
    replace rh := Rs.below rh hb
    replace rc := Rs.below rc hb
    replace bl := (Fr.grow bl hb)
    replace sd := sd2 sz2 df2 sd
    clear df2 sz2 old2 new2 hb
    refine wpList_nil ?_
    clear x10
    show (∃ _, _) ∧ _
    refine ⟨⟨k + 1, by omega, sd.1, sd.2, x0, x1, x4, m0, rh, rc, bl⟩, ?_⟩
    rw [show f6.eval (.tmp 4) = _ from x4, show _ = _ from hcnt]
    first | (simp [intOf]; done) | (simp [intOf]; omega)
  obtain ⟨j, rfl⟩ : ∃ j : Nat, z = (j : Int) := ⟨z.toNat, by omega⟩
  have hj : j < (lose cch (L.take k)).length := by omega
  refine wr_d [.eq (vl), .eq (.int .i64 (k : Int)), .prg [.int .i64 (j : Int)], .eq (.int .i64 (j : Int)), .eq (.bool true), .eq (.bool true), .eq (vl), .eq (.int .i64 (k : Int)), .prg [.int .i64 (j : Int)], .eq (.int .i64 (j : Int)), .eq (.pointer (some ⟨x, 0, none⟩)), .eq (.pointer (some ⟨x, 0, none⟩)), .eq (.pointer (some ⟨x, 0, none⟩)), .eq (.slice (some ⟨h, 0, none⟩) has.length Ch), .eq (.int .i64 (has.length : Int)), .eq (.bool true), .eq (.bool true)] Try.mixed (by rw [sd.1]; kernel_rfl) ⟨fun hw ac u K => ?_, fun hw ac u K => ?_, fun hw ac u K => ?_, fun hw ac u K => ?_, fun hw ac u K => ?_, fun hw ac u K => ?_, fun hw ac u K => ?_, fun hw ac u K => ?_, fun hw ac u K => ?_, fun hw ac u K => ?_, fun hw ac u K => ?_, fun hw ac u K => ?_, fun hw ac u K => ?_, fun hw ac u K => ?_, fun hw ac u K => ?_, fun hw ac u K => ?_, fun hw ac u K => ?_, trivial⟩ ?_
  · exact st_move (.tmp 1) rfl (K.t x1 rfl)
  · exact st_move (.tmp 4) rfl (K.t x4 rfl)
  · exact st_idxis (.tmp 11) (.tmp 12) rfl (fk_val (K.dep 0 11 rfl) (hlF (Fr.grow bl K.grow))) k (K.dep 1 12 rfl) (j : Int) hz
  · exact st_loadr1 3 (.tmp 13) rfl (by kernel_rfl) (K.dep 2 13 rfl)
  · exact st_geq 3 (.tmp 14) (.const (.int .i64 0)) rfl .i64 ((j : Int)) (0) (K.dep 3 14 rfl) rfl _ (by symm; rw [decide_eq_true_iff]; exact h0)
  · exact st_move (.tmp 15) rfl (K.dep 4 15 rfl)
  · exact st_move (.tmp 1) rfl (K.t x1 rfl)
  · exact st_move (.tmp 4) rfl (K.t x4 rfl)
  · exact st_idxis (.tmp 17) (.tmp 18) rfl (fk_val (K.dep 6 17 rfl) (hlF (Fr.grow bl K.grow))) k (K.dep 7 18 rfl) (j : Int) hz
  · exact st_loadr1 3 (.tmp 19) rfl (by kernel_rfl) (K.dep 8 19 rfl)
  · exact st_move (.tmp 0) rfl (K.t x0 rfl)
  · exact st_nil (.tmp 21) rfl (K.dep 10 21 rfl)
  · exact st_field 66 0 (.tmp 22) rfl (K.dep 11 22 rfl) (by kernel_rfl)
  · exact st_loadc 45 (.tmp 23) rfl (by kernel_rfl) (K.dep 12 23 rfl) (Ob.cell (Ob.below m0 K.grow) 0 rfl)
  · exact st_lens (.tmp 24) rfl (K.dep 13 24 rfl)
  · exact st_lss 3 (.tmp 20) (.tmp 25) rfl .i64 ((j : Int)) ((has.length : Int)) (K.dep 9 20 rfl) (K.dep 14 25 rfl) _ (by symm; rw [decide_eq_true_iff]; exact h1)
  · exact st_pick_t (.tmp 16) (.tmp 26) (.const (.bool false)) rfl (K.dep 5 16 rfl) (K.dep 15 26 rfl)
  intro f4 w4 A hb
  replace x0 := A.t x0 rfl
  replace x1 := A.t x1 rfl
  replace x4 := A.t x4 rfl
  replace x8 := A.t x8 rfl
  have x27 := A.e 16 27 rfl rfl
  replace m0 := Ob.below m0 hb
  replace rh := Rs.below rh hb
  replace rc := Rs.below rc hb
  replace bl := (Fr.grow bl hb)
  replace sd := A.sd sd
  clear A hb
  clear x8
  show Code.wp _ _ _ _ _
  refine wp_cond_true x27 ?_
  refine wr_t [.eq (.pointer (some ⟨x, 0, none⟩)), .eq (.pointer (some ⟨x, 0, none⟩)), .eq (.pointer (some ⟨x, 1, none⟩)), .eq (.slice (some ⟨c, 0, none⟩) has.length Cc), .eq (vl), .eq (.int .i64 (k : Int)), .prg [.int .i64 (j : Int)], .eq (.int .i64 (j : Int)), .eq (.pointer (some ⟨c, j, none⟩))] [9] Try.mixed (by rw [sd.1]; kernel_rfl) ⟨fun hw ac u K => ?_, fun hw ac u K => ?_, fun hw ac u K => ?_, fun hw ac u K => ?_, fun hw ac u K => ?_, fun hw ac u K => ?_, fun hw ac u K => ?_, fun hw ac u K => ?_, fun hw ac u K => ?_, trivial⟩ ?_
  · exact st_move (.tmp 0) rfl (K.t x0 rfl)
  · exact st_nil (.tmp 28) rfl (K.dep 0 28 rfl)
  · exact st_field 66 1 (.tmp 29) rfl (K.dep 1 29 rfl) (by kernel_rfl)
  · exact st_loadc 45 (.tmp 30) rfl (by kernel_rfl) (K.dep 2 30 rfl) (Ob.cell (Ob.below m0 K.grow) 1 rfl)
  · exact st_move (.tmp 1) rfl (K.t x1 rfl)
  · exact st_move (.tmp 4) rfl (K.t x4 rfl)
  · exact st_idxis (.tmp 32) (.tmp 33) rfl (fk_val (K.dep 4 32 rfl) (hlF (Fr.grow bl K.grow))) k (K.dep 5 33 rfl) (j : Int) hz
  · exact st_loadr1 3 (.tmp 34) rfl (by kernel_rfl) (K.dep 6 34 rfl)
  · exact st_idxs (.tmp 31) (.tmp 35) rfl (K.dep 3 31 rfl) (j) (K.dep 7 35 rfl) (by omega)
  intro f5 w5 A hb
  replace x0 := A.t x0 rfl
  replace x1 := A.t x1 rfl
  replace x4 := A.t x4 rfl
  replace x27 := A.t x27 rfl
  have x36 := A.e 8 36 rfl rfl
  replace m0 := Ob.below m0 hb
  replace rh := Rs.below rh hb
  replace rc := Rs.below rc hb
  replace bl := (Fr.grow bl hb)
  replace sd := A.sd sd
  clear A hb
  clear x27
  refine wl_stc 9 rfl (.tmp 36) (.const (.string { data := #[] })) rfl rfl (by kernel_rfl) c (j) (.string (str ([]))) x36 rfl rfl rfl (rc.there hj) ?_
  replace m0 : Ob (w5.setCell ⟨c, j, none⟩ (.string (str ([])))) x 66 [.slice (some ⟨h, 0, none⟩) has.length Ch, .slice (some ⟨c, 0, none⟩) has.length Cc, .int .i64 (size : Int), .int .i64 (left), .int .i64 (done : Int), .bool armed, .bool dn] := Ob.setCell_other m0 _ _ n2
  replace rh := Rs.other (b := c) (i := j) (v := .string (str ([]))) rh n3
  replace rc := Rs.set rc hj ([])
  replace bl : Fr (fun j => j = x ∨ j = h ∨ j = c) w (w5.setCell ⟨c, j, none⟩ (.string (str ([])))) := bl.setCell (.inl (.inr (.inr rfl))) _
  generalize w5.setCell ⟨c, j, none⟩ (.string (str ([]))) = w6b at bl m0 rh rc ⊢
  replace bl0 := bl
  refine wpList_nil ?_
  clear x36
  show Code.wp _ _ _ _ _
  replace rc : Rs w6b c (lose cch (L.take (k + 1))) := by rw [lose_take hz]; unfold lose1; rw [if_pos ⟨h0, by rw [hll, hl]; exact h1⟩, Int.toNat_natCast]; exact rc
  refine wr_s [.eq (.int .i64 (k : Int)), .eq (.int .i64 ((k + 1 : Nat) : Int))] (by rw [sd.1]; kernel_rfl) ⟨fun hw ac u K => ?_, fun hw ac u K => ?_, trivial⟩ ?_
  · exact st_move (.tmp 4) rfl (K.t x4 rfl)
  · exact st_add (.tmp 9) (.const (.int .i64 1)) rfl (k) (1) (k + 1) (K.dep 0 9 rfl) rfl (by omega) (by omega)
  intro f7 w7 A hb
  replace x0 := A.t x0 rfl
  replace x1 := A.t x1 rfl
  replace x4 := A.t x4 rfl
  have x10 := A.e 1 10 rfl rfl
  replace m0 := Ob.below m0 hb
  replace rh := Rs.below rh hb
  replace rc := Rs.below rc hb
  replace bl := (Fr.grow bl hb)
  replace sd := A.sd sd
  clear A hb
  refine wl_one (.eq (.int .i64 ((k + 1 : Nat) : Int))) rfl 4 rfl (by rw [sd.1]; decide) (st_assign (.tmp 10) rfl x10) ?_
  intro f8 w8 df2 sz2 old2 new2 hb
  replace x0 := tr old2 x0 rfl
  replace x1 := tr old2 x1 rfl
  clear x4
  replace x10 := tr old2 x10 rfl
  have x4 := Fk.e new2
  replace m0 := Ob.below m0 hb
  replace rh := Rs.below rh hb
  replace rc := Rs.below rc hb
  replace bl := (Fr.grow bl hb)
  replace sd := sd2 sz2 df2 sd
  clear df2 sz2 old2 new2 hb
  refine wpList_nil ?_
  clear x10
  show (∃ _, _) ∧ _
  refine ⟨⟨k + 1, by omega, sd.1, sd.2, x0, x1, x4, m0, rh, rc, bl⟩, ?_⟩
  rw [show f8.eval (.tmp 4) = _ from x4, show _ = _ from hcnt]
  first | (simp [intOf]; done) | (simp [intOf]; omega)
theorem ref_crash {w : World} {x h c : Nat} {s : Dst} (hx : HX w x h c s) {L : List Int} {vl : Value} (hlF : ∀ {W : World}, Fr (fun j => j = x ∨ j = h ∨ j = c) w W → (Fk.is L).f vl W) (h60 : s.has.length ≤ 100000) (hL : L.length ≤ 100000) :
    Calls Try.prog 15 #[.pointer (some ⟨x, 0, none⟩), vl] w fun e w' => e = .returned (.tuple #[]) ∧ HX w' x h c (crs s L) ∧ Fr (fun j => j = x ∨ j = h ∨ j = c) w w' := by
  obtain ⟨Ch, Cc, m0, rh, rc, hl, n1, n2, n3, ha, hm⟩ := hx
  obtain ⟨has, cch, size, left, done, armed, down⟩ := s
  exact crash_any m0 rh rc n1 n2 n3 hlF hl ha hm h60 hL
end Go.Proofs.Ytjdpomilifnlaaa
