/- What the law on the bytes that are summed answers at values in memory: true. -/
import Derived.Test.YtiebjpdjcgefhaaDoorPx
namespace Go.Proofs.YtiebjpdjcgefhaaDoor
open Go.RowKit
theorem ls1_new {w : World} {sp : Option Addr} {n c : Nat} {bs : List (BitVec 8)} {b o : Nat} (hs : Sl w sp n c bs b o) : (Fk.ls 1 bs).f (.slice (some ⟨w.heap.size, 0, none⟩) 1 1) (w.alloc (.cells #[.slice sp n c] 22)) :=
  ⟨_, _, w.heap.size, 0, [⟨sp, n, c, bs, b, o⟩], rfl, fun _ => rfl, rfl, ls_new w 22 [⟨sp, n, c, bs, b, o⟩] (.cons hs .nil), by simp [cat]⟩
theorem ls2_new {w : World} {sp sp2 : Option Addr} {n c n2 c2 : Nat} {bs bs2 : List (BitVec 8)} {b o b2 o2 : Nat} (hs : Sl w sp n c bs b o) (hs2 : Sl w sp2 n2 c2 bs2 b2 o2) : (Fk.ls 2 (bs ++ bs2)).f (.slice (some ⟨w.heap.size, 0, none⟩) 2 2) (w.alloc (.cells #[.slice sp n c, .slice sp2 n2 c2] 22)) :=
  ⟨_, _, w.heap.size, 0, [⟨sp, n, c, bs, b, o⟩, ⟨sp2, n2, c2, bs2, b2, o2⟩], rfl, fun _ => rfl, rfl, ls_new w 22 [⟨sp, n, c, bs, b, o⟩, ⟨sp2, n2, c2, bs2, b2, o2⟩] (.cons hs (.cons hs2 .nil)), by simp [cat]⟩
theorem Tryd.under3 : Tryd.prog.underlying 3 = some (.int .i64) := by kernel_rfl
theorem str_size8 (xs : List (BitVec 8)) : (str xs).size = xs.length := by unfold str; rw [strOfNums_size, List.length_map]
theorem str_seven : str [7] = ⟨#[7]⟩ := by decide +kernel
theorem sl_below {w w' : World} {sp : Option Addr} {n c : Nat} {bs : List (BitVec 8)} {b o : Nat} (h : Sl w sp n c bs b o) (hb : Below w.heap.size w w') : Sl w' sp n c bs b o := Pt.ok_below (p := ⟨sp, n, c, bs, b, o⟩) h hb
theorem heads_eq (x y : BitVec 8) (bs : List (BitVec 8)) : decide (x = y) = decide (str (x :: bs) = str (y :: bs)) := by
  by_cases h : x = y
  · subst h; simp
  · have : str (x :: bs) ≠ str (y :: bs) := fun e => h (by have := str_inj e; simpa using this)
    simp [h, this]
theorem ls_seven {w : World} {sp : Option Addr} {n c : Nat} {bs : List (BitVec 8)} {b o : Nat} (hs : Sl w sp n c bs b o) : (Fk.ls 2 (bs ++ [7])).f (.slice (some ⟨w.heap.size + 1, 0, none⟩) 2 2) ((w.alloc (.cells #[.int .u8 7] 5)).alloc (.cells #[.slice sp n c, .slice (some ⟨w.heap.size, 0, none⟩) 1 1] 22)) := by
  have h7 : Sl (w.alloc (.cells #[.int .u8 7] 5)) (some ⟨w.heap.size, 0, none⟩) 1 1 [7] w.heap.size 0 := sl_new w [7] 5 1 rfl
  have e : w.heap.size + 1 = (w.alloc (.cells #[.int .u8 7] 5)).heap.size := by simp
  have := ls2_new (sl_below hs ((Below.refl _ _).alloc (Nat.le_refl _) (.cells #[.int .u8 7] 5))) h7
  rw [← e] at this
  exact this
set_option maxHeartbeats 1000000 in
theorem inputs_law (kind other : Int) (sp : Option Addr) (n c b o : Nat) (bs : List (BitVec 8)) (w : World) (hs : Sl w sp n c bs b o) (hm : n ≤ maxLen) (hK : Tab w) :
    Calls Tryd.prog 5 #[.int .i64 kind, .int .i64 other, .slice sp n c] w fun e w' => e = .returned (.bool true) ∧ Below w.heap.size w w' := by
  unfold maxLen at hm
  have hs' : Box (Sl w sp n c bs b o) := ⟨hs⟩
  have hn := hs.len
  have hn' : Box (n = bs.length) := ⟨hn⟩
  clear hs hn
  by_cases h5 : 500 < n
  · go_enter Tryd.func5, Tryd.ntmps5
    go_wp2_with fail
    refine (awake_any w hK.K hK.pos).mono ?_
    rintro e w6 ⟨rfl, hb8⟩
    go_wp2
    go_ret
    exact ⟨rfl, hb8⟩
  · have hbl : bs.length ≤ 500 := by rw [← hn'.out]; omega
    have hA : ∀ (w : World) ob, Below w.heap.size w (w.alloc ob) := fun w ob => (Below.refl _ _).alloc (Nat.le_refl _) _
    have hA' := hide hA
    clear hA
    go_enter Tryd.func5, Tryd.ntmps5
    go_wp2_with fail
    refine (fk_input kind (by omega) (by omega) (ls1_new hs'.out)).mono ?_
    rintro e w1 ⟨u1, rfl, hu1, hb1⟩
    have hb1' : Below w.heap.size w w1 := (hA'.out w _).trans (hb1.mono (hA'.out w _).size)
    have hs1 : Box (Sl w1 sp n c bs b o) := ⟨sl_below hs'.out hb1'⟩
    have hu1' : Box ((Fk.sl (kb kind :: bs)).f u1 w1) := ⟨hu1⟩
    clear hb1 hu1
    go_wp2_with fail
    refine (fk_input other (by omega) (by omega) (ls1_new hs1.out)).mono ?_
    rintro e w2 ⟨u2, rfl, hu2, hb2⟩
    have hb2' : Below w1.heap.size w1 w2 := (hA'.out w1 _).trans (hb2.mono (hA'.out w1 _).size)
    have hs2 : Box (Sl w2 sp n c bs b o) := ⟨sl_below hs1.out hb2'⟩
    have hv1 : Box ((Fk.sl (kb kind :: bs)).f u1 w2) := ⟨Fk.mono _ _ _ _ hu1'.out hb2'⟩
    have hu2' : Box ((Fk.sl (kb other :: bs)).f u2 w2) := ⟨hu2⟩
    clear hb2 hu2 hu1' hs1
    go_wp2_with fail
    refine (fk_input kind (bs := bs ++ [7]) (by simp; omega) (by omega) (ls_seven hs2.out)).mono ?_
    rintro e w3 ⟨u3, rfl, hu3, hb3⟩
    have hb3' : Below w2.heap.size w2 w3 := ((hA'.out w2 _).trans ((hA'.out _ _).mono (hA'.out w2 _).size)).trans (hb3.mono (by simp; omega))
    have hs3 : Box (Sl w3 sp n c bs b o) := ⟨sl_below hs2.out hb3'⟩
    have hv2 : Box ((Fk.sl (kb kind :: bs)).f u1 w3) := ⟨Fk.mono _ _ _ _ hv1.out hb3'⟩
    have hv3 : Box ((Fk.sl (kb other :: bs)).f u2 w3) := ⟨Fk.mono _ _ _ _ hu2'.out hb3'⟩
    have hv4 : Box ((Fk.sl (kb kind :: (bs ++ [7]))).f u3 w3) := ⟨hu3⟩
    have hbw : Below w.heap.size w w3 := (hb1'.trans (hb2'.mono hb1'.size)).trans (hb3'.mono (Nat.le_trans hb1'.size hb2'.size))
    have hT1 : Tab w3 := hK.below hbw
    clear hb3 hu3 hv1 hu2' hs2 hb1' hb2' hb3'
    go_upto_region 6 with fail
    have hX : ∀ w', Below w3.heap.size w3 w' → (Fk.sl (kb kind :: bs)).f u1 w' := fun w' hb => Fk.mono _ _ _ _ hv2.out hb
    have hY : ∀ w', Below w3.heap.size w3 w' → (Fk.sl (kb other :: bs)).f u2 w' := fun w' hb => Fk.mono _ _ _ _ hv3.out hb
    have hZ : ∀ w', Below w3.heap.size w3 w' → (Fk.sl (kb kind :: (bs ++ [7]))).f u3 w' := fun w' hb => Fk.mono _ _ _ _ hv4.out hb
    have hB : ∀ w', Below w3.heap.size w3 w' → (Fk.sl bs).f (.slice sp n c) w' := fun w' hb => ⟨sp, n, c, b, o, rfl, sl_below hs3.out hb⟩
    refine wp_region_end [.sl (kb kind :: bs), .eq (.string (str (kb kind :: bs))), .eq (.int .i64 kind), .eq (.int .u8 (bv (kb kind))), .sl bs, .ls 1 bs, .sl (kb kind :: bs), .eq (.string (str (kb kind :: bs))), .eq (.bool true), .eq (.bool true), .sl (kb kind :: bs), .eq (.string (str (kb kind :: bs))), .sl (kb other :: bs), .eq (.string (str (kb other :: bs))), .eq (.bool (decide (kb kind = kb other))), .eq (.int .i64 kind), .eq (.int .u8 (bv (kb kind))), .eq (.int .i64 other), .eq (.int .u8 (bv (kb other))), .eq (.bool (decide (kb kind = kb other))), .eq (.bool true), .eq (.bool true), .eq (.bool true), .sl (kb kind :: (bs ++ [7])), .eq (.string (str (kb kind :: (bs ++ [7])))), .sl (kb kind :: bs), .eq (.string (str (kb kind :: bs))), .eq (.string (str (kb kind :: bs) ++ ⟨#[7]⟩)), .eq (.bool true), .eq (.bool true), .eq (.bool true), .eq (.bool true), .eq (.bool true)] Tryd.mixed (by kernel_rfl) (by kernel_rfl) (by kernel_rfl) (by kernel_rfl) ⟨fun _ a w' K => ?_, fun _ a w' K => ?_, fun _ a w' K => ?_, fun _ a w' K => ?_, fun _ a w' K => ?_, fun _ a w' K => ?_, fun _ a w' K => ?_, fun _ a w' K => ?_, fun _ a w' K => ?_, fun _ a w' K => ?_, fun _ a w' K => ?_, fun _ a w' K => ?_, fun _ a w' K => ?_, fun _ a w' K => ?_, fun _ a w' K => ?_, fun _ a w' K => ?_, fun _ a w' K => ?_, fun _ a w' K => ?_, fun _ a w' K => ?_, fun _ a w' K => ?_, fun _ a w' K => ?_, fun _ a w' K => ?_, fun _ a w' K => ?_, fun _ a w' K => ?_, fun _ a w' K => ?_, fun _ a w' K => ?_, fun _ a w' K => ?_, fun _ a w' K => ?_, fun _ a w' K => ?_, fun _ a w' K => ?_, fun _ a w' K => ?_, fun _ a w' K => ?_, fun _ a w' K => ?_, trivial⟩ ?_
    · exact st_move (.tmp 7) rfl (f_at (K.old 7 rfl) (hX _ K.grow))
    · exact st_str (.tmp 27) rfl (by simp) (K.dep 0 27 rfl)
    · exact st_move (.tmp 0) rfl (K.old 0 rfl)
    · exact st_conv8 (.tmp 29) rfl kind (K.dep 2 29 rfl)
    · exact st_move (.tmp 2) rfl (f_at (K.old 2 rfl) (hB _ K.grow))
    · exact st_build1 (.tmp 31) rfl (K.dep 4 31 rfl)
    · exact st_call 10 (.func 10) _ _ #[.int .u8 (bv (kb kind)), a.eval (.tmp 32)] rfl rfl (two_args (K.dep 3 30 rfl) rfl) Tryd.enter10 (fk_bytes (kb kind) (by omega) (by omega) (K.dep 5 32 rfl))
    · exact st_str (.tmp 33) rfl (by simp) (K.dep 6 33 rfl)
    · exact st_eqs (.tmp 28) (.tmp 34) rfl _ _ (K.dep 1 28 rfl) (K.dep 7 34 rfl) true (by simp)
    · exact st_move (.tmp 35) rfl (K.dep 8 35 rfl)
    · exact st_move (.tmp 7) rfl (f_at (K.old 7 rfl) (hX _ K.grow))
    · exact st_str (.tmp 37) rfl (by simp) (K.dep 10 37 rfl)
    · exact st_move (.tmp 8) rfl (f_at (K.old 8 rfl) (hY _ K.grow))
    · exact st_str (.tmp 39) rfl (by simp) (K.dep 12 39 rfl)
    · exact st_eqs (.tmp 38) (.tmp 40) rfl _ _ (K.dep 11 38 rfl) (K.dep 13 40 rfl) _ (heads_eq _ _ _)
    · exact st_move (.tmp 0) rfl (K.old 0 rfl)
    · exact st_conv8 (.tmp 42) rfl kind (K.dep 15 42 rfl)
    · exact st_move (.tmp 1) rfl (K.old 1 rfl)
    · exact st_conv8 (.tmp 44) rfl other (K.dep 17 44 rfl)
    · exact st_eq8 (.tmp 43) (.tmp 45) rfl _ _ (K.dep 16 43 rfl) (K.dep 18 45 rfl)
    · exact st_eqb (.tmp 41) (.tmp 46) rfl _ (K.dep 14 41 rfl) (K.dep 19 46 rfl)
    · exact st_pick_t (.tmp 36) (.tmp 47) _ rfl (K.dep 9 36 rfl) (K.dep 20 47 rfl)
    · exact st_move (.tmp 48) rfl (K.dep 21 48 rfl)
    · exact st_move (.tmp 9) rfl (f_at (K.old 9 rfl) (hZ _ K.grow))
    · exact st_str (.tmp 50) rfl (by simp) (K.dep 23 50 rfl)
    · exact st_move (.tmp 7) rfl (f_at (K.old 7 rfl) (hX _ K.grow))
    · exact st_str (.tmp 52) rfl (by simp) (K.dep 25 52 rfl)
    · exact st_adds (.tmp 53) _ rfl _ ⟨#[7]⟩ (K.dep 26 53 rfl) rfl (by rw [str_size8]; show (kb kind :: bs).length + 1 ≤ _; simp; omega)
    · exact st_eqs (.tmp 51) (.tmp 54) rfl _ _ (K.dep 24 51 rfl) (K.dep 27 54 rfl) true (by rw [← str_seven, ← str_append]; simp)
    · exact st_pick_t (.tmp 49) (.tmp 55) _ rfl (K.dep 22 49 rfl) (K.dep 28 55 rfl)
    · exact st_move (.tmp 56) rfl (K.dep 29 56 rfl)
    · exact st_call 7 (.func 7) _ _ #[] rfl rfl rfl Tryd.enter7 (fk_awake (hT1.below K.grow))
    · exact st_pick_t (.tmp 57) (.tmp 58) _ rfl (K.dep 30 57 rfl) (K.dep 31 58 rfl)
    · intro af w4 fin hb4
      have e3 : af.eval (.tmp 59) = .bool true := fin.has 32 59 rfl
      have hb6 : Below w.heap.size w w4 := hbw.trans (hb4.mono hbw.size)
      have hz : 6 < af.tmps.size := by rw [fin.size]; show 6 < 60; omega
      refine end_assign (.tmp 59) rfl rfl ?_
      rw [e3]
      go_wp2
      exact bodyPost_ret (v := .bool true) (ret_tmp rfl af _ hz _ _) fin.defs ⟨rfl, hb6⟩
end Go.Proofs.YtiebjpdjcgefhaaDoor
