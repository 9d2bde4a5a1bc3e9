/- The walk of the law on reading. -/
import Derived.Test.YtkgfcddjjghohaaWp
import Derived.Test.YtkgfcddjjghohaaWs
namespace Go.Proofs.Ytkgfcddjjghohaa
open Go.RowKit
theorem Try.noGuard29 (x y : Operand) (a b : Array Value) (w : World) : (eqGuard .neq 29 x y (.agg a) (.agg b)).run Try.prog w = .ok () w := by kernel_rfl
theorem Try.zero29 (w : World) : (Instr.build 29 #[]).run Try.prog w = .ok (.agg (z32.map V).toArray) w := by kernel_rfl
theorem load_row (w : World) (g : Nat) (xs : List (BitVec 8)) (h : HasV w g 29 xs) (hl : xs.length = 32) : (Instr.loadAt 29 (.pointer (some ⟨g, 0, none⟩))).run Try.prog w = .ok (.agg (xs.map V).toArray) w :=
  run_loadAt_mid w g 0 29 (xs.map V) _ (fun j v hj => by
    have := h.bytes.src xs.length j v
    rw [List.take_of_length_le (Nat.le_refl _)] at this
    have h2 := this hj
    rw [Addr.add_mid] at h2
    exact h2) Try.under29 rfl (by rw [List.length_map, hl]; exact Try.size29)
/-- copy of the next 32 bytes. -/
theorem copy_w (g gb go p n c c2 : Nat) (w : World) (bs : List (BitVec 8)) (hB : HasB w gb go bs) (h : p + 32 ≤ bs.length) (hn : n = bs.length) (hv : HasV w g 29 z32) :
    (Builtin.copy_ #[25, 25] 3 #[.slice (some ⟨g, 0, none⟩) 32 c, .slice (some ⟨gb, go + p, none⟩) (n - p) c2]).run Try.prog w = .ok (.int .i64 32) (w.setRow g (((bs.drop p).take 32).map V).toArray) := by
  have hl : ((bs.drop p).take 32).length = 32 := by simp; omega
  have := run_copy_exact (P := Try.prog) w 25 25 3 5 Try.under25 Try.size5 (some ⟨g, 0, none⟩) (some ⟨gb, go + p, none⟩) 32 c (n - p) c2 g 0 (z32.map V) 29 hv (((bs.drop p).take 32).map V) (by rw [List.length_map, hl]; show _ = min _ _; omega) (fun hp => ⟨rfl, _, rfl, (hB.drop p).src 32⟩) (by rw [List.length_map, List.length_map, hl]; simp [z32]) (V_one _)
  rw [List.length_map, hl] at this
  rw [this]
  congr 3
  unfold splice
  have e : (z32.map V).drop (0 + (((bs.drop p).take 32).map V).length) = [] := List.eq_nil_of_length_eq_zero (by rw [List.length_drop, List.length_map, List.length_map, hl]; simp [z32])
  rw [e]; simp
set_option maxRecDepth 100000 in
set_option maxHeartbeats 40000000 in
theorem reads_short (v : Value) (gb : Nat) (bs : List (BitVec 8)) (ko kc kb : Nat) (A : Option Addr) (ks : List (BitVec 8)) (most : Int) (w : World) (hv : Av w v bs gb) (hl : bs.length ≤ 400) (hkl : ks.length ≤ 40) (hA : 0 < ks.length → A = some ⟨kb, ko, none⟩ ∧ kb < w.heap.size ∧ HasB w kb ko ks) :
    Calls Try.prog 4 #[v, .slice A ks.length kc, .int .i64 most] w fun e w' => e = .returned (.bool true) ∧ Below w.heap.size w w' := by
  obtain ⟨a, c, hve⟩ := hv.shape
  subst hve
  have hv' := Box.mk hv
  have hA' := Box.mk hA
  have d1 : decide ((400 : Int) < (bs.length : Int)) = false := by simp; omega
  have d2 : decide ((40 : Int) < (ks.length : Int)) = false := by simp; omega
  have hN : Box (Calls Try.prog 13 #[.slice a bs.length c] w fun e w' => ∃ ib, e = .returned (.pointer (some ⟨ib, 0, none⟩)) ∧ Box (Sin w w' ib bs false)) := ⟨by
    refine (a_new w w _ gb bs hv (by omega) (Below.refl _ _)).mono ?_
    rintro e w' ⟨ib, rfl, h1, _⟩
    exact ⟨ib, rfl, h1⟩⟩
  have hR : ∀ ib p b w1 size, Rd w w1 ib bs p b → p ≤ 1000000 → 0 < size → size ≤ 8 → Box (Calls Try.prog 17 #[.slice a bs.length c, .int .i64 (p : Int), .int .i64 ((size : Nat) : Int)] w1 fun e w2 => e = .returned (.tuple #[.int .i64 (rdN bs p size), .bool (rdOk bs p size)]) ∧ w2 = w1) := fun ib p b w1 size h hp h0 h8 => ⟨by
    have hlow : Below w.heap.size w w1 := by
      rcases h with ⟨_, s⟩ | ⟨_, _, s⟩
      · exact s.out.low
      · exact s.out.low
    exact a_read _ gb p size bs w1 (hv'.out.below hlow rfl) (by omega) hp h8 h0⟩
  clear hv hA
  go_enter Try.func4, Try.ntmps4
  go_wp2_with (go_at_call 13; refine hN.out.mono ?_; rintro e w1 ⟨ib, rfl, s1⟩)
  clear hN d1 d2
  go_loopw [8, 9, 33] (fun P B i wr => ∃ (k p : Nat) (b : Bool), k ≤ ks.length ∧ i = .int .i64 k ∧ P = .int .i64 p ∧ B = .bool b ∧ p ≤ 400 + 40 * k ∧ Box (Rd w wr ib bs p b)) (fun _ _ i _ => ks.length - (intOf i).toNat)
  case atStart => exact ⟨0, 0, false, by omega, rfl, rfl, rfl, by omega, ⟨.inr ⟨rfl, by omega, by simpa using s1⟩⟩⟩
  case round =>
    clear s1
    obtain ⟨k, p, b, hk, rfl, rfl, rfl, hp, hrd⟩ := hrel
    by_cases hlt : k < ks.length
    · obtain ⟨rfl, hkb, hB⟩ := hA'.out (by omega)
      have c0 := hB k hlt
      have hlow : Below w.heap.size w wr := by
        rcases hrd.out with ⟨_, s⟩ | ⟨_, _, s⟩
        · exact s.out.low
        · exact s.out.low
      rw [← hlow.cell (by exact hkb)] at c0
      generalize ks.getD k 0 = x at c0
      have hx := bv_range x
      have hlow' := Box.mk hlow
      clear hB hlow
      have h6 : bv x % 6 = 0 ∨ bv x % 6 = 1 ∨ bv x % 6 = 2 ∨ bv x % 6 = 3 ∨ bv x % 6 = 4 ∨ bv x % 6 = 5 := by omega
      rcases h6 with h6 | h6 | h6 | h6 | h6 | h6
      · -- kind 0
        have hr := hR ib p b wr 8 hrd.out (by omega) (by omega) (by omega)
        rcases hrd.out with ⟨rfl, s⟩ | ⟨rfl, hpl, s⟩
        · have hi := Box.mk (r_int_bad s)
          clear hrd
          as_aux_lemma =>
            go_wp2_with (first | (go_at_call 17; refine hr.out.mono ?_; rintro e w1 ⟨rfl, rfl⟩) | (go_at_call 18; refine hi.out.mono ?_; rintro e w2 ⟨rfl, s2⟩) | (go_at_call 15; refine (s_bad s2.out).mono ?_; rintro e w3 ⟨rfl, rfl⟩))
            go_roundw
            case rel => exact ⟨k + 1, p + 8, true, by omega, by go_num, by go_num, rfl, by omega, ⟨.inl ⟨rfl, s2⟩⟩⟩
            case measure => simp [intOf]; omega
        · by_cases h8 : p + 8 ≤ bs.length
          · have hi := Box.mk (r_int_ok s h8)
            rw [show rdN bs p 8 = rdAt bs p 8 by unfold rdN; rw [if_pos h8], show rdOk bs p 8 = true by unfold rdOk; rw [decide_eq_true h8]] at hr
            generalize rdAt bs p 8 = r at hr hi
            clear hrd
            as_aux_lemma =>
              go_wp2_with (first | (go_at_call 17; refine hr.out.mono ?_; rintro e w1 ⟨rfl, rfl⟩) | (go_at_call 18; refine hi.out.mono ?_; rintro e w2 ⟨rfl, s2⟩) | (go_at_call 15; refine (s_bad s2.out).mono ?_; rintro e w3 ⟨rfl, rfl⟩))
              go_roundw
              case rel => exact ⟨k + 1, p + 8, false, by omega, by go_num, by go_num, by first | rfl | (simp; omega), by omega, ⟨.inr ⟨rfl, by omega, s2⟩⟩⟩
              case measure => simp [intOf]; omega
          · have hi := Box.mk (r_int_no s h8 hpl)
            rw [show rdN bs p 8 = 0 by unfold rdN; rw [if_neg h8], show rdOk bs p 8 = false by unfold rdOk; rw [decide_eq_false h8]] at hr
            clear hrd
            as_aux_lemma =>
              go_wp2_with (first | (go_at_call 17; refine hr.out.mono ?_; rintro e w1 ⟨rfl, rfl⟩) | (go_at_call 18; refine hi.out.mono ?_; rintro e w2 ⟨rfl, s2⟩) | (go_at_call 15; refine (s_bad s2.out).mono ?_; rintro e w3 ⟨rfl, rfl⟩))
              go_roundw
              case rel => exact ⟨k + 1, p + 8, true, by omega, by go_num, by go_num, rfl, by omega, ⟨.inl ⟨rfl, s2⟩⟩⟩
              case measure => simp [intOf]; omega
      · -- kind 1
        have hr := hR ib p b wr 8 hrd.out (by omega) (by omega) (by omega)
        rcases hrd.out with ⟨rfl, s⟩ | ⟨rfl, hpl, s⟩
        · have hi := Box.mk (r_count_bad s (-3) most)
          clear hrd
          as_aux_lemma =>
            go_wp2_with (first | (go_at_call 17; refine hr.out.mono ?_; rintro e w1 ⟨rfl, rfl⟩) | (go_at_call 19; refine hi.out.mono ?_; rintro e w2 ⟨rfl, s2⟩) | (go_at_call 15; refine (s_bad s2.out).mono ?_; rintro e w3 ⟨rfl, rfl⟩))
            go_roundw
            case rel => exact ⟨k + 1, p + 8, true, by omega, by go_num, by go_num, rfl, by omega, ⟨.inl ⟨rfl, s2⟩⟩⟩
            case measure => simp [intOf]; omega
        · by_cases h8 : p + 8 ≤ bs.length
          · rw [show rdN bs p 8 = rdAt bs p 8 by unfold rdN; rw [if_pos h8], show rdOk bs p 8 = true by unfold rdOk; rw [decide_eq_true h8]] at hr
            by_cases q1 : rdAt bs p 8 < -3
            · have hi := Box.mk (r_count_out s h8 (-3) most (by omega))
              generalize rdAt bs p 8 = r at hr hi q1
              have e1 : decide (r < -3) = true := by simpa using q1
              clear hrd
              as_aux_lemma =>
                go_wp2_with (first | (go_at_call 17; refine hr.out.mono ?_; rintro e w1 ⟨rfl, rfl⟩) | (go_at_call 19; refine hi.out.mono ?_; rintro e w2 ⟨rfl, s2⟩) | (go_at_call 15; refine (s_bad s2.out).mono ?_; rintro e w3 ⟨rfl, rfl⟩))
                go_roundw
                case rel => exact ⟨k + 1, p + 8, true, by omega, by go_num, by go_num, rfl, by omega, ⟨.inl ⟨rfl, s2⟩⟩⟩
                case measure => simp [intOf]; omega
            · by_cases q2 : most < rdAt bs p 8
              · have hi := Box.mk (r_count_out s h8 (-3) most (by omega))
                generalize rdAt bs p 8 = r at hr hi q1 q2
                have e1 : decide (r < -3) = false := by simpa using q1
                have e2 : decide (most < r) = true := by simpa using q2
                clear hrd
                as_aux_lemma =>
                  go_wp2_with (first | (go_at_call 17; refine hr.out.mono ?_; rintro e w1 ⟨rfl, rfl⟩) | (go_at_call 19; refine hi.out.mono ?_; rintro e w2 ⟨rfl, s2⟩) | (go_at_call 15; refine (s_bad s2.out).mono ?_; rintro e w3 ⟨rfl, rfl⟩))
                  go_roundw
                  case rel => exact ⟨k + 1, p + 8, true, by omega, by go_num, by go_num, rfl, by omega, ⟨.inl ⟨rfl, s2⟩⟩⟩
                  case measure => simp [intOf]; omega
              · have hi := Box.mk (r_count_ok s h8 (-3) most (by omega) (by omega))
                generalize rdAt bs p 8 = r at hr hi q1 q2
                have e1 : decide (r < -3) = false := by simpa using q1
                have e2 : decide (most < r) = false := by simpa using q2
                clear hrd
                as_aux_lemma =>
                  go_wp2_with (first | (go_at_call 17; refine hr.out.mono ?_; rintro e w1 ⟨rfl, rfl⟩) | (go_at_call 19; refine hi.out.mono ?_; rintro e w2 ⟨rfl, s2⟩) | (go_at_call 15; refine (s_bad s2.out).mono ?_; rintro e w3 ⟨rfl, rfl⟩))
                  go_roundw
                  case rel => exact ⟨k + 1, p + 8, false, by omega, by go_num, by go_num, by first | rfl | (simp; omega), by omega, ⟨.inr ⟨rfl, by omega, s2⟩⟩⟩
                  case measure => simp [intOf]; omega
          · have hi := Box.mk (r_count_no s h8 hpl (-3) most)
            rw [show rdN bs p 8 = 0 by unfold rdN; rw [if_neg h8], show rdOk bs p 8 = false by unfold rdOk; rw [decide_eq_false h8]] at hr
            clear hrd
            as_aux_lemma =>
              go_wp2_with (first | (go_at_call 17; refine hr.out.mono ?_; rintro e w1 ⟨rfl, rfl⟩) | (go_at_call 19; refine hi.out.mono ?_; rintro e w2 ⟨rfl, s2⟩) | (go_at_call 15; refine (s_bad s2.out).mono ?_; rintro e w3 ⟨rfl, rfl⟩))
              go_roundw
              case rel => exact ⟨k + 1, p + 8, true, by omega, by go_num, by go_num, rfl, by omega, ⟨.inl ⟨rfl, s2⟩⟩⟩
              case measure => simp [intOf]; omega
      · -- kind 2
        have hr := hR ib p b wr 4 hrd.out (by omega) (by omega) (by omega)
        rcases hrd.out with ⟨rfl, s⟩ | ⟨rfl, hpl, s⟩
        · have hi := Box.mk (r_bytes s most (cnt_bad most))
          rw [str_nil] at hi
          clear hrd
          as_aux_lemma =>
            go_wp2_with (first | (go_at_call 17; refine hr.out.mono ?_; rintro e w1 ⟨rfl, rfl⟩) | (go_at_call 20; refine hi.out.mono ?_; rintro e w2 ⟨v2, rfl, hcv, s2⟩) | (go_at_call 15; refine (s_bad s2.out).mono ?_; rintro e w3 ⟨rfl, rfl⟩))
            go_roundw
            case rel => exact ⟨k + 1, p, true, by omega, by go_num, by go_num, rfl, by omega, ⟨.inl ⟨rfl, s2⟩⟩⟩
            case measure => simp [intOf]; omega
        · by_cases h8 : p + 4 ≤ bs.length
          · rw [show rdN bs p 4 = rdAt bs p 4 by unfold rdN; rw [if_pos h8], show rdOk bs p 4 = true by unfold rdOk; rw [decide_eq_true h8]] at hr
            rw [rd_n4] at hr
            have hn4 := n4_lt bs p
            by_cases q1 : most < (n4 bs p : Int)
            · have hi := Box.mk (r_bytes s most (cnt_out h8 most (by omega)))
              rw [str_nil] at hi
              generalize n4 bs p = r at hr hi q1 hn4
              have e1 : decide (most < (r : Int)) = true := by simpa using q1
              clear hrd
              as_aux_lemma =>
                go_wp2_with (first | (go_at_call 17; refine hr.out.mono ?_; rintro e w1 ⟨rfl, rfl⟩) | (go_at_call 20; refine hi.out.mono ?_; rintro e w2 ⟨v2, rfl, hcv, s2⟩) | (go_at_call 15; refine (s_bad s2.out).mono ?_; rintro e w3 ⟨rfl, rfl⟩))
                go_roundw
                case rel => exact ⟨k + 1, p, true, by omega, by go_num, by go_num, rfl, by omega, ⟨.inl ⟨rfl, s2⟩⟩⟩
                case measure => simp [intOf]; omega
            · by_cases q2 : bs.length < p + 4 + n4 bs p
              · have hi := Box.mk (r_bytes s most (cnt_out h8 most (by omega)))
                rw [str_nil] at hi
                generalize n4 bs p = r at hr hi q1 q2 hn4
                have e1 : decide (most < (r : Int)) = false := by simpa using q1
                have e2 : decide ((bs.length : Int) - p - 4 < (r : Int)) = true := by simp; omega
                clear hrd
                as_aux_lemma =>
                  go_wp2_with (first | (go_at_call 17; refine hr.out.mono ?_; rintro e w1 ⟨rfl, rfl⟩) | (go_at_call 20; refine hi.out.mono ?_; rintro e w2 ⟨v2, rfl, hcv, s2⟩) | (go_at_call 15; refine (s_bad s2.out).mono ?_; rintro e w3 ⟨rfl, rfl⟩))
                  go_roundw
                  case rel => exact ⟨k + 1, p, true, by omega, by go_num, by go_num, rfl, by omega, ⟨.inl ⟨rfl, s2⟩⟩⟩
                  case measure => simp [intOf]; omega
              · have hi := Box.mk (r_bytes s most (cnt_ok h8 most (by omega) (by omega)))
                rcases hv'.out with ⟨_, _, _, rfl⟩ | ⟨go, c', e, hcc, hgl, hB⟩
                · simp at h8
                simp only [Value.slice.injEq] at e
                obtain ⟨rfl, _, rfl⟩ := e
                have hB2 := hB.below hlow'.out hgl
                by_cases hcp : c = p + 4
                · have hO : (bs.drop (p + 4)).take (n4 bs p) = [] := List.eq_nil_of_length_eq_zero (by simp; omega)
                  rw [hO, str_nil] at hi
                  have hc1 : ∀ m, (convert 25 9 (.slice (some ⟨gb, go, none⟩) 0 m)).run Try.prog wr = .ok (.string ⟨#[]⟩) wr := fun m => by
                    exact run_str wr _ [] gb (.inr ⟨go, m, rfl, Nat.zero_le _, Nat.lt_of_lt_of_le hgl hlow'.out.size, fun i hi => by simp at hi⟩)
                  have hn0 : n4 bs p = 0 := by omega
                  rw [hn0] at hr hi q1
                  have e1 : decide (most < 0) = false := by simpa using q1
                  have e2 : decide ((bs.length : Int) - p - 4 < 0) = false := by simp; omega
                  clear hrd hB hB2 hO hn4 q2 hn0
                  subst hcp
                  as_aux_lemma =>
                    go_wp2_with (first | (go_at_call 17; refine hr.out.mono ?_; rintro e w1 ⟨rfl, rfl⟩) | (go_at_call 20; refine hi.out.mono ?_; rintro e w2 ⟨v2, rfl, hcv, s2⟩) | (go_at_call 15; refine (s_bad s2.out).mono ?_; rintro e w3 ⟨rfl, rfl⟩))
                    go_roundw
                    case rel => exact ⟨k + 1, p + 4, false, by omega, by go_num, by go_num, by first | rfl | (simp; omega), by omega, ⟨.inr ⟨rfl, by omega, s2⟩⟩⟩
                    case measure => simp [intOf]; omega
                · have hc1 : (convert 25 9 (.slice (some ⟨gb, go + (p + 4), none⟩) (n4 bs p) (c - (p + 4)))).run Try.prog wr = .ok (.string (str ((bs.drop (p + 4)).take (n4 bs p)))) wr := by
                    refine run_str wr _ _ gb (.inr ⟨go + (p + 4), c - (p + 4), ?_, ?_, Nat.lt_of_lt_of_le hgl hlow'.out.size, (hB2.drop (p + 4)).take _⟩)
                    · rw [List.length_take, List.length_drop]; congr 1; omega
                    · rw [List.length_take, List.length_drop]; omega
                  generalize (bs.drop (p + 4)).take (n4 bs p) = O at hc1 hi
                  generalize n4 bs p = r at hr hi hc1 q1 q2 hn4
                  have e1 : decide (most < (r : Int)) = false := by simpa using q1
                  have e2 : decide ((bs.length : Int) - p - 4 < (r : Int)) = false := by simp; omega
                  clear hrd hB hB2
                  as_aux_lemma =>
                    go_wp2_with (first | (go_at_call 17; refine hr.out.mono ?_; rintro e w1 ⟨rfl, rfl⟩) | (go_at_call 20; refine hi.out.mono ?_; rintro e w2 ⟨v2, rfl, hcv, s2⟩) | (go_at_call 15; refine (s_bad s2.out).mono ?_; rintro e w3 ⟨rfl, rfl⟩))
                    go_roundw
                    case rel => exact ⟨k + 1, p + 4 + r, false, by omega, by go_num, by go_num, by first | rfl | (simp; omega), by omega, ⟨.inr ⟨rfl, by omega, s2⟩⟩⟩
                    case measure => simp [intOf]; omega
          · have hi := Box.mk (r_bytes s most (cnt_no h8 hpl most))
            rw [str_nil] at hi
            rw [show rdN bs p 4 = 0 by unfold rdN; rw [if_neg h8], show rdOk bs p 4 = false by unfold rdOk; rw [decide_eq_false h8]] at hr
            clear hrd
            as_aux_lemma =>
              go_wp2_with (first | (go_at_call 17; refine hr.out.mono ?_; rintro e w1 ⟨rfl, rfl⟩) | (go_at_call 20; refine hi.out.mono ?_; rintro e w2 ⟨v2, rfl, hcv, s2⟩) | (go_at_call 15; refine (s_bad s2.out).mono ?_; rintro e w3 ⟨rfl, rfl⟩))
              go_roundw
              case rel => exact ⟨k + 1, p, true, by omega, by go_num, by go_num, rfl, by omega, ⟨.inl ⟨rfl, s2⟩⟩⟩
              case measure => simp [intOf]; omega
      · -- kind 3
        have hr := hR ib p b wr 4 hrd.out (by omega) (by omega) (by omega)
        rcases hrd.out with ⟨rfl, s⟩ | ⟨rfl, hpl, s⟩
        · have hi := Box.mk (r_text s most (cnt_bad most))
          rw [str_nil] at hi
          clear hrd
          as_aux_lemma =>
            go_wp2_with (first | (go_at_call 17; refine hr.out.mono ?_; rintro e w1 ⟨rfl, rfl⟩) | (go_at_call 21; refine hi.out.mono ?_; rintro e w2 ⟨rfl, s2⟩) | (go_at_call 15; refine (s_bad s2.out).mono ?_; rintro e w3 ⟨rfl, rfl⟩))
            go_roundw
            case rel => exact ⟨k + 1, p, true, by omega, by go_num, by go_num, rfl, by omega, ⟨.inl ⟨rfl, s2⟩⟩⟩
            case measure => simp [intOf]; omega
        · by_cases h8 : p + 4 ≤ bs.length
          · rw [show rdN bs p 4 = rdAt bs p 4 by unfold rdN; rw [if_pos h8], show rdOk bs p 4 = true by unfold rdOk; rw [decide_eq_true h8]] at hr
            rw [rd_n4] at hr
            have hn4 := n4_lt bs p
            by_cases q1 : most < (n4 bs p : Int)
            · have hi := Box.mk (r_text s most (cnt_out h8 most (by omega)))
              rw [str_nil] at hi
              generalize n4 bs p = r at hr hi q1 hn4
              have e1 : decide (most < (r : Int)) = true := by simpa using q1
              clear hrd
              as_aux_lemma =>
                go_wp2_with (first | (go_at_call 17; refine hr.out.mono ?_; rintro e w1 ⟨rfl, rfl⟩) | (go_at_call 21; refine hi.out.mono ?_; rintro e w2 ⟨rfl, s2⟩) | (go_at_call 15; refine (s_bad s2.out).mono ?_; rintro e w3 ⟨rfl, rfl⟩))
                go_roundw
                case rel => exact ⟨k + 1, p, true, by omega, by go_num, by go_num, rfl, by omega, ⟨.inl ⟨rfl, s2⟩⟩⟩
                case measure => simp [intOf]; omega
            · by_cases q2 : bs.length < p + 4 + n4 bs p
              · have hi := Box.mk (r_text s most (cnt_out h8 most (by omega)))
                rw [str_nil] at hi
                generalize n4 bs p = r at hr hi q1 q2 hn4
                have e1 : decide (most < (r : Int)) = false := by simpa using q1
                have e2 : decide ((bs.length : Int) - p - 4 < (r : Int)) = true := by simp; omega
                clear hrd
                as_aux_lemma =>
                  go_wp2_with (first | (go_at_call 17; refine hr.out.mono ?_; rintro e w1 ⟨rfl, rfl⟩) | (go_at_call 21; refine hi.out.mono ?_; rintro e w2 ⟨rfl, s2⟩) | (go_at_call 15; refine (s_bad s2.out).mono ?_; rintro e w3 ⟨rfl, rfl⟩))
                  go_roundw
                  case rel => exact ⟨k + 1, p, true, by omega, by go_num, by go_num, rfl, by omega, ⟨.inl ⟨rfl, s2⟩⟩⟩
                  case measure => simp [intOf]; omega
              · have hi := Box.mk (r_text s most (cnt_ok h8 most (by omega) (by omega)))
                rcases hv'.out with ⟨_, _, _, rfl⟩ | ⟨go, c', e, hcc, hgl, hB⟩
                · simp at h8
                simp only [Value.slice.injEq] at e
                obtain ⟨rfl, _, rfl⟩ := e
                have hB2 := hB.below hlow'.out hgl
                by_cases hcp : c = p + 4
                · have hO : (bs.drop (p + 4)).take (n4 bs p) = [] := List.eq_nil_of_length_eq_zero (by simp; omega)
                  rw [hO, str_nil] at hi
                  have hc1 : ∀ m, (convert 25 9 (.slice (some ⟨gb, go, none⟩) 0 m)).run Try.prog wr = .ok (.string ⟨#[]⟩) wr := fun m => by
                    exact run_str wr _ [] gb (.inr ⟨go, m, rfl, Nat.zero_le _, Nat.lt_of_lt_of_le hgl hlow'.out.size, fun i hi => by simp at hi⟩)
                  have hn0 : n4 bs p = 0 := by omega
                  rw [hn0] at hr hi q1
                  have e1 : decide (most < 0) = false := by simpa using q1
                  have e2 : decide ((bs.length : Int) - p - 4 < 0) = false := by simp; omega
                  clear hrd hB hB2 hO hn4 q2 hn0
                  subst hcp
                  as_aux_lemma =>
                    go_wp2_with (first | (go_at_call 17; refine hr.out.mono ?_; rintro e w1 ⟨rfl, rfl⟩) | (go_at_call 21; refine hi.out.mono ?_; rintro e w2 ⟨rfl, s2⟩) | (go_at_call 15; refine (s_bad s2.out).mono ?_; rintro e w3 ⟨rfl, rfl⟩))
                    go_roundw
                    case rel => exact ⟨k + 1, p + 4, false, by omega, by go_num, by go_num, by first | rfl | (simp; omega), by omega, ⟨.inr ⟨rfl, by omega, s2⟩⟩⟩
                    case measure => simp [intOf]; omega
                · have hc1 : (convert 25 9 (.slice (some ⟨gb, go + (p + 4), none⟩) (n4 bs p) (c - (p + 4)))).run Try.prog wr = .ok (.string (str ((bs.drop (p + 4)).take (n4 bs p)))) wr := by
                    refine run_str wr _ _ gb (.inr ⟨go + (p + 4), c - (p + 4), ?_, ?_, Nat.lt_of_lt_of_le hgl hlow'.out.size, (hB2.drop (p + 4)).take _⟩)
                    · rw [List.length_take, List.length_drop]; congr 1; omega
                    · rw [List.length_take, List.length_drop]; omega
                  generalize (bs.drop (p + 4)).take (n4 bs p) = O at hc1 hi
                  generalize n4 bs p = r at hr hi hc1 q1 q2 hn4
                  have e1 : decide (most < (r : Int)) = false := by simpa using q1
                  have e2 : decide ((bs.length : Int) - p - 4 < (r : Int)) = false := by simp; omega
                  clear hrd hB hB2
                  as_aux_lemma =>
                    go_wp2_with (first | (go_at_call 17; refine hr.out.mono ?_; rintro e w1 ⟨rfl, rfl⟩) | (go_at_call 21; refine hi.out.mono ?_; rintro e w2 ⟨rfl, s2⟩) | (go_at_call 15; refine (s_bad s2.out).mono ?_; rintro e w3 ⟨rfl, rfl⟩))
                    go_roundw
                    case rel => exact ⟨k + 1, p + 4 + r, false, by omega, by go_num, by go_num, by first | rfl | (simp; omega), by omega, ⟨.inr ⟨rfl, by omega, s2⟩⟩⟩
                    case measure => simp [intOf]; omega
          · have hi := Box.mk (r_text s most (cnt_no h8 hpl most))
            rw [str_nil] at hi
            rw [show rdN bs p 4 = 0 by unfold rdN; rw [if_neg h8], show rdOk bs p 4 = false by unfold rdOk; rw [decide_eq_false h8]] at hr
            clear hrd
            as_aux_lemma =>
              go_wp2_with (first | (go_at_call 17; refine hr.out.mono ?_; rintro e w1 ⟨rfl, rfl⟩) | (go_at_call 21; refine hi.out.mono ?_; rintro e w2 ⟨rfl, s2⟩) | (go_at_call 15; refine (s_bad s2.out).mono ?_; rintro e w3 ⟨rfl, rfl⟩))
              go_roundw
              case rel => exact ⟨k + 1, p, true, by omega, by go_num, by go_num, rfl, by omega, ⟨.inl ⟨rfl, s2⟩⟩⟩
              case measure => simp [intOf]; omega
      · -- kind 4
        rcases hrd.out with ⟨rfl, s⟩ | ⟨rfl, hpl, s⟩
        · skip
          as_aux_lemma =>
            clear hrd
            have hz32 : Box ((z32.map V).toArray.size = 32) := ⟨by simp [z32]⟩
            have hzz := Try.zero29 wr
            go_upto_region 38 with (refine wpList_store_row rfl 29 (.tmp 19) (.tmp 165) rfl wr.heap.size (z32.map V).toArray rfl rfl 29 (z32.map V).toArray (heap_alloc_new _ _) (by rw [hz32.out]; exact Try.size29) rfl (V_all _) ?_)
            try go_frame
            refine code_any (fun w1 => HasV w1 wr.heap.size 29 z32 ∧ Below wr.heap.size wr w1) ?_ ?_
            · exact ⟨setRow_heap _ _ _ _ 29 (0, 0) (heap_alloc_new _ _), below_setRow2 ((Below.refl _ _).alloc (Nat.le_refl _) _) (Nat.le_refl _) _⟩
            rintro w5 ⟨hv5, hb5⟩
            clear hzz
            go_upto_region 40 with fail
            refine code_any (fun w1 => HasV w1 wr.heap.size 29 z32 ∧ Below wr.heap.size wr w1) ?_ ?_
            · exact ⟨hv5, hb5⟩
            clear hv5 hb5
            rintro w6 ⟨hv6, hb6⟩
            have hl32 : (z32).length = 32 := by simp [z32]
            have hS1 := range_of hv6.bytes
            have g1 := Try.under29
            have g2 : (Try.prog.info? 29).map (·.size) = some ((z32).map V).length := by rw [List.length_map, hl32]; exact Try.size29
            have g3 : ((z32).map V).length = 32 := by rw [List.length_map, hl32]
            have g4 := V_one (z32)
            have hv6' := Box.mk hv6
            have hibw := s.out.has.lt
            have hi : ∀ w7, Below wr.heap.size wr w7 → Box (Calls Try.prog 22 #[.pointer (some ⟨ib, 0, none⟩)] w7 fun e w' => e = .returned (.agg ((z32).map V).toArray) ∧ Box (Sin w w' ib [] true) ∧ Box (Only ib w7 w')) := fun w7 b7 => ⟨r_hash ⟨s.out.grow b7⟩ hsh_bad⟩
            have hq := fun W => run_equal29 W (z32) (z32) hl32 hl32
            have hg := fun W => Try.noGuard29 (.tmp 174) (.tmp 175) ((z32).map V).toArray ((z32).map V).toArray W
            clear hv6
            generalize z32 = O at *
            go_region_held3 (fun W => W.rangeAt wr.heap.size 0 (O.map V)) (first | exact hS1 | exact hS2) (first | (go_at_call 22; refine (hi _ (by first | exact hb6.drew | exact hb6)).out.mono ?_; rintro e w2 ⟨rfl, s2, o2⟩; have hS2 : w2.rangeAt wr.heap.size 0 (O.map V) := range_of (hv_only hv6'.out (g := ib) ⟨o2.out.os, o2.out.tape, o2.out.output, o2.out.size, o2.out.block⟩ (by omega)).bytes))
            all_goals
              clear hi hS1 hS2 hq hg g1 g2 g3 g4
              go_wp2_with (go_at_call 15; refine (s_bad s2.out).mono ?_; rintro e w3 ⟨rfl, rfl⟩)
              go_roundw
              case rel => exact ⟨k + 1, p + 32, true, by omega, by go_num, by go_num, rfl, by omega, ⟨.inl ⟨rfl, s2⟩⟩⟩
              case measure => simp [intOf]; omega
        · by_cases h8 : p + 32 ≤ bs.length
          · rcases hv'.out with ⟨_, _, _, rfl⟩ | ⟨go, c', e, hcc, hgl, hB⟩
            · simp at h8
            simp only [Value.slice.injEq] at e
            obtain ⟨rfl, _, rfl⟩ := e
            have hB2 := hB.below hlow'.out hgl
            have q0 : decide ((bs.length : Int) < (p : Int) + 32) = false := by simp; omega
            obtain ⟨O1, hO1⟩ : ∃ O1, Box ((bs.drop p).take 32 = O1) := ⟨_, ⟨rfl⟩⟩
            as_aux_lemma =>
              clear hrd
              have hz32 : Box ((z32.map V).toArray.size = 32) := ⟨by simp [z32]⟩
              have hzz := Try.zero29 wr
              go_upto_region 38 with (refine wpList_store_row rfl 29 (.tmp 19) (.tmp 165) rfl wr.heap.size (z32.map V).toArray rfl rfl 29 (z32.map V).toArray (heap_alloc_new _ _) (by rw [hz32.out]; exact Try.size29) rfl (V_all _) ?_)
              try go_frame
              refine code_any (fun w1 => HasV w1 wr.heap.size 29 z32 ∧ Below wr.heap.size wr w1) ?_ ?_
              · exact ⟨setRow_heap _ _ _ _ 29 (0, 0) (heap_alloc_new _ _), below_setRow2 ((Below.refl _ _).alloc (Nat.le_refl _) _) (Nat.le_refl _) _⟩
              rintro w5 ⟨hv5, hb5⟩
              clear hzz
              have hB5 := (hB2.below hb5 (Nat.lt_of_lt_of_le hgl hlow'.out.size))
              have cp1 := copy_w wr.heap.size gb go p bs.length 32 (c - p) w5 bs hB5 h8 rfl hv5
              have cp2 := copy_w wr.heap.size gb go p bs.length 32 (c - p) w5.drew bs hB5 h8 rfl hv5.drew
              have hcp : ¬ c = p := by omega
              rw [hO1.out] at cp1 cp2
              have hv5' := Box.mk hv5
              clear hv5 hB5
              go_wp2
              go_region
              clear cp1 cp2
              go_upto_region 40 with fail
              refine code_any (fun w1 => HasV w1 wr.heap.size 29 O1 ∧ Below wr.heap.size wr w1) ?_ ?_
              · exact ⟨setRow_heap _ _ _ _ 29 (0, 0) hv5'.out.drew, below_setRow2 hb5.drew (Nat.le_refl _) _⟩
              clear hv5' hb5
              rintro w6 ⟨hv6, hb6⟩
              have hl32 : (O1).length = 32 := by rw [← hO1.out]; simp; omega
              have hS1 := range_of hv6.bytes
              have g1 := Try.under29
              have g2 : (Try.prog.info? 29).map (·.size) = some ((O1).map V).length := by rw [List.length_map, hl32]; exact Try.size29
              have g3 : ((O1).map V).length = 32 := by rw [List.length_map, hl32]
              have g4 := V_one (O1)
              have hv6' := Box.mk hv6
              have hibw := s.out.has.lt
              have hi : ∀ w7, Below wr.heap.size wr w7 → Box (Calls Try.prog 22 #[.pointer (some ⟨ib, 0, none⟩)] w7 fun e w' => e = .returned (.agg ((O1).map V).toArray) ∧ Box (Sin w w' ib (bs.drop (p + 32)) false) ∧ Box (Only ib w7 w')) := fun w7 b7 => ⟨r_hash ⟨s.out.grow b7⟩ (by rw [← hO1.out]; exact hsh_ok h8)⟩
              have hq := fun W => run_equal29 W (O1) (O1) hl32 hl32
              have hg := fun W => Try.noGuard29 (.tmp 174) (.tmp 175) ((O1).map V).toArray ((O1).map V).toArray W
              clear hv6
              generalize O1 = O at *
              go_region_held3 (fun W => W.rangeAt wr.heap.size 0 (O.map V)) (first | exact hS1 | exact hS2) (first | (go_at_call 22; refine (hi _ (by first | exact hb6.drew | exact hb6)).out.mono ?_; rintro e w2 ⟨rfl, s2, o2⟩; have hS2 : w2.rangeAt wr.heap.size 0 (O.map V) := range_of (hv_only hv6'.out (g := ib) ⟨o2.out.os, o2.out.tape, o2.out.output, o2.out.size, o2.out.block⟩ (by omega)).bytes))
              all_goals
                clear hi hS1 hS2 hq hg g1 g2 g3 g4
                go_wp2_with (go_at_call 15; refine (s_bad s2.out).mono ?_; rintro e w3 ⟨rfl, rfl⟩)
                go_roundw
                case rel => exact ⟨k + 1, p + 32, false, by omega, by go_num, by go_num, by first | rfl | (simp; omega), by omega, ⟨.inr ⟨rfl, by omega, s2⟩⟩⟩
                case measure => simp [intOf]; omega
          · have q0 : decide ((bs.length : Int) < (p : Int) + 32) = true := by simp; omega
            as_aux_lemma =>
              clear hrd
              have hz32 : Box ((z32.map V).toArray.size = 32) := ⟨by simp [z32]⟩
              have hzz := Try.zero29 wr
              go_upto_region 38 with (refine wpList_store_row rfl 29 (.tmp 19) (.tmp 165) rfl wr.heap.size (z32.map V).toArray rfl rfl 29 (z32.map V).toArray (heap_alloc_new _ _) (by rw [hz32.out]; exact Try.size29) rfl (V_all _) ?_)
              try go_frame
              refine code_any (fun w1 => HasV w1 wr.heap.size 29 z32 ∧ Below wr.heap.size wr w1) ?_ ?_
              · exact ⟨setRow_heap _ _ _ _ 29 (0, 0) (heap_alloc_new _ _), below_setRow2 ((Below.refl _ _).alloc (Nat.le_refl _) _) (Nat.le_refl _) _⟩
              rintro w5 ⟨hv5, hb5⟩
              clear hzz
              go_upto_region 40 with fail
              refine code_any (fun w1 => HasV w1 wr.heap.size 29 z32 ∧ Below wr.heap.size wr w1) ?_ ?_
              · exact ⟨hv5, hb5⟩
              clear hv5 hb5
              rintro w6 ⟨hv6, hb6⟩
              have hl32 : (z32).length = 32 := by simp [z32]
              have hS1 := range_of hv6.bytes
              have g1 := Try.under29
              have g2 : (Try.prog.info? 29).map (·.size) = some ((z32).map V).length := by rw [List.length_map, hl32]; exact Try.size29
              have g3 : ((z32).map V).length = 32 := by rw [List.length_map, hl32]
              have g4 := V_one (z32)
              have hv6' := Box.mk hv6
              have hibw := s.out.has.lt
              have hi : ∀ w7, Below wr.heap.size wr w7 → Box (Calls Try.prog 22 #[.pointer (some ⟨ib, 0, none⟩)] w7 fun e w' => e = .returned (.agg ((z32).map V).toArray) ∧ Box (Sin w w' ib [] true) ∧ Box (Only ib w7 w')) := fun w7 b7 => ⟨r_hash ⟨s.out.grow b7⟩ (hsh_no h8 hpl)⟩
              have hq := fun W => run_equal29 W (z32) (z32) hl32 hl32
              have hg := fun W => Try.noGuard29 (.tmp 174) (.tmp 175) ((z32).map V).toArray ((z32).map V).toArray W
              clear hv6
              generalize z32 = O at *
              go_region_held3 (fun W => W.rangeAt wr.heap.size 0 (O.map V)) (first | exact hS1 | exact hS2) (first | (go_at_call 22; refine (hi _ (by first | exact hb6.drew | exact hb6)).out.mono ?_; rintro e w2 ⟨rfl, s2, o2⟩; have hS2 : w2.rangeAt wr.heap.size 0 (O.map V) := range_of (hv_only hv6'.out (g := ib) ⟨o2.out.os, o2.out.tape, o2.out.output, o2.out.size, o2.out.block⟩ (by omega)).bytes))
              all_goals
                clear hi hS1 hS2 hq hg g1 g2 g3 g4
                go_wp2_with (go_at_call 15; refine (s_bad s2.out).mono ?_; rintro e w3 ⟨rfl, rfl⟩)
                go_roundw
                case rel => exact ⟨k + 1, p + 32, true, by omega, by go_num, by go_num, rfl, by omega, ⟨.inl ⟨rfl, s2⟩⟩⟩
                case measure => simp [intOf]; omega
      · -- kind 5
        rcases hrd.out with ⟨rfl, s⟩ | ⟨rfl, hpl, s⟩
        · have hi := Box.mk (r_bool_bad s)
          clear hrd
          as_aux_lemma =>
            go_wp2_with (first | (go_at_call 23; refine hi.out.mono ?_; rintro e w2 ⟨rfl, s2⟩) | (go_at_call 15; refine (s_bad s2.out).mono ?_; rintro e w3 ⟨rfl, rfl⟩))
            go_roundw
            case rel => exact ⟨k + 1, p + 1, true, by omega, by go_num, by go_num, rfl, by omega, ⟨.inl ⟨rfl, s2⟩⟩⟩
            case measure => simp [intOf]; omega
        · by_cases h8 : p < bs.length
          · rcases hv'.out with ⟨_, _, _, rfl⟩ | ⟨go, c', e, hcc, hgl, hB⟩
            · simp at h8
            simp only [Value.slice.injEq] at e
            obtain ⟨rfl, _, rfl⟩ := e
            have c1 := hB.below hlow'.out hgl p h8
            have q0 : decide ((bs.length : Int) ≤ (p : Int)) = false := by simp; omega
            by_cases q1 : (bs.getD p 0).toNat ≤ 1
            · have hi := Box.mk (r_bool_ok s h8 q1)
              have hy : (bs.getD p 0).toNat = 0 ∨ (bs.getD p 0).toNat = 1 := by omega
              have hyb : bv (bs.getD p 0) = ((bs.getD p 0).toNat : Int) := rfl
              rw [hyb] at c1
              rcases hy with hy | hy
              · rw [hy] at c1 hi
                rw [show decide (0 = 1) = false from rfl] at hi
                clear hrd hB q1 hy hyb
                have c2 : wr.cell? ⟨gb, go + p, none⟩ = some (.int .u8 0) := c1
                clear c1
                have hB3 : ∀ w2, Box (Sin w w2 ib (bs.drop (p + 1)) false) → w2.cell? ⟨gb, go + p, none⟩ = some (.int .u8 0) := fun w2 s2 => by rw [s2.out.low.cell (by exact hgl), ← hlow'.out.cell (by exact hgl)]; exact c2
                as_aux_lemma =>
                  go_wp2_with (first | (go_at_call 23; refine hi.out.mono ?_; rintro e w2 ⟨rfl, s2⟩; have c3 : w2.cell? ⟨gb, go + p, none⟩ = some (.int .u8 0) := by (have := hB3 w2 s2; exact this)) | (go_at_call 15; refine (s_bad s2.out).mono ?_; rintro e w3 ⟨rfl, rfl⟩))
                  go_roundw
                  case rel => exact ⟨k + 1, p + 1, false, by omega, by go_num, by go_num, by first | rfl | (simp; omega), by omega, ⟨.inr ⟨rfl, by omega, s2⟩⟩⟩
                  case measure => simp [intOf]; omega
              · rw [hy] at c1 hi
                rw [show decide (1 = 1) = true from rfl] at hi
                clear hrd hB q1 hy hyb
                have c2 : wr.cell? ⟨gb, go + p, none⟩ = some (.int .u8 1) := c1
                clear c1
                have hB3 : ∀ w2, Box (Sin w w2 ib (bs.drop (p + 1)) false) → w2.cell? ⟨gb, go + p, none⟩ = some (.int .u8 1) := fun w2 s2 => by rw [s2.out.low.cell (by exact hgl), ← hlow'.out.cell (by exact hgl)]; exact c2
                as_aux_lemma =>
                  go_wp2_with (first | (go_at_call 23; refine hi.out.mono ?_; rintro e w2 ⟨rfl, s2⟩; have c3 : w2.cell? ⟨gb, go + p, none⟩ = some (.int .u8 1) := by (have := hB3 w2 s2; exact this)) | (go_at_call 15; refine (s_bad s2.out).mono ?_; rintro e w3 ⟨rfl, rfl⟩))
                  go_roundw
                  case rel => exact ⟨k + 1, p + 1, false, by omega, by go_num, by go_num, by first | rfl | (simp; omega), by omega, ⟨.inr ⟨rfl, by omega, s2⟩⟩⟩
                  case measure => simp [intOf]; omega
            · have hi := Box.mk (r_bool_out s h8 q1)
              have q2 : decide ((1 : Int) < bv (bs.getD p 0)) = true := decide_eq_true (by unfold bv; omega)
              have hyr := bv_range (bs.getD p 0)
              generalize bs.getD p 0 = y at c1 q2 hyr
              clear hrd hB
              as_aux_lemma =>
                go_wp2_with (first | (go_at_call 23; refine hi.out.mono ?_; rintro e w2 ⟨rfl, s2⟩) | (go_at_call 15; refine (s_bad s2.out).mono ?_; rintro e w3 ⟨rfl, rfl⟩))
                go_roundw
                case rel => exact ⟨k + 1, p + 1, true, by omega, by go_num, by go_num, rfl, by omega, ⟨.inl ⟨rfl, s2⟩⟩⟩
                case measure => simp [intOf]; omega
          · have hi := Box.mk (r_bool_no s h8 hpl)
            have q0 : decide ((bs.length : Int) ≤ (p : Int)) = true := by simp; omega
            clear hrd
            as_aux_lemma =>
              go_wp2_with (first | (go_at_call 23; refine hi.out.mono ?_; rintro e w2 ⟨rfl, s2⟩) | (go_at_call 15; refine (s_bad s2.out).mono ?_; rintro e w3 ⟨rfl, rfl⟩))
              go_roundw
              case rel => exact ⟨k + 1, p + 1, true, by omega, by go_num, by go_num, rfl, by omega, ⟨.inl ⟨rfl, s2⟩⟩⟩
              case measure => simp [intOf]; omega
    · -- the end
      rcases hrd.out with ⟨rfl, s⟩ | ⟨rfl, hpl, s⟩
      · have hi : Box (Calls Try.prog 16 #[.pointer (some ⟨ib, 0, none⟩)] wr fun e w' => e = .returned (.bool false) ∧ w' = wr) := ⟨s_done s.out⟩
        as_aux_lemma =>
          go_wp2_with (first | (go_at_call 16; refine hi.out.mono ?_; rintro e w2 ⟨rfl, rfl⟩) | (go_at_call 9; refine (s_awake s.out).mono ?_; rintro e w9 ⟨rfl, s9⟩))
          go_ret
          exact ⟨rfl, s9.out.low⟩
      · have hi := Box.mk (s_done s.out)
        by_cases hpe : p = bs.length
        · rw [show (!false && decide (bs.drop p = [])) = true by rw [List.drop_eq_nil_iff.2 (by omega)]; rfl] at hi
          have q0 : ((p : Int) == (bs.length : Int)) = true := by simp; omega
          go_wp2_with (first | (go_at_call 16; refine hi.out.mono ?_; rintro e w2 ⟨rfl, rfl⟩) | (go_at_call 9; refine (s_awake s.out).mono ?_; rintro e w9 ⟨rfl, s9⟩))
          go_ret
          exact ⟨rfl, s9.out.low⟩
        · rw [show (!false && decide (bs.drop p = [])) = false by rw [decide_eq_false (fun e => by have := List.drop_eq_nil_iff.1 e; omega)]; rfl] at hi
          have q0 : ((p : Int) == (bs.length : Int)) = false := by simp; omega
          go_wp2_with (first | (go_at_call 16; refine hi.out.mono ?_; rintro e w2 ⟨rfl, rfl⟩) | (go_at_call 9; refine (s_awake s.out).mono ?_; rintro e w9 ⟨rfl, s9⟩))
          go_ret
          exact ⟨rfl, s9.out.low⟩
set_option maxRecDepth 100000 in
set_option maxHeartbeats 4000000 in
theorem reads_long (a a1 : Option Addr) (n c n1 c1 : Nat) (most : Int) (w : World) (h : 400 < n ∨ 40 < n1) :
    Calls Try.prog 4 #[.slice a n c, .slice a1 n1 c1, .int .i64 most] w fun e w' => e = .returned (.bool true) ∧ Below w.heap.size w w' := by
  have hA := Box.mk (awake_any w)
  by_cases q : 400 < n
  · have d1 : decide ((400 : Int) < (n : Int)) = true := by simp; omega
    go_enter Try.func4, Try.ntmps4
    go_wp2_with (go_at_call 9; refine hA.out.mono ?_; rintro e w1 ⟨rfl, b1⟩)
    go_ret
    exact ⟨rfl, b1⟩
  · have d1 : decide ((400 : Int) < (n : Int)) = false := by simp; omega
    have d2 : decide ((40 : Int) < (n1 : Int)) = true := by simp; omega
    go_enter Try.func4, Try.ntmps4
    go_wp2_with (go_at_call 9; refine hA.out.mono ?_; rintro e w1 ⟨rfl, b1⟩)
    go_ret
    exact ⟨rfl, b1⟩
theorem reads_law (a : Option Addr) (len c gb : Nat) (bs : List (BitVec 8)) (a1 : Option Addr) (len1 c1 kb : Nat) (ks : List (BitVec 8)) (most : Int) (w : World) (hv : Av w (.slice a len c) bs gb) (hl : bs.length = len) (kv : Av w (.slice a1 len1 c1) ks kb) (hk : ks.length = len1) :
    Calls Try.prog 4 #[.slice a len c, .slice a1 len1 c1, .int .i64 most] w fun e w' => e = .returned (.bool true) ∧ Below w.heap.size w w' := by
  by_cases h : 400 < len ∨ 40 < len1
  · exact reads_long a a1 len c len1 c1 most w h
  · subst hk
    rcases kv with ⟨sp, c', e, rfl⟩ | ⟨go, c', e, hcc, hgl, hB⟩
    · exact reads_short _ gb bs 0 c1 0 a1 [] most w hv (by omega) (by simp) (fun h => by simp at h)
    · simp only [Value.slice.injEq] at e
      exact reads_short _ gb bs go c1 kb a1 ks most w hv (by omega) (by omega) (fun _ => ⟨e.1, hgl, hB⟩)
end Go.Proofs.Ytkgfcddjjghohaa
