/- What awake and the reference's Read hand back. -/
import Derived.Test.YtkgfcddjjghohaaWi
namespace Go.Proofs.Ytkgfcddjjghohaa
open Go.RowKit
theorem out_new (w : World) : HasOut (w.alloc (.cells #[.slice none 0 0] 27)) w.heap.size (.slice none 0 0) [] := ⟨heap_alloc_new _ _, World.ownsRow_nil _ _ _ _⟩
theorem oall_any (ob : Nat) (v : Value) (xs : List (BitVec 8)) (w : World) (h : HasOut w ob v xs) (hl : xs.length ≤ 900000) :
    Calls Try.prog 12 #[.pointer (some ⟨ob, 0, none⟩)] w fun e w' => ∃ v', e = .returned v' ∧ w'.ownsRow w.heap.size 5 1 v' xs.length (xs.map V) ∧ Below w.heap.size w w' := by
  rcases own_rv h.2 with ⟨e, e2⟩ | ⟨g, _, _, _, hr⟩
  · exact all_any ob v 0 xs w h.1 (.inl ⟨e, e2⟩) hl
  · exact all_any ob v g xs w h.1 hr hl
theorem awake_text : str (be8 258 ++ beN 2 4 ++ strB ⟨#[97, 98]⟩) = ⟨#[0, 0, 0, 0, 0, 0, 1, 2, 0, 0, 0, 2, 97, 98]⟩ := by decide +kernel
set_option maxHeartbeats 400000 in
theorem awake_any (w : World) : Calls Try.prog 9 #[] w fun e w' => e = .returned (.bool true) ∧ Below w.heap.size w w' := by
  have hz := out_new w
  have hA : Box (Calls Try.prog 25 #[.pointer (some ⟨w.heap.size, 0, none⟩), .int .i64 258] (w.alloc (.cells #[.slice none 0 0] 27)) fun e w1 => e = .returned (.pointer (some ⟨w.heap.size, 0, none⟩)) ∧ Box (Below w.heap.size w w1) ∧ Box (∃ v, HasOut w1 w.heap.size v (be8 258))) := ⟨by
    refine (oint_any w.heap.size 258 _ [] _ hz (by simp)).mono ?_
    rintro e w1 ⟨rfl, v, h1, h2⟩
    exact ⟨rfl, ⟨((Below.refl _ _).alloc (Nat.le_refl _) _).trans (h2.below hz _ (Nat.le_refl _))⟩, ⟨v, h1⟩⟩⟩
  have hB : ∀ w1, Box (Below w.heap.size w w1) → Box (∃ v, HasOut w1 w.heap.size v (be8 258)) → Box (Calls Try.prog 26 #[.pointer (some ⟨w.heap.size, 0, none⟩), .string ⟨#[97, 98]⟩] w1 fun e w2 => e = .returned (.pointer (some ⟨w.heap.size, 0, none⟩)) ∧ Box (Below w.heap.size w w2) ∧ Box (∃ v, HasOut w2 w.heap.size v (be8 258 ++ beN 2 4 ++ strB ⟨#[97, 98]⟩))) := fun w1 b1 ⟨v, h1⟩ => ⟨by
    refine (otext_any w.heap.size ⟨#[97, 98]⟩ _ (be8 258) _ h1 (by rw [be8_len]; decide)).mono ?_
    rintro e w2 ⟨rfl, v, h2, h3⟩
    exact ⟨rfl, ⟨b1.out.trans (h3.below h1 _ (Nat.le_refl _))⟩, ⟨v, h2⟩⟩⟩
  have hC : ∀ w1, Box (Below w.heap.size w w1) → Box (∃ v, HasOut w1 w.heap.size v (be8 258 ++ beN 2 4 ++ strB ⟨#[97, 98]⟩)) → Box (Calls Try.prog 12 #[.pointer (some ⟨w.heap.size, 0, none⟩)] w1 fun e w2 => ∃ v, e = .returned v ∧ Box (Below w.heap.size w w2) ∧ (convert 25 9 v).run Try.prog w2 = .ok (.string ⟨#[0, 0, 0, 0, 0, 0, 1, 2, 0, 0, 0, 2, 97, 98]⟩) w2) := fun w1 b1 ⟨v, h1⟩ => ⟨by
    refine (oall_any w.heap.size v _ w1 h1 (by decide)).mono ?_
    rintro e w2 ⟨v', rfl, h2, h3⟩
    obtain ⟨g, a, c, rfl, _, _, hr⟩ := own_apart h2 h3.size
    refine ⟨_, rfl, ⟨b1.out.trans ⟨h3.os, h3.tape, h3.output, h3.size, fun k hk => h3.block k (Nat.lt_of_lt_of_le hk b1.out.size)⟩⟩, ?_⟩
    rw [← awake_text]
    exact run_str w2 _ _ g hr⟩
  clear hz
  go_enter Try.func9, Try.ntmps9
  go_wp2_with (first | (go_at_call 25; refine hA.out.mono ?_; rintro e w1 ⟨rfl, b1, o1⟩) | (go_at_call 26; refine (hB _ b1 o1).out.mono ?_; rintro e w2 ⟨rfl, b2, o2⟩) | (go_at_call 12; refine (hC _ b2 o2).out.mono ?_; rintro e w3 ⟨v, rfl, b3, hcv⟩))
  go_ret
  exact ⟨rfl, b3.out⟩
end Go.Proofs.Ytkgfcddjjghohaa
