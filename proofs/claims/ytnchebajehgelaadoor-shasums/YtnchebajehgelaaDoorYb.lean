/- What the reference's one hands back: the first of its loops. -/
import Derived.Test.YtnchebajehgelaaDoorYa
import Derived.Test.YtnchebajehgelaaDoorPt
import Derived.Deep.RegionHeld3
import Derived.Deep.RegionLaw
import Derived.Deep.AppendLies
import Derived.Deep.DrawnRows
namespace Go.Proofs.YtnchebajehgelaaDoor
open Go.RowKit
theorem vl_mul256 (x : BitVec 32) : (vl x * (256 : Int)) % (4294967296 : Int) = vl (x * 256) := by
  unfold vl; rw [BitVec.toNat_mul]; simp
theorem vl_mul256w (x : BitVec 32) : IntKind.u32.wrap (vl x * (256 : Int)) = vl (x * 256) := by
  rw [IntKind.wrap_u32']; exact vl_mul256 x
theorem vl_eighth (x : BitVec 32) : vl x / (8 : Int) = vl (x >>> 3) := by
  unfold vl; rw [BitVec.toNat_ushiftRight, Nat.shiftRight_eq_div_pow]; omega
theorem vl_kth (x : BitVec 32) : vl x / (1024 : Int) = vl (x >>> 10) := by
  unfold vl; rw [BitVec.toNat_ushiftRight, Nat.shiftRight_eq_div_pow]; omega
theorem wrap_small (x : Int) (h1 : -1000 ≤ x) (h2 : x ≤ 1000000) : IntKind.i64.wrap x = x := by
  rw [IntKind.wrap_i64]; omega
theorem vl_eightht (x : BitVec 32) : (vl x).tdiv (8 : Int) = vl (x >>> 3) := by
  rw [Int.tdiv_eq_ediv_of_nonneg (vl_range x).1, vl_eighth]
theorem vl_ktht (x : BitVec 32) : (vl x).tdiv (1024 : Int) = vl (x >>> 10) := by
  rw [Int.tdiv_eq_ediv_of_nonneg (vl_range x).1, vl_kth]
/-- The words xs lie from the beginning of block b on. -/
def HasU (w : World) (b : Nat) (xs : List (BitVec 32)) : Prop := b < w.heap.size ∧ ∀ i, i < xs.length → w.cell? ⟨b, i, none⟩ = some (.int .u32 (vl (xs.getD i 0)))
theorem HasU.below {w w' : World} {B b : Nat} {xs : List (BitVec 32)} (h : HasU w b xs) (hb : Below B w w') (hB : b < B) : HasU w' b xs :=
  ⟨Nat.lt_of_lt_of_le h.1 hb.size, fun i hi => by rw [hb.cell (by exact hB)]; exact h.2 i hi⟩
theorem own_has {w : World} {base n : Nat} {e : TypeId} {v : Value} {xs : List (BitVec 32)} (h : w.ownsRow base e 1 v n (xs.map U)) (hn : 0 < n) : ∃ g c, v = .slice (some ⟨g, 0, none⟩) n c ∧ n ≤ c ∧ base ≤ g ∧ HasU w g xs := by
  obtain ⟨sp, c, rfl, hc, hh⟩ := own_parts h
  obtain ⟨g, rfl, hb, hg, hcl⟩ := hh hn
  refine ⟨g, c, rfl, hc, hb, hg, fun i hi => hcl i _ ?_⟩
  rw [List.getElem?_map, List.getElem?_eq_getElem hi, List.getD_eq_getElem?_getD, List.getElem?_eq_getElem hi]; rfl
theorem turn7 (x : BitVec 32) (w : World) : Calls Tryd.prog 31 #[.int .u32 (vl x), .int .i64 7] w fun e w' => e = .returned (.int .u32 (vl (rot x 7))) ∧ w' = w := turn_any x 7 (by omega) w
theorem turn18 (x : BitVec 32) (w : World) : Calls Tryd.prog 31 #[.int .u32 (vl x), .int .i64 18] w fun e w' => e = .returned (.int .u32 (vl (rot x 18))) ∧ w' = w := turn_any x 18 (by omega) w
theorem turn17 (x : BitVec 32) (w : World) : Calls Tryd.prog 31 #[.int .u32 (vl x), .int .i64 17] w fun e w' => e = .returned (.int .u32 (vl (rot x 17))) ∧ w' = w := turn_any x 17 (by omega) w
theorem turn19 (x : BitVec 32) (w : World) : Calls Tryd.prog 31 #[.int .u32 (vl x), .int .i64 19] w fun e w' => e = .returned (.int .u32 (vl (rot x 19))) ∧ w' = w := turn_any x 19 (by omega) w
theorem turn6 (x : BitVec 32) (w : World) : Calls Tryd.prog 31 #[.int .u32 (vl x), .int .i64 6] w fun e w' => e = .returned (.int .u32 (vl (rot x 6))) ∧ w' = w := turn_any x 6 (by omega) w
theorem turn11 (x : BitVec 32) (w : World) : Calls Tryd.prog 31 #[.int .u32 (vl x), .int .i64 11] w fun e w' => e = .returned (.int .u32 (vl (rot x 11))) ∧ w' = w := turn_any x 11 (by omega) w
theorem turn25 (x : BitVec 32) (w : World) : Calls Tryd.prog 31 #[.int .u32 (vl x), .int .i64 25] w fun e w' => e = .returned (.int .u32 (vl (rot x 25))) ∧ w' = w := turn_any x 25 (by omega) w
theorem turn2 (x : BitVec 32) (w : World) : Calls Tryd.prog 31 #[.int .u32 (vl x), .int .i64 2] w fun e w' => e = .returned (.int .u32 (vl (rot x 2))) ∧ w' = w := turn_any x 2 (by omega) w
theorem turn13 (x : BitVec 32) (w : World) : Calls Tryd.prog 31 #[.int .u32 (vl x), .int .i64 13] w fun e w' => e = .returned (.int .u32 (vl (rot x 13))) ∧ w' = w := turn_any x 13 (by omega) w
theorem turn22 (x : BitVec 32) (w : World) : Calls Tryd.prog 31 #[.int .u32 (vl x), .int .i64 22] w fun e w' => e = .returned (.int .u32 (vl (rot x 22))) ∧ w' = w := turn_any x 22 (by omega) w
theorem take_at (xs : List (BitVec 32)) (t i : Nat) (h : i < t) : (xs.take t).getD i 0 = xs.getD i 0 := by
  rw [List.getD_eq_getElem?_getD, List.getD_eq_getElem?_getD, List.getElem?_take_of_lt h]
theorem list_take (r : St) (k : Nat) (h : k < 8) : r.list.take (k + 1) = r.list.take k ++ [r.list.getD k 0] := by
  have hl : k < r.list.length := by simpa [St.list] using h
  rw [List.take_add_one, List.getElem?_eq_getElem hl, List.getD_eq_getElem?_getD, List.getElem?_eq_getElem hl]; simp
theorem mix_at (s : St) (bs : List (BitVec 8)) (i : Nat) (h : i < 8) : (mix s bs).list.getD i 0 = s.list.getD i 0 + (rnds (words bs) s 64).list.getD i 0 := by
  unfold mix
  generalize rnds (words bs) s 64 = r
  match i, h with
  | 0, _ => rfl
  | 1, _ => rfl
  | 2, _ => rfl
  | 3, _ => rfl
  | 4, _ => rfl
  | 5, _ => rfl
  | 6, _ => rfl
  | 7, _ => rfl
theorem hasU_new8 (w : World) (T : TypeId) (a b c d e f g h : BitVec 32) : HasU (w.alloc (.cells #[.int .u32 (vl a), .int .u32 (vl b), .int .u32 (vl c), .int .u32 (vl d), .int .u32 (vl e), .int .u32 (vl f), .int .u32 (vl g), .int .u32 (vl h)] T)) w.heap.size [a, b, c, d, e, f, g, h] := by
  refine ⟨by simp, fun i hi => ?_⟩
  rw [cell_of_row _ _ _ _ _ _ (heap_alloc_new _ _)]
  match i, hi with
  | 0, _ => rfl
  | 1, _ => rfl
  | 2, _ => rfl
  | 3, _ => rfl
  | 4, _ => rfl
  | 5, _ => rfl
  | 6, _ => rfl
  | 7, _ => rfl
theorem vl_subn (x : BitVec 32) : ((4294967295 : Int) - vl x) % (4294967296 : Int) = vl (~~~ x) := by
  unfold vl; rw [BitVec.toNat_not]; have := x.isLt; omega
theorem vl_subnw (x : BitVec 32) : IntKind.u32.wrap ((4294967295 : Int) - vl x) = vl (~~~ x) := by
  rw [IntKind.wrap_u32']; exact vl_subn x
attribute [local go_sem ↓] Go.wp_at_zero Go.wp_at_succ
attribute [local go_sem] vl_xor vl_and vl_subn vl_subnw vl_add vl_addw vl_id vl_mul256 vl_mul256w vl_eighth vl_kth vl_eightht vl_ktht vl_idm bv_w bv_wrap
set_option maxRecDepth 100000 in
set_option maxHeartbeats 2000000 in
theorem one_any (s : St) (bs : List (BitVec 8)) (hbs : bs.length = 64) (hb8 hc8 kb kc bb bo bc : Nat) (w : World) (hH : HasU w hb8 s.list) (hK : HasU w kb KN) (hB : HasB w bb bo bs) (hbb : bb < w.heap.size) :
    Calls Tryd.prog 22 #[.slice (some ⟨hb8, 0, none⟩) 8 hc8, .slice (some ⟨kb, 0, none⟩) 64 kc, .slice (some ⟨bb, bo, none⟩) 64 bc] w fun e w' => ∃ g c, e = .returned (.slice (some ⟨g, 0, none⟩) 8 c) ∧ w.heap.size ≤ g ∧ HasU w' g (mix s bs).list ∧ Below w.heap.size w w' := by
  obtain ⟨i0, hi, hz0, hz1, hz2⟩ := info_parts Tryd.info52
  have hH' : Box (HasU w hb8 s.list) := ⟨hH⟩
  have hK' : Box (HasU w kb KN) := ⟨hK⟩
  have hB' : Box (HasB w bb bo bs) := ⟨hB⟩
  have hbs' : Box (bs.length = 64) := ⟨hbs⟩
  clear hH hK hB hbs
  go_enter Tryd.func22, Tryd.ntmps22
  go_wp2
  go_loopw [7, 8] (fun v i wr => ∃ t : Nat, t ≤ 64 ∧ i = .int .i64 t ∧ wr.ownsRow w.heap.size 52 1 v t (((words bs).take t).map U) ∧ Below w.heap.size w wr) (fun _ i _ => 64 - (intOf i).toNat)
  case atStart => exact ⟨0, by omega, rfl, World.ownsRow_nil _ _ _ _, Below.refl _ _⟩
  case round =>
    obtain ⟨t, ht, rfl, hown, hb⟩ := hrel
    by_cases ht64 : t < 64
    · have hnx : Box ((words bs).take (t + 1) = (words bs).take t ++ [(words bs).getD t 0]) := ⟨words_take bs t ht64⟩
      by_cases ht16 : t < 16
      · have hown' : Box (wr.ownsRow w.heap.size 52 1 u7 t (((words bs).take t).map U)) := ⟨hown⟩
        have hwd : Box (bx (fun m => bs.getD (4 * t + m) 0) 4 = (words bs).getD t 0) := ⟨by rw [bx_four, words_first bs t ht16]; rfl⟩
        obtain ⟨f, hf⟩ : ∃ f, Box ((fun m => bs.getD (4 * t + m) 0) = f) := ⟨_, ⟨rfl⟩⟩
        rw [hf.out] at hwd
        clear hown
        obtain ⟨wo, hwo⟩ : ∃ wo : World, wo = wr := ⟨_, rfl⟩
        subst hwo
        go_wp2
        go_loopw [9, 10] (fun x i wi => ∃ m : Nat, m ≤ 4 ∧ x = .int .u32 (vl (bx f m)) ∧ i = .int .i64 m ∧ wi = wo) (fun _ i _ => 4 - (intOf i).toNat)
        case atStart => exact ⟨0, by omega, rfl, rfl, rfl⟩
        case round =>
          obtain ⟨m, hm, rfl, rfl, rfl⟩ := hrel
          by_cases hm4 : m < 4
          · have cb : wr.cell? ⟨bb, bo + (4 * t + m), none⟩ = some (.int .u8 (bv (f m))) := by
              rw [hb.cell (by exact hbb), ← hf.out]; exact hB'.out _ (by rw [hbs'.out]; omega)
            have hs : Box (bx f (m + 1) = bx f m * 256 + (f m).setWidth 32) := ⟨rfl⟩
            generalize bx f m = x at hs ⊢
            generalize f m = b at hs cb
            go_wp2
            go_roundw
            case rel => exact ⟨m + 1, by omega, by rw [hs.out]; rfl, by go_num, trivial⟩
            case measure => simp [intOf]; omega
          · obtain rfl : m = 4 := by omega
            rw [hwd.out]
            generalize (words bs).getD t 0 = x at hnx
            go_wp2_with (at_builtin; refine wpList_append_own _ rfl (.tmp 44) (.tmp 46) 46 rfl w.heap.size 52 i0 (.int .u32 0) 1 4 Tryd.under46 hi hz0 hz1 hz2 rfl (by decide) u7 t _ rfl (hown'.out.alloc _) ⟨wr.heap.size, 0, none⟩ 1 1 [.int .u32 (vl x)] rfl rfl (news_one (cell_new1 _ _ _)) (one_int _ _) (by unfold maxLen; omega) (by omega) (by have := hb.size; simp; omega) ?_)
            intro v' w3 hown3 hgrow _
            have hown4 : Box (w3.ownsRow w.heap.size 52 1 v' (t + 1) (((words bs).take (t + 1)).map U)) := ⟨by
              rw [hnx.out, List.map_append, List.map_take]; exact hown3⟩
            have hb3 : Below w.heap.size w w3 := (hb.alloc hb.size _).grown hgrow (by have := hb.size; simp; omega) (fun g e => by have := hown'.out.lt _ e; omega)
            clear hown3 hgrow hown' hb
            go_wp2
            go_roundw
            case rel => exact ⟨t + 1, by omega, by go_num, hown4.out, hb3⟩
            case measure => simp [intOf]; omega
      · obtain ⟨g, c, rfl, hc, hbg, hU⟩ := own_has hown (by omega)
        have hlt : ((words bs).take t).length = t := by rw [List.length_take, words, w2_len]; omega
        have hx : Box ((words bs).getD t 0 = sg1 ((words bs).getD (t - 2) 0) + (words bs).getD (t - 7) 0 + sg0 ((words bs).getD (t - 15) 0) + (words bs).getD (t - 16) 0) := ⟨words_next bs t (by omega) ht64⟩
        have c15 := hU.2 (t - 15) (by omega)
        have c2 := hU.2 (t - 2) (by omega)
        have c7 := hU.2 (t - 7) (by omega)
        have c16 := hU.2 (t - 16) (by omega)
        rw [take_at _ _ _ (by omega)] at c15 c2 c7 c16
        have hown' : Box (wr.ownsRow w.heap.size 52 1 (.slice (some ⟨g, 0, none⟩) t c) t (((words bs).take t).map U)) := ⟨hown⟩
        have hnx' : Box ((words bs).take (t + 1) = (words bs).take t ++ [sg1 ((words bs).getD (t - 2) 0) + (words bs).getD (t - 7) 0 + sg0 ((words bs).getD (t - 15) 0) + (words bs).getD (t - 16) 0]) := ⟨by rw [hnx.out, hx.out]⟩
        clear hown hU hlt hx hnx
        generalize (words bs).getD (t - 15) 0 = x15 at c15 hnx'
        generalize (words bs).getD (t - 2) 0 = x2 at c2 hnx'
        generalize (words bs).getD (t - 7) 0 = x7 at c7 hnx'
        generalize (words bs).getD (t - 16) 0 = x16 at c16 hnx'
        unfold sg0 sg1 at hnx'
        have w7 : IntKind.i64.wrap ((t : Int) - 7) = (t : Int) - 7 := wrap_small _ (by omega) (by omega)
        have w16 : IntKind.i64.wrap ((t : Int) - 16) = (t : Int) - 16 := wrap_small _ (by omega) (by omega)
        have n7 : ((t : Int) - 7).toNat = t - 7 := by omega
        have n16 : ((t : Int) - 16).toNat = t - 16 := by omega
        have i7a : (7 : Int) ≤ (t : Int) := by omega
        have i7b : (t : Int) - 7 < (t : Int) := by omega
        have i16a : (16 : Int) ≤ (t : Int) := by omega
        have i16b : (t : Int) - 16 < (t : Int) := by omega
        obtain ⟨wo, hwo⟩ : ∃ wo : World, wo = wr := ⟨_, rfl⟩
        subst hwo
        go_wp2
        go_region
        all_goals
          go_wp2_with (first | (go_at_call_of 31 (Value.int IntKind.i64 7); refine (turn7 _ _).mono ?_; rintro e wt ⟨rfl, rfl⟩) | (go_at_call_of 31 (Value.int IntKind.i64 18); refine (turn18 _ _).mono ?_; rintro e wt ⟨rfl, rfl⟩) | (go_at_call_of 31 (Value.int IntKind.i64 17); refine (turn17 _ _).mono ?_; rintro e wt ⟨rfl, rfl⟩) | (go_at_call_of 31 (Value.int IntKind.i64 19); refine (turn19 _ _).mono ?_; rintro e wt ⟨rfl, rfl⟩))
          go_region_law ((refine step_append_lies _ (by rfl) _ _ _ (by rfl) w.heap.size 52 i0 (.int .u32 0) 1 4 Tryd.under46 hi hz0 hz1 hz2 rfl (by omega) (.slice (some ⟨g, 0, none⟩) t c) t _ (by rfl) (((hown'.out.drew).drew).alloc _) ⟨wo.heap.size, 0, none⟩ 1 1 [.int .u32 (vl ((rot x2 17 ^^^ rot x2 19 ^^^ x2 >>> 10) + x7 + (rot x15 7 ^^^ rot x15 18 ^^^ x15 >>> 3) + x16))] (by rfl) (by rfl) (news_one (cell_new1 _ _ _)) (one_int _ _) (by omega) (by unfold maxLen; omega) (by omega) (by have := hb.size; simp; omega) (wo.heap.size + 1) (by simp) ?_; intro gg cap w1 hown1 hgrow hat hlt))
          all_goals
            have hown4 : Box (w1.ownsRow w.heap.size 52 1 (.slice (some ⟨gg, 0, none⟩) (t + 1) cap) (t + 1) (((words bs).take (t + 1)).map U)) := ⟨by
              rw [hnx'.out, List.map_append]; exact hown1⟩
            have hb3 : Below w.heap.size w w1 := (hb.drew.drew.alloc hb.size _).grown hgrow (by have := hb.size; simp; omega) (fun g e => by have := hown'.out.lt _ e; omega)
            clear hown1 hgrow hown' hb hat hlt c15 c2 c7 c16
            go_wp2
            go_roundw
            case rel => exact ⟨t + 1, by omega, by go_num, hown4.out, hb3⟩
            case measure => simp [intOf]; omega
    · obtain rfl : t = 64 := by omega
      obtain ⟨wb, wc, rfl, -, hbg, hU⟩ := own_has hown (by omega)
      have hW : Box (HasU wr wb (words bs)) := ⟨by rw [List.take_of_length_le (by rw [words, w2_len]; omega)] at hU; exact hU⟩
      have h8 := hH'.out.below hb hH'.out.1
      have hwbl : wb < wr.heap.size := hU.1
      have c0 : wr.cell? ⟨hb8, 0, none⟩ = some (.int .u32 (vl s.a)) := h8.2 0 (by simp [St.list])
      have c1 : wr.cell? ⟨hb8, 1, none⟩ = some (.int .u32 (vl s.b)) := h8.2 1 (by simp [St.list])
      have c2 : wr.cell? ⟨hb8, 2, none⟩ = some (.int .u32 (vl s.c)) := h8.2 2 (by simp [St.list])
      have c3 : wr.cell? ⟨hb8, 3, none⟩ = some (.int .u32 (vl s.d)) := h8.2 3 (by simp [St.list])
      have c4 : wr.cell? ⟨hb8, 4, none⟩ = some (.int .u32 (vl s.e)) := h8.2 4 (by simp [St.list])
      have c5 : wr.cell? ⟨hb8, 5, none⟩ = some (.int .u32 (vl s.f)) := h8.2 5 (by simp [St.list])
      have c6 : wr.cell? ⟨hb8, 6, none⟩ = some (.int .u32 (vl s.g)) := h8.2 6 (by simp [St.list])
      have c7 : wr.cell? ⟨hb8, 7, none⟩ = some (.int .u32 (vl s.h)) := h8.2 7 (by simp [St.list])
      clear hown hU h8
      go_wp2
      go_region_held3 (fun w' => w'.cell? ⟨hb8, 0, none⟩ = some (.int .u32 (vl s.a)) ∧ w'.cell? ⟨hb8, 1, none⟩ = some (.int .u32 (vl s.b)) ∧ w'.cell? ⟨hb8, 2, none⟩ = some (.int .u32 (vl s.c)) ∧ w'.cell? ⟨hb8, 3, none⟩ = some (.int .u32 (vl s.d)) ∧ w'.cell? ⟨hb8, 4, none⟩ = some (.int .u32 (vl s.e)) ∧ w'.cell? ⟨hb8, 5, none⟩ = some (.int .u32 (vl s.f)) ∧ w'.cell? ⟨hb8, 6, none⟩ = some (.int .u32 (vl s.g)) ∧ w'.cell? ⟨hb8, 7, none⟩ = some (.int .u32 (vl s.h))) (go_keep) (fail)
      clear c0 c1 c2 c3 c4 c5 c6 c7
      go_upto_region 17 with fail
      refine code_any (fun w2 => HasU w2 wr.heap.size s.list ∧ HasU w2 wb (words bs) ∧ Below w.heap.size w w2) ?_ ?_
      · refine ⟨hasU_new8 _ _ _ _ _ _ _ _ _ _, hW.out.below (B := wr.heap.size) (Below.alloc (Below.drew (Below.refl _ _)) (Nat.le_refl _) _) hwbl, Below.alloc hb.drew hb.size _⟩
      rintro w2 ⟨hV2, hW2, hb2⟩
      have hvb : w.heap.size ≤ wr.heap.size := hb.size
      clear hW hb hwbl
      generalize wr.heap.size = vb at hV2 hvb ⊢
      obtain ⟨wo, hwo⟩ : ∃ wo : World, wo = wr := ⟨_, rfl⟩
      clear hwo
      go_wp2
      go_loopw [15, 16] (fun v i wr => ∃ t g : Nat, t ≤ 64 ∧ i = .int .i64 t ∧ v = .slice (some ⟨g, 0, none⟩) 8 8 ∧ w.heap.size ≤ g ∧ HasU wr g (rnds (words bs) s t).list ∧ HasU wr wb (words bs) ∧ Below w.heap.size w wr) (fun _ i _ => 64 - (intOf i).toNat)
      case atStart => exact ⟨0, vb, by omega, rfl, rfl, hvb, hV2, hW2, hb2⟩
      case round =>
        clear hV2 hW2 hb2 hvb
        obtain ⟨t, g, ht, rfl, rfl, hwg, hV, hW, hb⟩ := hrel
        by_cases ht64 : t < 64
        · have hnx : Box (rnds (words bs) s (t + 1) = rnd (rnds (words bs) s t) (KN.getD t 0) ((words bs).getD t 0)) := ⟨rfl⟩
          have cK := (hK'.out.below hb hK'.out.1).2 t (by exact ht64)
          have cW := hW.2 t (by rw [words, w2_len]; exact ht64)
          have hW' : Box (HasU wr wb (words bs)) := ⟨hW⟩
          generalize KN.getD t 0 = kk at cK hnx
          generalize (words bs).getD t 0 = ww at cW hnx
          generalize rnds (words bs) s t = r at hV hnx
          have c0 : wr.cell? ⟨g, 0, none⟩ = some (.int .u32 (vl r.a)) := hV.2 0 (by simp [St.list])
          have c1 : wr.cell? ⟨g, 1, none⟩ = some (.int .u32 (vl r.b)) := hV.2 1 (by simp [St.list])
          have c2 : wr.cell? ⟨g, 2, none⟩ = some (.int .u32 (vl r.c)) := hV.2 2 (by simp [St.list])
          have c3 : wr.cell? ⟨g, 3, none⟩ = some (.int .u32 (vl r.d)) := hV.2 3 (by simp [St.list])
          have c4 : wr.cell? ⟨g, 4, none⟩ = some (.int .u32 (vl r.e)) := hV.2 4 (by simp [St.list])
          have c5 : wr.cell? ⟨g, 5, none⟩ = some (.int .u32 (vl r.f)) := hV.2 5 (by simp [St.list])
          have c6 : wr.cell? ⟨g, 6, none⟩ = some (.int .u32 (vl r.g)) := hV.2 6 (by simp [St.list])
          have c7 : wr.cell? ⟨g, 7, none⟩ = some (.int .u32 (vl r.h)) := hV.2 7 (by simp [St.list])
          have t0 : (0 : Int) ≤ (t : Int) := Int.natCast_nonneg _
          have t1 : (t : Int) < 64 := by omega
          have hgl := hV.1
          clear hV hW
          go_wp2
          go_region_held3 (fun w' => w'.cell? ⟨g, 0, none⟩ = some (.int .u32 (vl r.a)) ∧ w'.cell? ⟨g, 4, none⟩ = some (.int .u32 (vl r.e))) (go_keep) (fail)
          go_wp2_with fail
          go_region_held3 (fun w' => w'.cell? ⟨g, 5, none⟩ = some (.int .u32 (vl r.f)) ∧ w'.cell? ⟨g, 6, none⟩ = some (.int .u32 (vl r.g)) ∧ w'.cell? ⟨g, 7, none⟩ = some (.int .u32 (vl r.h)) ∧ w'.cell? ⟨kb, t, none⟩ = some (.int .u32 (vl kk)) ∧ w'.cell? ⟨wb, t, none⟩ = some (.int .u32 (vl ww))) (go_keep) (first | (go_at_call_of 31 (Value.int IntKind.i64 6); refine (turn6 _ _).mono ?_; rintro e wt ⟨rfl, rfl⟩) | (go_at_call_of 31 (Value.int IntKind.i64 11); refine (turn11 _ _).mono ?_; rintro e wt ⟨rfl, rfl⟩) | (go_at_call_of 31 (Value.int IntKind.i64 25); refine (turn25 _ _).mono ?_; rintro e wt ⟨rfl, rfl⟩))
          go_wp2_with fail
          go_region_held3 (fun w' => w'.cell? ⟨g, 1, none⟩ = some (.int .u32 (vl r.b)) ∧ w'.cell? ⟨g, 2, none⟩ = some (.int .u32 (vl r.c))) (go_keep) (first | (go_at_call_of 31 (Value.int IntKind.i64 2); refine (turn2 _ _).mono ?_; rintro e wt ⟨rfl, rfl⟩) | (go_at_call_of 31 (Value.int IntKind.i64 13); refine (turn13 _ _).mono ?_; rintro e wt ⟨rfl, rfl⟩) | (go_at_call_of 31 (Value.int IntKind.i64 22); refine (turn22 _ _).mono ?_; rintro e wt ⟨rfl, rfl⟩))
          go_wp2_with fail
          go_region_held3 (fun w' => w'.cell? ⟨g, 0, none⟩ = some (.int .u32 (vl r.a)) ∧ w'.cell? ⟨g, 1, none⟩ = some (.int .u32 (vl r.b)) ∧ w'.cell? ⟨g, 2, none⟩ = some (.int .u32 (vl r.c)) ∧ w'.cell? ⟨g, 3, none⟩ = some (.int .u32 (vl r.d)) ∧ w'.cell? ⟨g, 4, none⟩ = some (.int .u32 (vl r.e)) ∧ w'.cell? ⟨g, 5, none⟩ = some (.int .u32 (vl r.f)) ∧ w'.cell? ⟨g, 6, none⟩ = some (.int .u32 (vl r.g))) (go_keep) (fail)
          clear c0 c1 c2 c3 c4 c5 c6 c7 cK cW
          go_wp2
          go_roundw
          case rel =>
            refine ⟨t + 1, wr.heap.size, by omega, by go_num, rfl, hb.size, ?_, ?_, ?_⟩
            · rw [hnx.out]; exact hasU_new8 _ _ _ _ _ _ _ _ _ _
            · exact hW'.out.below (B := wr.heap.size) (Below.alloc (Below.drew (Below.drew (Below.drew (Below.drew (Below.refl _ _))))) (Nat.le_refl _) _) hW'.out.1
            · exact Below.alloc hb.drew.drew.drew.drew hb.size _
          case measure => simp [intOf]; omega
        · obtain rfl : t = 64 := by omega
          have hM : Box (∀ i, i < 8 → (mix s bs).list.getD i 0 = s.list.getD i 0 + (rnds (words bs) s 64).list.getD i 0) := ⟨mix_at s bs⟩
          have hV' : Box (HasU wr g (rnds (words bs) s 64).list) := ⟨hV⟩
          have h8' : Box (HasU wr hb8 s.list) := ⟨hH'.out.below hb hH'.out.1⟩
          generalize rnds (words bs) s 64 = r at hV' hM hV
          clear hW hV
          obtain ⟨wo2, hwo2⟩ : ∃ wo2 : World, wo2 = wr := ⟨_, rfl⟩
          subst hwo2
          go_wp2
          go_loopw [21, 22] (fun v i wr => ∃ k : Nat, k ≤ 8 ∧ i = .int .i64 k ∧ wr.ownsRow wo2.heap.size 52 1 v k (((mix s bs).list.take k).map U) ∧ Below wo2.heap.size wo2 wr) (fun _ i _ => 8 - (intOf i).toNat)
          case atStart => exact ⟨0, by omega, rfl, World.ownsRow_nil _ _ _ _, Below.refl _ _⟩
          case round =>
            obtain ⟨k, hk, rfl, hown, hb2⟩ := hrel
            by_cases hk8 : k < 8
            · have ch := (h8'.out.below hb2 h8'.out.1).2 k (by simpa [St.list] using hk8)
              have cv := (hV'.out.below hb2 hV'.out.1).2 k (by simpa [St.list] using hk8)
              have hnx : Box ((mix s bs).list.take (k + 1) = (mix s bs).list.take k ++ [s.list.getD k 0 + r.list.getD k 0]) := ⟨by rw [← hM.out k hk8]; exact list_take _ k hk8⟩
              generalize s.list.getD k 0 = x at ch hnx
              generalize r.list.getD k 0 = y at cv hnx
              have hown' : Box (wr.ownsRow wo2.heap.size 52 1 u21 k (((mix s bs).list.take k).map U)) := ⟨hown⟩
              have k0 : (0 : Int) ≤ (k : Int) := Int.natCast_nonneg _
              have k1 : (k : Int) < 8 := by omega
              clear hown
              go_wp2
              go_region_law ((refine step_append_lies _ (by rfl) _ _ _ (by rfl) wo2.heap.size 52 i0 (.int .u32 0) 1 4 Tryd.under46 hi hz0 hz1 hz2 rfl (by omega) u21 k _ (by rfl) ((hown'.out.drew).alloc _) ⟨wr.heap.size, 0, none⟩ 1 1 [.int .u32 (vl (x + y))] (by rfl) (by rfl) (news_one (cell_new1 _ _ _)) (one_int _ _) (by omega) (by unfold maxLen; omega) (by omega) (by have := hb2.size; simp; omega) (wr.heap.size + 1) (by simp) ?_; intro gg cap w1 hown1 hgrow hat hlt))
              all_goals
                have hown4 : Box (w1.ownsRow wo2.heap.size 52 1 (.slice (some ⟨gg, 0, none⟩) (k + 1) cap) (k + 1) (((mix s bs).list.take (k + 1)).map U)) := ⟨by
                  rw [hnx.out, List.map_append]; exact hown1⟩
                have hb3 : Below wo2.heap.size wo2 w1 := (hb2.drew.alloc hb2.size _).grown hgrow (by have := hb2.size; simp; omega) (fun g e => by have := hown'.out.lt _ e; omega)
                clear hown1 hgrow hown' hb2 hat hlt ch cv
                go_wp2
                go_roundw
                case rel =>
                  repeat apply Exists.intro
                  refine And.intro ?_ rfl
                  exact ⟨k + 1, by omega, by go_num, hown4.out, hb3⟩
                case measure => simp [intOf]; omega
            · obtain rfl : k = 8 := by omega
              obtain ⟨g', c', rfl, -, hbg', hU'⟩ := own_has hown (by omega)
              rw [List.take_of_length_le (by simp [St.list])] at hU'
              have hU2 : Box (HasU wr g' (mix s bs).list) := ⟨hU'⟩
              clear hown hU'
              go_wp2
              go_ret
              exact ⟨g', c', rfl, Nat.le_trans hb.size hbg', hU2.out, hb.trans (hb2.mono hb.size)⟩
end Go.Proofs.YtnchebajehgelaaDoor
