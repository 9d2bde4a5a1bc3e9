/- What the reference's Number, Int, Count hand back. What the reference's Text and Hashes hand back. Rows of arrays, and what law and reference make of hashes. The law's and the reference's bytes of a signature: Join, and slices of arrays of the call's own. The law's same; lists cut in the midst. Open: what is asked of package compact. Clone and Equal of lists of hashes. The short contracts of package compact. A range's bytes, plainly: what is written is read back, what is read was so written (any bound on the hashes). -/
import Derived.Test.YtnppjlpnfijobaaDoorM5
import Derived.Laws.IdiomStrings
import Derived.Test.YtnppjlpnfijobaaDoorM4
import Derived.Test.YtnppjlpnfijobaaDoorM3
namespace Go.Proofs.YtnppjlpnfijobaaDoor
set_option maxRecDepth 100000
open Go.RowKit
theorem kb_natW (n : Int) (j : Nat) (h : j ≤ 7) : kb (n / 256 ^ j) = BitVec.ofNat 8 ((n % 18446744073709551616).toNat / 2 ^ (8 * j)) := by
  apply BitVec.eq_of_toNat_eq
  unfold kb
  rw [BitVec.toNat_ofInt, BitVec.toNat_ofNat]
  have : j = 0 ∨ j = 1 ∨ j = 2 ∨ j = 3 ∨ j = 4 ∨ j = 5 ∨ j = 6 ∨ j = 7 := by omega
  rcases this with rfl | rfl | rfl | rfl | rfl | rfl | rfl | rfl <;> simp <;> omega
theorem nlist_beN (s : Nat) (n : Int) (h : s ≤ 8) : nlist s n 0 = beN (n % 18446744073709551616).toNat s := by
  unfold nlist beN
  apply List.map_congr_left
  intro p hp
  have : p < s := by simpa using hp
  rw [if_pos (Nat.zero_le _), kb_natW _ _ (by omega)]
attribute [local go_sem] kb_v
set_option maxHeartbeats 400000 in
theorem refInt_any (n : Int) (w : World) :
    Calls Tryd.prog 32 #[.int .i64 n] w fun e w' => e = .returned (.slice (some ⟨w.heap.size, 0, none⟩) 8 8) ∧ HasV w' w.heap.size 5 (be8 n) ∧ Below w.heap.size w w' := by
  have hT := Box.mk (number_raw n 8 (by omega) w)
  rw [nlist_beN 8 n (by omega)] at hT
  go_enter Tryd.func32, Tryd.ntmps32
  go_wp2_with (refine hT.out.mono ?_; rintro e w' ⟨rfl, h1, h2⟩; have h1' := Box.mk h1; clear h1)
  go_ret
  exact ⟨rfl, h1'.out, h2⟩
set_option maxHeartbeats 400000 in
theorem refCount_any (n : Nat) (hn : n ≤ 1000000) (w : World) :
    Calls Tryd.prog 50 #[.int .i64 (n : Int)] w fun e w' => e = .returned (.slice (some ⟨w.heap.size, 0, none⟩) 4 4) ∧ HasV w' w.heap.size 5 (beN n 4) ∧ Below w.heap.size w w' := by
  have hT := Box.mk (number_raw n 4 (by omega) w)
  rw [nlist_beN 4 n (by omega), show ((n : Int) % 18446744073709551616).toNat = n by omega] at hT
  go_enter Tryd.func50, Tryd.ntmps50
  go_wp2_with (refine hT.out.mono ?_; rintro e w' ⟨rfl, h1, h2⟩; have h1' := Box.mk h1; clear h1)
  go_ret
  exact ⟨rfl, h1'.out, h2⟩
theorem own_of_HasVW {w : World} {g base : Nat} {xs : List (BitVec 8)} (h : HasV w g 5 xs) (hm : xs.length ≤ maxLen) (hb : base ≤ g) : w.ownsRow base 5 1 (.slice (some ⟨g, 0, none⟩) xs.length xs.length) xs.length (xs.map V) :=
  ⟨by simp, .inr ⟨g, xs.length, (xs.map V).toArray, rfl, hb, h, Nat.le_refl _, hm, by simp, by rw [Nat.mul_one]; exact List.take_of_length_le (by simp)⟩⟩
end Go.Proofs.YtnppjlpnfijobaaDoor
namespace Go.Proofs.YtnppjlpnfijobaaDoor
set_option maxRecDepth 100000
open Go.RowKit
theorem rv_new1 (w : World) (x : BitVec 8) : Rv (w.alloc (.cells #[.int .u8 (bv x)] 5)) (.slice (some ⟨w.heap.size, 0, none⟩) 1 1) [x] w.heap.size :=
  .inr ⟨0, 1, rfl, Nat.le_refl _, by simp, fun i hi => by
    obtain rfl : i = 0 := by simpa using hi
    exact cell_new1 _ _ _⟩
theorem take_succ_getD (D : List (BitVec 8)) (m : Nat) (h : m < D.length) : D.take (m + 1) = D.take m ++ [D.getD m 0] := by
  rw [List.take_add_one, List.getElem?_eq_getElem h]
  simp [h]
set_option maxHeartbeats 1000000 in
theorem refHashes_any (A : Option Addr) (lb lo n c : Nat) (D : List (BitVec 8)) (w : World) (hf : Fl w A lb lo n D) (hn : n ≤ 1000) :
    Calls Tryd.prog 33 #[.slice A n c] w fun e w' => ∃ v', e = .returned v' ∧ w'.ownsRow w.heap.size 5 1 v' (4 + 32 * n) ((beN n 4 ++ D).map V) ∧ Below w.heap.size w w' := by
  have hT := Box.mk (refCount_any n (by omega) w)
  have hl4 := beN_len n 4
  have hDl := hf.len
  have hf' := Box.mk hf
  generalize beN n 4 = X at hT hl4 ⊢
  clear hf
  go_enter Tryd.func33, Tryd.ntmps33
  go_wp2_with (go_at_call 50; refine hT.out.mono ?_; rintro e w1 ⟨rfl, h1, h2⟩; have h1' : Box (w1.ownsRow w.heap.size 5 1 (.slice (some ⟨w.heap.size, 0, none⟩) 4 4) 4 (X.map V)) := ⟨by (have := own_of_HasVW (base := w.heap.size) h1 (by rw [hl4]; unfold maxLen; omega) (Nat.le_refl _); rw [hl4] at this; exact this)⟩; have h2' := Box.mk h2; clear h1 h2)
  go_loopw [3, 4] (fun v i wr => ∃ k : Nat, k ≤ n ∧ i = .int .i64 k ∧ Box (wr.ownsRow w.heap.size 5 1 v (4 + 32 * k) ((X ++ D.take (32 * k)).map V)) ∧ Box (Below w.heap.size w wr)) (fun _ i _ => n - (intOf i).toNat)
  case atStart => exact ⟨0, by omega, rfl, ⟨by simpa using h1'.out⟩, h2'⟩
  case round =>
    clear h1' h2'
    obtain ⟨k, hk, rfl, ho, hb⟩ := hrel
    by_cases hlt : k < n
    · obtain ⟨rfl, hlw, hB⟩ := hf'.out.src (by omega)
      have hB' := Box.mk hB
      clear hB
      go_wp2
      go_loopw [3, 5] (fun v j wi => ∃ m : Nat, m ≤ 32 ∧ j = .int .i64 m ∧ Box (wi.ownsRow w.heap.size 5 1 v (4 + 32 * k + m) ((X ++ D.take (32 * k + m)).map V)) ∧ Box (Below w.heap.size w wi)) (fun _ j _ => 32 - (intOf j).toNat)
      case atStart => exact ⟨0, by omega, rfl, ho, hb⟩
      case round =>
        clear ho hb
        obtain ⟨m, hm, rfl, ho, hb⟩ := hrel
        by_cases hm2 : m < 32
        · have c0 := hB'.out.below hb.out hlw (32 * k + m) (by omega)
          have hts := take_succ_getD D (32 * k + m) (by omega)
          generalize D.getD (32 * k + m) 0 = x at c0 hts
          have c1 : wr.cell? ⟨lb, lo + k * 32 + m, none⟩ = some (.int .u8 (bv x)) := by rw [← c0, show lo + k * 32 + m = lo + (32 * k + m) by omega]
          have hts' := Box.mk hts
          have hz := hb.out.size
          clear c0 hts
          go_wp2_with (at_builtin; refine append39W rfl _ _ rfl w.heap.size _ (4 + 32 * k + m) (X ++ D.take (32 * k + m)) rfl (ho.out.alloc _) _ [x] wr.heap.size rfl (rv_new1 wr x) (by simp; omega) (by simp; omega) ?_; intro v2 w2 own2 gr2 _; have gr2' := Box.mk gr2; have own2' := Box.mk own2; clear own2 gr2)
          have ho2 : Box (w2.ownsRow w.heap.size 5 1 v2 (4 + 32 * k + (m + 1)) ((X ++ D.take (32 * k + (m + 1))).map V)) := ⟨by
            have := own2'.out
            rw [show 32 * k + (m + 1) = 32 * k + m + 1 by omega, hts'.out, ← List.append_assoc]
            exact this⟩
          have hb2 : Box (Below w.heap.size w w2) := ⟨(hb.out.alloc hz _).grown gr2'.out (by simp; omega) (fun q e => (ho.out.lt q e).1)⟩
          clear own2' gr2' ho hb c1
          go_wp2
          go_roundw
          case rel => first | exact ⟨m + 1, by omega, by go_num, ho2, hb2⟩ | exact ⟨_, _, _, ⟨m + 1, by omega, by go_num, ho2, hb2⟩, rfl, rfl, rfl⟩
          case measure => simp [intOf]; omega
        · have hm3 : m = 32 := by omega
          have ho2 : Box (wr.ownsRow w.heap.size 5 1 u3 (4 + 32 * (k + 1)) ((X ++ D.take (32 * (k + 1))).map V)) := ⟨by
            have := ho.out
            rw [hm3, show 32 * k + 32 = 32 * (k + 1) by omega, show 4 + 32 * k + 32 = 4 + 32 * (k + 1) by omega] at this
            exact this⟩
          clear ho
          go_wp2
          go_roundw
          case rel => first | exact ⟨k + 1, by omega, by go_num, ho2, hb⟩ | exact ⟨_, _, _, ⟨k + 1, by omega, by go_num, ho2, hb⟩, rfl, rfl, rfl⟩
          case measure => simp [intOf]; omega
    · have hkn : k = n := by omega
      go_wp2
      go_ret
      have := ho.out
      rw [hkn, List.take_of_length_le (by omega)] at this
      exact ⟨_, rfl, this, hb.out⟩
end Go.Proofs.YtnppjlpnfijobaaDoor
namespace Go.Proofs.YtnppjlpnfijobaaDoor
set_option maxRecDepth 100000
open Go.RowKit
theorem Tryd.build32x (x0 x1 x2 x3 x4 x5 x6 x7 x8 x9 x10 x11 x12 x13 x14 x15 x16 x17 x18 x19 x20 x21 x22 x23 x24 x25 x26 x27 x28 x29 x30 x31 : BitVec 8) (w : World) : (Instr.buildSlice 62 1 #[(0, .agg ([x0, x1, x2, x3, x4, x5, x6, x7, x8, x9, x10, x11, x12, x13, x14, x15, x16, x17, x18, x19, x20, x21, x22, x23, x24, x25, x26, x27, x28, x29, x30, x31].map V).toArray)]).run Tryd.prog w = .ok (.slice (some ⟨w.heap.size, 0, none⟩) 1 1) (w.alloc (.cells ([x0, x1, x2, x3, x4, x5, x6, x7, x8, x9, x10, x11, x12, x13, x14, x15, x16, x17, x18, x19, x20, x21, x22, x23, x24, x25, x26, x27, x28, x29, x30, x31].map V).toArray 32)) := by kernel_rfl
theorem Tryd.build32 (hh : List (BitVec 8)) (h : hh.length = 32) (w : World) : (Instr.buildSlice 62 1 #[(0, .agg (hh.map V).toArray)]).run Tryd.prog w = .ok (.slice (some ⟨w.heap.size, 0, none⟩) 1 1) (w.alloc (.cells (hh.map V).toArray 32)) := by
  match hh, h with
  | [x0, x1, x2, x3, x4, x5, x6, x7, x8, x9, x10, x11, x12, x13, x14, x15, x16, x17, x18, x19, x20, x21, x22, x23, x24, x25, x26, x27, x28, x29, x30, x31], _ => exact Tryd.build32x x0 x1 x2 x3 x4 x5 x6 x7 x8 x9 x10 x11 x12 x13 x14 x15 x16 x17 x18 x19 x20 x21 x22 x23 x24 x25 x26 x27 x28 x29 x30 x31 w
theorem Tryd.under62 : Tryd.prog.underlying 62 = some (.slice 32) := by kernel_rfl
theorem own_fl {w : World} {base n : Nat} {v : Value} {D : List (BitVec 8)} (h : w.ownsRow base 32 32 v n (D.map V)) : ∃ A c g, v = .slice A n c ∧ Fl w A g 0 n D := by
  obtain ⟨hl, h⟩ := h
  have hD : D.length = 32 * n := by rw [List.length_map] at hl; omega
  rcases h with ⟨rfl, rfl⟩ | ⟨g, cap, cur, rfl, hbg, hg, hnc, _, hcs, ht⟩
  · exact ⟨none, 0, 0, rfl, hD, fun h => absurd h (by omega)⟩
  · refine ⟨_, cap, g, rfl, hD, fun _ => ⟨rfl, (Array.getElem?_eq_some_iff.1 hg).1, fun i hi => ?_⟩⟩
    rw [Nat.zero_add, cell_of_row _ _ _ _ _ _ hg]
    have e2 := congrArg (·[i]?) ht
    simp [hi, show i < n * 32 by omega] at e2
    simp [e2, hi, V]
end Go.Proofs.YtnppjlpnfijobaaDoor
namespace Go.Proofs.YtnppjlpnfijobaaDoor
set_option maxRecDepth 100000
open Go.RowKit
theorem Tryd.info32z : (Tryd.prog.info? 32).map (fun i => (i.zero, i.size, i.bytes)) = some (some (.agg (hz.map V).toArray), 32, 32) := by kernel_rfl
/-- A slice of the call's own that has the hashes hs; its row lies at base or behind it. -/
def Fk.ow2 (base : Nat) (hs : List (List (BitVec 8))) : Fk := .inr (.inl ⟨fun v w => w.ownsRow base 32 32 v hs.length (hs.flatten.map V) ∧ ∀ (i : Nat) (x : List (BitVec 8)), hs[i]? = some x → x.length = 32, by
  rintro v w w' ⟨⟨h1, h2⟩, h3⟩ hb
  refine ⟨⟨h1, ?_⟩, h3⟩
  rcases h2 with h2 | ⟨g, cap, cur, e, hbg, hg, r⟩
  · exact .inl h2
  · exact .inr ⟨g, cap, cur, e, hbg, by rw [hb.block g (Array.getElem?_eq_some_iff.1 hg).1]; exact hg, r⟩⟩)
theorem ow2_nil (base : Nat) (w : World) : (Fk.ow2 base []).f (.slice none 0 0) w := ⟨World.ownsRow_nil _ _ _ _, fun i x hi => by simp at hi⟩
theorem hl_oneT {w : World} {g : Nat} {T : TypeId} {hh : List (BitVec 8)} (hv : HasV w g T hh) (h : hh.length = 32) : Hl w (some ⟨g, 0, none⟩) g 0 [hh] :=
  ⟨fun _ => rfl, fun _ => hv.lt, fun i x hi => by
    cases i with
    | zero =>
      obtain rfl : hh = x := by simpa using hi
      exact ⟨h, by simpa using hv.bytes⟩
    | succ n => simp at hi⟩
section
variable {Q : Exit → Act → World → Prop} {o : Oper} {a : Act} {w : World} {ops : Array Oper} {rest : List Oper}
theorem st_bh2 (x : Operand) (ho : o.op = .buildSlice 62 1 #[(0, x)]) {hh : List (BitVec 8)} (hl : hh.length = 32) (hx : a.eval x = .agg (hh.map V).toArray) : o.wp Tryd.prog a w (Ends a o.dst w (Fk.hs [hh]).f) Q := by
  refine st_run (v := .slice (some ⟨w.heap.size, 0, none⟩) 1 1) (w' := w.alloc (.cells (hh.map V).toArray 32)) ?_ ((Below.refl _ _).alloc (Nat.le_refl _) _) ⟨_, 1, w.heap.size, 0, rfl, hl_oneT (heap_alloc_new _ _) hl⟩
  have := Tryd.build32 hh hl w
  unfold execOp
  rw [ho]
  simp [hx, this]
theorem wl_append2 (hgd : o.guard = none) (s x : Operand) (ho : o.op = .call { callee := .builtin .append, args := #[s, x], argTypes := #[62, 62] }) (d : Nat) (hd : o.dst = some d) (hsz : d < a.tmps.size)
    {wL : World} {hs : List (List (BitVec 8))} {hh : List (BitVec 8)} (hs1 : (Fk.ow2 wL.heap.size hs).f (a.eval s) w) (hx : (Fk.hs [hh]).f (a.eval x) w) (hL : Below wL.heap.size wL w) (hN : hs.length ≤ 1000)
    (h : ∀ a2 w2, a2.defers = a.defers → a2.tmps.size = a.tmps.size → (∀ t, (t == d) = false → a2.eval (.tmp t) = a.eval (.tmp t)) → (Fk.ow2 wL.heap.size (hs ++ [hh])).f (a2.eval (.tmp d)) w2 → Below wL.heap.size wL w2 → wpList Tryd.prog ops Q rest a2 w2) : wpList Tryd.prog ops Q (o :: rest) a w := by
  obtain ⟨i0, hi, hz0, hz1, hz2⟩ := info_parts Tryd.info32z
  obtain ⟨A, C, lb, lo, e, hl⟩ := hx
  obtain ⟨hown, h32⟩ := hs1
  obtain ⟨hhl, hB⟩ := hl.all 0 hh rfl
  have hp := hl.ptr (by simp)
  subst hp
  refine wpList_append_own w hgd s x 62 ho wL.heap.size 32 i0 _ 32 32 Tryd.under62 hi hz0 hz1 hz2 (by simp [Value.cells, hz_len]) (by decide) _ hs.length _ rfl hown ⟨lb, lo, none⟩ 1 C (hh.map V) (by simpa using e) (by simp [hhl]) ?_ (V_one hh) (by unfold maxLen; omega) (by omega) hL.size ?_
  · intro j u hj
    have := hB.src hh.length j u
    rw [List.take_of_length_le (Nat.le_refl _), Nat.zero_mul, Nat.add_zero] at this
    exact this hj
  · intro v' w' h1 h2 _
    refine h _ _ (put_def _ _ _) (put_size _ _ _) (fun t ht => ?_) ?_ (hL.grown h2 hL.size (fun k e => (World.ownsRow.lt hown k e).1))
    · rw [hd]
      exact put_eval_other _ _ _ _ (fun e => by subst e; simp at ht)
    · rw [hd, put_eval_same _ _ _ hsz]
      refine ⟨?_, fun i y hi => ?_⟩
      · rw [List.length_append, List.flatten_append, List.map_append]
        simpa using h1
      · by_cases hil : i < hs.length
        · exact h32 i y (by rw [List.getElem?_append_left hil] at hi; exact hi)
        · rw [List.getElem?_append_right (by omega)] at hi
          cases hq : i - hs.length with
          | zero =>
            rw [hq] at hi
            obtain rfl : hh = y := by simpa using hi
            exact hhl
          | succ n => rw [hq] at hi; simp at hi
end
theorem join_own (A : Option Addr) (C lb lo : Nat) (ps : List Pt) (w : World) (hA : 0 < ps.length → A = some ⟨lb, lo, none⟩) (hL : Ls w lb lo ps) (hT : (cat ps).length ≤ 900000) (hN : ps.length ≤ 1000) :
    Calls Tryd.prog 31 #[.slice A ps.length C] w fun e w' => ∃ v, e = .returned v ∧ w'.ownsRow w.heap.size 5 1 v (cat ps).length ((cat ps).map V) ∧ Below w.heap.size w w' := by
  have hL' : Box (Ls w lb lo ps) := ⟨hL⟩
  have hA' : Box (0 < ps.length → A = some ⟨lb, lo, none⟩) := ⟨hA⟩
  obtain ⟨n, hn⟩ : ∃ n, Box (n = ps.length) := ⟨_, ⟨rfl⟩⟩
  have hown0 : Box (Own8 w w.heap.size (.slice none 0 0) (cat (ps.take 0)).length (cat (ps.take 0))) := ⟨World.ownsRow_nil _ _ _ _⟩
  rw [← hn.out] at hN ⊢
  clear hL hA
  go_enter Tryd.func31, Tryd.ntmps31
  go_wp2
  go_loopw [3, 4] (fun v i wr => ∃ k : Nat, k ≤ n ∧ i = .int .i64 k ∧ Box (Own8 wr w.heap.size v (cat (ps.take k)).length (cat (ps.take k))) ∧ Below w.heap.size w wr) (fun _ i _ => n - (intOf i).toNat)
  case atStart => exact ⟨0, by omega, rfl, hown0, Below.refl _ _⟩
  case round =>
    clear hown0
    obtain ⟨k, hk, rfl, hown, hb⟩ := hrel
    by_cases hlt : k < n
    · obtain ⟨p, hp⟩ : ∃ p, ps[k]? = some p := ⟨_, List.getElem?_eq_getElem (by rw [← hn.out]; exact hlt)⟩
      obtain rfl : A = some ⟨lb, lo, none⟩ := hA'.out (by rw [← hn.out]; omega)
      have hc : wr.cell? ⟨lb, lo + k, none⟩ = some (.slice p.sp p.m p.c) := by rw [hb.cell (hL'.out.lt hp)]; exact hL'.out.cell k p hp
      have hok : Box (p.ok wr) := ⟨Pt.ok_below (hL'.out.ok k p hp) hb⟩
      have hl : Box ((cat (ps.take k)).length + p.m = (cat (ps.take (k + 1))).length) := ⟨by rw [cat_take ps k p hp, List.length_append, ← Sl.len (hL'.out.ok k p hp)]⟩
      have hx : Box (cat (ps.take k) ++ p.bs = cat (ps.take (k + 1))) := ⟨by rw [cat_take ps k p hp]⟩
      have hle := cat_le ps (k + 1)
      have hsum : (cat (ps.take k)).length + p.m ≤ 900001 := by rw [hl.out]; omega
      have hz := hb.size
      clear hle
      go_wp2_with (at_builtin; refine append39 rfl (.tmp 11) (.tmp 15) rfl w.heap.size _ _ _ rfl hown.out p.sp p.m p.c p.bs p.b p.o rfl hok.out (by omega) hz ?_; intro v2 w2 own2 gr2)
      have hb2 : Below w.heap.size w w2 := hb.grown gr2 hz (fun k e => (World.ownsRow.lt hown.out k e).1)
      rw [hl.out, hx.out] at own2
      have own2' : Box (Own8 w2 w.heap.size v2 (cat (ps.take (k + 1))).length (cat (ps.take (k + 1)))) := ⟨own2⟩
      clear own2 gr2 hown hb hsum
      go_wp2
      go_roundw
      case rel => first | exact ⟨k + 1, by omega, by go_num, own2', hb2⟩ | exact ⟨_, _, _, ⟨k + 1, by omega, by go_num, own2', hb2⟩, rfl, rfl, rfl⟩
      case measure => simp [intOf]; omega
    · have hkn : Box (ps.take k = ps) := ⟨by rw [List.take_of_length_le (by rw [← hn.out]; omega)]⟩
      rw [hkn.out] at hown
      go_wp2
      go_ret
      exact ⟨_, rfl, hown.out, hb⟩
theorem fk_join {n : Nat} {bs : List (BitVec 8)} {v : Value} {w : World} (hT : bs.length ≤ 900000) (hN : n ≤ 1000) (h : (Fk.ls n bs).f v w) :
    Calls Tryd.prog 31 #[v] w fun e w' => ∃ u, e = .returned u ∧ (Fk.sl bs).f u w' ∧ Below w.heap.size w w' := by
  obtain ⟨A, C, lb, lo, ps, rfl, h1, rfl, h3, rfl⟩ := h
  refine (join_own A C lb lo ps w h1 h3 hT hN).mono ?_
  rintro e w' ⟨u, rfl, h4, h5⟩
  exact ⟨_, rfl, own_sl h4, h5⟩
theorem fk_refInt (n : Int) (w : World) : Calls Tryd.prog 32 #[.int .i64 n] w fun e w' => ∃ u, e = .returned u ∧ (Fk.sl (be8 n)).f u w' ∧ Below w.heap.size w w' := by
  refine (refInt_any n w).mono ?_
  rintro e w' ⟨rfl, h1, h2⟩
  exact ⟨_, rfl, ⟨_, _, _, _, _, rfl, sl_of_HasV h1 (be8_len n).symm⟩, h2⟩
theorem fk_refHashes {hs : List (List (BitVec 8))} {base : Nat} {v : Value} {w : World} (hn : hs.length ≤ 1000) (h : (Fk.ow2 base hs).f v w) : Calls Tryd.prog 33 #[v] w fun e w' => ∃ u, e = .returned u ∧ (Fk.sl (hsb hs)).f u w' ∧ Below w.heap.size w w' := by
  obtain ⟨A, c, g, rfl, hf⟩ := own_fl h.1
  refine (refHashes_any A g 0 hs.length c hs.flatten w hf hn).mono ?_
  rintro e w' ⟨u, rfl, h4, h5⟩
  exact ⟨_, rfl, own_sl h4, h5⟩
end Go.Proofs.YtnppjlpnfijobaaDoor
namespace Go.Proofs.YtnppjlpnfijobaaDoor
set_option maxRecDepth 100000
open Go.RowKit
theorem sgm_at {l : List (List (BitVec 8))} {a n i : Nat} {x : List (BitVec 8)} (h : (sgm l a n)[i]? = some x) : l[a + i]? = some x := by
  unfold sgm at h
  rw [List.getElem?_take] at h
  split at h
  · rw [List.getElem?_drop] at h; exact h
  · cases h
theorem sgm_len2 {l : List (List (BitVec 8))} {a b : Nat} (h : b ≤ l.length) : (sgm l a (b - a)).length = b - a := by
  unfold sgm
  rw [List.length_take, List.length_drop]; omega
theorem st_cut2 {Q : Exit → Act → World → Prop} {o : Oper} {a : Act} {w : World} (x y z : Operand) (ho : o.op = .slice 22 x (some y) (some z) none) {hs : List (List (BitVec 8))} (h : (Fk.hc hs).f (a.eval x) w) (m n : Nat) (hy : a.eval y = .int .i64 (m : Int)) (hz : a.eval z = .int .i64 (n : Int)) (hm : m ≤ n) (hn : n ≤ hs.length) : o.wp Tryd.prog a w (Ends a o.dst w (Fk.hc (sgm hs m (n - m))).f) Q := by
  obtain ⟨A, C, lb, lo, e, hc, hl⟩ := h
  have hln := sgm_len2 (a := m) hn
  refine st_pure (v := sliced A m n C 32) ?_ ⟨if C = m then A else A.map (·.add (m * 32)), C - m, lb, lo + m * 32, ?_, ?_, fun hp => ?_, fun hp => ?_, fun i x hi => ?_⟩
  · have h1 := run_slice_lh (P := Tryd.prog) (w := w) 22 A hs.length C (by rw [Tryd.elem22]; exact Tryd.under22') .i64 .i64 (m : Int) (n : Int) (by omega) (by omega) (by omega)
    rw [Tryd.elem22, Tryd.sizeOf33] at h1
    simp only [Result.andThen_ok, Int.toNat_natCast] at h1
    have h2 := run_sliceAt_slice (P := Tryd.prog) (w := w) 22 (.slice A hs.length C) (some (.int .i64 (m : Int))) (some (.int .i64 (n : Int))) none (by rw [Tryd.elem22]; exact Tryd.under22')
    unfold execOp
    rw [ho]
    simp [e, hy, hz, h2, h1]
  · rw [hln]; rfl
  · rw [hln]; omega
  · rw [hln] at hp
    rw [if_neg (by omega), hl.ptr (by omega)]
    simp [Addr.add_mid]
  · rw [hln] at hp
    exact hl.lt (by omega)
  · have := hl.all (m + i) x (sgm_at hi)
    rw [Nat.add_mul, ← Nat.add_assoc] at this
    exact this
theorem rts_succ (l : List (List (BitVec 8))) {P : List (Nat × Nat)} {k : Nat} {p : Nat × Nat} (h : P[k]? = some p) : rts l (P.take (k + 1)) = rts l (P.take k) ++ [mroot (sgm l p.1 (p.2 - p.1))] := by
  rw [List.take_add_one, h, rts_append]
  rfl
theorem rts_len (l : List (List (BitVec 8))) (P : List (Nat × Nat)) : (rts l P).length = P.length := List.length_map _
theorem sgm_mem {l : List (List (BitVec 8))} {a n : Nat} {x : List (BitVec 8)} (h : x ∈ sgm l a n) : x ∈ l := by
  unfold sgm at h
  exact List.mem_of_mem_drop (List.mem_of_mem_take h)
theorem st_idxa {Q : Exit → Act → World → Prop} {o : Oper} {a : Act} {w : World} {T : TypeId} (x y : Operand) (ho : o.op = .indexAddr T x y) {p r : Addr} (hx : a.eval x = .pointer (some p)) (hr : (Instr.indexAt T (.pointer (some p)) (a.eval y)).run Tryd.prog w = .ok (.pointer (some r)) w) : o.wp Tryd.prog a w (Ends a o.dst w (Fk.eq (.pointer (some r))).f) Q := by
  refine st_pure (v := .pointer (some r)) ?_ rfl
  unfold execOp
  rw [ho]
  simp [hx, hr]
theorem take_succ_eq {A B : List (List (BitVec 8))} {k : Nat} {x : List (BitVec 8)} (h : A.take k = B.take k) (ha : A[k]? = some x) (hb : B[k]? = some x) : A.take (k + 1) = B.take (k + 1) := by
  rw [List.take_add_one, List.take_add_one, ha, hb, h]
theorem neq_at {A B : List (List (BitVec 8))} {k : Nat} {x y : List (BitVec 8)} (ha : A[k]? = some x) (hb : B[k]? = some y) (h : x ≠ y) : A ≠ B := by
  intro e
  rw [e, hb] at ha
  exact h (Option.some.inj ha).symm
theorem same_any {A0 B0 : List (List (BitVec 8))} {va vb : Value} (hA0 : A0.length ≤ 100000) (w : World) (hA : (Fk.hs A0).f va w) (hB : (Fk.hs B0).f vb w) (r : Bool) (hr : r = decide (A0 = B0)) :
    Calls Tryd.prog 13 #[va, vb] w fun e w' => e = .returned (.bool r) ∧ Below w.heap.size w w' := by
  go_enter Tryd.func13, Tryd.ntmps13
  refine code_both (fun f w1 => f.tmps.size = 26 ∧ f.defers = [] ∧ f.eval (.tmp 0) = va ∧ f.eval (.tmp 1) = vb ∧ Below w.heap.size w (w1)) ⟨rfl, rfl, rfl, rfl, Below.refl _ _⟩ ?_
  rintro f0 w0 ⟨sz, df, x0, x1, bl⟩
  have bl0 := bl
  refine wp_seq ?_
  refine wp_all_seq [.eq (.bool false)] (by kernel_rfl) (by kernel_rfl) (by rw [sz]; kernel_rfl) (by kernel_rfl) ⟨fun hw ac u K => ?_, trivial⟩ ?_
  · exact st_assign (.const (.bool false)) rfl rfl
  intro f1 w1 A hb
  replace bl0 := bl
  replace x0 := (A.old 0 rfl).trans x0
  replace x1 := (A.old 1 rfl).trans x1
  have x4 : f1.eval (.tmp 4) = .bool false := A.has 0 4 rfl
  replace bl := (bl.trans (Below.mono hb bl.size))
  replace sz := A.size.trans sz
  replace df := A.defs.trans df
  clear A hb
  show Code.wp _ _ _ _ _
  refine wp_seq ?_
  refine wp_seq ?_
  by_cases hl : A0.length = B0.length
  rotate_left
  · skip
    obtain rfl : r = false := by rw [hr]; exact decide_eq_false (fun e => hl (by rw [e]))
    refine wp_all_seq [.eq (va), .eq (.int .i64 (((A0).length : Nat) : Int)), .eq (vb), .eq (.int .i64 (((B0).length : Nat) : Int)), .eq (.bool true)] (by kernel_rfl) (by kernel_rfl) (by rw [sz]; kernel_rfl) (by kernel_rfl) ⟨fun hw ac u K => ?_, fun hw ac u K => ?_, fun hw ac u K => ?_, fun hw ac u K => ?_, fun hw ac u K => ?_, trivial⟩ ?_
    · exact st_move (.tmp 0) rfl ((K.old 0 rfl).trans x0)
    · exact st_lenh (.tmp 6) rfl (fk_val (K.dep 0 6 rfl) (Fk.mono _ _ _ _ hA (bl.trans (Below.mono K.grow bl.size))))
    · exact st_move (.tmp 1) rfl ((K.old 1 rfl).trans x1)
    · exact st_lenh (.tmp 8) rfl (fk_val (K.dep 2 8 rfl) (Fk.mono _ _ _ _ hB (bl.trans (Below.mono K.grow bl.size))))
    · exact st_neqi 3 (.tmp 7) (.tmp 9) rfl .i64 ((((A0).length : Nat) : Int)) ((((B0).length : Nat) : Int)) (K.dep 1 7 rfl) (K.dep 3 9 rfl) _ (by rw [eq_comm, decide_eq_true_iff]; omega)
    intro f2 w2 A hb
    replace bl0 := bl
    replace x0 := (A.old 0 rfl).trans x0
    replace x1 := (A.old 1 rfl).trans x1
    replace x4 := (A.old 4 rfl).trans x4
    have x10 : f2.eval (.tmp 10) = .bool true := A.has 4 10 rfl
    replace bl := (bl.trans (Below.mono hb bl.size))
    replace sz := A.size.trans sz
    replace df := A.defs.trans df
    clear A hb
    show Code.wp _ _ _ _ _
    refine wp_cond_true x10 ?_
    refine wp_seq ?_
    refine wp_all_seq [.eq (.bool false)] (by kernel_rfl) (by kernel_rfl) (by rw [sz]; kernel_rfl) (by kernel_rfl) ⟨fun hw ac u K => ?_, trivial⟩ ?_
    · exact st_assign (.const (.bool false)) rfl rfl
    intro f3 w3 A hb
    replace bl0 := bl
    replace x0 := (A.old 0 rfl).trans x0
    replace x1 := (A.old 1 rfl).trans x1
    clear x4
    replace x10 := (A.old 10 rfl).trans x10
    have x4 : f3.eval (.tmp 4) = .bool false := A.has 0 4 rfl
    replace bl := (bl.trans (Below.mono hb bl.size))
    replace sz := A.size.trans sz
    replace df := A.defs.trans df
    clear A hb
    show Code.wp _ _ _ _ _
    refine wp_ret ?_
    repeat (first | with_reducible refine then_ret ?_ | with_reducible refine block_ret ?_)
    exact bodyPost_ret (v := .bool false) (ret_slot rfl f3 _ x4 _ _) df ⟨rfl, bl⟩
  refine wp_all_seq [.eq (va), .eq (.int .i64 (((A0).length : Nat) : Int)), .eq (vb), .eq (.int .i64 (((B0).length : Nat) : Int)), .eq (.bool false)] (by kernel_rfl) (by kernel_rfl) (by rw [sz]; kernel_rfl) (by kernel_rfl) ⟨fun hw ac u K => ?_, fun hw ac u K => ?_, fun hw ac u K => ?_, fun hw ac u K => ?_, fun hw ac u K => ?_, trivial⟩ ?_
  · exact st_move (.tmp 0) rfl ((K.old 0 rfl).trans x0)
  · exact st_lenh (.tmp 6) rfl (fk_val (K.dep 0 6 rfl) (Fk.mono _ _ _ _ hA (bl.trans (Below.mono K.grow bl.size))))
  · exact st_move (.tmp 1) rfl ((K.old 1 rfl).trans x1)
  · exact st_lenh (.tmp 8) rfl (fk_val (K.dep 2 8 rfl) (Fk.mono _ _ _ _ hB (bl.trans (Below.mono K.grow bl.size))))
  · exact st_neqi 3 (.tmp 7) (.tmp 9) rfl .i64 ((((A0).length : Nat) : Int)) ((((B0).length : Nat) : Int)) (K.dep 1 7 rfl) (K.dep 3 9 rfl) _ (by simp [hl])
  intro f2 w2 A hb
  replace bl0 := bl
  replace x0 := (A.old 0 rfl).trans x0
  replace x1 := (A.old 1 rfl).trans x1
  replace x4 := (A.old 4 rfl).trans x4
  have x10 : f2.eval (.tmp 10) = .bool false := A.has 4 10 rfl
  replace bl := (bl.trans (Below.mono hb bl.size))
  replace sz := A.size.trans sz
  replace df := A.defs.trans df
  clear A hb
  show Code.wp _ _ _ _ _
  refine wp_cond_false x10 ?_
  refine wp_skip ?_
  show Code.wp _ _ _ _ _
  refine wp_seq ?_
  refine wp_seq ?_
  refine wp_all_seq [.eq (va), .eq (.int .i64 (((A0).length : Nat) : Int)), .eq (.int .i64 0)] (by kernel_rfl) (by kernel_rfl) (by rw [sz]; kernel_rfl) (by kernel_rfl) ⟨fun hw ac u K => ?_, fun hw ac u K => ?_, fun hw ac u K => ?_, trivial⟩ ?_
  · exact st_move (.tmp 0) rfl ((K.old 0 rfl).trans x0)
  · exact st_lenh (.tmp 11) rfl (fk_val (K.dep 0 11 rfl) (Fk.mono _ _ _ _ hA (bl.trans (Below.mono K.grow bl.size))))
  · exact st_move (.const (.int .i64 0)) rfl rfl
  intro f3 w3 A hb
  replace bl0 := bl
  replace x0 := (A.old 0 rfl).trans x0
  replace x1 := (A.old 1 rfl).trans x1
  replace x4 := (A.old 4 rfl).trans x4
  replace x10 := (A.old 10 rfl).trans x10
  have x12 : f3.eval (.tmp 12) = .int .i64 (((A0).length : Nat) : Int) := A.has 1 12 rfl
  have x13 : f3.eval (.tmp 13) = .int .i64 0 := A.has 2 13 rfl
  replace bl := (bl.trans (Below.mono hb bl.size))
  replace sz := A.size.trans sz
  replace df := A.defs.trans df
  clear A hb
  show Code.wp _ _ _ _ _
  refine wp_block ?_
  refine wp_loop (fun f v1 => ∃ k : Nat, k ≤ A0.length ∧ A0.take k = B0.take k ∧ f.tmps.size = 26 ∧ f.defers = [] ∧ f.eval (.tmp 0) = va ∧ f.eval (.tmp 1) = vb ∧ f.eval (.tmp 4) = .bool false ∧ f.eval (.tmp 10) = .bool false ∧ f.eval (.tmp 12) = .int .i64 (((A0).length : Nat) : Int) ∧ f.eval (.tmp 13) = .int .i64 ((k : Nat) : Int) ∧ Below w.heap.size w (v1)) (fun f _ => A0.length - (intOf (f.eval (.tmp 13))).toNat) ⟨0, Nat.zero_le _, rfl, sz, df, x0, x1, x4, x10, x12, x13, bl⟩ ?_
  intro f4 w4 hI
  clear sz df bl bl0 x0 x1 x4 x10 x12 x13
  obtain ⟨k, hk, heq, sz, df, x0, x1, x4, x10, x12, x13, bl⟩ := hI
  have bl0 := bl
  have hcnt := x13
  refine wp_seq ?_
  by_cases hlt : k < A0.length
  rotate_left
  · skip
    obtain rfl : r = true := by
      rw [hr]
      apply decide_eq_true
      rw [List.take_of_length_le (by omega), List.take_of_length_le (by omega)] at heq
      exact heq
    refine wp_all_seq [.eq (.bool false)] (by kernel_rfl) (by kernel_rfl) (by rw [sz]; kernel_rfl) (by kernel_rfl) ⟨fun hw ac u K => ?_, trivial⟩ ?_
    · exact st_lss 3 (.tmp 13) (.tmp 12) rfl .i64 (((k : Nat) : Int)) ((((A0).length : Nat) : Int)) ((K.old 13 rfl).trans x13) ((K.old 12 rfl).trans x12) _ (by first | (simp; done) | (simp; omega))
    intro f5 w5 A hb
    replace bl0 := bl
    replace x0 := (A.old 0 rfl).trans x0
    replace x1 := (A.old 1 rfl).trans x1
    replace x4 := (A.old 4 rfl).trans x4
    replace x10 := (A.old 10 rfl).trans x10
    replace x12 := (A.old 12 rfl).trans x12
    replace x13 := (A.old 13 rfl).trans x13
    have x14 : f5.eval (.tmp 14) = .bool false := A.has 0 14 rfl
    replace bl := (bl.trans (Below.mono hb bl.size))
    replace sz := A.size.trans sz
    replace df := A.defs.trans df
    clear A hb
    show Code.wp _ _ _ _ _
    refine wp_seq ?_
    refine wp_cond_false x14 ?_
    refine wp_exit ?_
    show Code.wp _ _ _ _ _
    refine wp_seq ?_
    refine wp_all_seq [.eq (.bool true)] (by kernel_rfl) (by kernel_rfl) (by rw [sz]; kernel_rfl) (by kernel_rfl) ⟨fun hw ac u K => ?_, trivial⟩ ?_
    · exact st_assign (.const (.bool true)) rfl rfl
    intro f6 w6 A hb
    replace bl0 := bl
    replace x0 := (A.old 0 rfl).trans x0
    replace x1 := (A.old 1 rfl).trans x1
    clear x4
    replace x10 := (A.old 10 rfl).trans x10
    replace x12 := (A.old 12 rfl).trans x12
    replace x13 := (A.old 13 rfl).trans x13
    replace x14 := (A.old 14 rfl).trans x14
    have x4 : f6.eval (.tmp 4) = .bool true := A.has 0 4 rfl
    replace bl := (bl.trans (Below.mono hb bl.size))
    replace sz := A.size.trans sz
    replace df := A.defs.trans df
    clear A hb
    show Code.wp _ _ _ _ _
    refine wp_ret ?_
    repeat (first | with_reducible refine then_ret ?_ | with_reducible refine block_ret ?_)
    exact bodyPost_ret (v := .bool true) (ret_slot rfl f6 _ x4 _ _) df ⟨rfl, bl⟩
  obtain ⟨x, hxk⟩ : ∃ p, A0[k]? = some p := ⟨_, List.getElem?_eq_getElem hlt⟩
  obtain ⟨y, hyk⟩ : ∃ p, B0[k]? = some p := ⟨_, List.getElem?_eq_getElem (by omega)⟩
  have hx : x.length = 32 := hs_len hA hxk
  have hy : y.length = 32 := hs_len hB hyk
  refine wp_all_seq [.eq (.bool true)] (by kernel_rfl) (by kernel_rfl) (by rw [sz]; kernel_rfl) (by kernel_rfl) ⟨fun hw ac u K => ?_, trivial⟩ ?_
  · exact st_lss 3 (.tmp 13) (.tmp 12) rfl .i64 (((k : Nat) : Int)) ((((A0).length : Nat) : Int)) ((K.old 13 rfl).trans x13) ((K.old 12 rfl).trans x12) _ (by first | (simp; done) | (simp; omega))
  intro f5 w5 A hb
  replace bl0 := bl
  replace x0 := (A.old 0 rfl).trans x0
  replace x1 := (A.old 1 rfl).trans x1
  replace x4 := (A.old 4 rfl).trans x4
  replace x10 := (A.old 10 rfl).trans x10
  replace x12 := (A.old 12 rfl).trans x12
  replace x13 := (A.old 13 rfl).trans x13
  have x14 : f5.eval (.tmp 14) = .bool true := A.has 0 14 rfl
  replace bl := (bl.trans (Below.mono hb bl.size))
  replace sz := A.size.trans sz
  replace df := A.defs.trans df
  clear A hb
  show Code.wp _ _ _ _ _
  refine wp_seq ?_
  refine wp_cond_true x14 ?_
  refine wp_skip ?_
  show Code.wp _ _ _ _ _
  refine wp_seq ?_
  refine wp_block ?_
  refine wp_seq ?_
  refine wp_all_seq [.eq (.int .i64 ((k : Nat) : Int)), .eq (.int .i64 ((k : Nat) : Int))] (by kernel_rfl) (by kernel_rfl) (by rw [sz]; kernel_rfl) (by kernel_rfl) ⟨fun hw ac u K => ?_, fun hw ac u K => ?_, trivial⟩ ?_
  · exact st_move (.tmp 13) rfl ((K.old 13 rfl).trans x13)
  · exact st_assign (.tmp 15) rfl (K.dep 0 15 rfl)
  intro f6 w6 A hb
  replace bl0 := bl
  replace x0 := (A.old 0 rfl).trans x0
  replace x1 := (A.old 1 rfl).trans x1
  replace x4 := (A.old 4 rfl).trans x4
  replace x10 := (A.old 10 rfl).trans x10
  replace x12 := (A.old 12 rfl).trans x12
  replace x13 := (A.old 13 rfl).trans x13
  replace x14 := (A.old 14 rfl).trans x14
  have x5 : f6.eval (.tmp 5) = .int .i64 ((k : Nat) : Int) := A.has 1 5 rfl
  replace bl := (bl.trans (Below.mono hb bl.size))
  replace sz := A.size.trans sz
  replace df := A.defs.trans df
  clear A hb
  show Code.wp _ _ _ _ _
  refine wp_seq ?_
  by_cases hxy : x = y
  rotate_left
  · skip
    obtain rfl : r = false := by rw [hr]; exact decide_eq_false (neq_at hxk hyk hxy)
    refine wp_all [.eq (va), .eq (.int .i64 ((k : Nat) : Int)), .ph (x), .eq (.agg ((x).map V).toArray), .eq (vb), .eq (.int .i64 ((k : Nat) : Int)), .ph (y), .eq (.agg ((y).map V).toArray), .eq (.bool true)] Tryd.mixed (by kernel_rfl) (by kernel_rfl) (by rw [sz]; kernel_rfl) (by kernel_rfl) ⟨fun hw ac u K => ?_, fun hw ac u K => ?_, fun hw ac u K => ?_, fun hw ac u K => ?_, fun hw ac u K => ?_, fun hw ac u K => ?_, fun hw ac u K => ?_, fun hw ac u K => ?_, fun hw ac u K => ?_, trivial⟩ ?_
    · exact st_move (.tmp 0) rfl ((K.old 0 rfl).trans x0)
    · exact st_move (.tmp 5) rfl ((K.old 5 rfl).trans x5)
    · exact st_idxh (.tmp 16) (.tmp 17) rfl (fk_val (K.dep 0 16 rfl) (Fk.mono _ _ _ _ hA (bl.trans (Below.mono K.grow bl.size)))) (k) (x) (K.dep 1 17 rfl) hxk
    · exact st_loadh (.tmp 18) rfl (K.dep 2 18 rfl)
    · exact st_move (.tmp 1) rfl ((K.old 1 rfl).trans x1)
    · exact st_move (.tmp 5) rfl ((K.old 5 rfl).trans x5)
    · exact st_idxh (.tmp 20) (.tmp 21) rfl (fk_val (K.dep 4 20 rfl) (Fk.mono _ _ _ _ hB (bl.trans (Below.mono K.grow bl.size)))) (k) (y) (K.dep 5 21 rfl) hyk
    · exact st_loadh (.tmp 22) rfl (K.dep 6 22 rfl)
    · exact st_neqh (.tmp 19) (.tmp 23) rfl (x) (y) hx hy (K.dep 3 19 rfl) (K.dep 7 23 rfl) _ (by simp [hxy])
    intro f7 w7 A hb
    replace bl0 := bl
    replace x0 := (A.old 0 rfl).trans x0
    replace x1 := (A.old 1 rfl).trans x1
    replace x4 := (A.old 4 rfl).trans x4
    replace x10 := (A.old 10 rfl).trans x10
    replace x12 := (A.old 12 rfl).trans x12
    replace x13 := (A.old 13 rfl).trans x13
    replace x14 := (A.old 14 rfl).trans x14
    replace x5 := (A.old 5 rfl).trans x5
    have x24 : f7.eval (.tmp 24) = .bool true := A.has 8 24 rfl
    replace bl := (bl.trans (Below.mono hb bl.size))
    replace sz := A.size.trans sz
    replace df := A.defs.trans df
    clear A hb
    clear x5
    show Code.wp _ _ _ _ _
    refine wp_cond_true x24 ?_
    refine wp_seq ?_
    refine wp_all_seq [.eq (.bool false)] (by kernel_rfl) (by kernel_rfl) (by rw [sz]; kernel_rfl) (by kernel_rfl) ⟨fun hw ac u K => ?_, trivial⟩ ?_
    · exact st_assign (.const (.bool false)) rfl rfl
    intro f8 w8 A hb
    replace bl0 := bl
    replace x0 := (A.old 0 rfl).trans x0
    replace x1 := (A.old 1 rfl).trans x1
    clear x4
    replace x10 := (A.old 10 rfl).trans x10
    replace x12 := (A.old 12 rfl).trans x12
    replace x13 := (A.old 13 rfl).trans x13
    replace x14 := (A.old 14 rfl).trans x14
    replace x24 := (A.old 24 rfl).trans x24
    have x4 : f8.eval (.tmp 4) = .bool false := A.has 0 4 rfl
    replace bl := (bl.trans (Below.mono hb bl.size))
    replace sz := A.size.trans sz
    replace df := A.defs.trans df
    clear A hb
    show Code.wp _ _ _ _ _
    refine wp_ret ?_
    repeat (first | with_reducible refine then_ret ?_ | with_reducible refine block_ret ?_)
    exact bodyPost_ret (v := .bool false) (ret_slot rfl f8 _ x4 _ _) df ⟨rfl, bl⟩
  refine wp_all [.eq (va), .eq (.int .i64 ((k : Nat) : Int)), .ph (x), .eq (.agg ((x).map V).toArray), .eq (vb), .eq (.int .i64 ((k : Nat) : Int)), .ph (y), .eq (.agg ((y).map V).toArray), .eq (.bool false)] Tryd.mixed (by kernel_rfl) (by kernel_rfl) (by rw [sz]; kernel_rfl) (by kernel_rfl) ⟨fun hw ac u K => ?_, fun hw ac u K => ?_, fun hw ac u K => ?_, fun hw ac u K => ?_, fun hw ac u K => ?_, fun hw ac u K => ?_, fun hw ac u K => ?_, fun hw ac u K => ?_, fun hw ac u K => ?_, trivial⟩ ?_
  · exact st_move (.tmp 0) rfl ((K.old 0 rfl).trans x0)
  · exact st_move (.tmp 5) rfl ((K.old 5 rfl).trans x5)
  · exact st_idxh (.tmp 16) (.tmp 17) rfl (fk_val (K.dep 0 16 rfl) (Fk.mono _ _ _ _ hA (bl.trans (Below.mono K.grow bl.size)))) (k) (x) (K.dep 1 17 rfl) hxk
  · exact st_loadh (.tmp 18) rfl (K.dep 2 18 rfl)
  · exact st_move (.tmp 1) rfl ((K.old 1 rfl).trans x1)
  · exact st_move (.tmp 5) rfl ((K.old 5 rfl).trans x5)
  · exact st_idxh (.tmp 20) (.tmp 21) rfl (fk_val (K.dep 4 20 rfl) (Fk.mono _ _ _ _ hB (bl.trans (Below.mono K.grow bl.size)))) (k) (y) (K.dep 5 21 rfl) hyk
  · exact st_loadh (.tmp 22) rfl (K.dep 6 22 rfl)
  · exact st_neqh (.tmp 19) (.tmp 23) rfl (x) (y) hx hy (K.dep 3 19 rfl) (K.dep 7 23 rfl) _ (by simp [hxy])
  intro f7 w7 A hb
  replace bl0 := bl
  replace x0 := (A.old 0 rfl).trans x0
  replace x1 := (A.old 1 rfl).trans x1
  replace x4 := (A.old 4 rfl).trans x4
  replace x10 := (A.old 10 rfl).trans x10
  replace x12 := (A.old 12 rfl).trans x12
  replace x13 := (A.old 13 rfl).trans x13
  replace x14 := (A.old 14 rfl).trans x14
  replace x5 := (A.old 5 rfl).trans x5
  have x24 : f7.eval (.tmp 24) = .bool false := A.has 8 24 rfl
  replace bl := (bl.trans (Below.mono hb bl.size))
  replace sz := A.size.trans sz
  replace df := A.defs.trans df
  clear A hb
  clear x5
  show Code.wp _ _ _ _ _
  refine wp_cond_false x24 ?_
  refine wp_skip ?_
  show Code.wp _ _ _ _ _
  refine wp_region_seq [.eq (.int .i64 ((k + 1 : Nat) : Int))] (by kernel_rfl) (by kernel_rfl) (by rw [sz]; kernel_rfl) (by kernel_rfl) ⟨fun hw ac u K => ?_, trivial⟩ ?_
  · exact st_add (.tmp 13) (.const (.int .i64 1)) rfl (k) (1) (k + 1) ((K.old 13 rfl).trans x13) rfl (by omega) (by omega)
  intro f8 w8 A hb
  replace bl0 := bl
  replace x0 := (A.old 0 rfl).trans x0
  replace x1 := (A.old 1 rfl).trans x1
  replace x4 := (A.old 4 rfl).trans x4
  replace x10 := (A.old 10 rfl).trans x10
  replace x12 := (A.old 12 rfl).trans x12
  replace x13 := (A.old 13 rfl).trans x13
  replace x14 := (A.old 14 rfl).trans x14
  replace x24 := (A.old 24 rfl).trans x24
  have x25 : f8.eval (.tmp 25) = .int .i64 ((k + 1 : Nat) : Int) := A.has 0 25 rfl
  replace bl := (bl.trans (Below.mono hb bl.size))
  replace sz := A.size.trans sz
  replace df := A.defs.trans df
  clear A hb
  refine wl_one (.eq (.int .i64 ((k + 1 : Nat) : Int))) rfl 13 rfl (by rw [sz]; decide) (st_move (.tmp 25) rfl x25) ?_
  intro f9 w9 df2 sz2 old2 new2 hb
  replace bl0 := bl
  replace x0 := (old2 0 rfl).trans x0
  replace x1 := (old2 1 rfl).trans x1
  replace x4 := (old2 4 rfl).trans x4
  replace x10 := (old2 10 rfl).trans x10
  replace x12 := (old2 12 rfl).trans x12
  clear x13
  replace x14 := (old2 14 rfl).trans x14
  replace x24 := (old2 24 rfl).trans x24
  replace x25 := (old2 25 rfl).trans x25
  have x13 : f9.eval (.tmp 13) = .int .i64 ((k + 1 : Nat) : Int) := new2
  replace bl := (bl.trans (Below.mono hb bl.size))
  replace sz := sz2.trans sz
  replace df := df2.trans df
  clear df2 sz2 old2 new2 hb
  refine wpList_nil ?_
  clear x25
  show (∃ _, _) ∧ _
  refine ⟨⟨k + 1, by omega, take_succ_eq heq hxk (by rw [hxy]; exact hyk), sz, df, x0, x1, x4, x10, x12, x13, bl⟩, ?_⟩
  rw [show f9.eval (.tmp 13) = _ from x13, show _ = _ from hcnt]
  simp [intOf]
  omega
theorem take_one (A : List (List (BitVec 8))) {k : Nat} {x : List (BitVec 8)} (h : A[k]? = some x) : A.take (k + 1) = A.take k ++ [x] := by rw [List.take_add_one, h]; rfl
theorem hs_all {P : List (List (BitVec 8))} {v : Value} {w : World} (h : (Fk.hs P).f v w) : ∀ (i : Nat) (x : List (BitVec 8)), P[i]? = some x → x.length = 32 := fun _ _ hx => hs_len h hx
theorem rgb_len (n : Int) {S : List (List (BitVec 8))} (h : ∀ (i : Nat) (x : List (BitVec 8)), S[i]? = some x → x.length = 32) (hl : S.length ≤ 1000) : 12 ≤ (be8 n ++ hsb S).length ∧ (be8 n ++ hsb S).length ≤ 900000 := by
  have e1 := flat_len2 S h
  unfold hsb
  simp only [List.length_append, be8_len, beN_len, e1]
  omega
theorem rbytes_any {A0 : List (List (BitVec 8))} {va : Value} (hA0 : A0.length ≤ 1000) (n : Int) (w : World) (hA : (Fk.hs A0).f va w) :
    Calls Tryd.prog 17 #[.int .i64 n, va] w fun e w' => e = .returned (.string (str (be8 n ++ hsb A0))) ∧ Below w.heap.size w w' := by
  go_enter Tryd.func17, Tryd.ntmps17
  refine code_both (fun f w1 => f.tmps.size = 26 ∧ f.defers = [] ∧ f.eval (.tmp 0) = .int .i64 (n) ∧ f.eval (.tmp 1) = va ∧ Below w.heap.size w (w1)) ⟨rfl, rfl, rfl, rfl, Below.refl _ _⟩ ?_
  rintro f0 w0 ⟨sz, df, x0, x1, bl⟩
  have bl0 := bl
  refine wp_seq ?_
  refine wp_all_seq [.eq (.string { data := #[] })] (by kernel_rfl) (by kernel_rfl) (by rw [sz]; kernel_rfl) (by kernel_rfl) ⟨fun hw ac u K => ?_, trivial⟩ ?_
  · exact st_assign (.const (.string { data := #[] })) rfl rfl
  intro f1 w1 A hb
  replace bl0 := bl
  replace x0 := (A.old 0 rfl).trans x0
  replace x1 := (A.old 1 rfl).trans x1
  have x4 : f1.eval (.tmp 4) = .string { data := #[] } := A.has 0 4 rfl
  replace bl := (bl.trans (Below.mono hb bl.size))
  replace sz := A.size.trans sz
  replace df := A.defs.trans df
  clear A hb
  show Code.wp _ _ _ _ _
  refine wp_seq ?_
  refine wp_all_seq [.ow2 w.heap.size ([])] (by kernel_rfl) (by kernel_rfl) (by rw [sz]; kernel_rfl) (by kernel_rfl) ⟨fun hw ac u K => ?_, trivial⟩ ?_
  · exact st_assign (.const (.slice none 0 0)) rfl (ow2_nil _ _)
  intro f2 w2 A hb
  replace bl0 := bl
  replace x0 := (A.old 0 rfl).trans x0
  replace x1 := (A.old 1 rfl).trans x1
  replace x4 := (A.old 4 rfl).trans x4
  have x5 : Fk.f (.ow2 w.heap.size ([])) (f2.eval (.tmp 5)) w2 := A.has 0 5 rfl
  replace bl := (bl.trans (Below.mono hb bl.size))
  replace sz := A.size.trans sz
  replace df := A.defs.trans df
  clear A hb
  show Code.wp _ _ _ _ _
  refine wp_seq ?_
  refine wp_seq ?_
  refine wp_all_seq [.eq (va), .eq (.int .i64 (((A0).length : Nat) : Int)), .eq (.int .i64 0)] (by kernel_rfl) (by kernel_rfl) (by rw [sz]; kernel_rfl) (by kernel_rfl) ⟨fun hw ac u K => ?_, fun hw ac u K => ?_, fun hw ac u K => ?_, trivial⟩ ?_
  · exact st_move (.tmp 1) rfl ((K.old 1 rfl).trans x1)
  · exact st_lenh (.tmp 8) rfl (fk_val (K.dep 0 8 rfl) (Fk.mono _ _ _ _ hA (bl.trans (Below.mono K.grow bl.size))))
  · exact st_move (.const (.int .i64 0)) rfl rfl
  intro f3 w3 A hb
  replace bl0 := bl
  replace x0 := (A.old 0 rfl).trans x0
  replace x1 := (A.old 1 rfl).trans x1
  replace x4 := (A.old 4 rfl).trans x4
  replace x5 := f_at (A.old 5 rfl) (Fk.mono _ _ _ _ x5 hb)
  have x8 : f3.eval (.tmp 8) = va := A.has 0 8 rfl
  have x9 : f3.eval (.tmp 9) = .int .i64 (((A0).length : Nat) : Int) := A.has 1 9 rfl
  have x10 : f3.eval (.tmp 10) = .int .i64 0 := A.has 2 10 rfl
  replace bl := (bl.trans (Below.mono hb bl.size))
  replace sz := A.size.trans sz
  replace df := A.defs.trans df
  clear A hb
  clear x1
  show Code.wp _ _ _ _ _
  refine wp_block ?_
  refine wp_loop (fun f v1 => ∃ k : Nat, k ≤ A0.length ∧ f.tmps.size = 26 ∧ f.defers = [] ∧ f.eval (.tmp 0) = .int .i64 (n) ∧ f.eval (.tmp 4) = .string { data := #[] } ∧ f.eval (.tmp 8) = va ∧ f.eval (.tmp 9) = .int .i64 (((A0).length : Nat) : Int) ∧ f.eval (.tmp 10) = .int .i64 ((k : Nat) : Int) ∧ Fk.f (.ow2 w.heap.size (A0.take k)) (f.eval (.tmp 5)) v1 ∧ Below w.heap.size w (v1)) (fun f _ => A0.length - (intOf (f.eval (.tmp 10))).toNat) ⟨0, Nat.zero_le _, sz, df, x0, x4, x8, x9, x10, x5, bl⟩ ?_
  intro f4 w4 hI
  clear sz df bl bl0 x0 x4 x5 x8 x9 x10
  obtain ⟨k, hk, sz, df, x0, x4, x8, x9, x10, x5, bl⟩ := hI
  have bl0 := bl
  have hcnt := x10
  refine wp_seq ?_
  by_cases hlt : k < A0.length
  rotate_left
  · skip
    refine wp_all_seq [.eq (.bool false)] (by kernel_rfl) (by kernel_rfl) (by rw [sz]; kernel_rfl) (by kernel_rfl) ⟨fun hw ac u K => ?_, trivial⟩ ?_
    · exact st_lss 3 (.tmp 10) (.tmp 9) rfl .i64 (((k : Nat) : Int)) ((((A0).length : Nat) : Int)) ((K.old 10 rfl).trans x10) ((K.old 9 rfl).trans x9) _ (by first | (simp; done) | (simp; omega))
    intro f5 w5 A hb
    replace bl0 := bl
    replace x0 := (A.old 0 rfl).trans x0
    replace x4 := (A.old 4 rfl).trans x4
    replace x5 := f_at (A.old 5 rfl) (Fk.mono _ _ _ _ x5 hb)
    replace x8 := (A.old 8 rfl).trans x8
    replace x9 := (A.old 9 rfl).trans x9
    replace x10 := (A.old 10 rfl).trans x10
    have x11 : f5.eval (.tmp 11) = .bool false := A.has 0 11 rfl
    replace bl := (bl.trans (Below.mono hb bl.size))
    replace sz := A.size.trans sz
    replace df := A.defs.trans df
    clear A hb
    show Code.wp _ _ _ _ _
    refine wp_seq ?_
    refine wp_cond_false x11 ?_
    refine wp_exit ?_
    show Code.wp _ _ _ _ _
    refine wp_seq ?_
    rw [show A0.take k = A0 from List.take_of_length_le (by omega)] at x5
    obtain ⟨B, eB⟩ : ∃ B, Box (be8 n ++ hsb A0 = B) := ⟨_, ⟨rfl⟩⟩
    have hB := rgb_len n (hs_all hA) hA0
    rw [eB.out] at hB
    refine wp_all_seq [.eq (.int .i64 (n)), .sl (be8 n), .ow2 w.heap.size (A0), .sl (hsb A0), .ls 2 (B), .sl (B), .eq (.string (str (B))), .eq (.string (str (B)))] (by kernel_rfl) (by kernel_rfl) (by rw [sz]; kernel_rfl) (by kernel_rfl) ⟨fun hw ac u K => ?_, fun hw ac u K => ?_, fun hw ac u K => ?_, fun hw ac u K => ?_, fun hw ac u K => ?_, fun hw ac u K => ?_, fun hw ac u K => ?_, fun hw ac u K => ?_, trivial⟩ ?_
    · exact st_move (.tmp 0) rfl ((K.old 0 rfl).trans x0)
    · exact st_call 32 (.func 32) _ _ #[.int .i64 (n)] rfl rfl (one_arg (K.dep 0 19 rfl)) Tryd.enter32 (fk_refInt n _)
    · exact st_move (.tmp 5) rfl (f_at (K.old 5 rfl) (Fk.mono _ _ _ _ x5 K.grow))
    · exact st_call 33 (.func 33) _ _ #[ac.eval (.tmp 21)] rfl rfl (one_arg rfl) Tryd.enter33 (fk_refHashes hA0 (K.dep 2 21 rfl))
    · exact by rw [← eB.out]; exact st_build2 (.tmp 20) (.tmp 22) rfl (K.dep 1 20 rfl) (K.dep 3 22 rfl)
    · exact st_call 31 (.func 31) _ _ #[ac.eval (.tmp 23)] rfl rfl (one_arg rfl) Tryd.enter31 (fk_join (by omega) (by omega) (K.dep 4 23 rfl))
    · exact st_str (.tmp 24) rfl (by omega) (K.dep 5 24 rfl)
    · exact st_assign (.tmp 25) rfl (K.dep 6 25 rfl)
    intro f6 w6 A hb
    replace bl0 := bl
    replace x0 := (A.old 0 rfl).trans x0
    clear x4
    replace x5 := f_at (A.old 5 rfl) (Fk.mono _ _ _ _ x5 hb)
    replace x8 := (A.old 8 rfl).trans x8
    replace x9 := (A.old 9 rfl).trans x9
    replace x10 := (A.old 10 rfl).trans x10
    replace x11 := (A.old 11 rfl).trans x11
    have x4 : f6.eval (.tmp 4) = .string (str (B)) := A.has 7 4 rfl
    replace bl := (bl.trans (Below.mono hb bl.size))
    replace sz := A.size.trans sz
    replace df := A.defs.trans df
    clear A hb
    show Code.wp _ _ _ _ _
    refine wp_ret ?_
    repeat (first | with_reducible refine then_ret ?_ | with_reducible refine block_ret ?_)
    rw [← eB.out] at x4
    exact bodyPost_ret (v := .string (str (be8 n ++ hsb A0))) (ret_slot rfl f6 _ x4 _ _) df ⟨rfl, bl⟩
  obtain ⟨x, hxk⟩ : ∃ p, A0[k]? = some p := ⟨_, List.getElem?_eq_getElem hlt⟩
  have hx : x.length = 32 := hs_len hA hxk
  refine wp_all_seq [.eq (.bool true)] (by kernel_rfl) (by kernel_rfl) (by rw [sz]; kernel_rfl) (by kernel_rfl) ⟨fun hw ac u K => ?_, trivial⟩ ?_
  · exact st_lss 3 (.tmp 10) (.tmp 9) rfl .i64 (((k : Nat) : Int)) ((((A0).length : Nat) : Int)) ((K.old 10 rfl).trans x10) ((K.old 9 rfl).trans x9) _ (by first | (simp; done) | (simp; omega))
  intro f5 w5 A hb
  replace bl0 := bl
  replace x0 := (A.old 0 rfl).trans x0
  replace x4 := (A.old 4 rfl).trans x4
  replace x5 := f_at (A.old 5 rfl) (Fk.mono _ _ _ _ x5 hb)
  replace x8 := (A.old 8 rfl).trans x8
  replace x9 := (A.old 9 rfl).trans x9
  replace x10 := (A.old 10 rfl).trans x10
  have x11 : f5.eval (.tmp 11) = .bool true := A.has 0 11 rfl
  replace bl := (bl.trans (Below.mono hb bl.size))
  replace sz := A.size.trans sz
  replace df := A.defs.trans df
  clear A hb
  show Code.wp _ _ _ _ _
  refine wp_seq ?_
  refine wp_cond_true x11 ?_
  refine wp_skip ?_
  show Code.wp _ _ _ _ _
  refine wp_seq ?_
  refine wp_block ?_
  refine wp_seq ?_
  refine wp_region_seq [.ph (x), .eq (.agg ((x).map V).toArray), .nw w5.heap.size 33 ((hz).map V)] (by kernel_rfl) (by kernel_rfl) (by rw [sz]; kernel_rfl) (by kernel_rfl) ⟨fun hw ac u K => ?_, fun hw ac u K => ?_, fun hw ac u K => ?_, trivial⟩ ?_
  · exact st_idxh (.tmp 8) (.tmp 10) rfl (fk_val ((K.old 8 rfl).trans x8) (Fk.mono _ _ _ _ hA (bl.trans (Below.mono K.grow bl.size)))) (k) (x) ((K.old 10 rfl).trans x10) hxk
  · exact st_loadh (.tmp 12) rfl (K.dep 0 12 rfl)
  · exact st_alloc33 rfl _ K.grow.size
  intro f6 w6 A hb
  have S_x5 : Fk.f (.ow2 w.heap.size (A0.take k)) (f6.eval (.tmp 5)) w5 := f_at (A.old 5 rfl) x5
  have hbS0 := Below.refl w5.heap.size w5
  have hbS := hb
  replace bl0 := bl
  replace x0 := (A.old 0 rfl).trans x0
  replace x4 := (A.old 4 rfl).trans x4
  replace x5 := f_at (A.old 5 rfl) (Fk.mono _ _ _ _ x5 hb)
  replace x8 := (A.old 8 rfl).trans x8
  replace x9 := (A.old 9 rfl).trans x9
  replace x10 := (A.old 10 rfl).trans x10
  replace x11 := (A.old 11 rfl).trans x11
  have x7 : Fk.f (.nw w5.heap.size 33 ((hz).map V)) (f6.eval (.tmp 7)) w6 := A.has 2 7 rfl
  have x13 : f6.eval (.tmp 13) = .agg ((x).map V).toArray := A.has 1 13 rfl
  replace bl := (bl.trans (Below.mono hb bl.size))
  replace sz := A.size.trans sz
  replace df := A.defs.trans df
  clear A hb
  obtain ⟨g7, hg7, e7, m7⟩ := x7
  have x7 := e7
  clear e7
  have hw7 : w.heap.size ≤ g7 := Nat.le_trans bl0.size hg7
  have hs7 := Nat.le_trans hbS0.size hg7
  refine wl_store rfl (.tmp 7) (.tmp 13) rfl rfl (g7) (x) (hz) x7 x13 m7 hz_len hx ?_
  replace m7 : Ob (w6.setRow g7 ((x).map V : List Value).toArray) (g7) 33 ((x).map V) := Ob.setRow m7 ((x).map V)
  replace hbS : Below _ _ (w6.setRow g7 ((x).map V : List Value).toArray) := hbS.trans (below_setRow _ _ _ _ hs7)
  replace bl : Below w.heap.size w (w6.setRow g7 ((x).map V : List Value).toArray) := bl.trans (below_setRow _ _ _ _ hw7)
  generalize w6.setRow g7 ((x).map V : List Value).toArray = w7b at bl m7 hbS ⊢
  replace x5 : Fk.f (.ow2 w.heap.size (A0.take k)) (f6.eval (.tmp 5)) w7b := Fk.mono _ _ _ _ S_x5 hbS
  refine wpList_nil ?_
  clear hbS hbS0 S_x5
  clear x13
  show Code.wp _ _ _ _ _
  refine wp_region_seq [.ow2 w.heap.size (A0.take k), .eq (.agg ((x).map V).toArray), .hs ([x])] (by kernel_rfl) (by kernel_rfl) (by rw [sz]; kernel_rfl) (by kernel_rfl) ⟨fun hw ac u K => ?_, fun hw ac u K => ?_, fun hw ac u K => ?_, trivial⟩ ?_
  · exact st_move (.tmp 5) rfl (f_at (K.old 5 rfl) (Fk.mono _ _ _ _ x5 K.grow))
  · exact st_load33 (.tmp 7) rfl (g7) (x) ((K.old 7 rfl).trans x7) hx (Ob.below m7 K.grow)
  · exact st_bh2 (.tmp 15) rfl hx (K.dep 1 15 rfl)
  intro f8 w8 A hb
  replace bl0 := bl
  replace x0 := (A.old 0 rfl).trans x0
  replace x4 := (A.old 4 rfl).trans x4
  replace x5 := f_at (A.old 5 rfl) (Fk.mono _ _ _ _ x5 hb)
  replace x8 := (A.old 8 rfl).trans x8
  replace x9 := (A.old 9 rfl).trans x9
  replace x10 := (A.old 10 rfl).trans x10
  replace x11 := (A.old 11 rfl).trans x11
  replace x7 := (A.old 7 rfl).trans x7
  have x14 : Fk.f (.ow2 w.heap.size (A0.take k)) (f8.eval (.tmp 14)) w8 := A.has 0 14 rfl
  have x16 : Fk.f (.hs ([x])) (f8.eval (.tmp 16)) w8 := A.has 2 16 rfl
  have lt_m7 := Ob.lt m7
  replace m7 := Ob.below m7 hb
  replace bl := (bl.trans (Below.mono hb bl.size))
  replace sz := A.size.trans sz
  replace df := A.defs.trans df
  clear A hb
  refine wl_append2 rfl (.tmp 14) (.tmp 16) rfl 17 rfl (by rw [sz]; decide) x14 x16 bl (by rw [List.length_take]; omega) ?_
  intro f9 w9 df2 sz2 old2 new2 bl2
  clear x5
  clear x14
  clear x16
  replace x0 := (old2 0 rfl).trans x0
  replace x4 := (old2 4 rfl).trans x4
  replace x8 := (old2 8 rfl).trans x8
  replace x9 := (old2 9 rfl).trans x9
  replace x10 := (old2 10 rfl).trans x10
  replace x11 := (old2 11 rfl).trans x11
  replace x7 := (old2 7 rfl).trans x7
  clear m7
  have x17 : Fk.f (.ow2 w.heap.size (A0.take k ++ [x])) (f9.eval (.tmp 17)) w9 := new2
  replace bl := bl2
  replace bl0 := bl
  replace sz := sz2.trans sz
  replace df := df2.trans df
  clear df2 sz2 old2 new2 bl2
  refine wl_one (.ow2 w.heap.size (A0.take k ++ [x])) rfl 5 rfl (by rw [sz]; decide) (st_assign (.tmp 17) rfl x17) ?_
  intro f10 w10 df2 sz2 old2 new2 hb
  replace bl0 := bl
  replace x0 := (old2 0 rfl).trans x0
  replace x4 := (old2 4 rfl).trans x4
  replace x8 := (old2 8 rfl).trans x8
  replace x9 := (old2 9 rfl).trans x9
  replace x10 := (old2 10 rfl).trans x10
  replace x11 := (old2 11 rfl).trans x11
  replace x7 := (old2 7 rfl).trans x7
  replace x17 := f_at (old2 17 rfl) (Fk.mono _ _ _ _ x17 hb)
  have x5 : Fk.f (.ow2 w.heap.size (A0.take k ++ [x])) (f10.eval (.tmp 5)) w10 := new2
  replace bl := (bl.trans (Below.mono hb bl.size))
  replace sz := sz2.trans sz
  replace df := df2.trans df
  clear df2 sz2 old2 new2 hb
  refine wpList_nil ?_
  clear x17
  show Code.wp _ _ _ _ _
  refine wp_region_seq [.eq (.int .i64 ((k + 1 : Nat) : Int))] (by kernel_rfl) (by kernel_rfl) (by rw [sz]; kernel_rfl) (by kernel_rfl) ⟨fun hw ac u K => ?_, trivial⟩ ?_
  · exact st_add (.tmp 10) (.const (.int .i64 1)) rfl (k) (1) (k + 1) ((K.old 10 rfl).trans x10) rfl (by omega) (by omega)
  intro f11 w11 A hb
  replace bl0 := bl
  replace x0 := (A.old 0 rfl).trans x0
  replace x4 := (A.old 4 rfl).trans x4
  replace x8 := (A.old 8 rfl).trans x8
  replace x9 := (A.old 9 rfl).trans x9
  replace x10 := (A.old 10 rfl).trans x10
  replace x11 := (A.old 11 rfl).trans x11
  replace x7 := (A.old 7 rfl).trans x7
  replace x5 := f_at (A.old 5 rfl) (Fk.mono _ _ _ _ x5 hb)
  have x18 : f11.eval (.tmp 18) = .int .i64 ((k + 1 : Nat) : Int) := A.has 0 18 rfl
  replace bl := (bl.trans (Below.mono hb bl.size))
  replace sz := A.size.trans sz
  replace df := A.defs.trans df
  clear A hb
  refine wl_one (.eq (.int .i64 ((k + 1 : Nat) : Int))) rfl 10 rfl (by rw [sz]; decide) (st_move (.tmp 18) rfl x18) ?_
  intro f12 w12 df2 sz2 old2 new2 hb
  replace bl0 := bl
  replace x0 := (old2 0 rfl).trans x0
  replace x4 := (old2 4 rfl).trans x4
  replace x8 := (old2 8 rfl).trans x8
  replace x9 := (old2 9 rfl).trans x9
  clear x10
  replace x11 := (old2 11 rfl).trans x11
  replace x7 := (old2 7 rfl).trans x7
  replace x5 := f_at (old2 5 rfl) (Fk.mono _ _ _ _ x5 hb)
  replace x18 := (old2 18 rfl).trans x18
  have x10 : f12.eval (.tmp 10) = .int .i64 ((k + 1 : Nat) : Int) := new2
  replace bl := (bl.trans (Below.mono hb bl.size))
  replace sz := sz2.trans sz
  replace df := df2.trans df
  clear df2 sz2 old2 new2 hb
  refine wpList_nil ?_
  clear x18
  show (∃ _, _) ∧ _
  replace x5 : Fk.f (.ow2 w.heap.size (A0.take (k + 1))) (f12.eval (.tmp 5)) w12 := (by rw [take_one A0 hxk]; exact x5)
  refine ⟨⟨k + 1, by omega, sz, df, x0, x4, x8, x9, x10, x5, bl⟩, ?_⟩
  rw [show f12.eval (.tmp 10) = _ from x10, show _ = _ from hcnt]
  simp [intOf]
  omega
end Go.Proofs.YtnppjlpnfijobaaDoor
namespace Go.Proofs.YtnppjlpnfijobaaDoor
set_option maxRecDepth 100000
open Go.RowKit
/-- A Range in memory: at block g, its row of peaks (if it has one) at block k; it has so many leaves, and these peaks. (Turn to the landed struct.) -/
def HR (w : World) (g k n : Nat) (P : List (List (BitVec 8))) : Prop :=
  n ≤ 1048576 ∧ P.length = pcn n ∧ (∀ x ∈ P, x.length = 32) ∧ ∃ v, Ob w g 51 [.int .i64 (n : Int), v] ∧ ((v = .slice none 0 0 ∧ P = [] ∧ k = g) ∨ ∃ cap cur, v = .slice (some ⟨k, 0, none⟩) P.length cap ∧ k ≠ g ∧ w.heap[k]? = some (.cells cur 33 (0, 0)) ∧ P.length ≤ cap ∧ cap ≤ maxLen ∧ cur.size = cap * 32 ∧ cur.toList.take (P.length * 32) = P.flatten.map V)
theorem HR.lt {w : World} {g k n : Nat} {P : List (List (BitVec 8))} (h : HR w g k n P) : g < w.heap.size ∧ k < w.heap.size := by
  obtain ⟨_, _, _, v, hob, h | ⟨cap, cur, _, _, hk, _⟩⟩ := h
  · exact ⟨Ob.lt hob, by rw [h.2.2]; exact Ob.lt hob⟩
  · exact ⟨Ob.lt hob, (Array.getElem?_eq_some_iff.1 hk).1⟩
theorem HR.keep {w w' : World} {g k n : Nat} {P : List (List (BitVec 8))} (h : HR w g k n P) (hg : w'.heap[g]? = w.heap[g]?) (hk : w'.heap[k]? = w.heap[k]?) : HR w' g k n P := by
  obtain ⟨h1, h2, h3, v, hob, h4⟩ := h
  refine ⟨h1, h2, h3, v, by unfold Ob; rw [hg]; exact hob, ?_⟩
  rcases h4 with h4 | ⟨cap, cur, e, hkg, hr, h5⟩
  · exact .inl h4
  · exact .inr ⟨cap, cur, e, hkg, by rw [hk]; exact hr, h5⟩
theorem HR.n {w : World} {g k n : Nat} {P : List (List (BitVec 8))} (h : HR w g k n P) : n ≤ 1048576 := h.1
theorem HR.pcn {w : World} {g k n : Nat} {P : List (List (BitVec 8))} (h : HR w g k n P) : P.length = pcn n := h.2.1
theorem HR.h32 {w : World} {g k n : Nat} {P : List (List (BitVec 8))} (h : HR w g k n P) : ∀ x ∈ P, x.length = 32 := h.2.2.1
theorem HR.mono {w w' : World} {g k n : Nat} {P : List (List (BitVec 8))} (h : HR w g k n P) (hb : Below w.heap.size w w') : HR w' g k n P := h.keep (hb.block g h.lt.1) (hb.block k h.lt.2)
theorem HR.len {w : World} {g k n : Nat} {P : List (List (BitVec 8))} (h : HR w g k n P) : P.length ≤ 21 := by rw [h.pcn]; exact pcn_log 21 n (by have := h.n; omega)
/-- A pointer to a Range, all of it at or behind g0. -/
def Fk.rn (g0 n : Nat) (P : List (List (BitVec 8))) : Fk := .inr (.inl ⟨fun v w => ∃ g k, v = .pointer (some ⟨g, 0, none⟩) ∧ g0 ≤ g ∧ g0 ≤ k ∧ HR w g k n P, by
  rintro v w w' ⟨g, k, e, h1, h2, h⟩ hb
  exact ⟨g, k, e, h1, h2, h.mono hb⟩⟩)
/-- All blocks but two are as they were. -/
structure Kp (g k : Nat) (w w' : World) : Prop where
  os : w'.os = w.os
  tape : w'.tape = w.tape
  output : w'.output = w.output
  size : w.heap.size ≤ w'.heap.size
  block : ∀ j, j < w.heap.size → j ≠ g → j ≠ k → w'.heap[j]? = w.heap[j]?
theorem Kp.below {g k B : Nat} {w w' : World} (h : Kp g k w w') (hB : B ≤ w.heap.size) (hg : B ≤ g) (hk : B ≤ k) : Below B w w' := ⟨h.os, h.tape, h.output, h.size, fun j hj => h.block j (by omega) (by omega) (by omega)⟩
theorem Kp.grow {g k : Nat} {w w1 w2 : World} (h : Kp g k w w1) (hb : Below w1.heap.size w1 w2) : Kp g k w w2 := ⟨hb.os.trans h.os, hb.tape.trans h.tape, hb.output.trans h.output, Nat.le_trans h.size hb.size, fun j hj h1 h2 => (hb.block j (Nat.lt_of_lt_of_le hj h.size)).trans (h.block j hj h1 h2)⟩
theorem Kp.of_below (g k : Nat) {w w1 : World} (h : Below w.heap.size w w1) : Kp g k w w1 := ⟨h.os, h.tape, h.output, h.size, fun j hj _ _ => h.block j hj⟩
theorem Kp.setRow_new {g k b : Nat} {w w1 : World} (h : Kp g k w w1) (hb : w.heap.size ≤ b) (cs : Array Value) : Kp g k w (w1.setRow b cs) := by
  have h2 := (Only.refl b w1).setRow cs
  exact ⟨h2.os.trans h.os, h2.tape.trans h.tape, h2.output.trans h.output, Nat.le_trans h.size h2.size, fun j hj h3 h4 => (h2.block j (Nat.lt_of_lt_of_le hj h.size) (by omega)).trans (h.block j hj h3 h4)⟩
theorem Kp.step {g k k1 : Nat} {w w1 w2 : World} (h : Kp g k w w1) (h2 : Kp g k1 w1 w2) (hk : k1 = k ∨ w.heap.size ≤ k1) : Kp g k w w2 := ⟨h2.os.trans h.os, h2.tape.trans h.tape, h2.output.trans h.output, Nat.le_trans h.size h2.size, fun j hj h3 h4 => (h2.block j (Nat.lt_of_lt_of_le hj h.size) h3 (by rcases hk with e | e <;> omega)).trans (h.block j hj h3 h4)⟩
theorem hc_kp {g k : Nat} {w w1 : World} {M : List (List (BitVec 8))} {v : Value} (hv : (Fk.hc M).f v w) (hap : 0 < M.length → v.ownBlock ≠ some g ∧ v.ownBlock ≠ some k) (h : Kp g k w w1) : (Fk.hc M).f v w1 := by
  obtain ⟨A, C, lb, lo, rfl, hc, hl⟩ := hv
  refine ⟨A, C, lb, lo, rfl, hc, hl.ptr, fun h0 => Nat.lt_of_lt_of_le (hl.lt h0) h.size, fun i x hi => ⟨(hl.all i x hi).1, fun j hj => ?_⟩⟩
  have h0 : 0 < M.length := by have := (List.getElem?_eq_some_iff.1 hi).1; omega
  have hp := hl.ptr h0
  have hlt := hl.lt h0
  obtain ⟨a1, a2⟩ := hap h0
  subst hp
  have n1 : lb ≠ g := fun e => a1 (by rw [e]; rfl)
  have n2 : lb ≠ k := fun e => a2 (by rw [e]; rfl)
  rw [World.cell?_of_block (w := w) (h.block lb hlt n1 n2)]
  exact (hl.all i x hi).2 j hj
theorem tab_kp {g k : Nat} {w w1 : World} (hK : Tab w) (h00 : 2 < g ∧ 2 < k) (h : Kp g k w w1) : Tab w1 := by
  refine ⟨fun i hi => ?_, Nat.lt_of_lt_of_le hK.pos h.size, fun i hi => ?_, Nat.lt_of_lt_of_le hK.zpos h.size⟩
  · have := hK.K i hi
    rw [World.cell?_of_block (w := w) (h.block 2 hK.pos (by omega) (by omega))]
    exact this
  · have := hK.Z i hi
    rw [World.cell?_of_block (w := w) (h.block 1 hK.zpos (by omega) (by omega))]
    exact this
theorem HR.kp {w w' : World} {g k g2 k2 n : Nat} {P : List (List (BitVec 8))} (h : HR w g k n P) (hK : Kp g2 k2 w w') (h1 : g ≠ g2) (h2 : g ≠ k2) (h3 : k ≠ g2) (h4 : k ≠ k2) : HR w' g k n P := h.keep (hK.block g h.lt.1 h1 h2) (hK.block k h.lt.2 h3 h4)
theorem Ob.kp {w w' : World} {b g2 k2 : Nat} {T : TypeId} {cs : List Value} (h : Ob w b T cs) (hK : Kp g2 k2 w w') (h1 : b ≠ g2) (h2 : b ≠ k2) : Ob w' b T cs := by
  unfold Ob at *
  rw [hK.block b (Ob.lt h) h1 h2]
  exact h
/-- The root, by the peaks. -/
def rtp (P : List (List (BitVec 8))) : List (BitVec 8) := if P = [] then shaOf [] else jn P (P.length - 1)
theorem rtp_pks (L : List (List (BitVec 8))) {n : Nat} (hn : n ≤ 127) (hl : n ≤ L.length) : rtp (pks L n) = mroot (L.take n) := by
  unfold rtp
  by_cases h : n = 0
  · subst h
    rw [pks_zero, if_pos rfl, List.take_zero, mroot_nil]
  · have h1 := pks_join L (n := n) (by omega) hn hl
    rw [if_neg (by rw [pks_pos L h]; simp), h1]
theorem hc_ob {l : List (List (BitVec 8))} {v : Value} {w : World} (hv : (Fk.hc l).f v w) : 0 < l.length → ∀ b, v.ownBlock = some b → b < w.heap.size := by
  intro h0 b e
  obtain ⟨A, C, lb, lo, rfl, _, hl⟩ := hv
  have hp := hl.ptr h0
  have hlt := hl.lt h0
  subst hp
  have e2 : lb = b := Option.some.inj e
  omega
/-- A slice of hashes, and where it lies. -/
def Fk.hq (p : Nat → Prop) (hs : List (List (BitVec 8))) : Fk := .inr (.inl ⟨fun v w => (Fk.hc hs).f v w ∧ (0 < hs.length → ∀ b, v.ownBlock = some b → p b), by
  rintro v w w' ⟨h, ho⟩ hb
  exact ⟨Fk.mono _ _ _ _ h hb, ho⟩⟩)
end Go.Proofs.YtnppjlpnfijobaaDoor
namespace Go.Proofs.YtnppjlpnfijobaaDoor
set_option maxRecDepth 100000
open Go.RowKit
theorem own_h0 (w : World) (base : Nat) (h : base ≤ w.heap.size) : (Fk.ow base []).f (.slice (some ⟨w.heap.size, 0, none⟩) 0 0) (w.alloc (.cells #[] 33)) :=
  ⟨⟨rfl, .inr ⟨w.heap.size, 0, #[], rfl, h, heap_alloc_new _ _, Nat.le_refl _, by unfold maxLen; omega, rfl, rfl⟩⟩, fun i x hi => by simp at hi⟩
theorem st_bo0 {Q : Exit → Act → World → Prop} {o : Oper} {a : Act} {w : World} (ho : o.op = .buildSlice 22 0 #[]) (g0 : Nat) (hg : g0 ≤ w.heap.size) : o.wp Tryd.prog a w (Ends a o.dst w (Fk.ow g0 []).f) Q := by
  refine st_run (v := .slice (some ⟨w.heap.size, 0, none⟩) 0 0) (w' := w.alloc (.cells #[] 33)) ?_ ((Below.refl _ _).alloc (Nat.le_refl _) _) (own_h0 w g0 hg)
  have h : (Instr.buildSlice 22 0 #[]).run Tryd.prog w = .ok (.slice (some ⟨w.heap.size, 0, none⟩) 0 0) (w.alloc (.cells #[] 33)) := by kernel_rfl
  unfold execOp
  rw [ho]
  simp [h]
theorem flat_len32 : ∀ (l : List (List (BitVec 8))), (∀ (i : Nat) (x : List (BitVec 8)), l[i]? = some x → x.length = 32) → l.flatten.length = l.length * 32
  | [], _ => rfl
  | y :: r, h => by
    have h0 := h 0 y rfl
    have h1 := flat_len32 r (fun i x hi => h (i + 1) x (by simpa using hi))
    rw [List.flatten_cons, List.length_append, h0, h1, List.length_cons]
    omega
theorem wl_appl {Q : Exit → Act → World → Prop} {o : Oper} {a : Act} {w : World} {ops : Array Oper} {rest : List Oper} (hgd : o.guard = none) (s x : Operand) (ho : o.op = .call { callee := .builtin .append, args := #[s, x], argTypes := #[22, 22] }) (d : Nat) (hd : o.dst = some d) (hsz : d < a.tmps.size)
    {wL : World} {l : List (List (BitVec 8))} {ad : Addr} {C : Nat} (hs1 : (Fk.ow wL.heap.size []).f (a.eval s) w) (hx : a.eval x = .slice (some ad) l.length C) (hl0 : (Fk.hs l).f (.slice (some ad) l.length C) w) (hL : Below wL.heap.size wL w) (hN : l.length ≤ 1000)
    (h : ∀ a2 w2, a2.defers = a.defers → a2.tmps.size = a.tmps.size → (∀ t, (t == d) = false → a2.eval (.tmp t) = a.eval (.tmp t)) → (Fk.ow wL.heap.size l).f (a2.eval (.tmp d)) w2 → Below wL.heap.size wL w2 → wpList Tryd.prog ops Q rest a2 w2) : wpList Tryd.prog ops Q (o :: rest) a w := by
  obtain ⟨i0, hi, hz0, hz1, hz2⟩ := info_parts Tryd.info33
  obtain ⟨A', C', lb, lo, e, hl⟩ := hl0
  cases e
  have h32 : ∀ (i : Nat) (y : List (BitVec 8)), l[i]? = some y → y.length = 32 := fun i y hi => (hl.all i y hi).1
  have hfl := flat_len32 l h32
  obtain ⟨hown, _⟩ := hs1
  refine wpList_append_own w hgd s x 22 ho wL.heap.size 33 i0 _ 32 32 Tryd.under22' hi hz0 hz1 hz2 (by simp [Value.cells, hz_len]) (by decide) _ 0 [] rfl (by simpa using hown) ad l.length C (l.flatten.map V) hx (by rw [List.length_map, hfl]) ?_ (V_one _) (by unfold maxLen; omega) (by omega) hL.size ?_
  · intro j u hj
    have hjl : j < l.length * 32 := by
      have := (List.getElem?_eq_some_iff.1 hj).1
      rw [List.length_map, hfl] at this
      exact this
    have hp := hl.ptr (by omega)
    obtain rfl := Option.some.inj hp
    have hil : j / 32 < l.length := by omega
    have hxi : l[j / 32]? = some l[j / 32] := List.getElem?_eq_getElem hil
    have hlen := h32 _ _ hxi
    have hat := flat_at l h32 _ _ hxi (j % 32) (by omega)
    rw [show j / 32 * 32 + j % 32 = j by omega] at hat
    have hr : j % 32 < (l[j / 32]).length := by rw [hlen]; omega
    rw [List.getElem?_map, hat, List.getElem?_eq_getElem hr, Option.map_some] at hj
    obtain rfl := Option.some.inj hj
    have hc := (hl.all _ _ hxi).2 (j % 32) hr
    rw [Addr.add_mid, show lo + j = lo + j / 32 * 32 + j % 32 by omega, hc]
    simp [V, hr]
  · intro v' w' h1 h2 _
    refine h _ _ (put_def _ _ _) (put_size _ _ _) (fun t ht => ?_) ?_ (hL.grown h2 hL.size (fun k e => (World.ownsRow.lt hown k e).1))
    · rw [hd]
      exact put_eval_other _ _ _ _ (fun e => by subst e; simp at ht)
    · rw [hd, put_eval_same _ _ _ hsz]
      exact ⟨by simpa using h1, h32⟩
theorem nil_no (ad : Addr) (n C : Nat) (w : World) {x y : Operand} : (do eqGuard .eql 22 x y (.slice (some ad) n C) (.slice none 0 0); binOp .eql 22 (.slice (some ad) n C) (.slice none 0 0) : Sem Value).run Tryd.prog w = .ok (.bool false) w := by
  have h := Lib.run_eql_slice_nil (P := Tryd.prog) w 22 33 (some ad) n C 0 0 Tryd.under22'
  simp only [eqGuard, Sem.run_bind]
  exact h
theorem clone_nil (w : World) :
    Calls Tryd.prog 26 #[.slice none 0 0] w fun e w' => e = .returned (.slice none 0 0) ∧ Below w.heap.size w w' := by
  go_enter Tryd.func26, Tryd.ntmps26
  refine code_both (fun f w1 => f.tmps.size = 8 ∧ f.defers = [] ∧ f.eval (.tmp 0) = .slice none 0 0 ∧ Below w.heap.size w (w1)) ⟨rfl, rfl, rfl, Below.refl _ _⟩ ?_
  rintro f0 w0 ⟨sz, df, x0, bl⟩
  have bl0 := bl
  refine wp_seq ?_
  refine wp_all_seq [.eq (.slice none 0 0)] (by kernel_rfl) (by kernel_rfl) (by rw [sz]; kernel_rfl) (by kernel_rfl) ⟨fun hw ac u K => ?_, trivial⟩ ?_
  · exact st_assign (.const (.slice none 0 0)) rfl rfl
  intro f1 w1 A hb
  replace bl0 := bl
  replace x0 := (A.old 0 rfl).trans x0
  have x2 : f1.eval (.tmp 2) = .slice none 0 0 := A.has 0 2 rfl
  replace bl := (bl.trans (Below.mono hb bl.size))
  replace sz := A.size.trans sz
  replace df := A.defs.trans df
  clear A hb
  show Code.wp _ _ _ _ _
  refine wp_seq ?_
  refine wp_seq ?_
  refine wp_all_seq [.eq (.slice none 0 0), .eq (.bool true)] (by kernel_rfl) (by kernel_rfl) (by rw [sz]; kernel_rfl) (by kernel_rfl) ⟨fun hw ac u K => ?_, fun hw ac u K => ?_, trivial⟩ ?_
  · exact st_move (.tmp 0) rfl ((K.old 0 rfl).trans x0)
  · exact st_bin .eql 22 22 (.tmp 3) _ rfl (K.dep 0 3 rfl) rfl (by kernel_rfl)
  intro f2 w2 A hb
  replace bl0 := bl
  replace x0 := (A.old 0 rfl).trans x0
  replace x2 := (A.old 2 rfl).trans x2
  have x4 : f2.eval (.tmp 4) = .bool true := A.has 1 4 rfl
  replace bl := (bl.trans (Below.mono hb bl.size))
  replace sz := A.size.trans sz
  replace df := A.defs.trans df
  clear A hb
  show Code.wp _ _ _ _ _
  refine wp_cond_true x4 ?_
  refine wp_seq ?_
  refine wp_all_seq [.eq (.slice none 0 0)] (by kernel_rfl) (by kernel_rfl) (by rw [sz]; kernel_rfl) (by kernel_rfl) ⟨fun hw ac u K => ?_, trivial⟩ ?_
  · exact st_assign (.const (.slice none 0 0)) rfl rfl
  intro f3 w3 A hb
  replace bl0 := bl
  replace x0 := (A.old 0 rfl).trans x0
  clear x2
  replace x4 := (A.old 4 rfl).trans x4
  have x2 : f3.eval (.tmp 2) = .slice none 0 0 := A.has 0 2 rfl
  replace bl := (bl.trans (Below.mono hb bl.size))
  replace sz := A.size.trans sz
  replace df := A.defs.trans df
  clear A hb
  show Code.wp _ _ _ _ _
  refine wp_ret ?_
  repeat (first | with_reducible refine then_ret ?_ | with_reducible refine block_ret ?_)
  exact bodyPost_ret (v := .slice none 0 0) (ret_slot rfl f3 _ x2 _ _) df ⟨rfl, bl⟩
theorem clone_some {l : List (List (BitVec 8))} {ad : Addr} {C : Nat} (hl : l.length ≤ 1000) (w : World) (hv : (Fk.hs l).f (.slice (some ad) l.length C) w) :
    Calls Tryd.prog 26 #[.slice (some ad) l.length C] w fun e w' => ∃ u, e = .returned u ∧ (Fk.ow w.heap.size l).f u w' ∧ Below w.heap.size w w' := by
  go_enter Tryd.func26, Tryd.ntmps26
  refine code_both (fun f w1 => f.tmps.size = 8 ∧ f.defers = [] ∧ f.eval (.tmp 0) = .slice (some ad) l.length C ∧ Below w.heap.size w (w1)) ⟨rfl, rfl, rfl, Below.refl _ _⟩ ?_
  rintro f0 w0 ⟨sz, df, x0, bl⟩
  have bl0 := bl
  refine wp_seq ?_
  refine wp_all_seq [.eq (.slice none 0 0)] (by kernel_rfl) (by kernel_rfl) (by rw [sz]; kernel_rfl) (by kernel_rfl) ⟨fun hw ac u K => ?_, trivial⟩ ?_
  · exact st_assign (.const (.slice none 0 0)) rfl rfl
  intro f1 w1 A hb
  replace bl0 := bl
  replace x0 := (A.old 0 rfl).trans x0
  have x2 : f1.eval (.tmp 2) = .slice none 0 0 := A.has 0 2 rfl
  replace bl := (bl.trans (Below.mono hb bl.size))
  replace sz := A.size.trans sz
  replace df := A.defs.trans df
  clear A hb
  show Code.wp _ _ _ _ _
  refine wp_seq ?_
  refine wp_seq ?_
  refine wp_all_seq [.eq (.slice (some ad) l.length C), .eq (.bool false)] (by kernel_rfl) (by kernel_rfl) (by rw [sz]; kernel_rfl) (by kernel_rfl) ⟨fun hw ac u K => ?_, fun hw ac u K => ?_, trivial⟩ ?_
  · exact st_move (.tmp 0) rfl ((K.old 0 rfl).trans x0)
  · exact st_bin .eql 22 22 (.tmp 3) _ rfl (K.dep 0 3 rfl) rfl (nil_no _ _ _ _)
  intro f2 w2 A hb
  replace bl0 := bl
  replace x0 := (A.old 0 rfl).trans x0
  replace x2 := (A.old 2 rfl).trans x2
  have x4 : f2.eval (.tmp 4) = .bool false := A.has 1 4 rfl
  replace bl := (bl.trans (Below.mono hb bl.size))
  replace sz := A.size.trans sz
  replace df := A.defs.trans df
  clear A hb
  show Code.wp _ _ _ _ _
  refine wp_cond_false x4 ?_
  refine wp_skip ?_
  show Code.wp _ _ _ _ _
  refine wp_seq ?_
  refine wp_region_seq [.ow w.heap.size ([]), .eq (.slice (some ad) l.length C)] (by kernel_rfl) (by kernel_rfl) (by rw [sz]; kernel_rfl) (by kernel_rfl) ⟨fun hw ac u K => ?_, fun hw ac u K => ?_, trivial⟩ ?_
  · exact st_bo0 rfl _ (bl.trans (Below.mono K.grow bl.size)).size
  · exact st_move (.tmp 0) rfl ((K.old 0 rfl).trans x0)
  intro f3 w3 A hb
  replace bl0 := bl
  replace x0 := (A.old 0 rfl).trans x0
  replace x2 := (A.old 2 rfl).trans x2
  replace x4 := (A.old 4 rfl).trans x4
  have x5 : Fk.f (.ow w.heap.size ([])) (f3.eval (.tmp 5)) w3 := A.has 0 5 rfl
  have x6 : f3.eval (.tmp 6) = .slice (some ad) l.length C := A.has 1 6 rfl
  replace bl := (bl.trans (Below.mono hb bl.size))
  replace sz := A.size.trans sz
  replace df := A.defs.trans df
  clear A hb
  refine wl_appl rfl (.tmp 5) (.tmp 6) rfl 7 rfl (by rw [sz]; decide) x5 x6 (Fk.mono _ _ _ _ hv bl) bl hl ?_
  intro f4 w4 df2 sz2 old2 new2 bl2
  clear x5
  replace x0 := (old2 0 rfl).trans x0
  replace x2 := (old2 2 rfl).trans x2
  replace x4 := (old2 4 rfl).trans x4
  replace x6 := (old2 6 rfl).trans x6
  have x7 : Fk.f (.ow w.heap.size (l)) (f4.eval (.tmp 7)) w4 := new2
  replace bl := bl2
  replace bl0 := bl
  replace sz := sz2.trans sz
  replace df := df2.trans df
  clear df2 sz2 old2 new2 bl2
  clear x6
  refine wl_one (.ow w.heap.size (l)) rfl 2 rfl (by rw [sz]; decide) (st_assign (.tmp 7) rfl x7) ?_
  intro f5 w5 df2 sz2 old2 new2 hb
  replace bl0 := bl
  replace x0 := (old2 0 rfl).trans x0
  clear x2
  replace x4 := (old2 4 rfl).trans x4
  replace x7 := f_at (old2 7 rfl) (Fk.mono _ _ _ _ x7 hb)
  have x2 : Fk.f (.ow w.heap.size (l)) (f5.eval (.tmp 2)) w5 := new2
  replace bl := (bl.trans (Below.mono hb bl.size))
  replace sz := sz2.trans sz
  replace df := df2.trans df
  clear df2 sz2 old2 new2 hb
  refine wpList_nil ?_
  clear x7
  show Code.wp _ _ _ _ _
  refine wp_ret ?_
  repeat (first | with_reducible refine then_ret ?_ | with_reducible refine block_ret ?_)
  exact bodyPost_ret (v := f5.eval (.tmp 2)) (ret_slot rfl f5 _ rfl _ _) df ⟨_, rfl, x2, bl⟩
theorem fk_clone {l : List (List (BitVec 8))} (hl : l.length ≤ 1000) {w : World} {v : Value} (hv : (Fk.hc l).f v w) (hn : v = .slice none 0 0 ∨ ∃ ad n C, v = .slice (some ad) n C) : Calls Tryd.prog 26 #[v] w fun e w' => ∃ u, e = .returned u ∧ (Fk.ow w.heap.size l).f u w' ∧ Below w.heap.size w w' := by
  rcases hn with rfl | ⟨ad, n, C, rfl⟩
  · refine (clone_nil w).mono ?_
    rintro e w' ⟨rfl, hb⟩
    have h0 : l = [] := by
      obtain ⟨A', C', lb, lo, e, _⟩ := hv
      injection e with _ e2 _
      exact List.eq_nil_of_length_eq_zero e2.symm
    subst h0
    exact ⟨_, rfl, ow_nil _ _, hb⟩
  · obtain ⟨A', C', lb, lo, e, hc, hq⟩ := hv
    cases e
    exact clone_some hl w ⟨_, _, lb, lo, rfl, hq⟩
end Go.Proofs.YtnppjlpnfijobaaDoor
namespace Go.Proofs.YtnppjlpnfijobaaDoor
set_option maxRecDepth 100000
open Go.RowKit
theorem HR.row {w : World} {g k n : Nat} {P : List (List (BitVec 8))} (h : HR w g k n P) : ∃ v, Ob w g 51 [.int .i64 ((n : Nat) : Int), v] ∧ (Fk.ow 0 P).f v w := by
  obtain ⟨_, _, h32, v, hob, h | ⟨cap, cur, e, _, hk, hc, hm, hs, ht⟩⟩ := h
  · obtain ⟨rfl, rfl, _⟩ := h
    exact ⟨_, hob, ow_nil _ _⟩
  · have hfl := flat_len32 P (fun i x hx => h32 x (List.mem_of_getElem? hx))
    exact ⟨v, hob, ⟨by rw [List.length_map, hfl], .inr ⟨k, cap, cur, e, Nat.zero_le _, hk, hc, hm, hs, ht⟩⟩, fun i x hx => h32 x (List.mem_of_getElem? hx)⟩
theorem hr_make {w : World} {g g0 n : Nat} {P : List (List (BitVec 8))} {v : Value} (hn : n ≤ 1048576) (hP : P.length = pcn n) (m : Ob w g 51 [.int .i64 ((n : Nat) : Int), v]) (ho : (Fk.ow g0 P).f v w) : ∃ k, HR w g k n P ∧ (k = g ∨ g0 ≤ k) := by
  obtain ⟨⟨_, h2⟩, h32⟩ := ho
  have h32' : ∀ x ∈ P, x.length = 32 := fun x hx => by
    obtain ⟨i, hi⟩ := List.getElem?_of_mem hx
    exact h32 i x hi
  rcases h2 with ⟨rfl, h0⟩ | ⟨k, cap, cur, rfl, hk, hg, h3, h4, h5, h6⟩
  · exact ⟨g, ⟨hn, hP, h32', _, m, .inl ⟨rfl, List.eq_nil_of_length_eq_zero h0, rfl⟩⟩, .inl rfl⟩
  · refine ⟨k, ⟨hn, hP, h32', _, m, .inr ⟨cap, cur, rfl, ?_, hg, h3, h4, h5, h6⟩⟩, .inr hk⟩
    intro e
    rw [e] at hg
    unfold Ob at m
    rw [m] at hg
    cases hg
/-- A slice that is nil, or points to something. -/
theorem ow_nn {g0 : Nat} {P : List (List (BitVec 8))} {v : Value} {w : World} (h : (Fk.ow g0 P).f v w) : v = .slice none 0 0 ∨ ∃ ad n C, v = .slice (some ad) n C := by
  obtain ⟨⟨_, h2⟩, _⟩ := h
  rcases h2 with ⟨rfl, _⟩ | ⟨k, cap, cur, rfl, _⟩
  · exact .inl rfl
  · exact .inr ⟨_, _, _, rfl⟩
theorem fk_new (w : World) :
    Calls Tryd.prog 8 #[] w fun e w' => ∃ u, e = .returned u ∧ (Fk.rn w.heap.size 0 []).f u w' ∧ Below w.heap.size w w' := by
  go_enter Tryd.func8, Tryd.ntmps8
  refine code_both (fun f w1 => f.tmps.size = 3 ∧ f.defers = [] ∧ Below w.heap.size w (w1)) ⟨rfl, rfl, Below.refl _ _⟩ ?_
  rintro f0 w0 ⟨sz, df, bl⟩
  have bl0 := bl
  refine wp_seq ?_
  refine wp_all_seq [.eq (.pointer none)] (by kernel_rfl) (by kernel_rfl) (by rw [sz]; kernel_rfl) (by kernel_rfl) ⟨fun hw ac u K => ?_, trivial⟩ ?_
  · exact st_assign (.const (.pointer none)) rfl rfl
  intro f1 w1 A hb
  replace bl0 := bl
  have x0 : f1.eval (.tmp 0) = .pointer none := A.has 0 0 rfl
  replace bl := (bl.trans (Below.mono hb bl.size))
  replace sz := A.size.trans sz
  replace df := A.defs.trans df
  clear A hb
  show Code.wp _ _ _ _ _
  refine wp_seq ?_
  refine wp_all_seq [.eq (.agg ([.int .i64 0, .slice none 0 0] : List Value).toArray), .nw w1.heap.size 51 ([.int .i64 0, .slice none 0 0] : List Value), .nw w1.heap.size 51 ([.int .i64 0, .slice none 0 0] : List Value)] (by kernel_rfl) (by kernel_rfl) (by rw [sz]; kernel_rfl) (by kernel_rfl) ⟨fun hw ac u K => ?_, fun hw ac u K => ?_, fun hw ac u K => ?_, trivial⟩ ?_
  · exact st_build 51 _ rfl (by kernel_rfl)
  · exact st_box 51 (.tmp 1) rfl _ _ (by rw [show _ = _ from (K.dep 0 1 rfl)]; kernel_rfl) K.grow.size
  · exact st_assign (.tmp 2) rfl (K.dep 1 2 rfl)
  intro f2 w2 A hb
  replace bl0 := bl
  clear x0
  have x0 : Fk.f (.nw w1.heap.size 51 ([.int .i64 0, .slice none 0 0] : List Value)) (f2.eval (.tmp 0)) w2 := A.has 2 0 rfl
  replace bl := (bl.trans (Below.mono hb bl.size))
  replace sz := A.size.trans sz
  replace df := A.defs.trans df
  clear A hb
  obtain ⟨g0, hg0, e0, m0⟩ := x0
  have x0 := e0
  clear e0
  have hw0 : w.heap.size ≤ g0 := Nat.le_trans bl0.size hg0
  show Code.wp _ _ _ _ _
  refine wp_ret ?_
  repeat (first | with_reducible refine then_ret ?_ | with_reducible refine block_ret ?_)
  obtain ⟨k, hR, hk⟩ := hr_make (g0 := w.heap.size) (P := []) (n := 0) (by omega) (by rw [pcn_zero]; rfl) m0 (ow_nil _ _)
  exact bodyPost_ret (v := .pointer (some ⟨g0, 0, none⟩)) (ret_slot rfl f2 _ x0 _ _) df ⟨_, rfl, ⟨_, k, rfl, hw0, by rcases hk with rfl | hk <;> omega, hR⟩, bl⟩
theorem fk_size {w : World} {g k n : Nat} {P : List (List (BitVec 8))} (hr : HR w g k n P) :
    Calls Tryd.prog 12 #[.pointer (some ⟨g, 0, none⟩)] w fun e w' => ∃ u, e = .returned u ∧ (Fk.eq (.int .i64 ((n : Nat) : Int))).f u w' ∧ Below w.heap.size w w' := by
  obtain ⟨v, m0, hv⟩ := hr.row
  have hvc := ow_hc hv
  have hvs := ow_hs hv
  have hl21 := hr.len
  go_enter Tryd.func12, Tryd.ntmps12
  refine code_both (fun f w1 => f.tmps.size = 7 ∧ f.defers = [] ∧ f.eval (.tmp 0) = .pointer (some ⟨g, 0, none⟩) ∧ Below w.heap.size w (w1)) ⟨rfl, rfl, rfl, Below.refl _ _⟩ ?_
  rintro f0 w0 ⟨sz, df, x0, bl⟩
  have bl0 := bl
  refine wp_seq ?_
  refine wp_all_seq [.eq (.int .i64 0)] (by kernel_rfl) (by kernel_rfl) (by rw [sz]; kernel_rfl) (by kernel_rfl) ⟨fun hw ac u K => ?_, trivial⟩ ?_
  · exact st_assign (.const (.int .i64 0)) rfl rfl
  intro f1 w1 A hb
  replace bl0 := bl
  replace x0 := (A.old 0 rfl).trans x0
  have x2 : f1.eval (.tmp 2) = .int .i64 0 := A.has 0 2 rfl
  replace bl := (bl.trans (Below.mono hb bl.size))
  replace sz := A.size.trans sz
  replace df := A.defs.trans df
  clear A hb
  show Code.wp _ _ _ _ _
  refine wp_seq ?_
  refine wp_all_seq [.eq (.pointer (some ⟨g, 0, none⟩)), .eq (.pointer (some ⟨g, 0, none⟩)), .eq (.pointer (some ⟨g, 0, none⟩)), .eq (.int .i64 ((n : Nat) : Int)), .eq (.int .i64 ((n : Nat) : Int))] (by kernel_rfl) (by kernel_rfl) (by rw [sz]; kernel_rfl) (by kernel_rfl) ⟨fun hw ac u K => ?_, fun hw ac u K => ?_, fun hw ac u K => ?_, fun hw ac u K => ?_, fun hw ac u K => ?_, trivial⟩ ?_
  · exact st_move (.tmp 0) rfl ((K.old 0 rfl).trans x0)
  · exact st_nil (.tmp 3) rfl (K.dep 0 3 rfl)
  · exact st_field 51 0 (.tmp 4) rfl (K.dep 1 4 rfl) (by kernel_rfl)
  · exact st_loadc 3 (.tmp 5) rfl (by kernel_rfl) (K.dep 2 5 rfl) (Ob.cell (Ob.below m0 (bl.trans (Below.mono K.grow bl.size))) 0 rfl)
  · exact st_assign (.tmp 6) rfl (K.dep 3 6 rfl)
  intro f2 w2 A hb
  replace bl0 := bl
  replace x0 := (A.old 0 rfl).trans x0
  clear x2
  have x2 : f2.eval (.tmp 2) = .int .i64 ((n : Nat) : Int) := A.has 4 2 rfl
  replace bl := (bl.trans (Below.mono hb bl.size))
  replace sz := A.size.trans sz
  replace df := A.defs.trans df
  clear A hb
  clear x0
  show Code.wp _ _ _ _ _
  refine wp_ret ?_
  repeat (first | with_reducible refine then_ret ?_ | with_reducible refine block_ret ?_)
  exact bodyPost_ret (v := .int .i64 ((n : Nat) : Int)) (ret_slot rfl f2 _ x2 _ _) df ⟨_, rfl, rfl, bl⟩
theorem fk_peaks {w : World} {g k n : Nat} {P : List (List (BitVec 8))} (hr : HR w g k n P) :
    Calls Tryd.prog 14 #[.pointer (some ⟨g, 0, none⟩)] w fun e w' => ∃ u, e = .returned u ∧ (Fk.ow w.heap.size P).f u w' ∧ Below w.heap.size w w' := by
  obtain ⟨v, m0, hv⟩ := hr.row
  have hvc := ow_hc hv
  have hvs := ow_hs hv
  have hl21 := hr.len
  go_enter Tryd.func14, Tryd.ntmps14
  refine code_both (fun f w1 => f.tmps.size = 8 ∧ f.defers = [] ∧ f.eval (.tmp 0) = .pointer (some ⟨g, 0, none⟩) ∧ Below w.heap.size w (w1)) ⟨rfl, rfl, rfl, Below.refl _ _⟩ ?_
  rintro f0 w0 ⟨sz, df, x0, bl⟩
  have bl0 := bl
  refine wp_seq ?_
  refine wp_all_seq [.eq (.slice none 0 0)] (by kernel_rfl) (by kernel_rfl) (by rw [sz]; kernel_rfl) (by kernel_rfl) ⟨fun hw ac u K => ?_, trivial⟩ ?_
  · exact st_assign (.const (.slice none 0 0)) rfl rfl
  intro f1 w1 A hb
  replace bl0 := bl
  replace x0 := (A.old 0 rfl).trans x0
  have x2 : f1.eval (.tmp 2) = .slice none 0 0 := A.has 0 2 rfl
  replace bl := (bl.trans (Below.mono hb bl.size))
  replace sz := A.size.trans sz
  replace df := A.defs.trans df
  clear A hb
  show Code.wp _ _ _ _ _
  refine wp_seq ?_
  refine wp_all_seq [.eq (.pointer (some ⟨g, 0, none⟩)), .eq (.pointer (some ⟨g, 0, none⟩)), .eq (.pointer (some ⟨g, 1, none⟩)), .eq (v), .ow w.heap.size (P), .ow w.heap.size (P)] (by kernel_rfl) (by kernel_rfl) (by rw [sz]; kernel_rfl) (by kernel_rfl) ⟨fun hw ac u K => ?_, fun hw ac u K => ?_, fun hw ac u K => ?_, fun hw ac u K => ?_, fun hw ac u K => ?_, fun hw ac u K => ?_, trivial⟩ ?_
  · exact st_move (.tmp 0) rfl ((K.old 0 rfl).trans x0)
  · exact st_nil (.tmp 3) rfl (K.dep 0 3 rfl)
  · exact st_field 51 1 (.tmp 4) rfl (K.dep 1 4 rfl) (by kernel_rfl)
  · exact st_loadc 22 (.tmp 5) rfl (by kernel_rfl) (K.dep 2 5 rfl) (Ob.cell (Ob.below m0 (bl.trans (Below.mono K.grow bl.size))) 1 rfl)
  · exact st_call 26 (.func 26) _ _ #[v] rfl rfl (one_arg (K.dep 3 6 rfl)) Tryd.enter26 (fk_ow (bl.trans (Below.mono K.grow bl.size)).size (fk_clone (by omega) (Fk.mono _ _ _ _ hvc (bl.trans (Below.mono K.grow bl.size))) (ow_nn hv)))
  · exact st_assign (.tmp 7) rfl (K.dep 4 7 rfl)
  intro f2 w2 A hb
  replace bl0 := bl
  replace x0 := (A.old 0 rfl).trans x0
  clear x2
  have x2 : Fk.f (.ow w.heap.size (P)) (f2.eval (.tmp 2)) w2 := A.has 5 2 rfl
  replace bl := (bl.trans (Below.mono hb bl.size))
  replace sz := A.size.trans sz
  replace df := A.defs.trans df
  clear A hb
  clear x0
  show Code.wp _ _ _ _ _
  refine wp_ret ?_
  repeat (first | with_reducible refine then_ret ?_ | with_reducible refine block_ret ?_)
  exact bodyPost_ret (v := f2.eval (.tmp 2)) (ret_slot rfl f2 _ rfl _ _) df ⟨_, rfl, x2, bl⟩
end Go.Proofs.YtnppjlpnfijobaaDoor
namespace Go.Proofs.YtnppjlpnfijobaaDoor
set_option maxRecDepth 100000
open Go.RowKit
/-- What is left behind the number, behind the hashes; is it bad; the number; the hashes. -/
def d1 (bs : List (BitVec 8)) := cR 0 1048576 bs
def s1 (bs : List (BitVec 8)) := cX 0 1048576 bs false
def d2 (bs : List (BitVec 8)) (m : Nat) := (hsD (d1 bs) m).drop (32 * hsN (d1 bs) m)
def s2 (bs : List (BitVec 8)) (m : Nat) := hsX (d1 bs) (s1 bs) m
theorem run_nilc {P : Program} {S : World → Prop} {o : Oper} {a : Act} {x : Operand} (ho : o.op = .nilCheck x) {p : Addr} (hx : a.eval x = .pointer (some p)) : ∀ w, S w → (execOp a.eval o).run P w = .ok (.value (.pointer (some p))) w := by
  intro w _
  unfold execOp
  rw [ho]
  simp [hx]
end Go.Proofs.YtnppjlpnfijobaaDoor
