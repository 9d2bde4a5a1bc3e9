/- Made by gen_re.py. What lamport.Recover hands back. -/
import Derived.Test.YtfhhlkbcoofemaaDoorRc
namespace Go.Proofs.YtfhhlkbcoofemaaDoor
open Go.RowKit Go.Shelf
attribute [local go_sem] Oper.semAt_some
set_option maxRecDepth 100000 in
set_option maxHeartbeats 2000000 in
theorem sign_no (seed : List (BitVec 8)) (key : Int) (h : List (BitVec 8)) (w : World) (hk : key < 0 ∨ 2147483647 < key) :
    Calls Tryd.prog 7 #[.agg (seed.map V).toArray, .int .i64 key, .agg (h.map V).toArray] w fun e w' => e = .returned (.tuple #[.slice none 0 0, .int .i64 11]) ∧ Below w.heap.size w w' := by
  refine (callsIn_wide (n := 6)).1 ?_
  refine callsIn_of_wp_marks Tryd.func7 rfl trivial ?_ rfl
  simp only [Tryd.ntmps7, List.size_toArray, List.length_cons, List.length_nil, Nat.reduceAdd, Nat.reduceSub, Array.replicate_succ, Array.replicate_zero, List.push_toArray, List.append_toArray, List.nil_append, List.cons_append]
  refine wpIn_wide.2 ?_
  have hky := Box.mk (fun w => iskey_no key hk w)
  clear hk
  go_wp2_with (first | (go_at_call 15; refine (hky.out _).mono ?_; rintro e w' ⟨rfl, rfl⟩))
  exact ⟨_, results_tmp2 rfl _ _ _, rfl, (((Below.refl _ _).alloc (Nat.le_refl _) _).alloc (by simp) _).alloc (by simp; omega) _⟩
set_option maxRecDepth 100000 in
set_option maxHeartbeats 2000000 in
theorem recover_no (h : List (BitVec 8)) (A : Option Addr) (n C : Nat) (w : World) (hn : n ≠ 512) :
    Calls Tryd.prog 13 #[.agg (h.map V).toArray, .slice A n C] w fun e w' => e = .returned (.tuple #[.agg (hz.map V).toArray, .int .i64 10]) ∧ Below w.heap.size w w' := by
  refine (callsIn_wide (n := 6)).1 ?_
  refine callsIn_of_wp_marks Tryd.func13 rfl trivial ?_ rfl
  simp only [Tryd.ntmps13, List.size_toArray, List.length_cons, List.length_nil, Nat.reduceAdd, Nat.reduceSub, Array.replicate_succ, Array.replicate_zero, List.push_toArray, List.append_toArray, List.nil_append, List.cons_append]
  refine wpIn_wide.2 ?_
  have hzz := Tryd.zero23
  rw [show hsh St.first 0 = hz from rfl] at hzz
  have hn2 : ¬ ((n : Int) = (512 : Int)) := by omega
  clear hn
  go_upto_region 1 with fail
  refine code_any (fun w1 => w1.cell? ⟨w.heap.size + 1, 0, none⟩ = some (.slice A n C) ∧ HasV w1 (w.heap.size + 1 + 1) 23 hz ∧ Below w.heap.size w w1) ?_ ?_
  · refine ⟨?_, ?_, (((Below.refl _ _).alloc (Nat.le_refl _) _).alloc (by simp) _).alloc (by simp; omega) _⟩
    · have h0 := heap_alloc_new (w.alloc (Obj.cells (List.map V h).toArray 23)) (Obj.cells #[Value.slice A n C] 27)
      rw [World.size_alloc] at h0
      exact HasS.cell (T := 27) (block_alloc h0)
    · have h0 := heap_alloc_new ((w.alloc (Obj.cells (List.map V h).toArray 23)).alloc (Obj.cells #[Value.slice A n C] 27)) (Obj.cells (hz.map V).toArray 23)
      rw [World.size_alloc, World.size_alloc] at h0
      exact h0
  rintro w1 ⟨hc, hv2, hb1⟩
  have hk2 : Box (w1.heap[w.heap.size + 1 + 1]? = some (.cells (hz.map V).toArray 23 (0, 0))) := ⟨hv2⟩
  have hsz : Box ((hz.map V).toArray.size = 32) := ⟨by simp [hz_len]⟩
  clear hv2
  go_wp2_with (first | (refine wpList_store_row rfl 23 (.tmp 4) (.tmp 13) rfl (w.heap.size + 1 + 1) (hz.map V).toArray rfl rfl 23 _ hk2.out (by rw [hsz.out]; exact Tryd.size23) (by rw [hsz.out]) (V_all _) ?_))
  refine ⟨.tuple #[.agg (hz.map V).toArray, .int .i64 10], ?_, rfl, hb1.trans (below_setRow _ _ _ _ (by omega))⟩
  exact results_row_tmp (P := Tryd.prog) (fn := Tryd.f13) (p := 4) (u := 5) (ty := 23) rfl _ _ (w.heap.size + 1 + 1) 23 _ (0, 0) _ _ rfl (setRow_heap _ _ _ _ 23 (0, 0) hk2.out) Tryd.under23 rfl (by rw [hsz.out]; exact Tryd.size23) rfl
set_option maxRecDepth 100000 in
set_option maxHeartbeats 2000000 in
theorem recover_ok (h : List (BitVec 8)) (A : Option Addr) (C : Nat) (S : List (List (BitVec 8))) (w : World) (hh : h.length = 32) (hSl : S.length = 512) (ZS : (Fk.hs S).f (.slice A 512 C) w) (hK : Tab w) :
    Calls Tryd.prog 13 #[.agg (h.map V).toArray, .slice A 512 C] w fun e w' => e = .returned (.tuple #[.agg ((pub (all512 (rcOf h S))).map V).toArray, .int .i64 0]) ∧ Below w.heap.size w w' := by
  refine (callsIn_wide (n := 6)).1 ?_
  have hmk := Tryd.make27
  refine callsIn_of_wp_marks Tryd.func13 rfl trivial ?_ rfl
  simp only [Tryd.ntmps13, List.size_toArray, List.length_cons, List.length_nil, Nat.reduceAdd, Nat.reduceSub, Array.replicate_succ, Array.replicate_zero, List.push_toArray, List.append_toArray, List.nil_append, List.cons_append]
  refine wpIn_wide.2 ?_
  have hof := Box.mk (of_any h)
  have hsz : Box ((h.map V).toArray.size = 32) := ⟨by simp [hh]⟩
  obtain ⟨wA, hwA⟩ : ∃ wA, wA = ((w.alloc (Obj.cells (List.map V h).toArray 23)).alloc (Obj.cells #[Value.slice A 512 C] 27)).alloc (Obj.cells (List.map V hz).toArray 23) := ⟨_, rfl⟩
  obtain ⟨wB, hwB⟩ : ∃ wB, wB = (wA.alloc (Obj.cells mk512 23)).alloc (Obj.cells #[Value.slice (some { block := w.heap.size + 1 + 1 + 1, off := 0 }) 512 512] 27) := ⟨_, rfl⟩
  have hsA : wA.heap.size = w.heap.size + 1 + 1 + 1 := by rw [hwA]; simp
  have hvA : HasV wA w.heap.size 23 h := by
    have h0 : HasV (w.alloc (Obj.cells (List.map V h).toArray 23)) w.heap.size 23 h := heap_alloc_new _ _
    rw [hwA]
    exact HasV.alloc (HasV.alloc h0 _) _
  have hv : Box (HasV wB w.heap.size 23 h) := ⟨by rw [hwB]; exact HasV.alloc (HasV.alloc hvA _) _⟩
  rw [hwB, hwA] at hv
  have hSB := Box.mk ZS
  clear ZS
  go_wp2_with (first | (refine wpList_load_row rfl 23 (.tmp 2) rfl w.heap.size rfl 23 _ (0, 0) _ hv.out Tryd.u23 rfl (by rw [hsz.out]; exact Tryd.s23) ?_) | (go_at_call 18; refine (hof.out _).mono ?_; rintro e w' ⟨rfl, rfl⟩))
  have ZS := hSB.out
  clear hv hsz hof hmk hSB
  refine any_world (fun W => HasS W (w.heap.size + 1) 27 (.slice A 512 C) ∧ HasV W (w.heap.size + 1 + 1) 23 hz ∧ Rw W (w.heap.size + 1 + 1 + 1) z512 ∧ HasS W (w.heap.size + 1 + 1 + 1 + 1) 27 (.slice (some ⟨w.heap.size + 1 + 1 + 1, 0, none⟩) 512 512) ∧ HasV W (w.heap.size + 1 + 1 + 1 + 1 + 1) 23 h ∧ W.heap.size = w.heap.size + 6 ∧ Below w.heap.size w W) ?_ ?_
  · have key : HasS (wB.alloc (Obj.cells (List.map V h).toArray 23)) (w.heap.size + 1) 27 (.slice A 512 C) ∧ HasV (wB.alloc (Obj.cells (List.map V h).toArray 23)) (w.heap.size + 1 + 1) 23 hz ∧ Rw (wB.alloc (Obj.cells (List.map V h).toArray 23)) (w.heap.size + 1 + 1 + 1) z512 ∧ HasS (wB.alloc (Obj.cells (List.map V h).toArray 23)) (w.heap.size + 1 + 1 + 1 + 1) 27 (.slice (some ⟨w.heap.size + 1 + 1 + 1, 0, none⟩) 512 512) ∧ HasV (wB.alloc (Obj.cells (List.map V h).toArray 23)) (w.heap.size + 1 + 1 + 1 + 1 + 1) 23 h ∧ (wB.alloc (Obj.cells (List.map V h).toArray 23)).heap.size = w.heap.size + 6 ∧ Below w.heap.size w (wB.alloc (Obj.cells (List.map V h).toArray 23)) := by
      have hsB : wB.heap.size = w.heap.size + 1 + 1 + 1 + 1 + 1 := by rw [hwB]; simp [hsA]
      have hbA : Below w.heap.size w wA := by rw [hwA]; exact (((Below.refl _ _).alloc (Nat.le_refl _) _).alloc (by simp) _).alloc (by simp; omega) _
      have hbB : Below w.heap.size w wB := by rw [hwB]; exact ((hbA.alloc (by omega) _).alloc (by simp; omega) _)
      refine ⟨?_, ?_, ?_, ?_, ?_, by simp [hsB], hbB.alloc (by omega) _⟩
      · have h0 := heap_alloc_new (w.alloc (Obj.cells (List.map V h).toArray 23)) (Obj.cells #[Value.slice A 512 C] 27)
        rw [World.size_alloc] at h0
        rw [hwB, hwA]
        exact block_alloc (block_alloc (block_alloc (block_alloc h0)))
      · have h0 := heap_alloc_new ((w.alloc (Obj.cells (List.map V h).toArray 23)).alloc (Obj.cells #[Value.slice A 512 C] 27)) (Obj.cells (hz.map V).toArray 23)
        rw [World.size_alloc, World.size_alloc, ← hwA] at h0
        rw [hwB]
        exact block_alloc (block_alloc (block_alloc h0))
      · have h0 := rw_new wA
        rw [hsA] at h0
        rw [hwB]
        exact rw_block (rw_block h0)
      · have h0 := heap_alloc_new (wA.alloc (Obj.cells mk512 23)) (Obj.cells #[Value.slice (some { block := w.heap.size + 1 + 1 + 1, off := 0 }) 512 512] 27)
        rw [World.size_alloc, hsA, ← hwB] at h0
        exact block_alloc h0
      · have h0 := heap_alloc_new wB (Obj.cells (List.map V h).toArray 23)
        rw [hsB] at h0
        exact h0
    rw [hwB, hwA] at key
    exact key
  clear hwA hwB hsA hvA
  rintro W ⟨Zk, Zm4, ZR, Zs, hv, hsz, Zb⟩
  have Zc3 := Zk.cell
  have Zc6 := Zs.cell
  clear Zk Zs
  refine (wpIn_wide (n := 6)).1 ?_
  refine wpIn_rangeFunc_ownG rfl (by omega) (gf := 23) (lb := #[.pointer (some ⟨w.heap.size + 1 + 1 + 1 + 1 + 1, 0, none⟩)]) rfl trivial (enters_of Tryd.func23 (by kernel_rfl) rfl)
    (it_stops Fence.wide 5 trivial rfl (by omega) (w.heap.size + 1 + 1 + 1 + 1 + 1) h hh W hv) kg_t (kg_b (by omega)) (Below.refl _ _) (fun _ => rfl)
    (fun pre W1 => (∃ hs, Box (ToldH (rcOf h S) pre hs) ∧ Rw W1 (w.heap.size + 1 + 1 + 1) hs) ∧ Only (w.heap.size + 1 + 1 + 1) W W1)
    (fun _ _ _ => False)
    (fun s A B row hs hg hr => by
      obtain ⟨⟨hs', h1, h2⟩, h3⟩ := hs
      have hb : Below W.heap.size A B := (Below.refl _ _).grown hg h3.size (fun k e => (hr k e).1)
      exact ⟨⟨hs', h1, h2.belowB hb (by omega)⟩, only_below h3 hb⟩)
    (fun _ _ _ _ _ hs _ _ => hs)
    ⟨⟨z512, ⟨toldH_nil _⟩, ZR⟩, Only.refl _ _⟩
    (fun x => { tmps := #[Value.agg (List.map V h).toArray, Value.slice A 512 C,
          Value.pointer (some { block := w.heap.size, off := 0 }),
          Value.pointer (some { block := w.heap.size + 1, off := 0 }),
          Value.pointer (some { block := w.heap.size + 1 + 1, off := 0 }), Value.int IntKind.i64 0,
          Value.pointer (some { block := w.heap.size + 1 + 1 + 1 + 1, off := 0 }), .int .i64 (x.val : Int), .int .i64 (bt h x.val : Int), undef,
          Value.slice A 512 C, Value.int IntKind.i64 512, Value.bool false, undef,
          Value.slice (some { block := w.heap.size + 1 + 1 + 1, off := 0 }) 512 512, Value.agg (List.map V h).toArray,
          Value.func (Fn.func 23) #[] #[Value.pointer (some { block := w.heap.size + 1 + 1 + 1 + 1 + 1, off := 0 })],
          .int .i64 (x.val : Int), .int .i64 (bt h x.val : Int), undef, undef, undef, undef, undef, undef, undef, undef, undef, undef, undef, undef, undef,
          undef, undef, undef, undef, undef, undef, undef, undef, undef, undef, undef, undef, undef, undef, undef,
          undef, undef], defers := [] }) ?assign ?body ?done ?stop
  case assign =>
    intro l x W K hK
    dsimp only [enc]
    gi_wp2
    exact hK
  case body =>
    rintro l pre x W1 ⟨⟨hs, ht, R⟩, O⟩ _
    have O1 := O
    have hl := ht.out.1
    obtain ⟨p, hp⟩ := x
    have hb1 := bt_le h p
    refine frame_any (fun f => f.tmps.size = 49 ∧ f.defers = [] ∧ f.eval (.tmp 3) = .pointer (some ⟨w.heap.size + 1, 0, none⟩) ∧ f.eval (.tmp 6) = .pointer (some ⟨w.heap.size + 1 + 1 + 1 + 1, 0, none⟩) ∧ f.eval (.tmp 7) = .int .i64 ((p : Nat) : Int) ∧ f.eval (.tmp 8) = .int .i64 ((bt h p : Nat) : Int)) ⟨rfl, rfl, rfl, rfl, rfl, rfl⟩ ?_
    rintro f0 ⟨sz, df, x3, x6, x7, x8⟩
    have KO := KeepsOthers.refl W1
    obtain ⟨y0, ey0⟩ : ∃ y, S[2 * p]? = some y := ⟨_, List.getElem?_eq_getElem (by omega)⟩
    obtain ⟨y1, ey1⟩ : ∃ y, S[2 * p + 1]? = some y := ⟨_, List.getElem?_eq_getElem (by omega)⟩
    have e1 := rcOf_same h S p _ rfl y0 ey0
    have e2 := rcOf_other h S p _ rfl y1 ey1
    generalize bt h p = b at hb1 x8 e1 e2
    have h32 : ∀ (i : Nat) (x : List (BitVec 8)), S[i]? = some x → x.length = 32 := by
      obtain ⟨A', C', lb, lo, e, hl⟩ := ZS
      exact fun i x hi => (hl.all i x hi).1
    have hy0 := h32 _ _ ey0
    have hy1 := h32 _ _ ey1
    obtain ⟨z, ez⟩ : ∃ z, Box (en y0 p b = z) := ⟨_, ⟨rfl⟩⟩
    have hzl : z.length = 32 := by rw [← ez.out]; exact en_len _ _ _
    rw [ez.out] at e1
    have c3 := (O.cell (p := ⟨w.heap.size + 1, 0, none⟩) (by dsimp only; omega) (by dsimp only; omega)).trans Zc3
    have c6 := (O.cell (p := ⟨w.heap.size + 1 + 1 + 1 + 1, 0, none⟩) (by dsimp only; omega) (by dsimp only; omega)).trans Zc6
    have bw := Zb.trans (O.below w.heap.size (by omega) (by omega))
    have tb := hK.below bw
    have hS := Fk.mono _ _ _ _ ZS bw
    refine wpIn_block ?_
    refine wpIn_seq ?_
    refine in_region_seq [.eq (.int .i64 ((b : Nat) : Int)), .eq (.int .i64 ((1 - b : Nat) : Int)), .eq (.int .i64 ((1 - b : Nat) : Int))] (by rintro ⟨_, _, h⟩; exact h) (by kernel_rfl) (by kernel_rfl) (by kernel_rfl) (by rw [sz]; kernel_rfl) (by kernel_rfl) ⟨fun hw ac w' K => ?_, fun hw ac w' K => ?_, fun hw ac w' K => ?_, trivial⟩ ?_
    · exact st_move (.tmp 8) rfl ((K.old 8 rfl).trans x8)
    · exact st_sub (.const (.int .i64 1)) (.tmp 19) rfl (1) (b) (1 - b) rfl (K.dep 0 19 rfl) (by omega) (by omega)
    · exact st_assign (.tmp 20) rfl (K.dep 1 20 rfl)
    intro f1 w1 A hb
    replace O := only_below O (Below.mono hb O.size)
    replace KO := KO.trans (keeps_below hb)
    replace R := R.below hb
    replace x3 := (A.old 3 rfl).trans x3
    replace x6 := (A.old 6 rfl).trans x6
    replace x7 := (A.old 7 rfl).trans x7
    replace x8 := (A.old 8 rfl).trans x8
    have x9 : f1.eval (.tmp 9) = .int .i64 ((1 - b : Nat) : Int) := A.has 2 9 rfl
    replace sz := A.size.trans sz
    replace df := A.defs.trans df
    clear A hb
    have c3 := (O.cell (p := ⟨w.heap.size + 1, 0, none⟩) (by dsimp only; omega) (by dsimp only; omega)).trans Zc3
    have c6 := (O.cell (p := ⟨w.heap.size + 1 + 1 + 1 + 1, 0, none⟩) (by dsimp only; omega) (by dsimp only; omega)).trans Zc6
    have bw := Zb.trans (O.below w.heap.size (by omega) (by omega))
    have tb := hK.below bw
    have hS := Fk.mono _ _ _ _ ZS bw
    refine wpList_nil ?_
    show Code.wpIn _ _ _ _ _ _ _
    refine wpIn_seq ?_
    refine in_region_tail [.eq (.slice (some ⟨(w.heap.size + 1 + 1 + 1), 0, none⟩) 512 512), .eq (.int .i64 ((p : Nat) : Int)), .eq (.int .i64 ((2 * p : Nat) : Int)), .eq (.int .i64 ((b : Nat) : Int)), .eq (.int .i64 (((2 * p) + b : Nat) : Int)), .hs (S), .eq (.int .i64 ((p : Nat) : Int)), .eq (.int .i64 ((2 * p : Nat) : Int)), .ph (y0), .eq (.agg ((y0).map V).toArray), .eq (.int .i64 ((p : Nat) : Int)), .eq (.int .i64 ((b : Nat) : Int)), .eq (.agg ((z).map V).toArray), .eq (.pointer (some ⟨(w.heap.size + 1 + 1 + 1), ((2 * p) + b) * 32, none⟩))] [14] (by rintro ⟨_, _, h⟩; exact h) (by kernel_rfl) Tryd.mixed (by kernel_rfl) (by kernel_rfl) (by kernel_rfl) (by kernel_rfl) (by rw [sz]; kernel_rfl) (by kernel_rfl) ⟨fun hw ac w' K => ?_, fun hw ac w' K => ?_, fun hw ac w' K => ?_, fun hw ac w' K => ?_, fun hw ac w' K => ?_, fun hw ac w' K => ?_, fun hw ac w' K => ?_, fun hw ac w' K => ?_, fun hw ac w' K => ?_, fun hw ac w' K => ?_, fun hw ac w' K => ?_, fun hw ac w' K => ?_, fun hw ac w' K => ?_, fun hw ac w' K => ?_, trivial⟩ ?_
    · exact st_loadv (.tmp 6) rfl ⟨_, 0, (K.old 6 rfl).trans x6, (K.grow.cell (block_lt_of_cell c6)).trans c6⟩
    · exact st_move (.tmp 7) rfl ((K.old 7 rfl).trans x7)
    · exact st_mul (.const (.int .i64 2)) (.tmp 22) rfl (2) (p) (2 * p) rfl (K.dep 1 22 rfl) (by omega) (by omega)
    · exact st_move (.tmp 8) rfl ((K.old 8 rfl).trans x8)
    · exact st_add (.tmp 23) (.tmp 24) rfl (2 * p) (b) ((2 * p) + b) (K.dep 2 23 rfl) (K.dep 3 24 rfl) (by omega) (by omega)
    · exact st_loadw (.tmp 3) rfl ⟨_, 0, _, (K.old 3 rfl).trans x3, (K.grow.cell (block_lt_of_cell c3)).trans c3, Fk.mono _ _ _ _ hS K.grow⟩
    · exact st_move (.tmp 7) rfl ((K.old 7 rfl).trans x7)
    · exact st_mul (.const (.int .i64 2)) (.tmp 27) rfl (2) (p) (2 * p) rfl (K.dep 6 27 rfl) (by omega) (by omega)
    · exact st_idxh (.tmp 26) (.tmp 28) rfl (K.dep 5 26 rfl) (2 * p) (y0) (K.dep 7 28 rfl) ey0
    · exact st_loadh (.tmp 29) rfl (K.dep 8 29 rfl)
    · exact st_move (.tmp 7) rfl ((K.old 7 rfl).trans x7)
    · exact st_move (.tmp 8) rfl ((K.old 8 rfl).trans x8)
    · exact st_call 16 (.func 16) _ _ #[.agg ((y0).map V).toArray, .int .i64 ((p : Nat) : Int), .int .i64 ((b : Nat) : Int)] rfl rfl (arg3 (K.dep 9 30 rfl) (K.dep 10 31 rfl) (K.dep 11 32 rfl)) Tryd.enter16 (fk_of (en_to (y0) (p) (b) _ hy0 (by omega) (tb.below K.grow) ez))
    · exact st_idxrow (.tmp 21) (.tmp 25) rfl ((w.heap.size + 1 + 1 + 1)) ((2 * p) + b) (K.dep 0 21 rfl) (K.dep 4 25 rfl) (by omega)
    intro f2 w2 A hb
    replace O := only_below O (Below.mono hb O.size)
    replace KO := KO.trans (keeps_below hb)
    replace R := R.below hb
    refine wl_storew rfl (.tmp 34) (.tmp 33) rfl rfl (w.heap.size + 1 + 1 + 1) ((2 * p) + b) (z) _ (A.has 13 34 rfl) (A.has 12 33 rfl) R (by (try simp only [List.length_set]); omega) hzl ?_
    replace R := Rw.store R ((2 * p) + b) (z) (by (try simp only [List.length_set]); omega) hzl
    replace O := only_setCells ((z).map V) (((2 * p) + b) * 32) _ O
    replace KO := KO.trans (keeps_setCells (g := (w.heap.size + 1 + 1 + 1)) ((z).map V) (((2 * p) + b) * 32) _)
    generalize w2.setCells (w.heap.size + 1 + 1 + 1) (((2 * p) + b) * 32) ((z).map V) = w2b at R O KO ⊢
    replace x3 := (A.old 3 rfl).trans x3
    replace x6 := (A.old 6 rfl).trans x6
    replace x7 := (A.old 7 rfl).trans x7
    replace x8 := (A.old 8 rfl).trans x8
    replace x9 := (A.old 9 rfl).trans x9
    replace sz := A.size.trans sz
    replace df := A.defs.trans df
    clear A hb
    have c3 := (O.cell (p := ⟨w.heap.size + 1, 0, none⟩) (by dsimp only; omega) (by dsimp only; omega)).trans Zc3
    have c6 := (O.cell (p := ⟨w.heap.size + 1 + 1 + 1 + 1, 0, none⟩) (by dsimp only; omega) (by dsimp only; omega)).trans Zc6
    have bw := Zb.trans (O.below w.heap.size (by omega) (by omega))
    have tb := hK.below bw
    have hS := Fk.mono _ _ _ _ ZS bw
    refine wpList_nil ?_
    show Code.wpIn _ _ _ _ _ _ _
    refine in_region_tail [.eq (.slice (some ⟨(w.heap.size + 1 + 1 + 1), 0, none⟩) 512 512), .eq (.int .i64 ((p : Nat) : Int)), .eq (.int .i64 ((2 * p : Nat) : Int)), .eq (.int .i64 ((1 - b : Nat) : Int)), .eq (.int .i64 (((2 * p) + (1 - b) : Nat) : Int)), .hs (S), .eq (.int .i64 ((p : Nat) : Int)), .eq (.int .i64 ((2 * p : Nat) : Int)), .eq (.int .i64 (((2 * p) + 1 : Nat) : Int)), .ph (y1), .eq (.agg ((y1).map V).toArray), .eq (.pointer (some ⟨(w.heap.size + 1 + 1 + 1), ((2 * p) + (1 - b)) * 32, none⟩))] [12] (by rintro ⟨_, _, h⟩; exact h) (by kernel_rfl) Tryd.mixed (by kernel_rfl) (by kernel_rfl) (by kernel_rfl) (by kernel_rfl) (by rw [sz]; kernel_rfl) (by kernel_rfl) ⟨fun hw ac w' K => ?_, fun hw ac w' K => ?_, fun hw ac w' K => ?_, fun hw ac w' K => ?_, fun hw ac w' K => ?_, fun hw ac w' K => ?_, fun hw ac w' K => ?_, fun hw ac w' K => ?_, fun hw ac w' K => ?_, fun hw ac w' K => ?_, fun hw ac w' K => ?_, fun hw ac w' K => ?_, trivial⟩ ?_
    · exact st_loadv (.tmp 6) rfl ⟨_, 0, (K.old 6 rfl).trans x6, (K.grow.cell (block_lt_of_cell c6)).trans c6⟩
    · exact st_move (.tmp 7) rfl ((K.old 7 rfl).trans x7)
    · exact st_mul (.const (.int .i64 2)) (.tmp 36) rfl (2) (p) (2 * p) rfl (K.dep 1 36 rfl) (by omega) (by omega)
    · exact st_move (.tmp 9) rfl ((K.old 9 rfl).trans x9)
    · exact st_add (.tmp 37) (.tmp 38) rfl (2 * p) (1 - b) ((2 * p) + (1 - b)) (K.dep 2 37 rfl) (K.dep 3 38 rfl) (by omega) (by omega)
    · exact st_loadw (.tmp 3) rfl ⟨_, 0, _, (K.old 3 rfl).trans x3, (K.grow.cell (block_lt_of_cell c3)).trans c3, Fk.mono _ _ _ _ hS K.grow⟩
    · exact st_move (.tmp 7) rfl ((K.old 7 rfl).trans x7)
    · exact st_mul (.const (.int .i64 2)) (.tmp 41) rfl (2) (p) (2 * p) rfl (K.dep 6 41 rfl) (by omega) (by omega)
    · exact st_add1 (.tmp 42) rfl (2 * p) (by omega) (K.dep 7 42 rfl)
    · exact st_idxh (.tmp 40) (.tmp 43) rfl (K.dep 5 40 rfl) (2 * p + 1) (y1) (K.dep 8 43 rfl) ey1
    · exact st_loadh (.tmp 44) rfl (K.dep 9 44 rfl)
    · exact st_idxrow (.tmp 35) (.tmp 39) rfl ((w.heap.size + 1 + 1 + 1)) ((2 * p) + (1 - b)) (K.dep 0 35 rfl) (K.dep 4 39 rfl) (by omega)
    intro f3 w3 A hb
    replace O := only_below O (Below.mono hb O.size)
    replace KO := KO.trans (keeps_below hb)
    replace R := R.below hb
    refine wl_storew rfl (.tmp 46) (.tmp 45) rfl rfl (w.heap.size + 1 + 1 + 1) ((2 * p) + (1 - b)) (y1) _ (A.has 11 46 rfl) (A.has 10 45 rfl) R (by (try simp only [List.length_set]); omega) hy1 ?_
    replace R := Rw.store R ((2 * p) + (1 - b)) (y1) (by (try simp only [List.length_set]); omega) hy1
    replace O := only_setCells ((y1).map V) (((2 * p) + (1 - b)) * 32) _ O
    replace KO := KO.trans (keeps_setCells (g := (w.heap.size + 1 + 1 + 1)) ((y1).map V) (((2 * p) + (1 - b)) * 32) _)
    generalize w3.setCells (w.heap.size + 1 + 1 + 1) (((2 * p) + (1 - b)) * 32) ((y1).map V) = w3b at R O KO ⊢
    replace x3 := (A.old 3 rfl).trans x3
    replace x6 := (A.old 6 rfl).trans x6
    replace x7 := (A.old 7 rfl).trans x7
    replace x8 := (A.old 8 rfl).trans x8
    replace x9 := (A.old 9 rfl).trans x9
    replace sz := A.size.trans sz
    replace df := A.defs.trans df
    clear A hb
    have c3 := (O.cell (p := ⟨w.heap.size + 1, 0, none⟩) (by dsimp only; omega) (by dsimp only; omega)).trans Zc3
    have c6 := (O.cell (p := ⟨w.heap.size + 1 + 1 + 1 + 1, 0, none⟩) (by dsimp only; omega) (by dsimp only; omega)).trans Zc6
    have bw := Zb.trans (O.below w.heap.size (by omega) (by omega))
    have tb := hK.below bw
    have hS := Fk.mono _ _ _ _ ZS bw
    refine wpList_nil ?_
    have ht2 := toldH_snoc ht.out ⟨p, hp⟩ (2 * p + b) (2 * p + (1 - b)) (by dsimp only; omega)
    rw [e1, e2] at ht2
    exact ⟨KO.from _, (O.block _ (by omega) (by omega)).trans (O1.block _ (by omega) (by omega)).symm, ⟨_, ⟨ht2⟩, R⟩, O⟩
  case done =>
    rintro D ys W2 hD rfl ⟨⟨hs, ht, R⟩, O⟩ hKD
    have c6 := (O.cell (p := ⟨w.heap.size + 1 + 1 + 1 + 1, 0, none⟩) (by dsimp only; omega) (by dsimp only; omega)).trans Zc6
    have m4 := HasV.onlyV Zm4 O (by omega)
    have hb := Zb.trans (O.below w.heap.size (by omega) (by omega))
    rw [toldH_all ht.out] at R
    have hpb := Box.mk (pub_any (w.heap.size + 1 + 1 + 1) _ W2 (all_len _) R (hK.below hb))
    obtain ⟨y, hy⟩ : ∃ y, Box (pub (all512 (rcOf h S)) = y) := ⟨_, ⟨rfl⟩⟩
    have hyl : Box ((y.map V).toArray.size = 32) := ⟨by rw [← hy.out]; simp [pub_len]⟩
    rw [hy.out] at hpb
    have m4B := Box.mk m4
    have hbB := Box.mk hb
    have hs2 : D < W2.heap.size := (Array.getElem?_eq_some_iff.1 hKD).1
    have hKDB := Box.mk hKD
    clear R O Zc3 Zc6 ZR hv Zb m4 Zm4 hb hKD ZS
    go_wp2_with (first | (go_at_call 10; refine hpb.out.mono ?_; rintro e w2 ⟨rfl, hb2⟩; have hk2 : Box (w2.heap[w.heap.size + 1 + 1]? = some (.cells (hz.map V).toArray 23 (0, 0))) := ⟨m4B.out.below hb2 m4B.out.lt⟩; have hb5 := Box.mk (hbB.out.trans (hb2.mono hbB.out.size)); have hD2 := Box.mk ((hb2.block D hs2).trans hKDB.out); clear hb2) | (refine wpList_store_row rfl 23 (.tmp 4) (.tmp 48) rfl (w.heap.size + 1 + 1) (y.map V).toArray rfl rfl 23 _ hk2.out (by rw [hyl.out]; exact Tryd.size23) (by rw [hyl.out]; rfl) (V_all _) ?_))
    have hD3 : (w2.setRow (w.heap.size + 1 + 1) (y.map V).toArray).heap[D]? = some (.deferred (some [])) := (Go.setRow_other w2 (w.heap.size + 1 + 1) D (y.map V).toArray (by omega)).trans hD2.out
    refine ⟨by simp, .inl ⟨_, _, rfl, run_takeDeferred hD3, ?_⟩⟩
    refine ⟨.tuple #[.agg (y.map V).toArray, .int .i64 0], ?_, by rw [hy.out], ?_⟩
    · refine results_row_tmp (P := Tryd.prog) (fn := Tryd.f13) (p := 4) (u := 5) (ty := 23) rfl _ _ (w.heap.size + 1 + 1) 23 _ (0, 0) _ _ rfl ?_ Tryd.under23 rfl (by rw [hyl.out]; exact Tryd.size23) rfl
      exact (World.putObj_heap_other (by omega)).trans (setRow_heap _ _ _ _ 23 (0, 0) hk2.out)
    · exact (hb5.out.trans (below_setRow _ _ _ _ (by omega))).trans (belowK_b (w := w) (Nat.le_refl _) _ D _ _ (by omega) hD3 rfl rfl)
  case stop =>
    rintro D c pre W _ _ h _
    exact h.elim
end Go.Proofs.YtfhhlkbcoofemaaDoor
