/- Made by gen_rc.py. What lamport.Sign hands back. -/
import Derived.Test.YtfhhlkbcoofemaaDoorRb
namespace Go.Proofs.YtfhhlkbcoofemaaDoor
open Go.RowKit Go.Shelf
attribute [local go_sem] Oper.semAt_some
theorem frame_any {F : Fence} {n : Nat} {P : Program} {c : Code} {Q : Exit → Act → World → Prop} {a : Act} {w : World} (I : Act → Prop) (h0 : I a) (h : ∀ f, I f → Code.wpIn F n P c Q f w) : Code.wpIn F n P c Q a w := h a h0
theorem rw_block {w : World} {g : Nat} {hs : List (List (BitVec 8))} {o : Obj} (h : Rw w g hs) : Rw (w.alloc o) g hs := h.below ((Below.refl _ _).alloc (Nat.le_refl _) _)
set_option maxRecDepth 100000 in
set_option maxHeartbeats 2000000 in
theorem sign_ok (seed : List (BitVec 8)) (key : Nat) (h : List (BitVec 8)) (w : World) (hx : seed.length = 32) (hh : h.length = 32) (hk : key ≤ 2147483647) (hK : Tab w) :
    Calls Tryd.prog 7 #[.agg (seed.map V).toArray, .int .i64 (key : Int), .agg (h.map V).toArray] w fun e w' => ∃ g, e = .returned (.tuple #[.slice (some ⟨g, 0, none⟩) 512 512, .int .i64 0]) ∧ Rw w' g (all512 (sgOf seed key h)) ∧ w.heap.size ≤ g ∧ Below w.heap.size w w' := by
  refine (callsIn_wide (n := 6)).1 ?_
  have hmk := Tryd.make27
  refine callsIn_of_wp_marks Tryd.func7 rfl trivial ?_ rfl
  simp only [Tryd.ntmps7, List.size_toArray, List.length_cons, List.length_nil, Nat.reduceAdd, Nat.reduceSub, Array.replicate_succ, Array.replicate_zero, List.push_toArray, List.append_toArray, List.nil_append, List.cons_append]
  refine wpIn_wide.2 ?_
  have hky := Box.mk (fun w => iskey_yes key hk w)
  have hof := Box.mk (of_any h)
  have hsz : Box ((h.map V).toArray.size = 32) := ⟨by simp [hh]⟩
  obtain ⟨wA, hwA⟩ : ∃ wA, wA = ((w.alloc (Obj.cells (List.map V seed).toArray 23)).alloc (Obj.cells #[Value.int .i64 (key : Int)] 3)).alloc (Obj.cells (List.map V h).toArray 23) := ⟨_, rfl⟩
  obtain ⟨wB, hwB⟩ : ∃ wB, wB = (wA.alloc (Obj.cells mk512 23)).alloc (Obj.cells #[Value.slice (some { block := w.heap.size + 1 + 1 + 1, off := 0 }) 512 512] 27) := ⟨_, rfl⟩
  have hsA : wA.heap.size = w.heap.size + 1 + 1 + 1 := by rw [hwA]; simp
  have hvA : HasV wA (w.heap.size + 1 + 1) 23 h := by
    have := heap_alloc_new ((w.alloc (Obj.cells (List.map V seed).toArray 23)).alloc (Obj.cells #[Value.int .i64 (key : Int)] 3)) (Obj.cells (List.map V h).toArray 23)
    rw [World.size_alloc, World.size_alloc, ← hwA] at this
    exact this
  have hv : Box (HasV wB (w.heap.size + 1 + 1) 23 h) := ⟨by rw [hwB]; exact HasV.alloc (HasV.alloc hvA _) _⟩
  rw [hwB, hwA] at hv
  have hB : Box (w.heap.size + 1 + 1 + 1 = wA.heap.size) := ⟨hsA.symm⟩
  go_wp2_with (first | (go_at_call 15; refine (hky.out _).mono ?_; rintro e w' ⟨rfl, rfl⟩) | (refine wpList_load_row rfl 23 (.tmp 5) rfl (w.heap.size + 1 + 1) rfl 23 _ (0, 0) _ hv.out Tryd.u23 rfl (by rw [hsz.out]; exact Tryd.s23) ?_) | (go_at_call 18; refine (hof.out _).mono ?_; rintro e w' ⟨rfl, rfl⟩))
  clear hv hsz hof hmk hky
  rw [← hwA, ← hwB]
  refine any_world (fun W => HasV W w.heap.size 23 seed ∧ HasS W (w.heap.size + 1) 3 (.int .i64 (key : Int)) ∧ Rw W (w.heap.size + 1 + 1 + 1) z512 ∧ HasS W (w.heap.size + 1 + 1 + 1 + 1) 27 (.slice (some ⟨w.heap.size + 1 + 1 + 1, 0, none⟩) 512 512) ∧ HasV W (w.heap.size + 1 + 1 + 1 + 1 + 1) 23 h ∧ W.heap.size = w.heap.size + 6 ∧ Below w.heap.size w W) ?_ ?_
  · have hsB : wB.heap.size = w.heap.size + 1 + 1 + 1 + 1 + 1 := by rw [hwB]; simp [hsA]
    have hbA : Below w.heap.size w wA := by rw [hwA]; exact (((Below.refl _ _).alloc (Nat.le_refl _) _).alloc (by simp) _).alloc (by simp; omega) _
    have hbB : Below w.heap.size w wB := by rw [hwB]; exact ((hbA.alloc (by omega) _).alloc (by simp; omega) _)
    refine ⟨?_, ?_, ?_, ?_, ?_, by simp [hsB], hbB.alloc (by omega) _⟩
    · have h0 : HasV (w.alloc (Obj.cells (List.map V seed).toArray 23)) w.heap.size 23 seed := heap_alloc_new _ _
      rw [hwB, hwA]
      exact HasV.alloc (HasV.alloc (HasV.alloc (HasV.alloc (HasV.alloc h0 _) _) _) _) _
    · have h0 := heap_alloc_new (w.alloc (Obj.cells (List.map V seed).toArray 23)) (Obj.cells #[Value.int .i64 (key : Int)] 3)
      rw [World.size_alloc] at h0
      rw [hwB, hwA]
      exact block_alloc (block_alloc (block_alloc (block_alloc h0)))
    · have h0 := rw_new wA
      rw [hsA] at h0
      rw [hwB]
      exact rw_block (rw_block h0)
    · have h0 := heap_alloc_new (wA.alloc (Obj.cells mk512 23)) (Obj.cells #[Value.slice (some { block := w.heap.size + 1 + 1 + 1, off := 0 }) 512 512] 27)
      rw [World.size_alloc, hsA, ← hwB] at h0
      exact block_alloc h0
    · have h0 := heap_alloc_new wB (Obj.cells (List.map V h).toArray 23)
      rw [hsB] at h0
      exact h0
  clear hwA hwB hsA hvA hB
  rintro W ⟨Zm3, Zk, ZR, Zs, hv, hsz, Zb⟩
  have Zc4 := Zk.cell
  have Zc8 := Zs.cell
  clear Zk Zs
  refine (wpIn_wide (n := 6)).1 ?_
  refine wpIn_rangeFunc_ownG rfl (by omega) (gf := 23) (lb := #[.pointer (some ⟨w.heap.size + 1 + 1 + 1 + 1 + 1, 0, none⟩)]) rfl trivial (enters_of Tryd.func23 (by kernel_rfl) rfl)
    (it_stops Fence.wide 5 trivial rfl (by omega) (w.heap.size + 1 + 1 + 1 + 1 + 1) h hh W hv) kg_t (kg_b (by omega)) (Below.refl _ _) (fun _ => rfl)
    (fun pre W1 => (∃ hs, Box (ToldH (sgOf seed key h) pre hs) ∧ Rw W1 (w.heap.size + 1 + 1 + 1) hs) ∧ Only (w.heap.size + 1 + 1 + 1) W W1)
    (fun _ _ _ => False)
    (fun s A B row hs hg hr => by
      obtain ⟨⟨hs', h1, h2⟩, h3⟩ := hs
      have hb : Below W.heap.size A B := (Below.refl _ _).grown hg h3.size (fun k e => (hr k e).1)
      exact ⟨⟨hs', h1, h2.belowB hb (by omega)⟩, only_below h3 hb⟩)
    (fun _ _ _ _ _ hs _ _ => hs)
    ⟨⟨z512, ⟨toldH_nil _⟩, ZR⟩, Only.refl _ _⟩
    (fun x => { tmps := #[Value.agg (List.map V seed).toArray, Value.int IntKind.i64 (key : Int), Value.agg (List.map V h).toArray,
          Value.pointer (some { block := w.heap.size, off := 0 }),
          Value.pointer (some { block := w.heap.size + 1, off := 0 }),
          Value.pointer (some { block := w.heap.size + 1 + 1, off := 0 }), Value.slice none 0 0,
          Value.int IntKind.i64 0, Value.pointer (some { block := w.heap.size + 1 + 1 + 1 + 1, off := 0 }), .int .i64 (x.val : Int),
          .int .i64 (bt h x.val : Int), undef, Value.int IntKind.i64 (key : Int), Value.bool true, Value.bool false,
          Value.slice (some { block := w.heap.size + 1 + 1 + 1, off := 0 }) 512 512, Value.agg (List.map V h).toArray,
          Value.func (Fn.func 23) #[] #[Value.pointer (some { block := w.heap.size + 1 + 1 + 1 + 1 + 1, off := 0 })],
          .int .i64 (x.val : Int), .int .i64 (bt h x.val : Int), undef, undef, undef, undef, undef, undef, undef, undef, undef, undef, undef, undef, undef,
          undef, undef, undef, undef, undef, undef, undef, undef, undef, undef, undef, undef], defers := [] }) ?assign ?body ?done ?stop
  case assign =>
    intro l x W K hK
    dsimp only [enc]
    gi_wp2
    exact hK
  case body =>
    rintro l pre x W1 ⟨⟨hs, ht, R⟩, O⟩ _
    have O1 := O
    have hl := ht.out.1
    obtain ⟨p, hp⟩ := x
    have hb1 := bt_le h p
    refine frame_any (fun f => f.tmps.size = 45 ∧ f.defers = [] ∧ f.eval (.tmp 3) = .pointer (some ⟨w.heap.size, 0, none⟩) ∧ f.eval (.tmp 4) = .pointer (some ⟨w.heap.size + 1, 0, none⟩) ∧ f.eval (.tmp 8) = .pointer (some ⟨w.heap.size + 1 + 1 + 1 + 1, 0, none⟩) ∧ f.eval (.tmp 9) = .int .i64 ((p : Nat) : Int) ∧ f.eval (.tmp 10) = .int .i64 ((bt h p : Nat) : Int)) ⟨rfl, rfl, rfl, rfl, rfl, rfl, rfl⟩ ?_
    rintro f0 ⟨sz, df, x3, x4, x8, x9, x10⟩
    have KO := KeepsOthers.refl W1
    have e1 := sgOf_even seed key h p
    have e2 := sgOf_odd seed key h p
    generalize bt h p = b at hb1 x10 e1 e2
    obtain ⟨z1, ez1⟩ : ∃ z, Box (sc seed key p b = z) := ⟨_, ⟨rfl⟩⟩
    obtain ⟨z2, ez2⟩ : ∃ z, Box (sc seed key p (1 - b) = z) := ⟨_, ⟨rfl⟩⟩
    obtain ⟨z3, ez3⟩ : ∃ z, Box (en z2 p (1 - b) = z) := ⟨_, ⟨rfl⟩⟩
    have hz1 : z1.length = 32 := by rw [← ez1.out]; exact sc_len _ _ _ _
    have hz2 : z2.length = 32 := by rw [← ez2.out]; exact sc_len _ _ _ _
    have hz3 : z3.length = 32 := by rw [← ez3.out]; exact en_len _ _ _
    rw [ez1.out] at e1
    rw [ez2.out, ez3.out] at e2
    have m3 := HasV.onlyV Zm3 O (by omega)
    have c4 := (O.cell (p := ⟨w.heap.size + 1, 0, none⟩) (by dsimp only; omega) (by dsimp only; omega)).trans Zc4
    have c8 := (O.cell (p := ⟨w.heap.size + 1 + 1 + 1 + 1, 0, none⟩) (by dsimp only; omega) (by dsimp only; omega)).trans Zc8
    have tb := hK.below (Zb.trans (O.below w.heap.size (by omega) (by omega)))
    refine wpIn_block ?_
    refine wpIn_seq ?_
    refine in_region_seq [.eq (.int .i64 ((b : Nat) : Int)), .eq (.int .i64 ((1 - b : Nat) : Int)), .eq (.int .i64 ((1 - b : Nat) : Int))] (by rintro ⟨_, _, h⟩; exact h) (by kernel_rfl) (by kernel_rfl) (by kernel_rfl) (by rw [sz]; kernel_rfl) (by kernel_rfl) ⟨fun hw ac w' K => ?_, fun hw ac w' K => ?_, fun hw ac w' K => ?_, trivial⟩ ?_
    · exact st_move (.tmp 10) rfl ((K.old 10 rfl).trans x10)
    · exact st_sub (.const (.int .i64 1)) (.tmp 20) rfl (1) (b) (1 - b) rfl (K.dep 0 20 rfl) (by omega) (by omega)
    · exact st_assign (.tmp 21) rfl (K.dep 1 21 rfl)
    intro f1 w1 A hb
    replace O := only_below O (Below.mono hb O.size)
    replace KO := KO.trans (keeps_below hb)
    replace R := R.below hb
    replace x3 := (A.old 3 rfl).trans x3
    replace x4 := (A.old 4 rfl).trans x4
    replace x8 := (A.old 8 rfl).trans x8
    replace x9 := (A.old 9 rfl).trans x9
    replace x10 := (A.old 10 rfl).trans x10
    have x11 : f1.eval (.tmp 11) = .int .i64 ((1 - b : Nat) : Int) := A.has 2 11 rfl
    replace sz := A.size.trans sz
    replace df := A.defs.trans df
    clear A hb
    have m3 := HasV.onlyV Zm3 O (by omega)
    have c4 := (O.cell (p := ⟨w.heap.size + 1, 0, none⟩) (by dsimp only; omega) (by dsimp only; omega)).trans Zc4
    have c8 := (O.cell (p := ⟨w.heap.size + 1 + 1 + 1 + 1, 0, none⟩) (by dsimp only; omega) (by dsimp only; omega)).trans Zc8
    have tb := hK.below (Zb.trans (O.below w.heap.size (by omega) (by omega)))
    refine wpList_nil ?_
    show Code.wpIn _ _ _ _ _ _ _
    refine wpIn_seq ?_
    refine in_region_tail [.eq (.slice (some ⟨(w.heap.size + 1 + 1 + 1), 0, none⟩) 512 512), .eq (.int .i64 ((p : Nat) : Int)), .eq (.int .i64 ((2 * p : Nat) : Int)), .eq (.agg ((seed).map V).toArray), .eq (.int .i64 ((key : Nat) : Int)), .eq (.int .i64 ((p : Nat) : Int)), .eq (.int .i64 ((b : Nat) : Int)), .eq (.agg ((z1).map V).toArray), .eq (.pointer (some ⟨(w.heap.size + 1 + 1 + 1), (2 * p) * 32, none⟩))] [9] (by rintro ⟨_, _, h⟩; exact h) (by kernel_rfl) Tryd.mixed (by kernel_rfl) (by kernel_rfl) (by kernel_rfl) (by kernel_rfl) (by rw [sz]; kernel_rfl) (by kernel_rfl) ⟨fun hw ac w' K => ?_, fun hw ac w' K => ?_, fun hw ac w' K => ?_, fun hw ac w' K => ?_, fun hw ac w' K => ?_, fun hw ac w' K => ?_, fun hw ac w' K => ?_, fun hw ac w' K => ?_, fun hw ac w' K => ?_, trivial⟩ ?_
    · exact st_loadv (.tmp 8) rfl ⟨_, 0, (K.old 8 rfl).trans x8, (K.grow.cell (block_lt_of_cell c8)).trans c8⟩
    · exact st_move (.tmp 9) rfl ((K.old 9 rfl).trans x9)
    · exact st_mul (.const (.int .i64 2)) (.tmp 23) rfl (2) (p) (2 * p) rfl (K.dep 1 23 rfl) (by omega) (by omega)
    · exact st_load23 (.tmp 3) rfl _ (seed) ((K.old 3 rfl).trans x3) hx (HasV.below m3 K.grow (HasV.lt m3))
    · exact st_load3 (.tmp 4) rfl (w.heap.size + 1) 0 ((key : Nat) : Int) ((K.old 4 rfl).trans x4) ((K.grow.cell (block_lt_of_cell c4)).trans c4)
    · exact st_move (.tmp 9) rfl ((K.old 9 rfl).trans x9)
    · exact st_move (.tmp 10) rfl ((K.old 10 rfl).trans x10)
    · exact st_call 17 (.func 17) _ _ #[.agg ((seed).map V).toArray, .int .i64 ((key : Nat) : Int), .int .i64 ((p : Nat) : Int), .int .i64 ((b : Nat) : Int)] rfl rfl (arg4 (K.dep 3 25 rfl) (K.dep 4 26 rfl) (K.dep 5 27 rfl) (K.dep 6 28 rfl)) Tryd.enter17 (fk_of (sc_to (seed) (((key : Nat) : Int)) (p) (b) _ hx (by omega) (by omega) (tb.below K.grow) ez1))
    · exact st_idxrow (.tmp 22) (.tmp 24) rfl ((w.heap.size + 1 + 1 + 1)) (2 * p) (K.dep 0 22 rfl) (K.dep 2 24 rfl) (by omega)
    intro f2 w2 A hb
    replace O := only_below O (Below.mono hb O.size)
    replace KO := KO.trans (keeps_below hb)
    replace R := R.below hb
    refine wl_storew rfl (.tmp 30) (.tmp 29) rfl rfl (w.heap.size + 1 + 1 + 1) (2 * p) (z1) _ (A.has 8 30 rfl) (A.has 7 29 rfl) R (by (try simp only [List.length_set]); omega) hz1 ?_
    replace R := Rw.store R (2 * p) (z1) (by (try simp only [List.length_set]); omega) hz1
    replace O := only_setCells ((z1).map V) ((2 * p) * 32) _ O
    replace KO := KO.trans (keeps_setCells (g := (w.heap.size + 1 + 1 + 1)) ((z1).map V) ((2 * p) * 32) _)
    generalize w2.setCells (w.heap.size + 1 + 1 + 1) ((2 * p) * 32) ((z1).map V) = w2b at R O KO ⊢
    replace x3 := (A.old 3 rfl).trans x3
    replace x4 := (A.old 4 rfl).trans x4
    replace x8 := (A.old 8 rfl).trans x8
    replace x9 := (A.old 9 rfl).trans x9
    replace x10 := (A.old 10 rfl).trans x10
    replace x11 := (A.old 11 rfl).trans x11
    replace sz := A.size.trans sz
    replace df := A.defs.trans df
    clear A hb
    have m3 := HasV.onlyV Zm3 O (by omega)
    have c4 := (O.cell (p := ⟨w.heap.size + 1, 0, none⟩) (by dsimp only; omega) (by dsimp only; omega)).trans Zc4
    have c8 := (O.cell (p := ⟨w.heap.size + 1 + 1 + 1 + 1, 0, none⟩) (by dsimp only; omega) (by dsimp only; omega)).trans Zc8
    have tb := hK.below (Zb.trans (O.below w.heap.size (by omega) (by omega)))
    refine wpList_nil ?_
    show Code.wpIn _ _ _ _ _ _ _
    refine in_region_tail [.eq (.slice (some ⟨(w.heap.size + 1 + 1 + 1), 0, none⟩) 512 512), .eq (.int .i64 ((p : Nat) : Int)), .eq (.int .i64 ((2 * p : Nat) : Int)), .eq (.int .i64 (((2 * p) + 1 : Nat) : Int)), .eq (.agg ((seed).map V).toArray), .eq (.int .i64 ((key : Nat) : Int)), .eq (.int .i64 ((p : Nat) : Int)), .eq (.int .i64 ((1 - b : Nat) : Int)), .eq (.agg ((z2).map V).toArray), .eq (.int .i64 ((p : Nat) : Int)), .eq (.int .i64 ((1 - b : Nat) : Int)), .eq (.agg ((z3).map V).toArray), .eq (.pointer (some ⟨(w.heap.size + 1 + 1 + 1), ((2 * p) + 1) * 32, none⟩))] [13] (by rintro ⟨_, _, h⟩; exact h) (by kernel_rfl) Tryd.mixed (by kernel_rfl) (by kernel_rfl) (by kernel_rfl) (by kernel_rfl) (by rw [sz]; kernel_rfl) (by kernel_rfl) ⟨fun hw ac w' K => ?_, fun hw ac w' K => ?_, fun hw ac w' K => ?_, fun hw ac w' K => ?_, fun hw ac w' K => ?_, fun hw ac w' K => ?_, fun hw ac w' K => ?_, fun hw ac w' K => ?_, fun hw ac w' K => ?_, fun hw ac w' K => ?_, fun hw ac w' K => ?_, fun hw ac w' K => ?_, fun hw ac w' K => ?_, trivial⟩ ?_
    · exact st_loadv (.tmp 8) rfl ⟨_, 0, (K.old 8 rfl).trans x8, (K.grow.cell (block_lt_of_cell c8)).trans c8⟩
    · exact st_move (.tmp 9) rfl ((K.old 9 rfl).trans x9)
    · exact st_mul (.const (.int .i64 2)) (.tmp 32) rfl (2) (p) (2 * p) rfl (K.dep 1 32 rfl) (by omega) (by omega)
    · exact st_add1 (.tmp 33) rfl (2 * p) (by omega) (K.dep 2 33 rfl)
    · exact st_load23 (.tmp 3) rfl _ (seed) ((K.old 3 rfl).trans x3) hx (HasV.below m3 K.grow (HasV.lt m3))
    · exact st_load3 (.tmp 4) rfl (w.heap.size + 1) 0 ((key : Nat) : Int) ((K.old 4 rfl).trans x4) ((K.grow.cell (block_lt_of_cell c4)).trans c4)
    · exact st_move (.tmp 9) rfl ((K.old 9 rfl).trans x9)
    · exact st_move (.tmp 11) rfl ((K.old 11 rfl).trans x11)
    · exact st_call 17 (.func 17) _ _ #[.agg ((seed).map V).toArray, .int .i64 ((key : Nat) : Int), .int .i64 ((p : Nat) : Int), .int .i64 ((1 - b : Nat) : Int)] rfl rfl (arg4 (K.dep 4 35 rfl) (K.dep 5 36 rfl) (K.dep 6 37 rfl) (K.dep 7 38 rfl)) Tryd.enter17 (fk_of (sc_to (seed) (((key : Nat) : Int)) (p) (1 - b) _ hx (by omega) (by omega) (tb.below K.grow) ez2))
    · exact st_move (.tmp 9) rfl ((K.old 9 rfl).trans x9)
    · exact st_move (.tmp 11) rfl ((K.old 11 rfl).trans x11)
    · exact st_call 16 (.func 16) _ _ #[.agg ((z2).map V).toArray, .int .i64 ((p : Nat) : Int), .int .i64 ((1 - b : Nat) : Int)] rfl rfl (arg3 (K.dep 8 39 rfl) (K.dep 9 40 rfl) (K.dep 10 41 rfl)) Tryd.enter16 (fk_of (en_to (z2) (p) (1 - b) _ hz2 (by omega) (tb.below K.grow) ez3))
    · exact st_idxrow (.tmp 31) (.tmp 34) rfl ((w.heap.size + 1 + 1 + 1)) ((2 * p) + 1) (K.dep 0 31 rfl) (K.dep 3 34 rfl) (by omega)
    intro f3 w3 A hb
    replace O := only_below O (Below.mono hb O.size)
    replace KO := KO.trans (keeps_below hb)
    replace R := R.below hb
    refine wl_storew rfl (.tmp 43) (.tmp 42) rfl rfl (w.heap.size + 1 + 1 + 1) ((2 * p) + 1) (z3) _ (A.has 12 43 rfl) (A.has 11 42 rfl) R (by (try simp only [List.length_set]); omega) hz3 ?_
    replace R := Rw.store R ((2 * p) + 1) (z3) (by (try simp only [List.length_set]); omega) hz3
    replace O := only_setCells ((z3).map V) (((2 * p) + 1) * 32) _ O
    replace KO := KO.trans (keeps_setCells (g := (w.heap.size + 1 + 1 + 1)) ((z3).map V) (((2 * p) + 1) * 32) _)
    generalize w3.setCells (w.heap.size + 1 + 1 + 1) (((2 * p) + 1) * 32) ((z3).map V) = w3b at R O KO ⊢
    replace x3 := (A.old 3 rfl).trans x3
    replace x4 := (A.old 4 rfl).trans x4
    replace x8 := (A.old 8 rfl).trans x8
    replace x9 := (A.old 9 rfl).trans x9
    replace x10 := (A.old 10 rfl).trans x10
    replace x11 := (A.old 11 rfl).trans x11
    replace sz := A.size.trans sz
    replace df := A.defs.trans df
    clear A hb
    have m3 := HasV.onlyV Zm3 O (by omega)
    have c4 := (O.cell (p := ⟨w.heap.size + 1, 0, none⟩) (by dsimp only; omega) (by dsimp only; omega)).trans Zc4
    have c8 := (O.cell (p := ⟨w.heap.size + 1 + 1 + 1 + 1, 0, none⟩) (by dsimp only; omega) (by dsimp only; omega)).trans Zc8
    have tb := hK.below (Zb.trans (O.below w.heap.size (by omega) (by omega)))
    refine wpList_nil ?_
    have ht2 := toldH_snoc ht.out ⟨p, hp⟩ (2 * p) (2 * p + 1) (.inl ⟨rfl, rfl⟩)
    rw [e1, e2] at ht2
    exact ⟨KO.from _, (O.block _ (by omega) (by omega)).trans (O1.block _ (by omega) (by omega)).symm, ⟨_, ⟨ht2⟩, R⟩, O⟩
  case done =>
    rintro D ys W2 hD rfl ⟨⟨hs, ht, R⟩, O⟩ hKD
    have c8 := (O.cell (p := ⟨w.heap.size + 1 + 1 + 1 + 1, 0, none⟩) (by dsimp only; omega) (by dsimp only; omega)).trans Zc8
    have hRB := Box.mk R
    have hOB := Box.mk O
    have hbB := Box.mk (Zb.trans (O.below w.heap.size (by omega) (by omega)))
    clear R O Zm3 Zc4 Zc8 ZR hv Zb
    go_wp2
    refine ⟨by simp, .inl ⟨_, _, rfl, run_takeDeferred hKD, ?_⟩⟩
    refine ⟨_, results_tmp2 rfl _ _ _, w.heap.size + 1 + 1 + 1, rfl, ?_, by omega, hbB.out.trans (belowK_b (w := w) (Nat.le_refl _) _ D _ _ (by omega) hKD rfl rfl)⟩
    rw [← toldH_all ht.out]
    exact hRB.out.belowB (belowK_b (w := W) (Nat.le_refl _) _ D _ _ hD hKD rfl rfl) (by omega)
  case stop =>
    rintro D c pre W _ _ h _
    exact h.elim
end Go.Proofs.YtfhhlkbcoofemaaDoor
