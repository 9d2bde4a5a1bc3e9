/- Arguments opened: numbers with their bounds, slices of hashes with their room. Places and steps of layer 8 that came in, opened. Lists of slices of bytes that came in, opened: with their room and the bound of their length; claims and growths of layer 10. -/
import Derived.Test.YtfmeeimhfdnjpaaDoorM5
import Derived.Test.YtfmeeimhfdnjpaaDoorM4
import Derived.Test.YtfmeeimhfdnjpaaDoorM6
namespace Go.Proofs.YtfmeeimhfdnjpaaDoor
set_option maxRecDepth 100000
set_option maxRecDepth 100000
open Go.ChangeShapes Go.WideShapes Go.ChangeAt Go.RowKit
variable {H : Type} {enc : TypeId × Value → H} {W : World}
end Go.Proofs.YtfmeeimhfdnjpaaDoor
namespace Go.Proofs.YtfmeeimhfdnjpaaDoor
set_option maxRecDepth 100000
open Go.ChangeShapes Go.WideShapes Go.ChangeAt Go.RowKit
section
variable {H : Type} {enc : TypeId × Value → H} {W : World}
theorem hc_part {n : Nat} {cs : List Value} {y : DataW H × List MemPlace} (h : DataW.trod enc Tryd.prog W 0 (fun _ => true) true n 35 cs = some y) : ∃ A C hs, cs = [.slice A hs.length C] ∧ (Fk.hc hs).f (.slice A hs.length C) W := by
  have key : ∀ A N C, N ≤ C → cs = [.slice A N C] → ∃ A C hs, cs = [.slice A hs.length C] ∧ (Fk.hc hs).f (.slice A hs.length C) W := by
    intro A N C hc e
    obtain ⟨lb, lo, hs, hl, hn, _⟩ := hl_of (A := A) (N := N) (C := C) (d := y.1) (p := y.2) ⟨n, by rw [show (Value.slice A N C).cells.toList = cs from by rw [e]; rfl]; exact h⟩
    subst hn
    exact ⟨A, C, hs, e, A, C, lb, lo, rfl, hc, hl⟩
  rcases Deep.open_slice Tryd.under35 h with ⟨hcs, _⟩ | ⟨a, len, cap, m, n', D, Pl, hcs, _, hl, _⟩
  · exact key _ 0 0 (Nat.le_refl _) hcs
  · exact key _ _ _ hl hcs
theorem cut_next (l : List Value) (i n : Nat) : l.drop i = (l.drop i).take n ++ l.drop (i + n) := by
  conv => lhs; rw [← List.take_append_drop n (l.drop i)]
  rw [List.drop_drop]
theorem cut_last (l : List Value) (i n : Nat) (h : l.length = i + n) : l.drop i = (l.drop i).take n := (List.take_of_length_le (by rw [List.length_drop]; omega)).symm
end
end Go.Proofs.YtfmeeimhfdnjpaaDoor
namespace Go.Proofs.YtfmeeimhfdnjpaaDoor
set_option maxRecDepth 100000
open Go.ChangeShapes Go.WideShapes Go.ChangeAt Go.RowKit
theorem bytesB : Tryd.prog.bytesOf 22 = 24 := by kernel_rfl
section
variable {H : Type} {enc : TypeId × Value → H} {W : World}
theorem mc_part {n : Nat} {cs : List Value} {y : DataW H × List MemPlace} (h : DataW.trod enc Tryd.prog W 0 (fun _ => true) true n 28 cs = some y) (hw : (y.1.weights Tryd.prog 28).all (· ≤ reachBytes) = true) : ∃ A C ps, cs = [.slice A ps.length C] ∧ (Fk.mg ps).f (.slice A ps.length C) W ∧ ps.length ≤ C ∧ ps.length ≤ 140737488351232 := by
  rcases Deep.open_slice1 Tryd.under28 cells22 h with ⟨hcs, _⟩ | ⟨a, len, cap, m, n', V', D, Pl, hcs, _, hl, hm, hmm, hx, hel⟩
  · exact ⟨none, 0, [], hcs, ⟨none, 0, 0, 0, rfl, fun h => by simp at h, fun i p hi => by simp at hi, fun i p hi => by simp at hi⟩, Nat.le_refl _, by simp⟩
  · have hmc : m = cap := by simpa using hmm
    subst hmc
    have hE : ∀ k, k < len → ∃ p : Pt, W.cell? ⟨a.block, a.off + k, none⟩ = some (.slice p.sp p.m p.c) ∧ p.ok W ∧ p.bs.length ≤ 140737488351232 := by
      intro k hk
      have h0 := (hel 0 (by omega)).1
      have e0 : a.add 0 = a := by simp [Addr.add]
      rw [e0] at h0
      obtain ⟨hc, ht⟩ := hel k (by omega)
      rw [add_plain h0 k] at hc
      have hwk : ∀ n ∈ (D k).weights Tryd.prog 22, n ≤ reachBytes := by
        intro n hn
        rw [hx] at hw
        simp only [DataW.weights, Tryd.under28, List.all_eq_true, decide_eq_true_eq] at hw
        refine hw n (List.mem_cons_of_mem _ (List.mem_append_left _ (weightsAll_mem ?_ n hn)))
        exact List.mem_map.2 ⟨k, List.mem_range.2 hk, rfl⟩
      obtain ⟨sp, l, c, hv, hlc⟩ : ∃ sp l c, V' k = .slice sp l c ∧ l ≤ reachBytes := by
        rcases Deep.open_slice Tryd.under22 ht with ⟨hcs, _⟩ | ⟨a', len', cap', _, _, _, _, hcs, _, _, _, _, hx', _⟩
        · exact ⟨none, 0, 0, by simpa using hcs, Nat.zero_le _⟩
        · refine ⟨some a', len', cap', by simpa using hcs, ?_⟩
          have e := congrArg Prod.fst hx'
          simp only at e
          rw [e] at hwk
          have := hwk _ (by simp only [DataW.weights, Tryd.under22]; exact List.mem_cons_self ..)
          rw [bytes5, Nat.mul_one, List.length_map, List.length_range] at this
          omega
      rw [hv] at hc ht
      obtain ⟨bs, b, o, hsl, hml⟩ := sl_of (enc := enc) (W := W) (a := sp) (len := l) (cap := c) (d := D k) (p := Pl k) ⟨n', by simpa [Value.cells] using ht⟩
      refine ⟨⟨sp, l, c, bs, b, o⟩, hc, hsl, ?_⟩
      have := hsl.len
      unfold reachBytes at hlc
      show bs.length ≤ _
      omega
    obtain ⟨ps, hps, hp⟩ := list_of len hE
    subst hps
    refine ⟨some a, _, ps, hcs, ⟨some a, _, a.block, a.off, rfl, fun hp0 => ?_, fun i p hi => (hp i p hi).1, fun i p hi => (hp i p hi).2.1⟩, hl, ?_⟩
    · have h0 := (hel 0 (by omega)).1
      have e0 : a.add 0 = a := by simp [Addr.add]
      rw [e0] at h0
      have := add_plain h0 0
      rw [e0, Nat.add_zero] at this
      rw [← this]
    · rw [hx] at hw
      simp only [DataW.weights, Tryd.under28, List.all_cons, Bool.and_eq_true, decide_eq_true_eq] at hw
      have hw1 := hw.1
      rw [bytesB, List.length_map, List.length_range] at hw1
      unfold reachBytes at hw1
      omega
theorem mc_of {A : Option Addr} {C : Nat} {ps : List Pt} (h : (Fk.mg ps).f (.slice A ps.length C) W) (hc : ps.length ≤ C) : (Fk.mc ps).f (.slice A ps.length C) W := ⟨h, fun A' C' e => by injection e with _ _ e3; rw [← e3]; exact hc⟩
theorem open_mc {r : Reach} {b0 : Nat} {v : Value} {d : DataW H} {p : List MemPlace} (hv : Value.okWide Tryd.prog W r b0 28 v) (h : DataW.Trod enc Tryd.prog W 0 (fun _ => true) true 28 v d p) (hw : (d.weights Tryd.prog 28).all (· ≤ reachBytes) = true) : ∃ A C ps, v = .slice A ps.length C ∧ (Fk.mc ps).f (.slice A ps.length C) W ∧ ps.length ≤ 140737488351232 := by
  obtain ⟨A, N, C, rfl⟩ := okWide_slice Tryd.under28 hv
  obtain ⟨m, hm⟩ := h
  obtain ⟨A', C', ps, e, h1, hc, h2⟩ := mc_part hm hw
  have e2 : Value.slice A N C = .slice A' ps.length C' := by simpa [Value.cells] using e
  exact ⟨A', C', ps, e2, mc_of h1 hc, h2⟩
theorem weightsEach_mem : ∀ (ts : List TypeId) (ds : List (DataW H)) (i : Nat) (t : TypeId) (d : DataW H), ts[i]? = some t → ds[i]? = some d → ∀ n ∈ d.weights Tryd.prog t, n ∈ DataW.weightsEach Tryd.prog ts ds
  | [], _, i, t, d, h, _, _, _ => by simp at h
  | _ :: _, [], i, t, d, _, h, _, _ => by simp at h
  | t0 :: ts, d0 :: ds, 0, t, d, h1, h2, n, hn => by
    obtain rfl : t0 = t := by simpa using h1
    obtain rfl : d0 = d := by simpa using h2
    unfold DataW.weightsEach
    exact List.mem_append_left _ hn
  | t0 :: ts, d0 :: ds, i + 1, t, d, h1, h2, n, hn => by
    unfold DataW.weightsEach
    exact List.mem_append_right _ (weightsEach_mem ts ds i t d (by simpa using h1) (by simpa using h2) n hn)
/-- The parts of a struct, with what they weigh. -/
theorem parts_of2 {t : TypeId} {l : List (TypeId × Nat)} (hF : fldS Tryd.prog t = some l) {fuel : Nat} {cs : List Value} {x : DataW H × List MemPlace} (h : DataW.trod enc Tryd.prog W 0 (fun _ => true) true fuel t cs = some x) (hw : (x.1.weights Tryd.prog t).all (· ≤ reachBytes) = true) :
    cs.length = Tryd.prog.cellsOf t ∧ ∀ (i : Nat) (ty : TypeId) (off : Nat), l[i]? = some (ty, off) → ∃ n y, DataW.trod enc Tryd.prog W 0 (fun _ => true) true n ty ((cs.drop off).take (Tryd.prog.cellsOf ty)) = some y ∧ (y.1.weights Tryd.prog ty).all (· ≤ reachBytes) = true := by
  unfold fldS at hF
  cases hu : Tryd.prog.underlying t with
  | none => rw [hu] at hF; simp at hF
  | some td =>
    rw [hu] at hF
    cases td <;> simp only [] at hF <;> try (cases hF)
    rename_i fs
    obtain ⟨xs, n, _, rfl, hl, hlen, hf⟩ := DataW.trod_struct hu h
    refine ⟨hl, fun i ty off hi => ?_⟩
    rw [List.getElem?_map] at hi
    cases hfi : fs.toList[i]? with
    | none => rw [hfi] at hi; cases hi
    | some f =>
      rw [hfi] at hi
      obtain ⟨rfl, rfl⟩ : f.type = ty ∧ f.offset = off := by simpa using hi
      have hi2 : i < fs.toList.length := (List.getElem?_eq_some_iff.1 hfi).1
      have hi3 : i < xs.length := by simp only [Array.length_toList] at hi2; omega
      refine ⟨n, xs[i], (hf i f (by simpa using hfi)).trans (List.getElem?_eq_getElem hi3), ?_⟩
      simp only [DataW.weights, hu, List.all_eq_true, decide_eq_true_eq] at hw ⊢
      intro k hk
      exact hw k (weightsEach_mem _ _ i f.type xs[i].1 (by rw [List.getElem?_map, hfi]; rfl) (by rw [List.getElem?_map, List.getElem?_eq_getElem hi3]; rfl) k hk)
theorem cells39 : Tryd.prog.cellsOf 39 = 4 := by kernel_rfl
theorem fld39 : fldS Tryd.prog 39 = some [(3, 0), (3, 1), (22, 2), (35, 3)] := by kernel_rfl
theorem open_claim {r : Reach} {b0 : Nat} {v : Value} {d : DataW H} {p : List MemPlace} (hv : Value.okWide Tryd.prog W r b0 39 v) (h : DataW.Trod enc Tryd.prog W 0 (fun _ => true) true 39 v d p) (hw : (d.weights Tryd.prog 39).all (· ≤ reachBytes) = true) :
    ∃ (i n : Int) (lb : List (BitVec 8)) (P : List (List (BitVec 8))) (aL aP : Option Addr) (nL dL dP : Nat), v = .agg ([.int .i64 i, .int .i64 n, .slice aL nL dL, .slice aP P.length dP] : List Value).toArray ∧ (Fk.sl lb).f (.slice aL nL dL) W ∧ (Fk.hc P).f (.slice aP P.length dP) W := by
  have hF := fld39
  unfold fldS at hF
  unfold Value.okWide at hv
  cases hu : Tryd.prog.underlying 39 with
  | none => rw [hu] at hF; simp at hF
  | some td =>
    rw [hu] at hF hv
    cases td <;> simp only [] at hF <;> try (cases hF)
    obtain ⟨cs, rfl, hsz, _⟩ := hv
    obtain ⟨fuel, hf⟩ := h
    obtain ⟨hl, hp⟩ := parts_of2 fld39 hf hw
    have hcs : (Value.agg cs).cells.toList = cs.toList := rfl
    rw [hcs] at hl hp
    rw [cells39] at hl
    obtain ⟨_, _, p0, w0⟩ := hp 0 3 0 rfl
    obtain ⟨_, _, p1, w1⟩ := hp 1 3 1 rfl
    obtain ⟨_, _, p2, w2⟩ := hp 2 22 2 rfl
    obtain ⟨_, _, p3, w3⟩ := hp 3 35 3 rfl
    rw [cells3] at p0
    rw [cells3] at p1
    rw [cells22] at p2
    rw [cells35] at p3
    obtain ⟨i, e0, _⟩ := int_part p0
    obtain ⟨n, e1, _⟩ := int_part p1
    obtain ⟨ul, lb, e2, v2⟩ := sl_part p2
    obtain ⟨aP, dP, P, e3, v3⟩ := hc_part p3
    obtain ⟨aL, nL, dL, _, _, rfl, _⟩ := id v2
    refine ⟨i, n, lb, P, aL, aP, nL, dL, dP, ?_, v2, v3⟩
    have hsp : cs.toList = (cs.toList.drop 0).take 1 ++ ((cs.toList.drop 1).take 1 ++ ((cs.toList.drop 2).take 1 ++ ((cs.toList.drop 3).take 1))) := by
      generalize cs.toList = l at hl ⊢
      rw [← cut_last l 3 1 hl, ← cut_next l 2 1, ← cut_next l 1 1, ← cut_next l 0 1]
      rfl
    congr 1
    apply Array.toList_inj.1
    rw [hsp, e0, e1, e2, e3]
    rfl
end
end Go.Proofs.YtfmeeimhfdnjpaaDoor
