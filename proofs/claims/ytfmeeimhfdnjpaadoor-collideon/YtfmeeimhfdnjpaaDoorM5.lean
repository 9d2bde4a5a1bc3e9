/- What the rows of this seat share: what the listed variable gives a walk, an array of bytes opened, the start that fits. A slice of bytes that came in, opened. A slice of hashes that came in, opened. Signatures and structs with them that came in, opened. Lists of slices of bytes in memory. Lists of slices of bytes that came in, opened: with the bounds of their sizes. Plain: a drawn region whose last store may come ahead of one operation that only takes a value out: both orders come to one end. Drawn regions with a chain of calls that turn one object: what only looks is taken first. A drawn region in which a store does not wait for what is read beside it: looks at hashes and slices, and the store. -/
import Derived.Test.YtfmeeimhfdnjpaaDoorRows
import Derived.Test.YtfmeeimhfdnjpaaDoorM2
import Derived.ProofKit
import Derived.LaidMore
import Derived.OpenShut
import Derived.ShutString
import Derived.ChangeOld
import Derived.Lib.LaidTab
import Derived.SevenTiedAt
import Derived.Deep.Slices
import Derived.Test.YtfmeeimhfdnjpaaDoorM3
import Derived.Deep.Strs
import Derived.Test.YtfmeeimhfdnjpaaDoorM4
import Derived.Deep.RegionHeld
namespace Go.Proofs.YtfmeeimhfdnjpaaDoor
set_option maxRecDepth 100000
open Go.ChangeShapes Go.WideShapes Go.ChangeAt Go.RowKit

theorem own : ownKnob Tryd.prog.godebug = none := by kernel_rfl
theorem laidOut : laidOutB Tryd.prog = true := by kernel_rfl
theorem gK : Tryd.prog.globalNamed "syngraph/sha.roundNumbers" = some 0 := by kernel_rfl
theorem tK : (Tryd.prog.globals[0]?).map (·.type) = some 107 := by kernel_rfl
theorem cells90 : Tryd.prog.cellsOf 90 = 1 := by kernel_rfl
theorem cells107 : Tryd.prog.cellsOf 107 = 64 := by kernel_rfl
theorem cells5 : Tryd.prog.cellsOf 5 = 1 := by kernel_rfl
theorem cells33 : Tryd.prog.cellsOf 33 = 32 := by kernel_rfl
theorem under90 : Tryd.prog.underlying 90 = some (.int .u32) := by kernel_rfl
/-- What the rows list. -/
def laidK : List (String × DataW Unit) := [("syngraph/sha.roundNumbers", Rows.laid_syngraph_sha_roundNumbers)]
theorem laidK_tab : laidK = [("syngraph/sha.roundNumbers", Lib.tabData .u32 (KN.map vl))] := by kernel_rfl
theorem hasK_of {W : World} (h : laidMetH Tryd.prog laidK W) : HasK W 0 ∧ 0 < W.heap.size := by
  rw [MakeChecks.laidMetH_plain _ _ _ (by kernel_rfl), laidK_tab] at h
  have hT := Lib.tabIs_of_head gK tK Tryd.under107 under90 cells90 cells107 h
  have hc : ∀ i, i < 64 → W.cell? ⟨0, i, none⟩ = some (.int .u32 (vl (KN.getD i 0))) := fun i hi => by
    rw [hT.cell gK i (by simpa [KN] using hi)]
    have hi' : i < KN.length := by simpa [KN] using hi
    simp [hi']
  exact ⟨hc, block_lt_of_cell (hc 0 (by omega))⟩
theorem door_met (os : Os) (args : Array Value) : laidMetH Tryd.prog laidK ((World.doorLaid Tryd.prog 400 os).forCall (fun _ _ => 0) ⟨#[], args, []⟩).memory :=
  laidMetH_of_parts3 (fuel := 8) (laidMet_of_run' 8 (by kernel_rfl) (by kernel_rfl)) (by kernel_rfl) (by kernel_rfl)
end Go.Proofs.YtfmeeimhfdnjpaaDoor
namespace Go.Proofs.YtfmeeimhfdnjpaaDoor
set_option maxRecDepth 100000
open Go.ChangeShapes Go.WideShapes Go.ChangeAt Go.RowKit
theorem bv_ofInt (z : Int) (h0 : 0 ≤ z) (h1 : z < 256) : bv (BitVec.ofInt 8 z) = z := by
  unfold bv
  rw [BitVec.toNat_ofInt]
  omega
theorem sl_of {H : Type} {enc : TypeId × Value → H} {W : World} {a : Option Addr} {len cap : Nat} {d : DataW H} {p : List MemPlace}
    (h : DataW.Trod enc Tryd.prog W 0 (fun _ => true) true 22 (.slice a len cap) d p) : ∃ bs b o, Sl W a len cap bs b o ∧ len ≤ maxLen := by
  obtain ⟨fuel, hf⟩ := h
  rcases open_ints Tryd.under22 Tryd.under5 (by kernel_rfl) hf with ⟨hcs, _⟩ | ⟨x, l, c, zs, hcs, _, hl, hm, hz, _, hcell, hwz⟩
  · simp [Value.cells] at hcs
    obtain ⟨rfl, rfl, rfl⟩ := hcs
    exact ⟨[], 0, 0, ⟨rfl, Nat.le_refl _, fun _ => ⟨rfl, rfl⟩, fun h => absurd h (by omega)⟩, by unfold maxLen; omega⟩
  · simp [Value.cells] at hcs
    obtain ⟨rfl, rfl, rfl⟩ := hcs
    have hlen : zs.length = cap := by simpa using hz
    refine ⟨(zs.take len).map (BitVec.ofInt 8), x.block, x.off, ⟨?_, hl, fun h => by (cases h), fun hp => ?_⟩, by unfold maxLen at *; omega⟩
    · rw [List.length_map, List.length_take]; omega
    · have hspot : x.spot = none := by
        have := hcell 0 (by omega)
        simp only [Addr.add, if_true] at this
        unfold World.cell? at this
        split at this
        · split at this
          · cases this
          · rename_i h; simpa using h
        · cases this
      have hx : x = ⟨x.block, x.off, none⟩ := by rw [← hspot]
      have hadd : ∀ i, x.add i = ⟨x.block, x.off + i, none⟩ := fun i => by
        unfold Addr.add
        split
        · rename_i h; subst h; rw [Nat.add_zero]; exact hx
        · rfl
      refine ⟨by rw [← hx], ?_, ?_⟩
      · have := block_lt_of_cell (hcell 0 (by omega))
        simpa [Addr.add] using this
      · intro i hi
        have hil : i < zs.length := by rw [List.length_map, List.length_take] at hi; omega
        have hin : i < len := by rw [List.length_map, List.length_take] at hi; omega
        rw [← hadd, hcell i hil]
        have hb := bounds_u8 (hwz (zs[i]) (List.getElem_mem hil))
        have e1 : zs.getD i 0 = zs[i] := by simp [hil]
        have e2 : ((zs.take len).map (BitVec.ofInt 8)).getD i 0 = BitVec.ofInt 8 zs[i] := by simp [hil, hin]
        rw [e1, e2, bv_ofInt _ (by omega) (by omega)]
end Go.Proofs.YtfmeeimhfdnjpaaDoor
namespace Go.Proofs.YtfmeeimhfdnjpaaDoor
set_option maxRecDepth 100000
open Go.ChangeShapes Go.WideShapes Go.ChangeAt Go.RowKit
theorem add_plain {w : World} {x : Addr} {v : Value} (h : w.cell? x = some v) : ∀ i, x.add i = ⟨x.block, x.off + i, none⟩ := by
  have hspot : x.spot = none := by
    unfold World.cell? at h
    split at h
    · split at h
      · cases h
      · rename_i h2; simpa using h2
    · cases h
  intro i
  unfold Addr.add
  split
  · rename_i h2; subst h2; rw [Nat.add_zero, ← hspot]
  · rfl
theorem Tryd.under35 : Tryd.prog.underlying 35 = some (.slice 33) := by kernel_rfl
theorem hl_of {H : Type} {enc : TypeId × Value → H} {W : World} {A : Option Addr} {N C : Nat} {d : DataW H} {p : List MemPlace}
    (h : DataW.Trod enc Tryd.prog W 0 (fun _ => true) true 35 (.slice A N C) d p) : ∃ lb lo hs, Hl W A lb lo hs ∧ N = hs.length ∧ N ≤ maxLen := by
  obtain ⟨fuel, hf⟩ := h
  rcases Deep.open_slice Tryd.under35 hf with ⟨hcs, _⟩ | ⟨a, len, cap, m, n, D, Pl, hcs, _, hl, hm, hmm, _, hel⟩
  · simp [Value.cells] at hcs
    obtain ⟨rfl, rfl, rfl⟩ := hcs
    exact ⟨0, 0, [], ⟨fun h => absurd h (by simp), fun h => absurd h (by simp), fun i x hi => by simp at hi⟩, rfl, by unfold maxLen; omega⟩
  · simp [Value.cells] at hcs
    obtain ⟨rfl, rfl, rfl⟩ := hcs
    have hmc : m = C := by simpa using hmm
    subst hmc
    rw [cells33] at hel
    obtain ⟨F, hF⟩ := Deep.choose_lt (α := List (BitVec 8)) (n := N) (p := fun i x => x.length = 32 ∧ ∀ j, j < 32 → W.cell? (a.add (i * 32 + j)) = some (.int .u8 (bv (x.getD j 0)))) (fun i hi => by
      obtain ⟨cs', h1, h2⟩ := hel i (by omega)
      obtain ⟨_, hlen, hcell⟩ := World.cells?_some h1
      obtain ⟨ys, m', _, _, hl', hn, hel'⟩ := DataW.trod_array Tryd.under33 h2
      have hz : ∀ j, j < 32 → ∃ z : Int, cs'[j]? = some (.int .u8 z) ∧ 0 ≤ z ∧ z < 256 := fun j hj => by
        have h3 := hel' j hj
        rw [cells5, List.getElem?_eq_getElem (by omega)] at h3
        obtain ⟨z, hc, _, hw⟩ := DataW.trod_int Tryd.under5 h3
        refine ⟨z, ?_, ?_⟩
        · have := congrArg (·[0]?) hc
          simpa [List.getElem?_take, List.getElem?_drop, Value.cells] using this
        · have := bounds_u8 hw
          omega
      refine ⟨cs'.map fun v => match v with | .int _ z => BitVec.ofInt 8 z | _ => 0, by rw [List.length_map]; exact hlen, fun j hj => ?_⟩
      obtain ⟨z, hz1, h0, h256⟩ := hz j hj
      rw [← Deep.add_add, hcell j hj, hz1]
      have : bv (BitVec.ofInt 8 z) = z := bv_ofInt z h0 h256
      simp [hz1, this])
    have hbase : 0 < N → ∀ i, a.add i = ⟨a.block, a.off + i, none⟩ := fun hp => by
      have h0 := (hF 0 hp).2 0 (by omega)
      have e0 : a.add (0 * 32 + 0) = a := by simp [Addr.add]
      rw [e0] at h0
      exact add_plain h0
    refine ⟨a.block, a.off, (List.range N).map F, ⟨fun hp => ?_, fun hp => ?_, fun i x hi => ?_⟩, by simp, by unfold maxLen at *; omega⟩
    · rw [List.length_map, List.length_range] at hp
      have := hbase hp 0
      have e0 : a.add 0 = a := by simp [Addr.add]
      rw [e0, Nat.add_zero] at this
      rw [← this]
    · rw [List.length_map, List.length_range] at hp
      have h0 := (hF 0 hp).2 0 (by omega)
      have e0 : a.add (0 * 32 + 0) = a := by simp [Addr.add]
      rw [e0] at h0
      exact block_lt_of_cell h0
    · obtain ⟨h1, h2⟩ := List.getElem?_eq_some_iff.1 hi
      have hiN : i < N := by simpa using h1
      have e : x = F i := by rw [← h2]; simp
      subst e
      refine ⟨(hF i hiN).1, fun j hj => ?_⟩
      have hj' : j < 32 := by rw [(hF i hiN).1] at hj; exact hj
      have := (hF i hiN).2 j hj'
      rw [hbase (by omega), ← Nat.add_assoc] at this
      exact this
end Go.Proofs.YtfmeeimhfdnjpaaDoor
namespace Go.Proofs.YtfmeeimhfdnjpaaDoor
set_option maxRecDepth 100000
open Go.ChangeShapes Go.WideShapes Go.ChangeAt Go.RowKit
/-- The types and places of a struct's fields. -/
def fldS (P : Program) (t : TypeId) : Option (List (TypeId × Nat)) := match P.underlying t with | some (.struct fs) => some (fs.toList.map fun f => (f.type, f.offset)) | _ => none
section
variable {H : Type} {enc : TypeId × Value → H} {W : World}
theorem cells35 : Tryd.prog.cellsOf 35 = 1 := by kernel_rfl
theorem cells22 : Tryd.prog.cellsOf 22 = 1 := by kernel_rfl
end
end Go.Proofs.YtfmeeimhfdnjpaaDoor
namespace Go.Proofs.YtfmeeimhfdnjpaaDoor
set_option maxRecDepth 100000
open Go.RowKit
/-- A slice that has these slices of bytes. -/
def Fk.mg (ps : List Pt) : Fk := .inr (.inl ⟨fun v w => ∃ A C lb lo, v = .slice A ps.length C ∧ (0 < ps.length → A = some ⟨lb, lo, none⟩) ∧ Ls w lb lo ps, by
  rintro v w w' ⟨A, C, lb, lo, e, hg, h⟩ hb
  exact ⟨A, C, lb, lo, e, hg, h.below hb⟩⟩)
theorem mg_ok {ps : List Pt} {v : Value} {w : World} (h : (Fk.mg ps).f v w) {i : Nat} {p : Pt} (hi : ps[i]? = some p) : Sl w p.sp p.m p.c p.bs p.b p.o := by
  obtain ⟨A, C, lb, lo, e, _, hl⟩ := h
  exact hl.ok i p hi
theorem Tryd.elem28 : Tryd.prog.elem 28 = 22 := by kernel_rfl
theorem Tryd.sizeOf22m (w : World) : (sizeOf 22).run Tryd.prog w = .ok 1 w := by kernel_rfl
section
variable {Q : Exit → Act → World → Prop} {o : Oper} {a : Act} {w : World}
theorem st_lenm (x : Operand) (ho : o.op = .call { callee := .builtin .len, args := #[x], argTypes := #[28] }) {ps : List Pt} (h : (Fk.mg ps).f (a.eval x) w) : o.wp Tryd.prog a w (Ends a o.dst w (Fk.eq (.int .i64 ((ps.length : Nat) : Int))).f) Q := by
  obtain ⟨A, C, lb, lo, e, _, hl⟩ := h
  refine st_pure (v := .int .i64 (ps.length : Int)) ?_ rfl
  have h1 := run_len_slice (P := Tryd.prog) (w := w) 28 o.type A ps.length C (by rw [Tryd.elem28]; exact Tryd.under28)
  unfold execOp
  simp [ho, resolve, invoke, builtin, e, h1, goInt]
theorem st_idxm (x y : Operand) (ho : o.op = .indexAddr 28 x y) {ps : List Pt} (h : (Fk.mg ps).f (a.eval x) w) (i : Nat) (p : Pt) (hy : a.eval y = .int .i64 (i : Int)) (hi : ps[i]? = some p) : o.wp Tryd.prog a w (Ends a o.dst w (Fk.pv (.slice p.sp p.m p.c)).f) Q := by
  obtain ⟨A, C, lb, lo, e, hp, hl⟩ := h
  have hil : i < ps.length := (List.getElem?_eq_some_iff.1 hi).1
  have hp := hp (by omega)
  subst hp
  refine st_pure (v := .pointer (some ⟨lb, lo + i, none⟩)) ?_ ⟨lb, lo + i, rfl, hl.cell i p hi⟩
  have h1 := run_indexAt_slice (P := Tryd.prog) (w := w) 28 ⟨lb, lo, none⟩ ps.length C .i64 (i : Int) (by rw [Tryd.elem28]; exact Tryd.under28)
  rw [if_pos (by omega), Tryd.elem28, Tryd.sizeOf22m] at h1
  simp only [Result.andThen_ok, Int.toNat_natCast, Addr.add_mid, Nat.mul_one] at h1
  unfold execOp
  rw [ho]
  simp [e, hy, h1]
theorem st_loadsl (x : Operand) (ho : o.op = .load 22 x) {u : Value} (h : (Fk.pv u).f (a.eval x) w) : o.wp Tryd.prog a w (Ends a o.dst w (Fk.eq u).f) Q := by
  obtain ⟨b, so, e, hc⟩ := h
  exact st_loadc 22 x ho (by kernel_rfl) e hc
end
end Go.Proofs.YtfmeeimhfdnjpaaDoor
namespace Go.Proofs.YtfmeeimhfdnjpaaDoor
set_option maxRecDepth 100000
open Go.ChangeShapes Go.WideShapes Go.ChangeAt Go.RowKit
/-- What holds of each number below n holds of the members of a list. -/
theorem list_of {P : Nat → Pt → Prop} (n : Nat) (h : ∀ k, k < n → ∃ p, P k p) : ∃ ps : List Pt, ps.length = n ∧ ∀ k p, ps[k]? = some p → P k p := by
  induction n with
  | zero => exact ⟨[], rfl, fun k p hk => by simp at hk⟩
  | succ n ih =>
    obtain ⟨ps, hl, hp⟩ := ih (fun k hk => h k (by omega))
    obtain ⟨q, hq⟩ := h n (by omega)
    refine ⟨ps ++ [q], by simp [hl], fun k p hk => ?_⟩
    rw [List.getElem?_append] at hk
    split at hk
    · exact hp k p hk
    · rename_i hge
      have hkn : k - ps.length = 0 := by
        by_cases h0 : k - ps.length = 0
        · exact h0
        · rw [List.getElem?_eq_none (by simp; omega)] at hk
          cases hk
      rw [hkn] at hk
      obtain rfl : q = p := by simpa using hk
      obtain rfl : k = n := by omega
      exact hq
section
variable {H : Type} {enc : TypeId × Value → H} {W : World}
end
theorem weightsAll_mem {H : Type} {P : Program} {e : TypeId} {d : DataW H} : ∀ {l : List (DataW H)}, d ∈ l → ∀ n ∈ d.weights P e, n ∈ DataW.weightsAll P e l
  | x :: r, h, n, hn => by
    unfold DataW.weightsAll
    rw [List.mem_append]
    rcases List.mem_cons.1 h with rfl | h
    · exact .inl hn
    · exact .inr (weightsAll_mem h n hn)
theorem bytes5 : Tryd.prog.bytesOf 5 = 1 := by kernel_rfl
section
variable {H : Type} {enc : TypeId × Value → H} {W : World}
end
end Go.Proofs.YtfmeeimhfdnjpaaDoor
namespace Go.Proofs.YtfmeeimhfdnjpaaDoor
set_option maxRecDepth 100000
open Go.RowKit
section
variable {P : Program} {ops : Array Oper} {Q : Exit → Act → World → Prop}
/-- A store that does not look at slot d. -/
def storeFree (o : Oper) (d : Nat) : Bool := match o.op with
  | .store _ (.tmp x) (.tmp y) => (x != d) && (y != d) && o.guard.isNone && o.dst.isNone
  | _ => false
theorem storeFree_spec {o : Oper} {d : Nat} (h : storeFree o d = true) : ∃ T x y, o.op = .store T (.tmp x) (.tmp y) ∧ x ≠ d ∧ y ≠ d ∧ o.guard = none ∧ o.dst = none := by
  unfold storeFree at h
  split at h
  · rename_i T x y e
    simp only [Bool.and_eq_true, bne_iff_ne, ne_eq, Option.isNone_iff_eq_none] at h
    exact ⟨T, x, y, e, h.1.1.1, h.1.1.2, h.1.2, h.2⟩
  · cases h
theorem storeFree_guard {o : Oper} {d : Nat} (h : storeFree o d = true) : o.guard = none := by obtain ⟨_, _, _, _, _, _, h, _⟩ := storeFree_spec h; exact h
theorem storeFree_dst {o : Oper} {d : Nat} (h : storeFree o d = true) : o.dst = none := by obtain ⟨_, _, _, _, _, _, _, h⟩ := storeFree_spec h; exact h
theorem storeFree_eval {o om : Oper} {d : Nat} {v : Value} (h : storeFree o d = true) (hd : om.dst = some d) (a : Act) : execOp (a.put om.dst v).eval o = execOp a.eval o := by
  obtain ⟨T, x, y, e, hx, hy, _, _⟩ := storeFree_spec h
  rw [hd]
  unfold execOp
  rw [e]
  simp only [put_eval_other a d v x (fun h => hx h.symm), put_eval_other a d v y (fun h => hy h.symm)]
theorem wl_skip {o : Oper} {rest : List Oper} {a : Act} {w w2 : World} (hgd : o.guard = none) (hd : o.dst = none) (hr : (execOp a.eval o).run P w = .ok .skip w2) (h : wpList P ops Q rest a w2) : wpList P ops Q (o :: rest) a w := by
  unfold wpList
  rw [if_pos (by unfold Region.wanted; rw [hgd])]
  refine .inl ?_
  unfold Oper.wp
  rw [hr]
  unfold Oper.upon
  rw [hd]
  exact h
theorem wl_val {o : Oper} {rest : List Oper} {a : Act} {w w2 : World} {v : Value} (hgd : o.guard = none) (hr : (execOp a.eval o).run P w = .ok (.value v) w2) (h : wpList P ops Q rest (a.put o.dst v) w2) : wpList P ops Q (o :: rest) a w := by
  unfold wpList
  rw [if_pos (by unfold Region.wanted; rw [hgd])]
  refine .inl ?_
  unfold Oper.wp
  rw [hr]
  exact h
/-- Each from number k on waits, in the end, for all ahead of number k but for m; each behind k for m too. -/
def coverBut (ops : List Oper) (k m : Nat) : Bool := (List.range ops.length).all fun j => decide (j < k) || (((List.range k).all fun i => i == m || (clo ops 8 (tgts ops j)).contains i) && (j == k || (clo ops 8 (tgts ops j)).contains m))
def firstBut (k n m : Nat) : Array Bool := Array.ofFn (n := n) fun i => decide (i.val < k) && (i.val != m)
theorem wp_mids_late {qs : List Fk} {a0 : Act} {w0 : World} (m dm : Nat) (so om : Oper) (rest : List Nat) (hk : qs.length ≤ ops.size) (hE : backOk ops.toList = true) (hC : coverBut ops.toList qs.length m = true) (hJ : chainOk ops (firstK qs.length ops.size) (qs.length :: rest) = true)
    (hJ2 : chainOk ops ((firstBut qs.length ops.size m).setIfInBounds qs.length true) (m :: rest) = true) (hso : ops[qs.length]? = some so) (hom : ops[m]? = some om) (hsf : storeFree so dm = true) (hmd : om.dst = some dm) (hmk : decide (m < qs.length) = true) (hmg : om.guard = none)
    (hM : ∀ a w, Known ops.toList qs.length (fkAt qs) a0 w0 om a w → ∃ v, (∀ w', (execOp a.eval om).run P w' = .ok (.value v) w') ∧ fkAt qs m v w)
    (hD : dstsOk a0.tmps.size (ops.toList.take qs.length) = true) (hG : guardsOk ops.toList qs.length qs ops.toList qs = true)
    (hS : Steps P Q ops.toList qs.length qs a0 w0 ops.toList qs)
    (hF : ∀ af w', Final ops.toList qs a0 af w' → Below w0.heap.size w0 w' → ∃ w2, (execOp af.eval so).run P w' = .ok .skip w2 ∧ wpList P ops Q (rest.filterMap (ops[·]?)) af w2) :
    ∀ (fuel : Nat) (listed : Array Bool) (a : Act) (w : World), unl listed ≤ fuel → Closed ops listed → Mids ops qs.length (fkAt qs) a0 w0 listed a w → wpAny P .any ops Q fuel listed a w := by
  have hfin : ∀ (listed : Array Bool) (a : Act) (w : World), Mids ops qs.length (fkAt qs) a0 w0 listed a w → (∀ i, i < qs.length → listed.getD i false = true) → Final ops.toList qs a0 a w := by
    intro listed a w hm hall
    refine ⟨hm.defs, hm.size, fun t ht => eval_of_get (hm.old t ht), fun i d h => ?_⟩
    simp only [Bool.and_eq_true, decide_eq_true_eq, beq_iff_eq] at h
    obtain ⟨hi, hd⟩ := h
    cases ho : ops.toList[i]? with
    | none => rw [ho] at hd; simp at hd
    | some o =>
      rw [ho] at hd
      exact hm.has i o d hi (by rw [← Array.getElem?_toList]; exact ho) (by simpa using hd) (hall i hi)
  have hend : ∀ (fuel : Nat) (listed : Array Bool) (a : Act) (w : World), unl listed ≤ fuel → Mids ops qs.length (fkAt qs) a0 w0 listed a w → (∀ i, i < qs.length → listed.getD i false = true) → wpAny P .any ops Q fuel listed a w := by
    intro fuel listed a w hu hm hall
    have he : listed = firstK qs.length ops.size := by
      apply Array.ext (by simp [firstK, hm.lsize])
      intro i h1 h2
      simp only [firstK, Array.getElem_ofFn]
      by_cases hi : i < qs.length
      · have := hall i hi
        simp [h1] at this
        simp [this, hi]
      · have h3 : i < ops.size := by rw [hm.lsize] at h1; exact h1
        have := hm.last i (by omega) h3
        simp [h1] at this
        simp [this, hi]
    have hJ' : chainOk ops listed (qs.length :: rest) = true := by rw [he]; exact hJ
    have hlen := chain_len (qs.length :: rest) listed hJ'
    refine any_list (qs.length :: rest) fuel listed a w hJ' (by omega) ?_
    obtain ⟨w2, hr, hw⟩ := hF a w (hfin listed a w hm hall) hm.grow
    rw [List.filterMap_cons, hso]
    exact wl_skip (storeFree_guard hsf) (storeFree_dst hsf) hr hw
  intro fuel
  induction fuel with
  | zero =>
    intro listed a w hu hcl hm
    have hall := unl_zero (listed := listed) (by omega)
    refine hend 0 listed a w hu hm (fun i hi => ?_)
    have hil : i < listed.size := by rw [hm.lsize]; omega
    rw [← getD_tf hil]; exact hall i hil
  | succ fuel ih =>
    intro listed a w hu hcl hm
    by_cases hall : ∀ i, i < qs.length → listed.getD i false = true
    · exact hend (fuel + 1) listed a w hu hm hall
    · have hex : ∃ i0, i0 < qs.length ∧ listed.getD i0 false = false := by
        apply Classical.byContradiction
        intro hno
        apply hall
        intro i hi
        cases hq : listed.getD i false with
        | true => rfl
        | false => exact absurd ⟨i, hi, hq⟩ hno
      obtain ⟨i0, hi0, hi0u⟩ := hex
      refine ⟨fun hr => ?_, fun i hi => ?_⟩
      · exfalso
        have hu0 := ready_back hE hm.lsize hr
        have hil : i0 < listed.size := by rw [hm.lsize]; omega
        have := unl_zero hu0 i0 hil
        rw [getD_tf hil, hi0u] at this
        cases this
      · obtain ⟨hun, o, ho, hdep⟩ := mem_ready.1 hi
        have hio : i < ops.size := (Array.getElem?_eq_some_iff.1 ho).1
        have hu' := unl_set hun
        have hil : i < listed.size := by rw [hm.lsize]; exact hio
        have htg : ∀ j ∈ tgt o, listed.getD j false = true := fun j hj => by
          obtain ⟨e, he, hb, rfl⟩ := mem_tgt.1 hj
          exact hdep e he hb
        rcases Nat.lt_or_ge i qs.length with hik | hik
        case inr =>
          have hmk' : m < qs.length := of_decide_eq_true hmk
          have hcl4 : ∀ i1, i1 ∈ clo ops.toList 8 (tgts ops.toList i) → listed.getD i1 false = true := clo_listed hcl 8 (tgts ops.toList i) (fun j hj => by
            unfold tgts at hj
            rw [Array.getElem?_toList, ho] at hj
            exact htg j (by simpa using hj))
          have hcov : ∀ i1, i1 < qs.length → i1 ≠ m → listed.getD i1 false = true := by
            intro i1 h1 h2
            unfold coverBut at hC
            have h3 := List.all_eq_true.1 hC i (by simpa using hio)
            simp only [Bool.or_eq_true, decide_eq_true_eq, Bool.and_eq_true] at h3
            rcases h3 with h3 | h3
            · omega
            · have h4 := List.all_eq_true.1 h3.1 i1 (by simpa using h1)
              simp only [Bool.or_eq_true, beq_iff_eq] at h4
              rcases h4 with h4 | h4
              · exact absurd h4 h2
              · exact hcl4 i1 (by simpa using h4)
          have hum : listed.getD m false = false := by
            by_cases e : i0 = m
            · rw [← e]; exact hi0u
            · rw [hcov i0 hi0 e] at hi0u; cases hi0u
          have hiq : i = qs.length := by
            unfold coverBut at hC
            have h3 := List.all_eq_true.1 hC i (by simpa using hio)
            simp only [Bool.or_eq_true, decide_eq_true_eq, Bool.and_eq_true, beq_iff_eq] at h3
            rcases h3 with h3 | h3
            · omega
            · rcases h3.2 with h4 | h4
              · exact h4
              · have h5 := hcl4 m (by simpa using h4)
                rw [hum] at h5; cases h5
          subst hiq
          obtain rfl : o = so := Option.some.inj (ho.symm.trans hso)
          have hml : m < listed.size := by rw [hm.lsize]; omega
          have hto : (ops.toList.take qs.length)[m]? = some om := by rw [List.getElem?_take, if_pos hmk', Array.getElem?_toList]; exact hom
          obtain ⟨d, hd, hlt, hallD⟩ := dstsOk_spec hD m om hto
          obtain rfl : d = dm := Option.some.inj (hd.symm.trans hmd)
          have hKm : Known ops.toList qs.length (fkAt qs) a0 w0 om a w := by
            refine ⟨fun t ht => eval_of_get (hm.old t ht), fun j d hj => ?_, hm.grow⟩
            unfold depOk at hj
            simp only [Bool.and_eq_true, decide_eq_true_eq, beq_iff_eq, Array.getElem?_toList] at hj
            obtain ⟨⟨hjk, hany⟩, hd⟩ := hj
            obtain ⟨e, he, hb⟩ := List.any_eq_true.1 hany
            simp only [Bool.and_eq_true, beq_iff_eq] at hb
            have hjm : j ≠ m := by
              intro hjm
              unfold backOk at hE
              have h1 := List.all_eq_true.1 hE m (by simp; omega)
              simp only [Array.getElem?_toList, hom, Option.map_some, Option.getD_some] at h1
              have h2 := List.all_eq_true.1 h1 e he
              rw [hb.1, hb.2, hjm] at h2
              simp at h2
            cases hoj : ops[j]? with
            | none => rw [hoj] at hd; simp at hd
            | some oj =>
              rw [hoj] at hd
              exact hm.has j oj d hjk hoj (by simpa using hd) (hcov j hjk hjm)
          obtain ⟨v, hrun, hφ⟩ := hM a w hKm
          have hm1 : Mids ops qs.length (fkAt qs) a0 w0 (listed.setIfInBounds m true) (a.put om.dst v) w := by
            refine ⟨by rw [put_size]; exact hm.size, by rw [put_def]; exact hm.defs, by simp; exact hm.lsize, fun t ht => ?_, fun j oj dj hj hoj hdj hlj => ?_, fun j hj1 hj2 => ?_, hm.grow⟩
            · rw [put_other _ _ _ _ (freeOf_spec ht hto)]; exact hm.old t ht
            · by_cases e : j = m
              · subst e
                obtain rfl : oj = om := Option.some.inj (hoj.symm.trans hom)
                obtain rfl : dj = d := Option.some.inj (hdj.symm.trans hd)
                have hev : (a.put oj.dst v).eval (.tmp dj) = v := by
                  have := put_same a dj v (by rw [hm.size]; exact hlt)
                  rw [← hd] at this
                  simp [Act.eval, this]
                rw [hev]; exact hφ
              · have htj : (ops.toList.take qs.length)[j]? = some oj := by rw [List.getElem?_take, if_pos hj, Array.getElem?_toList]; exact hoj
                have hne : om.dst ≠ some dj := fun h => by
                  have : d = dj := Option.some.inj (hd.symm.trans h)
                  exact hallD j oj htj e (by rw [this]; exact hdj)
                rw [eval_of_get (put_other a om.dst v dj hne)]
                refine hm.has j oj dj hj hoj hdj ?_
                have hne2 : m ≠ j := fun h => e h.symm
                simpa [Array.getElem?_setIfInBounds, hne2] using hlj
            · have hne : m ≠ j := by omega
              have := hm.last j hj1 hj2
              simpa [Array.getElem?_setIfInBounds, hne] using this
          have hall1 : ∀ i, i < qs.length → (listed.setIfInBounds m true).getD i false = true := by
            intro i1 h1
            by_cases e : i1 = m
            · subst e; exact getD_set_same hml
            · have hne : m ≠ i1 := fun h => e h.symm
              have := hcov i1 h1 e
              simpa [Array.getElem?_setIfInBounds, hne] using this
          obtain ⟨w2, hr, hw⟩ := hF _ w (hfin _ _ _ hm1 hall1) hm.grow
          have he : listed = firstBut qs.length ops.size m := by
            apply Array.ext (by simp [firstBut, hm.lsize])
            intro i1 h1 h2
            simp only [firstBut, Array.getElem_ofFn]
            by_cases hi1 : i1 < qs.length
            · by_cases e : i1 = m
              · subst e
                simp [h1] at hum
                simp [hum]
              · have := hcov i1 hi1 e
                simp [h1] at this
                simp [this, hi1, e]
            · have h3 : i1 < ops.size := by rw [hm.lsize] at h1; exact h1
              have := hm.last i1 (by omega) h3
              simp [h1] at this
              simp [this, hi1]
          have hrs : (execOp a.eval o).run P w = .ok .skip w2 := by
            rw [← storeFree_eval (v := v) hsf hmd a]; exact hr
          unfold wpOp
          rw [ho]
          show if Region.wanted o (yielded ops a.tmps) = true then _ else _
          rw [if_pos (by unfold Region.wanted; rw [storeFree_guard hsf])]
          refine .inl ?_
          unfold Oper.wp
          rw [hrs]
          unfold Oper.upon
          rw [storeFree_dst hsf]
          have hJ3 : chainOk ops (listed.setIfInBounds qs.length true) (m :: rest) = true := by rw [he]; exact hJ2
          have hlen := chain_len (m :: rest) _ hJ3
          refine any_list (m :: rest) fuel _ _ w2 hJ3 (by omega) ?_
          rw [List.filterMap_cons, hom]
          exact wl_val hmg (hrun w2) hw
        case inl =>
          have hK : Known ops.toList qs.length (fkAt qs) a0 w0 o a w := by
            refine ⟨fun t ht => eval_of_get (hm.old t ht), fun j d hj => ?_, hm.grow⟩
            unfold depOk at hj
            simp only [Bool.and_eq_true, decide_eq_true_eq, beq_iff_eq, Array.getElem?_toList] at hj
            obtain ⟨⟨hjk, hany⟩, hd⟩ := hj
            obtain ⟨e, he, hb⟩ := List.any_eq_true.1 hany
            simp only [Bool.and_eq_true, beq_iff_eq] at hb
            have hl := hdep e (by simpa using he) hb.2
            rw [hb.1] at hl
            cases hoj : ops[j]? with
            | none => rw [hoj] at hd; simp at hd
            | some oj =>
              rw [hoj] at hd
              exact hm.has j oj d hjk hoj (by simpa using hd) hl
          have hto : (ops.toList.take qs.length)[i]? = some o := by rw [List.getElem?_take, if_pos hik, Array.getElem?_toList]; exact ho
          obtain ⟨d, hd, hlt, hallD⟩ := dstsOk_spec hD i o hto
          have hcl' : Closed ops (listed.setIfInBounds i true) := by
            intro m om hom hml j hj
            by_cases e : m = i
            · subst e
              obtain rfl : om = o := Option.some.inj (hom.symm.trans ho)
              have h1 := htg j hj
              by_cases e2 : j = m
              · subst e2; exact getD_set_same hil
              · have hne : m ≠ j := fun h => e2 h.symm
                simpa [Array.getElem?_setIfInBounds, hne] using h1
            · have hne : i ≠ m := fun h => e h.symm
              have hml' : listed.getD m false = true := by simpa [Array.getElem?_setIfInBounds, hne] using hml
              have h1 := hcl m om hom hml' j hj
              by_cases e2 : j = i
              · subst e2; exact getD_set_same hil
              · have hne2 : i ≠ j := fun h => e2 h.symm
                simpa [Array.getElem?_setIfInBounds, hne2] using h1
          have hnext : ∀ v w', Below w.heap.size w w' → fkAt qs i v w' → wpAny P .any ops Q fuel (listed.setIfInBounds i true) (a.put o.dst v) w' := by
            intro v w' hb hf
            refine ih _ _ _ (by omega) hcl' ⟨by rw [put_size]; exact hm.size, by rw [put_def]; exact hm.defs, by simp; exact hm.lsize, fun t ht => ?_, fun j oj dj hj hoj hdj hlj => ?_, fun j hj1 hj2 => ?_, hm.grow.trans (hb.mono hm.grow.size)⟩
            · rw [put_other _ _ _ _ (freeOf_spec ht hto)]; exact hm.old t ht
            · by_cases e : j = i
              · subst e
                obtain rfl : oj = o := Option.some.inj (hoj.symm.trans ho)
                obtain rfl : dj = d := Option.some.inj (hdj.symm.trans hd)
                have hev : (a.put oj.dst v).eval (.tmp dj) = v := by
                  have := put_same a dj v (by rw [hm.size]; exact hlt)
                  rw [← hd] at this
                  simp [Act.eval, this]
                rw [hev]; exact hf
              · have htj : (ops.toList.take qs.length)[j]? = some oj := by rw [List.getElem?_take, if_pos hj, Array.getElem?_toList]; exact hoj
                have hne : o.dst ≠ some dj := fun h => by
                  have : d = dj := Option.some.inj (hd.symm.trans h)
                  exact hallD j oj htj e (by rw [this]; exact hdj)
                rw [eval_of_get (put_other a o.dst v dj hne)]
                refine Fk.mono _ _ w w' (hm.has j oj dj hj hoj hdj ?_) hb
                have hne2 : i ≠ j := fun h => e h.symm
                simpa [Array.getElem?_setIfInBounds, hne2] using hlj
            · have hne : i ≠ j := by omega
              have := hm.last j hj1 hj2
              simpa [Array.getElem?_setIfInBounds, hne] using this
          have hyield : ∀ (j : Nat) (b c : Bool), o.guard = some (j, b) → (∃ d, depOk ops.toList qs.length o j d = true) → (∀ v w, fkAt qs j v w → v = .bool c) → yielded ops a.tmps j = some c := by
            rintro j b c hg ⟨d, hd⟩ hbool
            have hv := hbool _ _ (hK.dep j d hd)
            have hd2 : (ops[j]?).bind (·.dst) = some d := by
              unfold depOk at hd
              simp only [Bool.and_eq_true, decide_eq_true_eq, beq_iff_eq, Array.getElem?_toList] at hd
              exact hd.2
            have hget : a.tmps[d]? = some (.bool c) := by
              simp only [Act.eval, Array.getD_eq_getD_getElem?] at hv
              cases hq : a.tmps[d]? with
              | none => rw [hq] at hv; simp [undef] at hv
              | some u => rw [hq] at hv; simp at hv; rw [hv]
            unfold yielded
            rw [hd2]
            simp only [Option.bind_some, hget]
          unfold wpOp
          rw [ho]
          show if Region.wanted o (yielded ops a.tmps) = true then _ else _
          have hyes : Region.wanted o (yielded ops a.tmps) = true → wantedBy qs o = true → (if Region.wanted o (yielded ops a.tmps) = true then o.wp P a w (wpAny P .any ops Q fuel (listed.setIfInBounds i true)) Q ∨ (o.asks P a w ∧ LetsOut Q) else wpAny P .any ops Q fuel (listed.setIfInBounds i true) (a.put o.dst undef) w) := by
            intro hwant hwb
            rw [if_pos hwant]
            refine .inl (Oper.wp_mono ?_ (hS.get i o hik (by rw [Array.getElem?_toList]; exact ho) hwb a w hK))
            rintro a' w' ⟨v, rfl, hb, hf⟩
            exact hnext v w' hb hf
          cases hg : o.guard with
          | none => exact hyes (by unfold Region.wanted; rw [hg]) (by unfold wantedBy; rw [hg])
          | some jb =>
            obtain ⟨j, b⟩ := jb
            obtain ⟨hdp, h2⟩ := guardsOk_spec hG i o j b hik (by rw [Array.getElem?_toList]; exact ho) hg
            rcases h2 with h2 | h2
            · refine hyes ?_ (by unfold wantedBy; rw [hg]; exact h2)
              unfold Region.wanted
              rw [hg]
              show (yielded ops a.tmps j == some b) = true
              rw [hyield j b b hg hdp (Fk.isBool_spec h2)]; simp
            · have hno : Region.wanted o (yielded ops a.tmps) = false := by
                unfold Region.wanted
                rw [hg]
                show (yielded ops a.tmps j == some b) = false
                rw [hyield j b (!b) hg hdp (Fk.isBool_spec h2.1)]; cases b <;> rfl
              rw [if_neg (by rw [hno]; simp)]
              exact hnext undef w (Below.refl _ _) (Fk.isAny_spec h2.2 _ _)
/-- A drawn region: its first operations by steps; then a store that may come ahead of number m, which only takes a value out; then the others. -/
theorem wp_region_late {id : Nat} {a0 : Act} {w : World} (qs : List Fk) (m dm : Nat) (so om : Oper) (rest : List Nat) (hm : P.follows .mixedOrders = true) (hk : decide (qs.length ≤ ops.size) = true) (hE : backOk ops.toList = true) (hC : coverBut ops.toList qs.length m = true) (hJ : chainOk ops (firstK qs.length ops.size) (qs.length :: rest) = true)
    (hJ2 : chainOk ops ((firstBut qs.length ops.size m).setIfInBounds qs.length true) (m :: rest) = true) (hso : ops[qs.length]? = some so) (hom : ops[m]? = some om) (hsf : storeFree so dm = true) (hmd : om.dst = some dm) (hmk : decide (m < qs.length) = true) (hmg : om.guard = none)
    (hD : dstsOk a0.tmps.size (ops.toList.take qs.length) = true) (hG : guardsOk ops.toList qs.length qs ops.toList qs = true)
    (hM : ∀ a w', Known ops.toList qs.length (fkAt qs) a0 w om a w' → ∃ v, (∀ w2, (execOp a.eval om).run P w2 = .ok (.value v) w2) ∧ fkAt qs m v w')
    (hS : Steps P Q ops.toList qs.length qs a0 w ops.toList qs)
    (hF : ∀ af w', Final ops.toList qs a0 af w' → Below w.heap.size w w' → ∃ w2, (execOp af.eval so).run P w' = .ok .skip w2 ∧ wpList P ops Q (rest.filterMap (ops[·]?)) af w2) :
    (Code.region id ops true).wp P Q a0 w := by
  refine wp_region_any hm ?_
  refine wp_mids_late m dm so om rest (of_decide_eq_true hk) hE hC hJ hJ2 hso hom hsf hmd hmk hmg hM hD hG hS hF ops.size _ a0 _ ?_ ?_ ?_
  · unfold unl
    exact Nat.le_trans (Array.countP_le_size) (by simp)
  · intro i o ho hl
    have : i < ops.size := (Array.getElem?_eq_some_iff.1 ho).1
    simp [this] at hl
  · refine ⟨rfl, rfl, by simp, fun _ _ => rfl, fun i o d _ ho _ hl => ?_, fun i _ hi => ?_, (Below.refl _ _).drew⟩
    · have : i < ops.size := (Array.getElem?_eq_some_iff.1 ho).1
      simp [this] at hl
    · simp [hi]
end
/-- A value that is taken out of a tuple. -/
theorem late_ext {P : Program} {a : Act} {o : Oper} {x : Operand} {k : Nat} {vs : Array Value} {v : Value} (ho : o.op = .extract x k) (hx : a.eval x = .tuple vs) (hk : vs[k]? = some v) : ∀ w, (execOp a.eval o).run P w = .ok (.value v) w := by
  intro w
  unfold execOp
  rw [ho]
  simp [hx, Instr.extract, hk]
theorem run_str {P : Program} {o : Oper} {a : Act} {w : World} (ty : TypeId) (x y : Operand) (ho : o.op = .store ty x y) (g : Nat) (cells : Array Value) (hx : a.eval x = .pointer (some ⟨g, 0, none⟩)) (hy : a.eval y = .agg cells)
    (t : TypeId) (old : Array Value) (hg : w.heap[g]? = some (.cells old t (0, 0))) (hi : (P.info? ty).map (·.size) = some cells.size) (hold : old.size = cells.size) (h1 : cells.all (·.oneCell') = true) : (execOp a.eval o).run P w = .ok .skip (w.setRow g cells) := by
  have := run_storeVar_row (P := P) w g t ty old cells hg hi hold h1
  unfold execOp
  rw [ho]
  simp [hx, hy, Instr.storeAt, Instr.sureAddr, this]
theorem run_store33 {o : Oper} {a : Act} {w : World} (x y : Operand) (ho : o.op = .store 33 x y) (g : Nat) (zs ys : List (BitVec 8)) (hx : a.eval x = .pointer (some ⟨g, 0, none⟩)) (hy : a.eval y = .agg (zs.map V).toArray) (hv : Ob w g 33 (ys.map V)) (hl : ys.length = 32) (hz : zs.length = 32) :
    (execOp a.eval o).run Tryd.prog w = .ok .skip (w.setRow g (zs.map V).toArray) :=
  run_str 33 x y ho g _ hx hy 33 _ hv (by rw [List.size_toArray, List.length_map, hz]; exact Tryd.size33) (by simp [hl, hz]) (V_all _)
end Go.Proofs.YtfmeeimhfdnjpaaDoor
namespace Go.Proofs.YtfmeeimhfdnjpaaDoor
set_option maxRecDepth 100000
open Go.RowKit
section
variable {P : Program} {ops : Array Oper} {Q : Exit → Act → World → Prop} {S : World → Prop} {o : Oper} {a : Act}
theorem wh_take (i : Nat) (d : Nat) {v : Value} {fuel : Nat} {listed : Array Bool} {w : World} (hi : ops[i]? = some o) (hd : o.dst = some d) (hsz : d < a.tmps.size) (hg : o.guard = none)
    (hs : Region.noSelect ops = true) (hf : Region.free .any ops listed i = true) (hr : (Region.ready .any ops listed).contains i = true)
    (hQ : ∀ c a w, Q (.panic c) (a.put o.dst v) w → Q (.panic c) a w) (hy : ∀ w, S w → (execOp a.eval o).run P w = .ok (.value v) w) (hS : S w)
    (h : ∀ a2, a2.defers = a.defers → a2.tmps.size = a.tmps.size → (∀ t, (t == d) = false → a2.eval (.tmp t) = a.eval (.tmp t)) → a2.eval (.tmp d) = v → wpAnyH P .any ops Q S fuel (listed.setIfInBounds i true) a2 w) : wpAnyH P .any ops Q S (fuel + 1) listed a w := by
  refine wpAnyH_take hi hs hf hr hQ (.inl ⟨by unfold Region.wanted; rw [hg], hy⟩) hS ?_
  rw [hd]
  exact h _ (put_def _ _ _) (put_size _ _ _) (fun t ht => put_eval_other _ _ _ _ (fun e => by subst e; simp at ht)) (put_eval_same _ _ _ hsz)
theorem wh_assign (i : Nat) (d : Nat) {fuel : Nat} {listed : Array Bool} {w : World} (hi : ops[i]? = some o) (hd : o.dst = some d) (hsz : d < a.tmps.size) (hg : o.guard = none) (hr : (Region.ready .any ops listed == [i]) = true) (x : Operand) (ho : o.op = .assign x) (hS : S w)
    (h : ∀ a2, a2.defers = a.defers → a2.tmps.size = a.tmps.size → (∀ t, (t == d) = false → a2.eval (.tmp t) = a.eval (.tmp t)) → a2.eval (.tmp d) = a.eval x → wpAnyH P .any ops Q S fuel (listed.setIfInBounds i true) a2 w) : wpAnyH P .any ops Q S (fuel + 1) listed a w := by
  refine wpAnyH_all (eq_of_beq hr) (by simp) (fun j hj => ?_)
  obtain rfl : j = i := by simpa using hj
  unfold wpOp
  rw [hi]
  show if Region.wanted o (yielded ops a.tmps) = true then _ else _
  rw [if_pos (by unfold Region.wanted; rw [hg])]
  refine .inl ?_
  unfold Oper.wp execOp
  rw [ho]
  show S w ∧ wpAnyH P .any ops Q S fuel _ (a.put o.dst (a.eval x)) w
  rw [hd]
  exact ⟨hS, h _ (put_def _ _ _) (put_size _ _ _) (fun t ht => put_eval_other _ _ _ _ (fun e => by subst e; simp at ht)) (put_eval_same _ _ _ hsz)⟩
theorem run_field {T f : Nat} {x : Operand} (ho : o.op = .fieldAddr T x f) {p r : Addr} (hx : a.eval x = .pointer (some p)) (hr : ∀ w, (Instr.fieldAt T (.pointer (some p)) f).run P w = .ok (.pointer (some r)) w) : ∀ w, S w → (execOp a.eval o).run P w = .ok (.value (.pointer (some r))) w := by
  intro w _
  unfold execOp
  rw [ho]
  simp [hx, hr]
theorem run_loadc {T : TypeId} {x : Operand} (ho : o.op = .load T x) (h1 : ∀ w, (isAgg T).run P w = .ok false w) {p : Addr} {u : Value} (hx : a.eval x = .pointer (some p)) (hc : ∀ w, S w → w.cell? p = some u) : ∀ w, S w → (execOp a.eval o).run P w = .ok (.value u) w := by
  intro w hS
  unfold execOp
  rw [ho]
  simp [hx, Instr.loadAt, Instr.sureAddr, loadVar, h1, run_load, hc w hS]
theorem run_mv {x : Operand} (ho : o.op = .move x) {v : Value} (hx : a.eval x = v) : ∀ w, S w → (execOp a.eval o).run P w = .ok (.value v) w := by
  intro w _
  unfold execOp
  rw [ho, ← hx]
  rfl
end
end Go.Proofs.YtfmeeimhfdnjpaaDoor
namespace Go.Proofs.YtfmeeimhfdnjpaaDoor
set_option maxRecDepth 100000
open Go.RowKit
theorem hc_first {P : List (List (BitVec 8))} {A : Option Addr} {C : Nat} {w : World} {st : List (BitVec 8)} (h : (Fk.hc P).f (.slice A P.length C) w) (h0 : P[0]? = some st) : ∃ lb lo, A = some ⟨lb, lo, none⟩ ∧ lb < w.heap.size ∧ w.rangeAt lb lo (st.map V) ∧ st.length = 32 := by
  obtain ⟨A', C', lb, lo, e, hc, hl⟩ := h
  cases e
  have hp : 0 < P.length := (List.getElem?_eq_some_iff.1 h0).1
  obtain ⟨h1, h2⟩ := hl.all 0 st h0
  refine ⟨lb, lo, hl.ptr hp, hl.lt hp, fun j v hj => ?_, h1⟩
  have hjl : j < st.length := by have := (List.getElem?_eq_some_iff.1 hj).1; simpa using this
  have := h2 j hjl
  rw [Nat.zero_mul, Nat.add_zero] at this
  rw [this]
  rw [List.getElem?_map, List.getElem?_eq_getElem hjl] at hj
  simp only [Option.map_some, Option.some.injEq] at hj
  rw [← hj]
  simp [V, hjl]
section
variable {S : World → Prop} {o : Oper} {a : Act} {Q : Exit → Act → World → Prop} {ops : Array Oper}
theorem run_idxv {x y : Operand} (ho : o.op = .indexAddr 35 x y) {A : Option Addr} {m C lb lo : Nat} (hx : a.eval x = .slice A m C) (hA : A = some ⟨lb, lo, none⟩) (hy : a.eval y = .int .i64 0) (hm : 0 < m) : ∀ w, S w → (execOp a.eval o).run Tryd.prog w = .ok (.value (.pointer (some ⟨lb, lo, none⟩))) w := by
  intro w _
  subst hA
  have h1 := run_indexAt_slice (P := Tryd.prog) (w := w) 35 ⟨lb, lo, none⟩ m C .i64 0 (by rw [Tryd.elem35]; exact Tryd.under35')
  rw [if_pos (by omega), Tryd.elem35, Tryd.sizeOf33] at h1
  simp only [Result.andThen_ok, Int.toNat_zero, Nat.zero_mul] at h1
  have h2 : (⟨lb, lo, none⟩ : Addr).add 0 = ⟨lb, lo, none⟩ := by simp [Addr.add]
  rw [h2] at h1
  unfold execOp
  rw [ho]
  simp [hx, hy, h1]
theorem run_ldh {x : Operand} (ho : o.op = .load 33 x) {lb lo : Nat} {st : List (BitVec 8)} (hl : st.length = 32) (hx : a.eval x = .pointer (some ⟨lb, lo, none⟩)) (hr : ∀ w, S w → w.rangeAt lb lo (st.map V)) : ∀ w, S w → (execOp a.eval o).run Tryd.prog w = .ok (.value (.agg (st.map V).toArray)) w := by
  intro w hS
  have := run_loadVar_mid (P := Tryd.prog) w lb lo 33 (st.map V) _ (hr w hS) Tryd.under33 rfl (by rw [List.length_map, hl]; exact Tryd.size33)
  unfold execOp
  rw [ho]
  simp [hx, Instr.loadAt, Instr.sureAddr, this]
theorem wh_store (i : Nat) {fuel : Nat} {listed : Array Bool} {w : World} (hi : ops[i]? = some o) (hd : o.dst = none) (hg : o.guard = none) (hr : (Region.ready .any ops listed == [i]) = true) (x y : Operand) (ho : o.op = .store 33 x y) (g : Nat) (zs ys : List (BitVec 8)) (hx : a.eval x = .pointer (some ⟨g, 0, none⟩)) (hy : a.eval y = .agg (zs.map V).toArray) (hv : Ob w g 33 (ys.map V)) (hl : ys.length = 32) (hz : zs.length = 32)
    (hS : S (w.setRow g (zs.map V).toArray)) (h : wpAnyH Tryd.prog .any ops Q S fuel (listed.setIfInBounds i true) a (w.setRow g (zs.map V).toArray)) : wpAnyH Tryd.prog .any ops Q S (fuel + 1) listed a w := by
  refine wpAnyH_all (eq_of_beq hr) (by simp) (fun j hj => ?_)
  obtain rfl : j = i := by simpa using hj
  have hrun := run_store33 (a := a) x y ho g zs ys hx hy hv hl hz
  unfold wpOp
  rw [hi]
  show if Region.wanted o (yielded ops a.tmps) = true then _ else _
  rw [if_pos (by unfold Region.wanted; rw [hg])]
  refine .inl ?_
  unfold Oper.wp
  rw [hrun]
  show S _ ∧ wpAnyH Tryd.prog .any ops Q S fuel _ (a.put o.dst undef) _
  rw [hd]
  exact ⟨hS, h⟩
theorem run_lenT {T E : Nat} (hu : Tryd.prog.underlying T = some (.slice E)) (he : Tryd.prog.elem T = E) {x : Operand} (ho : o.op = .call { callee := .builtin .len, args := #[x], argTypes := #[T] }) {A : Option Addr} {m C : Nat} (hx : a.eval x = .slice A m C) : ∀ w, S w → (execOp a.eval o).run Tryd.prog w = .ok (.value (.int .i64 ((m : Nat) : Int))) w := by
  intro w _
  have h1 := run_len_slice (P := Tryd.prog) (w := w) T o.type A m C (by rw [he]; exact hu)
  unfold execOp
  simp [ho, resolve, invoke, builtin, hx, h1, goInt]
theorem wh_alloc (i d : Nat) {fuel : Nat} {listed : Array Bool} {w : World} (hi : ops[i]? = some o) (hd : o.dst = some d) (hsz : d < a.tmps.size) (hg : o.guard = none) (hr : (Region.ready .any ops listed == [i]) = true) (ho : o.op = .alloc 33)
    (hS : S (w.alloc (.cells (hz.map V).toArray 33))) (h : ∀ a2, a2.defers = a.defers → a2.tmps.size = a.tmps.size → (∀ t, (t == d) = false → a2.eval (.tmp t) = a.eval (.tmp t)) → a2.eval (.tmp d) = .pointer (some ⟨w.heap.size, 0, none⟩) → wpAnyH Tryd.prog .any ops Q S fuel (listed.setIfInBounds i true) a2 (w.alloc (.cells (hz.map V).toArray 33))) : wpAnyH Tryd.prog .any ops Q S (fuel + 1) listed a w := by
  refine wpAnyH_all (eq_of_beq hr) (by simp) (fun j hj => ?_)
  obtain rfl : j = i := by simpa using hj
  have hrun : (execOp a.eval o).run Tryd.prog w = .ok (.value (.pointer (some ⟨w.heap.size, 0, none⟩))) (w.alloc (.cells (hz.map V).toArray 33)) := by
    have h1 : (Instr.alloc 33 true (.tuple #[])).run Tryd.prog w = .ok (.pointer (some ⟨w.heap.size, 0, none⟩)) (w.alloc (.cells (hz.map V).toArray 33)) := by kernel_rfl
    unfold execOp
    rw [ho]
    simp [h1]
  unfold wpOp
  rw [hi]
  show if Region.wanted o (yielded ops a.tmps) = true then _ else _
  rw [if_pos (by unfold Region.wanted; rw [hg])]
  refine .inl ?_
  unfold Oper.wp
  rw [hrun]
  show S _ ∧ wpAnyH Tryd.prog .any ops Q S fuel _ (a.put o.dst _) _
  rw [hd]
  exact ⟨hS, h _ (put_def _ _ _) (put_size _ _ _) (fun t ht => put_eval_other _ _ _ _ (fun e => by subst e; simp at ht)) (put_eval_same _ _ _ hsz)⟩
end
end Go.Proofs.YtfmeeimhfdnjpaaDoor
