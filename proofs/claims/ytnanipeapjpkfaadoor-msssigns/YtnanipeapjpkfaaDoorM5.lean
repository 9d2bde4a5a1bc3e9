/- What lamport.Bits hands back. What the reference's Bit and the law's awake hand back. Regions inside a round of a range over a function: what is shown of a region anywhere serves in a round. Steps over numbers, slice variables and rows of 512 hashes; the calls of lamport as steps meet them. Made by gen_rc.py. What lamport.Sign hands back. Made by gen_re.py. What lamport.Recover hands back. What lamport.Public hands back. What the law's ends hands back. The calls of lamport and of ends as the laws' steps meet them. The calls of Public and Sign as steps meet them; what a signature leads to. -/
import Derived.Test.YtnanipeapjpkfaaDoorM4
import Derived.Laws.MakeOwn
import Derived.Laws.Rows
import Derived.Laws.Tables
import Derived.OrdersIn
import Derived.Deep.MidRow
namespace Go.Proofs.YtnanipeapjpkfaaDoor
set_option maxRecDepth 100000
open Go.RowKit Go.Shelf
attribute [local go_sem] Oper.semAt_some
/-- A number in a cell. -/
def NV (n : Nat) : Value := .int .i64 (n : Int)
/-- Block b of the world is a row of numbers. -/
def HasN (w : World) (b : Nat) (ds : List Nat) : Prop := w.heap[b]? = some (.cells (ds.map NV).toArray 3 (0, 0))
theorem HasN.cell {w : World} {b : Nat} {ds : List Nat} (h : HasN w b ds) (i d : Nat) (hi : ds[i]? = some d) : w.cell? ⟨b, i, none⟩ = some (.int .i64 (d : Int)) := by
  unfold HasN at h
  simp [World.cell?, h, hi, NV]
theorem HasN.frozen {w : World} {b : Nat} {ds : List Nat} (h : HasN w b ds) (i : Nat) : w.frozen? ⟨b, i, none⟩ = false := by
  unfold HasN at h
  simp [World.frozen?, h]
theorem HasN.set {w : World} {b : Nat} {ds : List Nat} (h : HasN w b ds) (i x : Nat) : HasN (w.setCell ⟨b, i, none⟩ (.int .i64 (x : Int))) b (ds.set i x) := by
  unfold HasN at *
  simp [World.setCell, Array.getElem?_modify, h, NV, List.map_set]
theorem HasN.lt {w : World} {b : Nat} {ds : List Nat} (h : HasN w b ds) : b < w.heap.size := (Array.getElem?_eq_some_iff.1 h).1
/-- Noughts. -/
def zns (n : Nat) : List Nat := List.replicate n 0
theorem zns_len (n : Nat) : (zns n).length = n := by simp [zns]
theorem made_zns (n : Nat) : madeCells #[.int .i64 0] n = ((zns n).map NV).toArray := by
  unfold zns
  apply Array.ext (by simp [size_madeCells])
  intro i h1 h2
  simp [madeCells, NV, Nat.mod_one]
/-- 256 noughts. -/
def znL : List Nat := zns 256
theorem zn_len : znL.length = 256 := zns_len 256
theorem made_zn : madeCells #[.int .i64 0] 256 = (znL.map NV).toArray := made_zns 256
theorem Tryd.u23 : Tryd.prog.underlying 23 = some (.array 32 5) := by kernel_rfl
theorem Tryd.s23 : (Tryd.prog.info? 23).map (·.size) = some 32 := by kernel_rfl
theorem Tryd.info3n : (Tryd.prog.info? 3).map (fun i => (i.zero, i.size, i.bytes)) = some (some (.int .i64 0), 1, 8) := by kernel_rfl
theorem Tryd.underI : Tryd.prog.underlying 75 = some (.slice 3) := by kernel_rfl
theorem Tryd.makeI (w : World) : (Instr.makeSlice 75 (.int .i64 256) (.int .i64 256)).run Tryd.prog w = .ok (.slice (some ⟨w.heap.size, 0, none⟩) 256 256) (w.alloc (.cells (znL.map NV).toArray 3)) := by
  obtain ⟨i0, hi, hz0, hz1, hz2⟩ := info_parts Tryd.info3n
  have := run_make (P := Tryd.prog) w 75 3 i0 _ Tryd.underI hi hz0 .i64 .i64 256 256 (by omega) (by omega) (by rw [hz2]; omega) (by omega)
  rw [hz1] at this
  rw [← made_zn]
  exact this
/-- All bits. -/
def bts (h : List (BitVec 8)) : List Nat := (List.range 256).map (bt h)
theorem bts_len (h : List (BitVec 8)) : (bts h).length = 256 := by simp [bts]
theorem bts_at (h : List (BitVec 8)) (i : Nat) (hi : i < 256) : (bts h)[i]? = some (bt h i) := by simp [bts, hi]
/-- What is told of a row of numbers when some of the bits have come. -/
def Told (h : List (BitVec 8)) (pre : List (Fin 256)) (ds : List Nat) : Prop := ds.length = 256 ∧ ∀ p ∈ pre, ds[p.val]? = some (bt h p.val)
theorem told_nil (h : List (BitVec 8)) : Told h [] znL := ⟨zn_len, fun _ hp => by cases hp⟩
theorem told_snoc {h : List (BitVec 8)} {pre : List (Fin 256)} {ds : List Nat} (ht : Told h pre ds) (p : Fin 256) : Told h (pre ++ [p]) (ds.set p.val (bt h p.val)) := by
  refine ⟨by rw [List.length_set]; exact ht.1, fun q hq => ?_⟩
  by_cases e : q = p
  · subst e; rw [List.getElem?_set_self (by rw [ht.1]; exact q.isLt)]
  · rw [List.getElem?_set_ne (fun h => e (Fin.ext h.symm))]
    rcases List.mem_append.1 hq with h1 | h1
    · exact ht.2 q h1
    · exact absurd (List.mem_singleton.1 h1) e
theorem told_all {h : List (BitVec 8)} {ds : List Nat} (ht : Told h (ups 256) ds) : ds = bts h := by
  apply List.ext_getElem? 
  intro i
  by_cases hi : i < 256
  · rw [bts_at h i hi]; exact ht.2 ⟨i, hi⟩ (ups_all _)
  · rw [List.getElem?_eq_none (by rw [ht.1]; omega), List.getElem?_eq_none (by rw [bts_len]; omega)]
theorem block_alloc {w : World} {b : Nat} {o p : Obj} (h : w.heap[b]? = some o) : (w.alloc p).heap[b]? = some o := (Below.heap_alloc w p b (Array.getElem?_eq_some_iff.1 h).1).trans h
theorem any_world {P : Program} {c : Code} {Q : Exit → Act → World → Prop} {a : Act} {w : World} (F : World → Prop) (hF : F w) (h : ∀ w2, F w2 → Code.wp P c Q a w2) : Code.wp P c Q a w := h w hF
/-- A variable that holds a slice. -/
def HasS (w : World) (b : Nat) (T : TypeId) (v : Value) : Prop := w.heap[b]? = some (.cells #[v] T (0, 0))
theorem HasS.cell {w : World} {b : Nat} {T : TypeId} {v : Value} (h : HasS w b T v) : w.cell? ⟨b, 0, none⟩ = some v := by
  unfold HasS at h
  simp [World.cell?, h]
theorem block_setCell {w : World} {a : Addr} {v : Value} {b : Nat} {o : Obj} (h : w.heap[b]? = some o) (hne : b ≠ a.block) : (w.setCell a v).heap[b]? = some o := by
  rw [heap_setCell_other _ _ _ _ hne]; exact h
end Go.Proofs.YtnanipeapjpkfaaDoor
namespace Go.Proofs.YtnanipeapjpkfaaDoor
set_option maxRecDepth 100000
open Go.RowKit
/-- The hash that begins with 160. -/
def h160 : List (BitVec 8) := [160, 0, 0, 0, 0, 0, 0, 0, 0, 0, 0, 0, 0, 0, 0, 0, 0, 0, 0, 0, 0, 0, 0, 0, 0, 0, 0, 0, 0, 0, 0, 0]
theorem h160_bits : bt h160 0 = 1 ∧ bt h160 1 = 0 ∧ bt h160 2 = 1 ∧ bt h160 3 = 0 ∧ bt h160 255 = 0 := by decide
theorem Tryd.build160 (w : World) : (Instr.build 23 #[(0, .int .u8 160)]).run Tryd.prog w = .ok (.agg (h160.map V).toArray) w := by kernel_rfl
end Go.Proofs.YtnanipeapjpkfaaDoor
namespace Go.Proofs.YtnanipeapjpkfaaDoor
set_option maxRecDepth 100000
open Go.RowKit
/-- No operation defers a call. -/
def plainB (o : Oper) : Bool := match o.op with
  | .defer _ => false
  | _ => true
theorem plain_ne {o : Oper} (h : plainB o = true) : ∀ c, o.op ≠ .defer c := by
  intro c e
  unfold plainB at h
  rw [e] at h
  cases h
section
variable {P : Program} {Q : Exit → Act → World → Prop} {l n : Nat}
theorem in_oper {o : Oper} {a : Act} {w : World} {K K' : Act → World → Prop} (hd : plainB o = true) (hQ : ¬ LetsOut Q) (hK : ∀ a w, K a w → K' a w)
    (h : o.wp P a w K Q ∨ (o.asks P a w ∧ LetsOut Q)) : o.wpIn (Fence.wide.inRound l) n P a w K' Q := by
  rcases h with h | h
  · refine ⟨fun _ _ => trivial, ?_⟩
    rw [Oper.semAt_eq _ _ _ (plain_ne hd)]
    unfold Oper.wp at h
    generalize (execOp a.eval o).run P w = r at *
    cases r with
    | ok x w' =>
      cases x <;> simp only [Oper.upon, Oper.uponIn] at h ⊢ <;>
        first
          | exact hK _ _ h
          | exact h.elim
          | exact ⟨fun h => (by cases h), CallsIn.inRound l (callsIn_wide.2 (Calls.mono h (fun e w'' he => by cases e <;> first | exact hK _ _ he | exact he)))⟩
          | exact ⟨fun h => (by cases h), fun c cs _ => by obtain ⟨v, w', hr, hs⟩ := h c cs; exact ⟨v, w', hK _ _ hr, stepsIn_wide.2 hs⟩⟩
    | halt x w' => cases x <;> simp only [Oper.upon, Oper.uponIn] at h ⊢ <;> exact h
  · exact absurd h.2 hQ
theorem in_list {ops : Array Oper} (hQ : ¬ LetsOut Q) : ∀ (L : List Oper) (a : Act) (w : World), L.all plainB = true → wpList P ops Q L a w → wpListIn (Fence.wide.inRound l) n P ops Q L a w
  | [], _, _, _, h => h
  | o :: rest, a, w, hd, h => by
    simp only [List.all_cons, Bool.and_eq_true] at hd
    unfold wpList at h
    unfold wpListIn
    by_cases hw : Region.wanted o (yielded ops a.tmps) = true
    · rw [if_pos hw] at h ⊢
      exact in_oper hd.1 hQ (fun a w h => in_list hQ rest a w hd.2 h) h
    · rw [if_neg hw] at h ⊢
      exact ⟨fun _ _ => trivial, in_list hQ rest _ _ hd.2 h⟩
theorem in_any {md : Region.Mode} {ops : Array Oper} (hd : ops.toList.all plainB = true) (hQ : ¬ LetsOut Q) : ∀ (fuel : Nat) (listed : Array Bool) (a : Act) (w : World), wpAny P md ops Q fuel listed a w → wpAnyIn (Fence.wide.inRound l) n P md ops Q fuel listed a w
  | 0, _, _, _, h => h
  | fuel + 1, listed, a, w, h => by
    refine ⟨h.1, fun i hi => ?_⟩
    have h2 := h.2 i hi
    unfold wpOp at h2
    unfold wpOpIn
    cases ho : ops[i]? with
    | none =>
      simp only [ho] at h2
      exact in_any hd hQ fuel _ _ _ h2
    | some o =>
      simp only [ho] at h2
      have hp : plainB o = true := List.all_eq_true.1 hd o (List.mem_of_getElem? (by rw [Array.getElem?_toList]; exact ho))
      by_cases hw : Region.wanted o (yielded ops a.tmps) = true
      · simp only [hw, if_true] at h2 ⊢
        exact in_oper hp hQ (fun a w h => in_any hd hQ fuel _ a w h) h2
      · simp only [hw] at h2 ⊢
        exact ⟨fun _ _ => trivial, in_any hd hQ fuel _ _ _ h2⟩
variable {ops : Array Oper}
/-- A region in the text's order, in a round. -/
theorem in_region_seq {id : Nat} {a0 : Act} {w : World} (qs : List Fk) (hQ : ¬ LetsOut Q) (hp : ops.toList.all plainB = true) (hk : decide (qs.length ≤ ops.size) = true) (hE : backOk ops.toList = true)
    (hD : dstsOk a0.tmps.size (ops.toList.take qs.length) = true) (hG : guardsOk ops.toList qs.length qs ops.toList qs = true)
    (hS : Steps P Q ops.toList qs.length qs a0 w ops.toList qs)
    (hF : ∀ af w', Final ops.toList qs a0 af w' → Below w.heap.size w w' → wpList P ops Q (ops.toList.drop qs.length) af w') :
    (Code.region id ops false).wpIn (Fence.wide.inRound l) n P Q a0 w :=
  wpIn_region_list (in_list hQ _ _ _ hp (wp_list_seq qs (of_decide_eq_true hk) hE hD hG hS hF qs.length 0 a0 w (by omega) ⟨rfl, rfl, fun _ _ => rfl, fun j _ _ hj => absurd hj (by omega), Below.refl _ _⟩))
/-- A drawn region, in a round. -/
theorem in_region_tail {id : Nat} {a0 : Act} {w : World} (qs : List Fk) (js : List Nat) (hQ : ¬ LetsOut Q) (hp : ops.toList.all plainB = true) (hm : P.follows .mixedOrders = true) (hk : decide (qs.length ≤ ops.size) = true) (hE : backOk ops.toList = true) (hC : coverOk ops.toList qs.length = true) (hJ : chainOk ops (firstK qs.length ops.size) js = true)
    (hD : dstsOk a0.tmps.size (ops.toList.take qs.length) = true) (hG : guardsOk ops.toList qs.length qs ops.toList qs = true)
    (hS : Steps P Q ops.toList qs.length qs a0 w ops.toList qs)
    (hF : ∀ af w', Final ops.toList qs a0 af w' → Below w.heap.size w w' → wpList P ops Q (js.filterMap (ops[·]?)) af w') :
    (Code.region id ops true).wpIn (Fence.wide.inRound l) n P Q a0 w := by
  refine wpIn_region_any hm (in_any hp hQ _ _ _ _ ?_)
  refine wp_mids_tail js (of_decide_eq_true hk) hE hC hJ hD hG hS hF ops.size _ a0 _ ?_ ?_ ?_
  · unfold unl
    exact Nat.le_trans (Array.countP_le_size) (by simp)
  · intro i o ho hl
    have : i < ops.size := (Array.getElem?_eq_some_iff.1 ho).1
    simp [this] at hl
  · refine ⟨rfl, rfl, by simp, fun _ _ => rfl, fun i o d _ ho _ hl => ?_, fun i _ hi => ?_, (Below.refl _ _).drew⟩
    · have : i < ops.size := (Array.getElem?_eq_some_iff.1 ho).1
      simp [this] at hl
    · simp [hi]
end
end Go.Proofs.YtnanipeapjpkfaaDoor
namespace Go.Proofs.YtnanipeapjpkfaaDoor
set_option maxRecDepth 100000
open Go.RowKit
theorem sc_to (seed : List (BitVec 8)) (key : Int) (p b : Nat) (w : World) (hx : seed.length = 32) (hp : p ≤ 255) (hb : b ≤ 1) (hK : Tab w) {y : List (BitVec 8)} (hy : Box (sc seed key p b = y)) :
    Calls Tryd.prog 48 #[.agg (seed.map V).toArray, .int .i64 key, .int .i64 (p : Int), .int .i64 (b : Int)] w fun e w' => e = .returned (.agg (y.map V).toArray) ∧ Below w.heap.size w w' := by
  rw [← hy.out]; exact sc_any seed key p b w hx hp hb hK
theorem en_to (x : List (BitVec 8)) (p b : Nat) (w : World) (hx : x.length = 32) (hp : p ≤ 255) (hK : Tab w) {y : List (BitVec 8)} (hy : Box (en x p b = y)) :
    Calls Tryd.prog 49 #[.agg (x.map V).toArray, .int .i64 (p : Int), .int .i64 (b : Int)] w fun e w' => e = .returned (.agg (y.map V).toArray) ∧ Below w.heap.size w w' := by
  rw [← hy.out]; exact en_any x p b w hx hp hK
theorem fk_public_to {hs : List (List (BitVec 8))} {v : Value} {w : World} (hN : hs.length ≤ 1000) (hK : Tab w) (h : (Fk.hs hs).f v w) {y : List (BitVec 8)} (hy : Box (pub hs = y)) : Calls Tryd.prog 52 #[v] w fun e w' => ∃ u, e = .returned u ∧ (Fk.eq (.agg (y.map V).toArray)).f u w' ∧ Below w.heap.size w w' := by
  rw [← hy.out]; exact fk_public hN hK h
theorem Tryd.enter37 (args : Array Value) (w : World) : (callFunc 37 args).run Tryd.prog w = .ok (.enter 37 args) w := by kernel_rfl
theorem Tryd.enter18 (args : Array Value) (w : World) : (callFunc 18 args).run Tryd.prog w = .ok (.enter 18 args) w := by kernel_rfl
theorem Tryd.enter23 (args : Array Value) (w : World) : (callFunc 23 args).run Tryd.prog w = .ok (.enter 23 args) w := by kernel_rfl
theorem Tryd.enter46 (args : Array Value) (w : World) : (callFunc 46 args).run Tryd.prog w = .ok (.enter 46 args) w := by kernel_rfl
theorem Tryd.enter49 (args : Array Value) (w : World) : (callFunc 49 args).run Tryd.prog w = .ok (.enter 49 args) w := by kernel_rfl
theorem Tryd.enter48 (args : Array Value) (w : World) : (callFunc 48 args).run Tryd.prog w = .ok (.enter 48 args) w := by kernel_rfl
theorem Tryd.isAgg32 (w : World) : (isAgg 32).run Tryd.prog w = .ok false w := by kernel_rfl
/-- A pointer to a variable that holds v. -/
def Fk.pv (u : Value) : Fk := .inr (.inl ⟨fun v w => ∃ b o, v = .pointer (some ⟨b, o, none⟩) ∧ w.cell? ⟨b, o, none⟩ = some u, by
  rintro v w w' ⟨b, o, e, h⟩ hb
  exact ⟨b, o, e, by rw [hb.cell (block_lt_of_cell h)]; exact h⟩⟩)
/-- A pointer to a variable that holds a slice of hashes. -/
def Fk.pw (hs : List (List (BitVec 8))) : Fk := .inr (.inl ⟨fun v w => ∃ b o u, v = .pointer (some ⟨b, o, none⟩) ∧ w.cell? ⟨b, o, none⟩ = some u ∧ (Fk.hs hs).f u w, by
  rintro v w w' ⟨b, o, u, e, h, h2⟩ hb
  exact ⟨b, o, u, e, by rw [hb.cell (block_lt_of_cell h)]; exact h, Fk.mono _ _ _ _ h2 hb⟩⟩)
section
variable {Q : Exit → Act → World → Prop} {o : Oper} {a : Act} {w : World} {q : Fk} {ops : Array Oper} {rest : List Oper}
theorem st_loadv (x : Operand) (ho : o.op = .load 32 x) {u : Value} (h : (Fk.pv u).f (a.eval x) w) : o.wp Tryd.prog a w (Ends a o.dst w (Fk.eq u).f) Q := by
  obtain ⟨b, so, e, hc⟩ := h
  refine st_pure (v := u) ?_ rfl
  have h1 : (isAgg 32).run Tryd.prog w = .ok false w := Tryd.isAgg32 w
  unfold execOp
  rw [ho]
  simp [e, Instr.loadAt, Instr.sureAddr, loadVar, h1, run_load, hc]
theorem st_loadw (x : Operand) (ho : o.op = .load 32 x) {hs : List (List (BitVec 8))} (h : (Fk.pw hs).f (a.eval x) w) : o.wp Tryd.prog a w (Ends a o.dst w (Fk.hs hs).f) Q := by
  obtain ⟨b, so, u, e, hc, hu⟩ := h
  refine st_pure (v := u) ?_ hu
  have h1 : (isAgg 32).run Tryd.prog w = .ok false w := Tryd.isAgg32 w
  unfold execOp
  rw [ho]
  simp [e, Instr.loadAt, Instr.sureAddr, loadVar, h1, run_load, hc]
theorem st_idxrow (x y : Operand) (ho : o.op = .indexAddr 32 x y) (g i : Nat) (hx : a.eval x = .slice (some ⟨g, 0, none⟩) 512 512) (hy : a.eval y = .int .i64 (i : Int)) (hi : i < 512) : o.wp Tryd.prog a w (Ends a o.dst w (Fk.eq (.pointer (some ⟨g, i * 32, none⟩))).f) Q := by
  refine st_pure (v := .pointer (some ⟨g, i * 32, none⟩)) ?_ rfl
  have h1 := run_indexAt_slice (P := Tryd.prog) (w := w) 32 ⟨g, 0, none⟩ 512 512 .i64 (i : Int) (by rw [Tryd.elem32]; exact Tryd.under32')
  rw [if_pos (by omega), Tryd.elem32, Tryd.sizeOf23] at h1
  simp only [Result.andThen_ok, Int.toNat_natCast, Addr.add_mid, Nat.zero_add] at h1
  unfold execOp
  rw [ho]
  simp [hx, hy, h1]
theorem st_add (x y : Operand) (ho : o.op = .binOp .add 3 x y 3) (m n e : Nat) (hx : a.eval x = .int .i64 (m : Int)) (hy : a.eval y = .int .i64 (n : Int)) (he : e = m + n) (hk : e ≤ 1000000) : o.wp Tryd.prog a w (Ends a o.dst w (Fk.eq (.int .i64 (e : Int))).f) Q := by
  refine st_pure (v := .int .i64 (e : Int)) ?_ rfl
  unfold execOp
  rw [ho]
  have hw : IntKind.i64.wrap ((m : Int) + (n : Int)) = (e : Int) := by rw [IntKind.wrap_i64]; omega
  simp [hx, hy, eqGuard, binOp, Op.intArith, hw]
theorem st_sub (x y : Operand) (ho : o.op = .binOp .sub 3 x y 3) (m n e : Nat) (hx : a.eval x = .int .i64 (m : Int)) (hy : a.eval y = .int .i64 (n : Int)) (he : e + n = m) (hk : m ≤ 1000000) : o.wp Tryd.prog a w (Ends a o.dst w (Fk.eq (.int .i64 (e : Int))).f) Q := by
  refine st_pure (v := .int .i64 (e : Int)) ?_ rfl
  unfold execOp
  rw [ho]
  have hw : IntKind.i64.wrap ((m : Int) - (n : Int)) = (e : Int) := by rw [IntKind.wrap_i64]; omega
  simp [hx, hy, eqGuard, binOp, Op.intArith, hw]
theorem st_mul (x y : Operand) (ho : o.op = .binOp .mul 3 x y 3) (m n e : Nat) (hx : a.eval x = .int .i64 (m : Int)) (hy : a.eval y = .int .i64 (n : Int)) (he : e = m * n) (hk : e ≤ 1000000) : o.wp Tryd.prog a w (Ends a o.dst w (Fk.eq (.int .i64 (e : Int))).f) Q := by
  refine st_pure (v := .int .i64 (e : Int)) ?_ rfl
  unfold execOp
  rw [ho]
  have hw : IntKind.i64.wrap ((m : Int) * (n : Int)) = (e : Int) := by rw [show (m : Int) * (n : Int) = (e : Int) by rw [he]; simp, IntKind.wrap_i64]; omega
  simp [hx, hy, eqGuard, binOp, Op.intArith, hw]
theorem wl_storew (hgd : o.guard = none) (x y : Operand) (ho : o.op = .store 23 x y) (hd : o.dst = none) (g i : Nat) (zs : List (BitVec 8)) (hs : List (List (BitVec 8))) (hx : a.eval x = .pointer (some ⟨g, i * 32, none⟩)) (hy : a.eval y = .agg (zs.map V).toArray) (hR : Rw w g hs) (hi : i < hs.length) (hz : zs.length = 32)
    (h : wpList Tryd.prog ops Q rest a (w.setCells g (i * 32) (zs.map V))) : wpList Tryd.prog ops Q (o :: rest) a w := by
  refine wpList_store_mid hgd 23 x y ho g (i * 32) (zs.map V).toArray hx hy (by rw [List.size_toArray, List.length_map, hz]; exact hR.there i hi) (by rw [List.size_toArray, List.length_map, hz]; exact Tryd.size23) (V_all _) ?_
  rw [hd]
  exact h
theorem st_exth (x : Operand) (ho : o.op = .extract x 0) {hs : List (List (BitVec 8))} {n : Int} (h : (Fk.th hs n).f (a.eval x) w) : o.wp Tryd.prog a w (Ends a o.dst w (Fk.hs hs).f) Q := by
  obtain ⟨u, e, hu⟩ := h
  exact st_ext0 x ho e hu
theorem st_extn (x : Operand) (ho : o.op = .extract x 1) {hs : List (List (BitVec 8))} {n : Int} (h : (Fk.th hs n).f (a.eval x) w) : o.wp Tryd.prog a w (Ends a o.dst w (Fk.eq (.int .i64 n)).f) Q := by
  obtain ⟨u, e, hu⟩ := h
  exact st_ext1 x ho e rfl
end
/-- Two of each place, when some of the bits have come. -/
def ToldH (F : Nat → List (BitVec 8)) (pre : List (Fin 256)) (hs : List (List (BitVec 8))) : Prop := hs.length = 512 ∧ ∀ p ∈ pre, hs[2 * p.val]? = some (F (2 * p.val)) ∧ hs[2 * p.val + 1]? = some (F (2 * p.val + 1))
theorem z512_len : z512.length = 512 := by unfold z512; rw [List.length_replicate]
theorem toldH_nil (F : Nat → List (BitVec 8)) : ToldH F [] z512 := ⟨z512_len, fun _ hp => by cases hp⟩
theorem toldH_snoc {F : Nat → List (BitVec 8)} {pre : List (Fin 256)} {hs : List (List (BitVec 8))} (ht : ToldH F pre hs) (p : Fin 256) (i j : Nat) (h : (i = 2 * p.val ∧ j = 2 * p.val + 1) ∨ (j = 2 * p.val ∧ i = 2 * p.val + 1)) :
    ToldH F (pre ++ [p]) ((hs.set i (F i)).set j (F j)) := by
  have hp := p.isLt
  have hl := ht.1
  have hat : ∀ k, k = i ∨ k = j → ((hs.set i (F i)).set j (F j))[k]? = some (F k) := by
    intro k hk
    by_cases e : j = k
    · subst e; rw [List.getElem?_set_self (by rw [List.length_set, hl]; omega)]
    · rw [List.getElem?_set_ne e]
      obtain rfl : k = i := by omega
      rw [List.getElem?_set_self (by rw [hl]; omega)]
  refine ⟨by rw [List.length_set, List.length_set]; exact hl, fun q hq => ?_⟩
  by_cases e : q = p
  · subst e
    exact ⟨hat _ (by omega), hat _ (by omega)⟩
  · have e' : q.val ≠ p.val := fun h => e (Fin.ext h)
    rw [List.getElem?_set_ne (by omega), List.getElem?_set_ne (by omega), List.getElem?_set_ne (by omega), List.getElem?_set_ne (by omega)]
    rcases List.mem_append.1 hq with h1 | h1
    · exact ht.2 q h1
    · exact absurd (List.mem_singleton.1 h1) e
theorem toldH_all {F : Nat → List (BitVec 8)} {hs : List (List (BitVec 8))} (ht : ToldH F (ups 256) hs) : hs = all512 F := by
  apply List.ext_getElem?
  intro i
  by_cases hi : i < 512
  · rw [all_atL F i hi]
    have := ht.2 ⟨i / 2, by omega⟩ (ups_all _)
    simp only at this
    rcases Nat.mod_two_eq_zero_or_one i with h | h
    · rw [show i = 2 * (i / 2) by omega]; exact this.1
    · rw [show i = 2 * (i / 2) + 1 by omega]; exact this.2
  · rw [List.getElem?_eq_none (by rw [ht.1]; omega), List.getElem?_eq_none (by rw [all_lenL]; omega)]
/-- What a signature has at number i. -/
def sgOf (seed : List (BitVec 8)) (key : Int) (h : List (BitVec 8)) (i : Nat) : List (BitVec 8) :=
  if i % 2 = 0 then sc seed key (i / 2) (bt h (i / 2)) else en (sc seed key (i / 2) (1 - bt h (i / 2))) (i / 2) (1 - bt h (i / 2))
theorem sgOf_len (seed : List (BitVec 8)) (key : Int) (h : List (BitVec 8)) (i : Nat) : (sgOf seed key h i).length = 32 := by
  unfold sgOf
  split
  · exact sc_len _ _ _ _
  · exact en_len _ _ _
theorem sgOf_even (seed : List (BitVec 8)) (key : Int) (h : List (BitVec 8)) (p : Nat) : sgOf seed key h (2 * p) = sc seed key p (bt h p) := by
  unfold sgOf
  rw [if_pos (by omega), show 2 * p / 2 = p by omega]
theorem sgOf_odd (seed : List (BitVec 8)) (key : Int) (h : List (BitVec 8)) (p : Nat) : sgOf seed key h (2 * p + 1) = en (sc seed key p (1 - bt h p)) p (1 - bt h p) := by
  unfold sgOf
  rw [if_neg (by omega), show (2 * p + 1) / 2 = p by omega]
/-- The end at number i. -/
def edOf (seed : List (BitVec 8)) (key : Int) (i : Nat) : List (BitVec 8) := en (sc seed key (i / 2) (i % 2)) (i / 2) (i % 2)
theorem edOf_at (seed : List (BitVec 8)) (key : Int) (p b : Nat) (hb : b ≤ 1) : edOf seed key (2 * p + b) = en (sc seed key p b) p b := by
  unfold edOf
  rw [show (2 * p + b) / 2 = p by omega, show (2 * p + b) % 2 = b by omega]
theorem edOf_len (seed : List (BitVec 8)) (key : Int) (i : Nat) : (edOf seed key i).length = 32 := en_len _ _ _
/-- What Recover has at number i. -/
def rcOf (h : List (BitVec 8)) (S : List (List (BitVec 8))) (i : Nat) : List (BitVec 8) :=
  if i % 2 = bt h (i / 2) then en (S.getD (2 * (i / 2)) []) (i / 2) (i % 2) else S.getD (2 * (i / 2) + 1) []
theorem rcOf_same (h : List (BitVec 8)) (S : List (List (BitVec 8))) (p b : Nat) (hb : bt h p = b) (x : List (BitVec 8)) (hx : S[2 * p]? = some x) : rcOf h S (2 * p + b) = en x p b := by
  have hle := bt_le h p
  unfold rcOf
  rw [show (2 * p + b) / 2 = p by omega, show (2 * p + b) % 2 = b by omega, if_pos hb.symm, List.getD_eq_getElem?_getD, hx]
  rfl
theorem rcOf_other (h : List (BitVec 8)) (S : List (List (BitVec 8))) (p c : Nat) (hc : c = 1 - bt h p) (x : List (BitVec 8)) (hx : S[2 * p + 1]? = some x) : rcOf h S (2 * p + c) = x := by
  have hle := bt_le h p
  unfold rcOf
  rw [show (2 * p + c) / 2 = p by omega, show (2 * p + c) % 2 = c by omega, if_neg (by omega), List.getD_eq_getElem?_getD, hx]
  rfl
theorem rc_sig (seed : List (BitVec 8)) (key : Int) (h : List (BitVec 8)) : all512 (rcOf h (all512 (sgOf seed key h))) = all512 (edOf seed key) := by
  unfold all512
  apply List.map_congr_left
  intro i hi
  have hi' : i < 512 := by simpa using hi
  have hle := bt_le h (i / 2)
  have e0 : ((List.range 512).map (sgOf seed key h))[2 * (i / 2)]? = some (sc seed key (i / 2) (bt h (i / 2))) := by
    have := all_atL (sgOf seed key h) (2 * (i / 2)) (by omega)
    rw [sgOf_even] at this
    exact this
  have e1 : ((List.range 512).map (sgOf seed key h))[2 * (i / 2) + 1]? = some (en (sc seed key (i / 2) (1 - bt h (i / 2))) (i / 2) (1 - bt h (i / 2))) := by
    have := all_atL (sgOf seed key h) (2 * (i / 2) + 1) (by omega)
    rw [sgOf_odd] at this
    exact this
  have ei : i = 2 * (i / 2) + i % 2 := by omega
  by_cases hb : bt h (i / 2) = i % 2
  · have := rcOf_same h _ (i / 2) (i % 2) hb _ e0
    rw [← ei, hb] at this
    rw [this]; rfl
  · have hc : i % 2 = 1 - bt h (i / 2) := by omega
    have := rcOf_other h _ (i / 2) (i % 2) hc _ e1
    rw [← ei, ← hc] at this
    rw [this]; rfl
/-- The row G alone was turned since W0. -/
theorem only_below {g : Nat} {A B C : World} (h : Only g A B) (hb : Below A.heap.size B C) : Only g A C :=
  ⟨hb.os.trans h.os, hb.tape.trans h.tape, hb.output.trans h.output, Nat.le_trans h.size hb.size, fun k hk hg => (hb.block k hk).trans (h.block k hk hg)⟩
theorem only_setCells {g : Nat} {A : World} : ∀ (vs : List Value) (o : Nat) (w : World), Only g A w → Only g A (w.setCells g o vs)
  | [], _, _, h => h
  | v :: r, o, _, h => only_setCells r (o + 1) _ (h.setCell o v)
theorem keeps_setCells {g : Nat} : ∀ (vs : List Value) (o : Nat) (w : World), KeepsOthers w (w.setCells g o vs)
  | [], _, _ => KeepsOthers.refl _
  | v :: r, o, w => (KeepsOthers.setCell w _ v).trans (keeps_setCells r (o + 1) _)
theorem keeps_below {w w' : World} (hb : Below w.heap.size w w') : KeepsOthers w w' := ⟨hb.size, fun k _ hk _ => (hb.block k (Array.getElem?_eq_some_iff.1 hk).1).trans hk⟩
/-- Only the row g was turned. -/
theorem HasV.onlyV {w w' : World} {g b : Nat} {T : TypeId} {xs : List (BitVec 8)} (h : HasV w b T xs) (hb : Only g w w') (hg : b ≠ g) : HasV w' b T xs := by
  have hl := h.lt
  unfold HasV at *
  rw [hb.block b hl hg]; exact h
theorem Rw.belowB {w w' : World} {g B : Nat} {hs : List (List (BitVec 8))} (h : Rw w g hs) (hb : Below B w w') (hB : g < B) : Rw w' g hs := by
  have hblk : w'.heap[g]? = w.heap[g]? := hb.block g hB
  refine ⟨⟨h.hl.ptr, fun _ => Nat.lt_of_lt_of_le h.lt hb.size, fun i x hi => ?_⟩, Nat.lt_of_lt_of_le h.lt hb.size, fun j => by rw [World.frozen?_of_block (w := w) hblk]; exact h.fz j⟩
  obtain ⟨h1, h2⟩ := h.hl.all i x hi
  exact ⟨h1, h2.below hb hB⟩
end Go.Proofs.YtnanipeapjpkfaaDoor
namespace Go.Proofs.YtnanipeapjpkfaaDoor
set_option maxRecDepth 100000
open Go.RowKit Go.Shelf
attribute [local go_sem] Oper.semAt_some
theorem frame_any {F : Fence} {n : Nat} {P : Program} {c : Code} {Q : Exit → Act → World → Prop} {a : Act} {w : World} (I : Act → Prop) (h0 : I a) (h : ∀ f, I f → Code.wpIn F n P c Q f w) : Code.wpIn F n P c Q a w := h a h0
theorem rw_block {w : World} {g : Nat} {hs : List (List (BitVec 8))} {o : Obj} (h : Rw w g hs) : Rw (w.alloc o) g hs := h.below ((Below.refl _ _).alloc (Nat.le_refl _) _)
set_option maxRecDepth 100000 in
set_option maxHeartbeats 2000000 in
theorem sign_okL (seed : List (BitVec 8)) (key : Nat) (h : List (BitVec 8)) (w : World) (hx : seed.length = 32) (hh : h.length = 32) (hk : key ≤ 2147483647) (hK : Tab w) :
    Calls Tryd.prog 18 #[.agg (seed.map V).toArray, .int .i64 (key : Int), .agg (h.map V).toArray] w fun e w' => ∃ g, e = .returned (.tuple #[.slice (some ⟨g, 0, none⟩) 512 512, .int .i64 0]) ∧ Rw w' g (all512 (sgOf seed key h)) ∧ w.heap.size ≤ g ∧ Below w.heap.size w w' := by
  refine (callsIn_wide (n := 6)).1 ?_
  have hmk := Tryd.make32L
  refine callsIn_of_wp_marks Tryd.func18 rfl trivial ?_ rfl
  simp only [Tryd.ntmps18, List.size_toArray, List.length_cons, List.length_nil, Nat.reduceAdd, Nat.reduceSub, Array.replicate_succ, Array.replicate_zero, List.push_toArray, List.append_toArray, List.nil_append, List.cons_append]
  refine wpIn_wide.2 ?_
  have hky := Box.mk (fun w => iskey_yesL key hk w)
  have hof := Box.mk (of_any h)
  have hsz : Box ((h.map V).toArray.size = 32) := ⟨by simp [hh]⟩
  obtain ⟨wA, hwA⟩ : ∃ wA, wA = ((w.alloc (Obj.cells (List.map V seed).toArray 23)).alloc (Obj.cells #[Value.int .i64 (key : Int)] 3)).alloc (Obj.cells (List.map V h).toArray 23) := ⟨_, rfl⟩
  obtain ⟨wB, hwB⟩ : ∃ wB, wB = (wA.alloc (Obj.cells mk512 23)).alloc (Obj.cells #[Value.slice (some { block := w.heap.size + 1 + 1 + 1, off := 0 }) 512 512] 32) := ⟨_, rfl⟩
  have hsA : wA.heap.size = w.heap.size + 1 + 1 + 1 := by rw [hwA]; simp
  have hvA : HasV wA (w.heap.size + 1 + 1) 23 h := by
    have := heap_alloc_new ((w.alloc (Obj.cells (List.map V seed).toArray 23)).alloc (Obj.cells #[Value.int .i64 (key : Int)] 3)) (Obj.cells (List.map V h).toArray 23)
    rw [World.size_alloc, World.size_alloc, ← hwA] at this
    exact this
  have hv : Box (HasV wB (w.heap.size + 1 + 1) 23 h) := ⟨by rw [hwB]; exact HasV.alloc (HasV.alloc hvA _) _⟩
  rw [hwB, hwA] at hv
  have hB : Box (w.heap.size + 1 + 1 + 1 = wA.heap.size) := ⟨hsA.symm⟩
  go_wp2_with (first | (go_at_call 46; refine (hky.out _).mono ?_; rintro e w' ⟨rfl, rfl⟩) | (refine wpList_load_row rfl 23 (.tmp 5) rfl (w.heap.size + 1 + 1) rfl 23 _ (0, 0) _ hv.out Tryd.u23 rfl (by rw [hsz.out]; exact Tryd.s23) ?_) | (go_at_call 47; refine (hof.out _).mono ?_; rintro e w' ⟨rfl, rfl⟩))
  clear hv hsz hof hmk hky
  rw [← hwA, ← hwB]
  refine any_world (fun W => HasV W w.heap.size 23 seed ∧ HasS W (w.heap.size + 1) 3 (.int .i64 (key : Int)) ∧ Rw W (w.heap.size + 1 + 1 + 1) z512 ∧ HasS W (w.heap.size + 1 + 1 + 1 + 1) 32 (.slice (some ⟨w.heap.size + 1 + 1 + 1, 0, none⟩) 512 512) ∧ HasV W (w.heap.size + 1 + 1 + 1 + 1 + 1) 23 h ∧ W.heap.size = w.heap.size + 6 ∧ Below w.heap.size w W) ?_ ?_
  · have hsB : wB.heap.size = w.heap.size + 1 + 1 + 1 + 1 + 1 := by rw [hwB]; simp [hsA]
    have hbA : Below w.heap.size w wA := by rw [hwA]; exact (((Below.refl _ _).alloc (Nat.le_refl _) _).alloc (by simp) _).alloc (by simp; omega) _
    have hbB : Below w.heap.size w wB := by rw [hwB]; exact ((hbA.alloc (by omega) _).alloc (by simp; omega) _)
    refine ⟨?_, ?_, ?_, ?_, ?_, by simp [hsB], hbB.alloc (by omega) _⟩
    · have h0 : HasV (w.alloc (Obj.cells (List.map V seed).toArray 23)) w.heap.size 23 seed := heap_alloc_new _ _
      rw [hwB, hwA]
      exact HasV.alloc (HasV.alloc (HasV.alloc (HasV.alloc (HasV.alloc h0 _) _) _) _) _
    · have h0 := heap_alloc_new (w.alloc (Obj.cells (List.map V seed).toArray 23)) (Obj.cells #[Value.int .i64 (key : Int)] 3)
      rw [World.size_alloc] at h0
      rw [hwB, hwA]
      exact block_alloc (block_alloc (block_alloc (block_alloc h0)))
    · have h0 := rw_newL wA
      rw [hsA] at h0
      rw [hwB]
      exact rw_block (rw_block h0)
    · have h0 := heap_alloc_new (wA.alloc (Obj.cells mk512 23)) (Obj.cells #[Value.slice (some { block := w.heap.size + 1 + 1 + 1, off := 0 }) 512 512] 32)
      rw [World.size_alloc, hsA, ← hwB] at h0
      exact block_alloc h0
    · have h0 := heap_alloc_new wB (Obj.cells (List.map V h).toArray 23)
      rw [hsB] at h0
      exact h0
  clear hwA hwB hsA hvA hB
  rintro W ⟨Zm3, Zk, ZR, Zs, hv, hsz, Zb⟩
  have Zc4 := Zk.cell
  have Zc8 := Zs.cell
  clear Zk Zs
  refine (wpIn_wide (n := 6)).1 ?_
  refine wpIn_rangeFunc_ownG rfl (by omega) (gf := 68) (lb := #[.pointer (some ⟨w.heap.size + 1 + 1 + 1 + 1 + 1, 0, none⟩)]) rfl trivial (enters_of Tryd.func68 (by kernel_rfl) rfl)
    (it_stops Fence.wide 5 trivial rfl (by omega) (w.heap.size + 1 + 1 + 1 + 1 + 1) h hh W hv) kg_t (kg_b (by omega)) (Below.refl _ _) (fun _ => rfl)
    (fun pre W1 => (∃ hs, Box (ToldH (sgOf seed key h) pre hs) ∧ Rw W1 (w.heap.size + 1 + 1 + 1) hs) ∧ Only (w.heap.size + 1 + 1 + 1) W W1)
    (fun _ _ _ => False)
    (fun s A B row hs hg hr => by
      obtain ⟨⟨hs', h1, h2⟩, h3⟩ := hs
      have hb : Below W.heap.size A B := (Below.refl _ _).grown hg h3.size (fun k e => (hr k e).1)
      exact ⟨⟨hs', h1, h2.belowB hb (by omega)⟩, only_below h3 hb⟩)
    (fun _ _ _ _ _ hs _ _ => hs)
    ⟨⟨z512, ⟨toldH_nil _⟩, ZR⟩, Only.refl _ _⟩
    (fun x => { tmps := #[Value.agg (List.map V seed).toArray, Value.int IntKind.i64 (key : Int), Value.agg (List.map V h).toArray,
          Value.pointer (some { block := w.heap.size, off := 0 }),
          Value.pointer (some { block := w.heap.size + 1, off := 0 }),
          Value.pointer (some { block := w.heap.size + 1 + 1, off := 0 }), Value.slice none 0 0,
          Value.int IntKind.i64 0, Value.pointer (some { block := w.heap.size + 1 + 1 + 1 + 1, off := 0 }), .int .i64 (x.val : Int),
          .int .i64 (bt h x.val : Int), undef, Value.int IntKind.i64 (key : Int), Value.bool true, Value.bool false,
          Value.slice (some { block := w.heap.size + 1 + 1 + 1, off := 0 }) 512 512, Value.agg (List.map V h).toArray,
          Value.func (Fn.func 68) #[] #[Value.pointer (some { block := w.heap.size + 1 + 1 + 1 + 1 + 1, off := 0 })],
          .int .i64 (x.val : Int), .int .i64 (bt h x.val : Int), undef, undef, undef, undef, undef, undef, undef, undef, undef, undef, undef, undef, undef,
          undef, undef, undef, undef, undef, undef, undef, undef, undef, undef, undef, undef], defers := [] }) ?assign ?body ?done ?stop
  case assign =>
    intro l x W K hK
    dsimp only [enc]
    gi_wp2
    exact hK
  case body =>
    rintro l pre x W1 ⟨⟨hs, ht, R⟩, O⟩ _
    have O1 := O
    have hl := ht.out.1
    obtain ⟨p, hp⟩ := x
    have hb1 := bt_le h p
    refine frame_any (fun f => f.tmps.size = 45 ∧ f.defers = [] ∧ f.eval (.tmp 3) = .pointer (some ⟨w.heap.size, 0, none⟩) ∧ f.eval (.tmp 4) = .pointer (some ⟨w.heap.size + 1, 0, none⟩) ∧ f.eval (.tmp 8) = .pointer (some ⟨w.heap.size + 1 + 1 + 1 + 1, 0, none⟩) ∧ f.eval (.tmp 9) = .int .i64 ((p : Nat) : Int) ∧ f.eval (.tmp 10) = .int .i64 ((bt h p : Nat) : Int)) ⟨rfl, rfl, rfl, rfl, rfl, rfl, rfl⟩ ?_
    rintro f0 ⟨sz, df, x3, x4, x8, x9, x10⟩
    have KO := KeepsOthers.refl W1
    have e1 := sgOf_even seed key h p
    have e2 := sgOf_odd seed key h p
    generalize bt h p = b at hb1 x10 e1 e2
    obtain ⟨z1, ez1⟩ : ∃ z, Box (sc seed key p b = z) := ⟨_, ⟨rfl⟩⟩
    obtain ⟨z2, ez2⟩ : ∃ z, Box (sc seed key p (1 - b) = z) := ⟨_, ⟨rfl⟩⟩
    obtain ⟨z3, ez3⟩ : ∃ z, Box (en z2 p (1 - b) = z) := ⟨_, ⟨rfl⟩⟩
    have hz1 : z1.length = 32 := by rw [← ez1.out]; exact sc_len _ _ _ _
    have hz2 : z2.length = 32 := by rw [← ez2.out]; exact sc_len _ _ _ _
    have hz3 : z3.length = 32 := by rw [← ez3.out]; exact en_len _ _ _
    rw [ez1.out] at e1
    rw [ez2.out, ez3.out] at e2
    have m3 := HasV.onlyV Zm3 O (by omega)
    have c4 := (O.cell (p := ⟨w.heap.size + 1, 0, none⟩) (by dsimp only; omega) (by dsimp only; omega)).trans Zc4
    have c8 := (O.cell (p := ⟨w.heap.size + 1 + 1 + 1 + 1, 0, none⟩) (by dsimp only; omega) (by dsimp only; omega)).trans Zc8
    have tb := hK.below (Zb.trans (O.below w.heap.size (by omega) (by omega)))
    refine wpIn_block ?_
    refine wpIn_seq ?_
    refine in_region_seq [.eq (.int .i64 ((b : Nat) : Int)), .eq (.int .i64 ((1 - b : Nat) : Int)), .eq (.int .i64 ((1 - b : Nat) : Int))] (by rintro ⟨_, _, h⟩; exact h) (by kernel_rfl) (by kernel_rfl) (by kernel_rfl) (by rw [sz]; kernel_rfl) (by kernel_rfl) ⟨fun hw ac w' K => ?_, fun hw ac w' K => ?_, fun hw ac w' K => ?_, trivial⟩ ?_
    · exact st_move (.tmp 10) rfl ((K.old 10 rfl).trans x10)
    · exact st_sub (.const (.int .i64 1)) (.tmp 20) rfl (1) (b) (1 - b) rfl (K.dep 0 20 rfl) (by omega) (by omega)
    · exact st_assign (.tmp 21) rfl (K.dep 1 21 rfl)
    intro f1 w1 A hb
    replace O := only_below O (Below.mono hb O.size)
    replace KO := KO.trans (keeps_below hb)
    replace R := R.below hb
    replace x3 := (A.old 3 rfl).trans x3
    replace x4 := (A.old 4 rfl).trans x4
    replace x8 := (A.old 8 rfl).trans x8
    replace x9 := (A.old 9 rfl).trans x9
    replace x10 := (A.old 10 rfl).trans x10
    have x11 : f1.eval (.tmp 11) = .int .i64 ((1 - b : Nat) : Int) := A.has 2 11 rfl
    replace sz := A.size.trans sz
    replace df := A.defs.trans df
    clear A hb
    have m3 := HasV.onlyV Zm3 O (by omega)
    have c4 := (O.cell (p := ⟨w.heap.size + 1, 0, none⟩) (by dsimp only; omega) (by dsimp only; omega)).trans Zc4
    have c8 := (O.cell (p := ⟨w.heap.size + 1 + 1 + 1 + 1, 0, none⟩) (by dsimp only; omega) (by dsimp only; omega)).trans Zc8
    have tb := hK.below (Zb.trans (O.below w.heap.size (by omega) (by omega)))
    refine wpList_nil ?_
    show Code.wpIn _ _ _ _ _ _ _
    refine wpIn_seq ?_
    refine in_region_tail [.eq (.slice (some ⟨(w.heap.size + 1 + 1 + 1), 0, none⟩) 512 512), .eq (.int .i64 ((p : Nat) : Int)), .eq (.int .i64 ((2 * p : Nat) : Int)), .eq (.agg ((seed).map V).toArray), .eq (.int .i64 ((key : Nat) : Int)), .eq (.int .i64 ((p : Nat) : Int)), .eq (.int .i64 ((b : Nat) : Int)), .eq (.agg ((z1).map V).toArray), .eq (.pointer (some ⟨(w.heap.size + 1 + 1 + 1), (2 * p) * 32, none⟩))] [9] (by rintro ⟨_, _, h⟩; exact h) (by kernel_rfl) Tryd.mixed (by kernel_rfl) (by kernel_rfl) (by kernel_rfl) (by kernel_rfl) (by rw [sz]; kernel_rfl) (by kernel_rfl) ⟨fun hw ac w' K => ?_, fun hw ac w' K => ?_, fun hw ac w' K => ?_, fun hw ac w' K => ?_, fun hw ac w' K => ?_, fun hw ac w' K => ?_, fun hw ac w' K => ?_, fun hw ac w' K => ?_, fun hw ac w' K => ?_, trivial⟩ ?_
    · exact st_loadv (.tmp 8) rfl ⟨_, 0, (K.old 8 rfl).trans x8, (K.grow.cell (block_lt_of_cell c8)).trans c8⟩
    · exact st_move (.tmp 9) rfl ((K.old 9 rfl).trans x9)
    · exact st_mul (.const (.int .i64 2)) (.tmp 23) rfl (2) (p) (2 * p) rfl (K.dep 1 23 rfl) (by omega) (by omega)
    · exact st_load23 (.tmp 3) rfl _ (seed) ((K.old 3 rfl).trans x3) hx (HasV.below m3 K.grow (HasV.lt m3))
    · exact st_load3 (.tmp 4) rfl (w.heap.size + 1) 0 ((key : Nat) : Int) ((K.old 4 rfl).trans x4) ((K.grow.cell (block_lt_of_cell c4)).trans c4)
    · exact st_move (.tmp 9) rfl ((K.old 9 rfl).trans x9)
    · exact st_move (.tmp 10) rfl ((K.old 10 rfl).trans x10)
    · exact st_call 48 (.func 48) _ _ #[.agg ((seed).map V).toArray, .int .i64 ((key : Nat) : Int), .int .i64 ((p : Nat) : Int), .int .i64 ((b : Nat) : Int)] rfl rfl (arg4 (K.dep 3 25 rfl) (K.dep 4 26 rfl) (K.dep 5 27 rfl) (K.dep 6 28 rfl)) Tryd.enter48 (fk_of (sc_to (seed) (((key : Nat) : Int)) (p) (b) _ hx (by omega) (by omega) (tb.below K.grow) ez1))
    · exact st_idxrow (.tmp 22) (.tmp 24) rfl ((w.heap.size + 1 + 1 + 1)) (2 * p) (K.dep 0 22 rfl) (K.dep 2 24 rfl) (by omega)
    intro f2 w2 A hb
    replace O := only_below O (Below.mono hb O.size)
    replace KO := KO.trans (keeps_below hb)
    replace R := R.below hb
    refine wl_storew rfl (.tmp 30) (.tmp 29) rfl rfl (w.heap.size + 1 + 1 + 1) (2 * p) (z1) _ (A.has 8 30 rfl) (A.has 7 29 rfl) R (by (try simp only [List.length_set]); omega) hz1 ?_
    replace R := Rw.store R (2 * p) (z1) (by (try simp only [List.length_set]); omega) hz1
    replace O := only_setCells ((z1).map V) ((2 * p) * 32) _ O
    replace KO := KO.trans (keeps_setCells (g := (w.heap.size + 1 + 1 + 1)) ((z1).map V) ((2 * p) * 32) _)
    generalize w2.setCells (w.heap.size + 1 + 1 + 1) ((2 * p) * 32) ((z1).map V) = w2b at R O KO ⊢
    replace x3 := (A.old 3 rfl).trans x3
    replace x4 := (A.old 4 rfl).trans x4
    replace x8 := (A.old 8 rfl).trans x8
    replace x9 := (A.old 9 rfl).trans x9
    replace x10 := (A.old 10 rfl).trans x10
    replace x11 := (A.old 11 rfl).trans x11
    replace sz := A.size.trans sz
    replace df := A.defs.trans df
    clear A hb
    have m3 := HasV.onlyV Zm3 O (by omega)
    have c4 := (O.cell (p := ⟨w.heap.size + 1, 0, none⟩) (by dsimp only; omega) (by dsimp only; omega)).trans Zc4
    have c8 := (O.cell (p := ⟨w.heap.size + 1 + 1 + 1 + 1, 0, none⟩) (by dsimp only; omega) (by dsimp only; omega)).trans Zc8
    have tb := hK.below (Zb.trans (O.below w.heap.size (by omega) (by omega)))
    refine wpList_nil ?_
    show Code.wpIn _ _ _ _ _ _ _
    refine in_region_tail [.eq (.slice (some ⟨(w.heap.size + 1 + 1 + 1), 0, none⟩) 512 512), .eq (.int .i64 ((p : Nat) : Int)), .eq (.int .i64 ((2 * p : Nat) : Int)), .eq (.int .i64 (((2 * p) + 1 : Nat) : Int)), .eq (.agg ((seed).map V).toArray), .eq (.int .i64 ((key : Nat) : Int)), .eq (.int .i64 ((p : Nat) : Int)), .eq (.int .i64 ((1 - b : Nat) : Int)), .eq (.agg ((z2).map V).toArray), .eq (.int .i64 ((p : Nat) : Int)), .eq (.int .i64 ((1 - b : Nat) : Int)), .eq (.agg ((z3).map V).toArray), .eq (.pointer (some ⟨(w.heap.size + 1 + 1 + 1), ((2 * p) + 1) * 32, none⟩))] [13] (by rintro ⟨_, _, h⟩; exact h) (by kernel_rfl) Tryd.mixed (by kernel_rfl) (by kernel_rfl) (by kernel_rfl) (by kernel_rfl) (by rw [sz]; kernel_rfl) (by kernel_rfl) ⟨fun hw ac w' K => ?_, fun hw ac w' K => ?_, fun hw ac w' K => ?_, fun hw ac w' K => ?_, fun hw ac w' K => ?_, fun hw ac w' K => ?_, fun hw ac w' K => ?_, fun hw ac w' K => ?_, fun hw ac w' K => ?_, fun hw ac w' K => ?_, fun hw ac w' K => ?_, fun hw ac w' K => ?_, fun hw ac w' K => ?_, trivial⟩ ?_
    · exact st_loadv (.tmp 8) rfl ⟨_, 0, (K.old 8 rfl).trans x8, (K.grow.cell (block_lt_of_cell c8)).trans c8⟩
    · exact st_move (.tmp 9) rfl ((K.old 9 rfl).trans x9)
    · exact st_mul (.const (.int .i64 2)) (.tmp 32) rfl (2) (p) (2 * p) rfl (K.dep 1 32 rfl) (by omega) (by omega)
    · exact st_add1 (.tmp 33) rfl (2 * p) (by omega) (K.dep 2 33 rfl)
    · exact st_load23 (.tmp 3) rfl _ (seed) ((K.old 3 rfl).trans x3) hx (HasV.below m3 K.grow (HasV.lt m3))
    · exact st_load3 (.tmp 4) rfl (w.heap.size + 1) 0 ((key : Nat) : Int) ((K.old 4 rfl).trans x4) ((K.grow.cell (block_lt_of_cell c4)).trans c4)
    · exact st_move (.tmp 9) rfl ((K.old 9 rfl).trans x9)
    · exact st_move (.tmp 11) rfl ((K.old 11 rfl).trans x11)
    · exact st_call 48 (.func 48) _ _ #[.agg ((seed).map V).toArray, .int .i64 ((key : Nat) : Int), .int .i64 ((p : Nat) : Int), .int .i64 ((1 - b : Nat) : Int)] rfl rfl (arg4 (K.dep 4 35 rfl) (K.dep 5 36 rfl) (K.dep 6 37 rfl) (K.dep 7 38 rfl)) Tryd.enter48 (fk_of (sc_to (seed) (((key : Nat) : Int)) (p) (1 - b) _ hx (by omega) (by omega) (tb.below K.grow) ez2))
    · exact st_move (.tmp 9) rfl ((K.old 9 rfl).trans x9)
    · exact st_move (.tmp 11) rfl ((K.old 11 rfl).trans x11)
    · exact st_call 49 (.func 49) _ _ #[.agg ((z2).map V).toArray, .int .i64 ((p : Nat) : Int), .int .i64 ((1 - b : Nat) : Int)] rfl rfl (arg3 (K.dep 8 39 rfl) (K.dep 9 40 rfl) (K.dep 10 41 rfl)) Tryd.enter49 (fk_of (en_to (z2) (p) (1 - b) _ hz2 (by omega) (tb.below K.grow) ez3))
    · exact st_idxrow (.tmp 31) (.tmp 34) rfl ((w.heap.size + 1 + 1 + 1)) ((2 * p) + 1) (K.dep 0 31 rfl) (K.dep 3 34 rfl) (by omega)
    intro f3 w3 A hb
    replace O := only_below O (Below.mono hb O.size)
    replace KO := KO.trans (keeps_below hb)
    replace R := R.below hb
    refine wl_storew rfl (.tmp 43) (.tmp 42) rfl rfl (w.heap.size + 1 + 1 + 1) ((2 * p) + 1) (z3) _ (A.has 12 43 rfl) (A.has 11 42 rfl) R (by (try simp only [List.length_set]); omega) hz3 ?_
    replace R := Rw.store R ((2 * p) + 1) (z3) (by (try simp only [List.length_set]); omega) hz3
    replace O := only_setCells ((z3).map V) (((2 * p) + 1) * 32) _ O
    replace KO := KO.trans (keeps_setCells (g := (w.heap.size + 1 + 1 + 1)) ((z3).map V) (((2 * p) + 1) * 32) _)
    generalize w3.setCells (w.heap.size + 1 + 1 + 1) (((2 * p) + 1) * 32) ((z3).map V) = w3b at R O KO ⊢
    replace x3 := (A.old 3 rfl).trans x3
    replace x4 := (A.old 4 rfl).trans x4
    replace x8 := (A.old 8 rfl).trans x8
    replace x9 := (A.old 9 rfl).trans x9
    replace x10 := (A.old 10 rfl).trans x10
    replace x11 := (A.old 11 rfl).trans x11
    replace sz := A.size.trans sz
    replace df := A.defs.trans df
    clear A hb
    have m3 := HasV.onlyV Zm3 O (by omega)
    have c4 := (O.cell (p := ⟨w.heap.size + 1, 0, none⟩) (by dsimp only; omega) (by dsimp only; omega)).trans Zc4
    have c8 := (O.cell (p := ⟨w.heap.size + 1 + 1 + 1 + 1, 0, none⟩) (by dsimp only; omega) (by dsimp only; omega)).trans Zc8
    have tb := hK.below (Zb.trans (O.below w.heap.size (by omega) (by omega)))
    refine wpList_nil ?_
    have ht2 := toldH_snoc ht.out ⟨p, hp⟩ (2 * p) (2 * p + 1) (.inl ⟨rfl, rfl⟩)
    rw [e1, e2] at ht2
    exact ⟨KO.from _, (O.block _ (by omega) (by omega)).trans (O1.block _ (by omega) (by omega)).symm, ⟨_, ⟨ht2⟩, R⟩, O⟩
  case done =>
    rintro D ys W2 hD rfl ⟨⟨hs, ht, R⟩, O⟩ hKD
    have c8 := (O.cell (p := ⟨w.heap.size + 1 + 1 + 1 + 1, 0, none⟩) (by dsimp only; omega) (by dsimp only; omega)).trans Zc8
    have hRB := Box.mk R
    have hOB := Box.mk O
    have hbB := Box.mk (Zb.trans (O.below w.heap.size (by omega) (by omega)))
    clear R O Zm3 Zc4 Zc8 ZR hv Zb
    go_wp2
    refine ⟨by simp, .inl ⟨_, _, rfl, run_takeDeferred hKD, ?_⟩⟩
    refine ⟨_, results_tmp2 rfl _ _ _, w.heap.size + 1 + 1 + 1, rfl, ?_, by omega, hbB.out.trans (belowK_b (w := w) (Nat.le_refl _) _ D _ _ (by omega) hKD rfl rfl)⟩
    rw [← toldH_all ht.out]
    exact hRB.out.belowB (belowK_b (w := W) (Nat.le_refl _) _ D _ _ hD hKD rfl rfl) (by omega)
  case stop =>
    rintro D c pre W _ _ h _
    exact h.elim
end Go.Proofs.YtnanipeapjpkfaaDoor
namespace Go.Proofs.YtnanipeapjpkfaaDoor
set_option maxRecDepth 100000
open Go.RowKit Go.Shelf
attribute [local go_sem] Oper.semAt_some
set_option maxRecDepth 100000 in
set_option maxHeartbeats 2000000 in
theorem sign_noL (seed : List (BitVec 8)) (key : Int) (h : List (BitVec 8)) (w : World) (hk : key < 0 ∨ 2147483647 < key) :
    Calls Tryd.prog 18 #[.agg (seed.map V).toArray, .int .i64 key, .agg (h.map V).toArray] w fun e w' => e = .returned (.tuple #[.slice none 0 0, .int .i64 11]) ∧ Below w.heap.size w w' := by
  refine (callsIn_wide (n := 6)).1 ?_
  refine callsIn_of_wp_marks Tryd.func18 rfl trivial ?_ rfl
  simp only [Tryd.ntmps18, List.size_toArray, List.length_cons, List.length_nil, Nat.reduceAdd, Nat.reduceSub, Array.replicate_succ, Array.replicate_zero, List.push_toArray, List.append_toArray, List.nil_append, List.cons_append]
  refine wpIn_wide.2 ?_
  have hky := Box.mk (fun w => iskey_noL key hk w)
  clear hk
  go_wp2_with (first | (go_at_call 46; refine (hky.out _).mono ?_; rintro e w' ⟨rfl, rfl⟩))
  exact ⟨_, results_tmp2 rfl _ _ _, rfl, (((Below.refl _ _).alloc (Nat.le_refl _) _).alloc (by simp) _).alloc (by simp; omega) _⟩
set_option maxRecDepth 100000 in
set_option maxHeartbeats 2000000 in
theorem recover_noL (h : List (BitVec 8)) (A : Option Addr) (n C : Nat) (w : World) (hn : n ≠ 512) :
    Calls Tryd.prog 23 #[.agg (h.map V).toArray, .slice A n C] w fun e w' => e = .returned (.tuple #[.agg (hz.map V).toArray, .int .i64 10]) ∧ Below w.heap.size w w' := by
  refine (callsIn_wide (n := 6)).1 ?_
  refine callsIn_of_wp_marks Tryd.func23 rfl trivial ?_ rfl
  simp only [Tryd.ntmps23, List.size_toArray, List.length_cons, List.length_nil, Nat.reduceAdd, Nat.reduceSub, Array.replicate_succ, Array.replicate_zero, List.push_toArray, List.append_toArray, List.nil_append, List.cons_append]
  refine wpIn_wide.2 ?_
  have hzz := Tryd.zero23
  rw [show hsh St.first 0 = hz from rfl] at hzz
  have hn2 : ¬ ((n : Int) = (512 : Int)) := by omega
  clear hn
  go_upto_region 1 with fail
  refine code_any (fun w1 => w1.cell? ⟨w.heap.size + 1, 0, none⟩ = some (.slice A n C) ∧ HasV w1 (w.heap.size + 1 + 1) 23 hz ∧ Below w.heap.size w w1) ?_ ?_
  · refine ⟨?_, ?_, (((Below.refl _ _).alloc (Nat.le_refl _) _).alloc (by simp) _).alloc (by simp; omega) _⟩
    · have h0 := heap_alloc_new (w.alloc (Obj.cells (List.map V h).toArray 23)) (Obj.cells #[Value.slice A n C] 32)
      rw [World.size_alloc] at h0
      exact HasS.cell (T := 32) (block_alloc h0)
    · have h0 := heap_alloc_new ((w.alloc (Obj.cells (List.map V h).toArray 23)).alloc (Obj.cells #[Value.slice A n C] 32)) (Obj.cells (hz.map V).toArray 23)
      rw [World.size_alloc, World.size_alloc] at h0
      exact h0
  rintro w1 ⟨hc, hv2, hb1⟩
  have hk2 : Box (w1.heap[w.heap.size + 1 + 1]? = some (.cells (hz.map V).toArray 23 (0, 0))) := ⟨hv2⟩
  have hsz : Box ((hz.map V).toArray.size = 32) := ⟨by simp [hz_len]⟩
  clear hv2
  go_wp2_with (first | (refine wpList_store_row rfl 23 (.tmp 4) (.tmp 13) rfl (w.heap.size + 1 + 1) (hz.map V).toArray rfl rfl 23 _ hk2.out (by rw [hsz.out]; exact Tryd.size23) (by rw [hsz.out]) (V_all _) ?_))
  refine ⟨.tuple #[.agg (hz.map V).toArray, .int .i64 10], ?_, rfl, hb1.trans (below_setRow _ _ _ _ (by omega))⟩
  exact results_row_tmp (P := Tryd.prog) (fn := Tryd.f23) (p := 4) (u := 5) (ty := 23) rfl _ _ (w.heap.size + 1 + 1) 23 _ (0, 0) _ _ rfl (setRow_heap _ _ _ _ 23 (0, 0) hk2.out) Tryd.under23 rfl (by rw [hsz.out]; exact Tryd.size23) rfl
set_option maxRecDepth 100000 in
set_option maxHeartbeats 2000000 in
theorem recover_okL (h : List (BitVec 8)) (A : Option Addr) (C : Nat) (S : List (List (BitVec 8))) (w : World) (hh : h.length = 32) (hSl : S.length = 512) (ZS : (Fk.hs S).f (.slice A 512 C) w) (hK : Tab w) :
    Calls Tryd.prog 23 #[.agg (h.map V).toArray, .slice A 512 C] w fun e w' => e = .returned (.tuple #[.agg ((pub (all512 (rcOf h S))).map V).toArray, .int .i64 0]) ∧ Below w.heap.size w w' := by
  refine (callsIn_wide (n := 6)).1 ?_
  have hmk := Tryd.make32L
  refine callsIn_of_wp_marks Tryd.func23 rfl trivial ?_ rfl
  simp only [Tryd.ntmps23, List.size_toArray, List.length_cons, List.length_nil, Nat.reduceAdd, Nat.reduceSub, Array.replicate_succ, Array.replicate_zero, List.push_toArray, List.append_toArray, List.nil_append, List.cons_append]
  refine wpIn_wide.2 ?_
  have hof := Box.mk (of_any h)
  have hsz : Box ((h.map V).toArray.size = 32) := ⟨by simp [hh]⟩
  obtain ⟨wA, hwA⟩ : ∃ wA, wA = ((w.alloc (Obj.cells (List.map V h).toArray 23)).alloc (Obj.cells #[Value.slice A 512 C] 32)).alloc (Obj.cells (List.map V hz).toArray 23) := ⟨_, rfl⟩
  obtain ⟨wB, hwB⟩ : ∃ wB, wB = (wA.alloc (Obj.cells mk512 23)).alloc (Obj.cells #[Value.slice (some { block := w.heap.size + 1 + 1 + 1, off := 0 }) 512 512] 32) := ⟨_, rfl⟩
  have hsA : wA.heap.size = w.heap.size + 1 + 1 + 1 := by rw [hwA]; simp
  have hvA : HasV wA w.heap.size 23 h := by
    have h0 : HasV (w.alloc (Obj.cells (List.map V h).toArray 23)) w.heap.size 23 h := heap_alloc_new _ _
    rw [hwA]
    exact HasV.alloc (HasV.alloc h0 _) _
  have hv : Box (HasV wB w.heap.size 23 h) := ⟨by rw [hwB]; exact HasV.alloc (HasV.alloc hvA _) _⟩
  rw [hwB, hwA] at hv
  have hSB := Box.mk ZS
  clear ZS
  go_wp2_with (first | (refine wpList_load_row rfl 23 (.tmp 2) rfl w.heap.size rfl 23 _ (0, 0) _ hv.out Tryd.u23 rfl (by rw [hsz.out]; exact Tryd.s23) ?_) | (go_at_call 47; refine (hof.out _).mono ?_; rintro e w' ⟨rfl, rfl⟩))
  have ZS := hSB.out
  clear hv hsz hof hmk hSB
  refine any_world (fun W => HasS W (w.heap.size + 1) 32 (.slice A 512 C) ∧ HasV W (w.heap.size + 1 + 1) 23 hz ∧ Rw W (w.heap.size + 1 + 1 + 1) z512 ∧ HasS W (w.heap.size + 1 + 1 + 1 + 1) 32 (.slice (some ⟨w.heap.size + 1 + 1 + 1, 0, none⟩) 512 512) ∧ HasV W (w.heap.size + 1 + 1 + 1 + 1 + 1) 23 h ∧ W.heap.size = w.heap.size + 6 ∧ Below w.heap.size w W) ?_ ?_
  · have key : HasS (wB.alloc (Obj.cells (List.map V h).toArray 23)) (w.heap.size + 1) 32 (.slice A 512 C) ∧ HasV (wB.alloc (Obj.cells (List.map V h).toArray 23)) (w.heap.size + 1 + 1) 23 hz ∧ Rw (wB.alloc (Obj.cells (List.map V h).toArray 23)) (w.heap.size + 1 + 1 + 1) z512 ∧ HasS (wB.alloc (Obj.cells (List.map V h).toArray 23)) (w.heap.size + 1 + 1 + 1 + 1) 32 (.slice (some ⟨w.heap.size + 1 + 1 + 1, 0, none⟩) 512 512) ∧ HasV (wB.alloc (Obj.cells (List.map V h).toArray 23)) (w.heap.size + 1 + 1 + 1 + 1 + 1) 23 h ∧ (wB.alloc (Obj.cells (List.map V h).toArray 23)).heap.size = w.heap.size + 6 ∧ Below w.heap.size w (wB.alloc (Obj.cells (List.map V h).toArray 23)) := by
      have hsB : wB.heap.size = w.heap.size + 1 + 1 + 1 + 1 + 1 := by rw [hwB]; simp [hsA]
      have hbA : Below w.heap.size w wA := by rw [hwA]; exact (((Below.refl _ _).alloc (Nat.le_refl _) _).alloc (by simp) _).alloc (by simp; omega) _
      have hbB : Below w.heap.size w wB := by rw [hwB]; exact ((hbA.alloc (by omega) _).alloc (by simp; omega) _)
      refine ⟨?_, ?_, ?_, ?_, ?_, by simp [hsB], hbB.alloc (by omega) _⟩
      · have h0 := heap_alloc_new (w.alloc (Obj.cells (List.map V h).toArray 23)) (Obj.cells #[Value.slice A 512 C] 32)
        rw [World.size_alloc] at h0
        rw [hwB, hwA]
        exact block_alloc (block_alloc (block_alloc (block_alloc h0)))
      · have h0 := heap_alloc_new ((w.alloc (Obj.cells (List.map V h).toArray 23)).alloc (Obj.cells #[Value.slice A 512 C] 32)) (Obj.cells (hz.map V).toArray 23)
        rw [World.size_alloc, World.size_alloc, ← hwA] at h0
        rw [hwB]
        exact block_alloc (block_alloc (block_alloc h0))
      · have h0 := rw_newL wA
        rw [hsA] at h0
        rw [hwB]
        exact rw_block (rw_block h0)
      · have h0 := heap_alloc_new (wA.alloc (Obj.cells mk512 23)) (Obj.cells #[Value.slice (some { block := w.heap.size + 1 + 1 + 1, off := 0 }) 512 512] 32)
        rw [World.size_alloc, hsA, ← hwB] at h0
        exact block_alloc h0
      · have h0 := heap_alloc_new wB (Obj.cells (List.map V h).toArray 23)
        rw [hsB] at h0
        exact h0
    rw [hwB, hwA] at key
    exact key
  clear hwA hwB hsA hvA
  rintro W ⟨Zk, Zm4, ZR, Zs, hv, hsz, Zb⟩
  have Zc3 := Zk.cell
  have Zc6 := Zs.cell
  clear Zk Zs
  refine (wpIn_wide (n := 6)).1 ?_
  refine wpIn_rangeFunc_ownG rfl (by omega) (gf := 68) (lb := #[.pointer (some ⟨w.heap.size + 1 + 1 + 1 + 1 + 1, 0, none⟩)]) rfl trivial (enters_of Tryd.func68 (by kernel_rfl) rfl)
    (it_stops Fence.wide 5 trivial rfl (by omega) (w.heap.size + 1 + 1 + 1 + 1 + 1) h hh W hv) kg_t (kg_b (by omega)) (Below.refl _ _) (fun _ => rfl)
    (fun pre W1 => (∃ hs, Box (ToldH (rcOf h S) pre hs) ∧ Rw W1 (w.heap.size + 1 + 1 + 1) hs) ∧ Only (w.heap.size + 1 + 1 + 1) W W1)
    (fun _ _ _ => False)
    (fun s A B row hs hg hr => by
      obtain ⟨⟨hs', h1, h2⟩, h3⟩ := hs
      have hb : Below W.heap.size A B := (Below.refl _ _).grown hg h3.size (fun k e => (hr k e).1)
      exact ⟨⟨hs', h1, h2.belowB hb (by omega)⟩, only_below h3 hb⟩)
    (fun _ _ _ _ _ hs _ _ => hs)
    ⟨⟨z512, ⟨toldH_nil _⟩, ZR⟩, Only.refl _ _⟩
    (fun x => { tmps := #[Value.agg (List.map V h).toArray, Value.slice A 512 C,
          Value.pointer (some { block := w.heap.size, off := 0 }),
          Value.pointer (some { block := w.heap.size + 1, off := 0 }),
          Value.pointer (some { block := w.heap.size + 1 + 1, off := 0 }), Value.int IntKind.i64 0,
          Value.pointer (some { block := w.heap.size + 1 + 1 + 1 + 1, off := 0 }), .int .i64 (x.val : Int), .int .i64 (bt h x.val : Int), undef,
          Value.slice A 512 C, Value.int IntKind.i64 512, Value.bool false, undef,
          Value.slice (some { block := w.heap.size + 1 + 1 + 1, off := 0 }) 512 512, Value.agg (List.map V h).toArray,
          Value.func (Fn.func 68) #[] #[Value.pointer (some { block := w.heap.size + 1 + 1 + 1 + 1 + 1, off := 0 })],
          .int .i64 (x.val : Int), .int .i64 (bt h x.val : Int), undef, undef, undef, undef, undef, undef, undef, undef, undef, undef, undef, undef, undef,
          undef, undef, undef, undef, undef, undef, undef, undef, undef, undef, undef, undef, undef, undef, undef,
          undef, undef], defers := [] }) ?assign ?body ?done ?stop
  case assign =>
    intro l x W K hK
    dsimp only [enc]
    gi_wp2
    exact hK
  case body =>
    rintro l pre x W1 ⟨⟨hs, ht, R⟩, O⟩ _
    have O1 := O
    have hl := ht.out.1
    obtain ⟨p, hp⟩ := x
    have hb1 := bt_le h p
    refine frame_any (fun f => f.tmps.size = 49 ∧ f.defers = [] ∧ f.eval (.tmp 3) = .pointer (some ⟨w.heap.size + 1, 0, none⟩) ∧ f.eval (.tmp 6) = .pointer (some ⟨w.heap.size + 1 + 1 + 1 + 1, 0, none⟩) ∧ f.eval (.tmp 7) = .int .i64 ((p : Nat) : Int) ∧ f.eval (.tmp 8) = .int .i64 ((bt h p : Nat) : Int)) ⟨rfl, rfl, rfl, rfl, rfl, rfl⟩ ?_
    rintro f0 ⟨sz, df, x3, x6, x7, x8⟩
    have KO := KeepsOthers.refl W1
    obtain ⟨y0, ey0⟩ : ∃ y, S[2 * p]? = some y := ⟨_, List.getElem?_eq_getElem (by omega)⟩
    obtain ⟨y1, ey1⟩ : ∃ y, S[2 * p + 1]? = some y := ⟨_, List.getElem?_eq_getElem (by omega)⟩
    have e1 := rcOf_same h S p _ rfl y0 ey0
    have e2 := rcOf_other h S p _ rfl y1 ey1
    generalize bt h p = b at hb1 x8 e1 e2
    have h32 : ∀ (i : Nat) (x : List (BitVec 8)), S[i]? = some x → x.length = 32 := by
      obtain ⟨A', C', lb, lo, e, hl⟩ := ZS
      exact fun i x hi => (hl.all i x hi).1
    have hy0 := h32 _ _ ey0
    have hy1 := h32 _ _ ey1
    obtain ⟨z, ez⟩ : ∃ z, Box (en y0 p b = z) := ⟨_, ⟨rfl⟩⟩
    have hzl : z.length = 32 := by rw [← ez.out]; exact en_len _ _ _
    rw [ez.out] at e1
    have c3 := (O.cell (p := ⟨w.heap.size + 1, 0, none⟩) (by dsimp only; omega) (by dsimp only; omega)).trans Zc3
    have c6 := (O.cell (p := ⟨w.heap.size + 1 + 1 + 1 + 1, 0, none⟩) (by dsimp only; omega) (by dsimp only; omega)).trans Zc6
    have bw := Zb.trans (O.below w.heap.size (by omega) (by omega))
    have tb := hK.below bw
    have hS := Fk.mono _ _ _ _ ZS bw
    refine wpIn_block ?_
    refine wpIn_seq ?_
    refine in_region_seq [.eq (.int .i64 ((b : Nat) : Int)), .eq (.int .i64 ((1 - b : Nat) : Int)), .eq (.int .i64 ((1 - b : Nat) : Int))] (by rintro ⟨_, _, h⟩; exact h) (by kernel_rfl) (by kernel_rfl) (by kernel_rfl) (by rw [sz]; kernel_rfl) (by kernel_rfl) ⟨fun hw ac w' K => ?_, fun hw ac w' K => ?_, fun hw ac w' K => ?_, trivial⟩ ?_
    · exact st_move (.tmp 8) rfl ((K.old 8 rfl).trans x8)
    · exact st_sub (.const (.int .i64 1)) (.tmp 19) rfl (1) (b) (1 - b) rfl (K.dep 0 19 rfl) (by omega) (by omega)
    · exact st_assign (.tmp 20) rfl (K.dep 1 20 rfl)
    intro f1 w1 A hb
    replace O := only_below O (Below.mono hb O.size)
    replace KO := KO.trans (keeps_below hb)
    replace R := R.below hb
    replace x3 := (A.old 3 rfl).trans x3
    replace x6 := (A.old 6 rfl).trans x6
    replace x7 := (A.old 7 rfl).trans x7
    replace x8 := (A.old 8 rfl).trans x8
    have x9 : f1.eval (.tmp 9) = .int .i64 ((1 - b : Nat) : Int) := A.has 2 9 rfl
    replace sz := A.size.trans sz
    replace df := A.defs.trans df
    clear A hb
    have c3 := (O.cell (p := ⟨w.heap.size + 1, 0, none⟩) (by dsimp only; omega) (by dsimp only; omega)).trans Zc3
    have c6 := (O.cell (p := ⟨w.heap.size + 1 + 1 + 1 + 1, 0, none⟩) (by dsimp only; omega) (by dsimp only; omega)).trans Zc6
    have bw := Zb.trans (O.below w.heap.size (by omega) (by omega))
    have tb := hK.below bw
    have hS := Fk.mono _ _ _ _ ZS bw
    refine wpList_nil ?_
    show Code.wpIn _ _ _ _ _ _ _
    refine wpIn_seq ?_
    refine in_region_tail [.eq (.slice (some ⟨(w.heap.size + 1 + 1 + 1), 0, none⟩) 512 512), .eq (.int .i64 ((p : Nat) : Int)), .eq (.int .i64 ((2 * p : Nat) : Int)), .eq (.int .i64 ((b : Nat) : Int)), .eq (.int .i64 (((2 * p) + b : Nat) : Int)), .hs (S), .eq (.int .i64 ((p : Nat) : Int)), .eq (.int .i64 ((2 * p : Nat) : Int)), .ph (y0), .eq (.agg ((y0).map V).toArray), .eq (.int .i64 ((p : Nat) : Int)), .eq (.int .i64 ((b : Nat) : Int)), .eq (.agg ((z).map V).toArray), .eq (.pointer (some ⟨(w.heap.size + 1 + 1 + 1), ((2 * p) + b) * 32, none⟩))] [14] (by rintro ⟨_, _, h⟩; exact h) (by kernel_rfl) Tryd.mixed (by kernel_rfl) (by kernel_rfl) (by kernel_rfl) (by kernel_rfl) (by rw [sz]; kernel_rfl) (by kernel_rfl) ⟨fun hw ac w' K => ?_, fun hw ac w' K => ?_, fun hw ac w' K => ?_, fun hw ac w' K => ?_, fun hw ac w' K => ?_, fun hw ac w' K => ?_, fun hw ac w' K => ?_, fun hw ac w' K => ?_, fun hw ac w' K => ?_, fun hw ac w' K => ?_, fun hw ac w' K => ?_, fun hw ac w' K => ?_, fun hw ac w' K => ?_, fun hw ac w' K => ?_, trivial⟩ ?_
    · exact st_loadv (.tmp 6) rfl ⟨_, 0, (K.old 6 rfl).trans x6, (K.grow.cell (block_lt_of_cell c6)).trans c6⟩
    · exact st_move (.tmp 7) rfl ((K.old 7 rfl).trans x7)
    · exact st_mul (.const (.int .i64 2)) (.tmp 22) rfl (2) (p) (2 * p) rfl (K.dep 1 22 rfl) (by omega) (by omega)
    · exact st_move (.tmp 8) rfl ((K.old 8 rfl).trans x8)
    · exact st_add (.tmp 23) (.tmp 24) rfl (2 * p) (b) ((2 * p) + b) (K.dep 2 23 rfl) (K.dep 3 24 rfl) (by omega) (by omega)
    · exact st_loadw (.tmp 3) rfl ⟨_, 0, _, (K.old 3 rfl).trans x3, (K.grow.cell (block_lt_of_cell c3)).trans c3, Fk.mono _ _ _ _ hS K.grow⟩
    · exact st_move (.tmp 7) rfl ((K.old 7 rfl).trans x7)
    · exact st_mul (.const (.int .i64 2)) (.tmp 27) rfl (2) (p) (2 * p) rfl (K.dep 6 27 rfl) (by omega) (by omega)
    · exact st_idxh (.tmp 26) (.tmp 28) rfl (K.dep 5 26 rfl) (2 * p) (y0) (K.dep 7 28 rfl) ey0
    · exact st_loadh (.tmp 29) rfl (K.dep 8 29 rfl)
    · exact st_move (.tmp 7) rfl ((K.old 7 rfl).trans x7)
    · exact st_move (.tmp 8) rfl ((K.old 8 rfl).trans x8)
    · exact st_call 49 (.func 49) _ _ #[.agg ((y0).map V).toArray, .int .i64 ((p : Nat) : Int), .int .i64 ((b : Nat) : Int)] rfl rfl (arg3 (K.dep 9 30 rfl) (K.dep 10 31 rfl) (K.dep 11 32 rfl)) Tryd.enter49 (fk_of (en_to (y0) (p) (b) _ hy0 (by omega) (tb.below K.grow) ez))
    · exact st_idxrow (.tmp 21) (.tmp 25) rfl ((w.heap.size + 1 + 1 + 1)) ((2 * p) + b) (K.dep 0 21 rfl) (K.dep 4 25 rfl) (by omega)
    intro f2 w2 A hb
    replace O := only_below O (Below.mono hb O.size)
    replace KO := KO.trans (keeps_below hb)
    replace R := R.below hb
    refine wl_storew rfl (.tmp 34) (.tmp 33) rfl rfl (w.heap.size + 1 + 1 + 1) ((2 * p) + b) (z) _ (A.has 13 34 rfl) (A.has 12 33 rfl) R (by (try simp only [List.length_set]); omega) hzl ?_
    replace R := Rw.store R ((2 * p) + b) (z) (by (try simp only [List.length_set]); omega) hzl
    replace O := only_setCells ((z).map V) (((2 * p) + b) * 32) _ O
    replace KO := KO.trans (keeps_setCells (g := (w.heap.size + 1 + 1 + 1)) ((z).map V) (((2 * p) + b) * 32) _)
    generalize w2.setCells (w.heap.size + 1 + 1 + 1) (((2 * p) + b) * 32) ((z).map V) = w2b at R O KO ⊢
    replace x3 := (A.old 3 rfl).trans x3
    replace x6 := (A.old 6 rfl).trans x6
    replace x7 := (A.old 7 rfl).trans x7
    replace x8 := (A.old 8 rfl).trans x8
    replace x9 := (A.old 9 rfl).trans x9
    replace sz := A.size.trans sz
    replace df := A.defs.trans df
    clear A hb
    have c3 := (O.cell (p := ⟨w.heap.size + 1, 0, none⟩) (by dsimp only; omega) (by dsimp only; omega)).trans Zc3
    have c6 := (O.cell (p := ⟨w.heap.size + 1 + 1 + 1 + 1, 0, none⟩) (by dsimp only; omega) (by dsimp only; omega)).trans Zc6
    have bw := Zb.trans (O.below w.heap.size (by omega) (by omega))
    have tb := hK.below bw
    have hS := Fk.mono _ _ _ _ ZS bw
    refine wpList_nil ?_
    show Code.wpIn _ _ _ _ _ _ _
    refine in_region_tail [.eq (.slice (some ⟨(w.heap.size + 1 + 1 + 1), 0, none⟩) 512 512), .eq (.int .i64 ((p : Nat) : Int)), .eq (.int .i64 ((2 * p : Nat) : Int)), .eq (.int .i64 ((1 - b : Nat) : Int)), .eq (.int .i64 (((2 * p) + (1 - b) : Nat) : Int)), .hs (S), .eq (.int .i64 ((p : Nat) : Int)), .eq (.int .i64 ((2 * p : Nat) : Int)), .eq (.int .i64 (((2 * p) + 1 : Nat) : Int)), .ph (y1), .eq (.agg ((y1).map V).toArray), .eq (.pointer (some ⟨(w.heap.size + 1 + 1 + 1), ((2 * p) + (1 - b)) * 32, none⟩))] [12] (by rintro ⟨_, _, h⟩; exact h) (by kernel_rfl) Tryd.mixed (by kernel_rfl) (by kernel_rfl) (by kernel_rfl) (by kernel_rfl) (by rw [sz]; kernel_rfl) (by kernel_rfl) ⟨fun hw ac w' K => ?_, fun hw ac w' K => ?_, fun hw ac w' K => ?_, fun hw ac w' K => ?_, fun hw ac w' K => ?_, fun hw ac w' K => ?_, fun hw ac w' K => ?_, fun hw ac w' K => ?_, fun hw ac w' K => ?_, fun hw ac w' K => ?_, fun hw ac w' K => ?_, fun hw ac w' K => ?_, trivial⟩ ?_
    · exact st_loadv (.tmp 6) rfl ⟨_, 0, (K.old 6 rfl).trans x6, (K.grow.cell (block_lt_of_cell c6)).trans c6⟩
    · exact st_move (.tmp 7) rfl ((K.old 7 rfl).trans x7)
    · exact st_mul (.const (.int .i64 2)) (.tmp 36) rfl (2) (p) (2 * p) rfl (K.dep 1 36 rfl) (by omega) (by omega)
    · exact st_move (.tmp 9) rfl ((K.old 9 rfl).trans x9)
    · exact st_add (.tmp 37) (.tmp 38) rfl (2 * p) (1 - b) ((2 * p) + (1 - b)) (K.dep 2 37 rfl) (K.dep 3 38 rfl) (by omega) (by omega)
    · exact st_loadw (.tmp 3) rfl ⟨_, 0, _, (K.old 3 rfl).trans x3, (K.grow.cell (block_lt_of_cell c3)).trans c3, Fk.mono _ _ _ _ hS K.grow⟩
    · exact st_move (.tmp 7) rfl ((K.old 7 rfl).trans x7)
    · exact st_mul (.const (.int .i64 2)) (.tmp 41) rfl (2) (p) (2 * p) rfl (K.dep 6 41 rfl) (by omega) (by omega)
    · exact st_add1 (.tmp 42) rfl (2 * p) (by omega) (K.dep 7 42 rfl)
    · exact st_idxh (.tmp 40) (.tmp 43) rfl (K.dep 5 40 rfl) (2 * p + 1) (y1) (K.dep 8 43 rfl) ey1
    · exact st_loadh (.tmp 44) rfl (K.dep 9 44 rfl)
    · exact st_idxrow (.tmp 35) (.tmp 39) rfl ((w.heap.size + 1 + 1 + 1)) ((2 * p) + (1 - b)) (K.dep 0 35 rfl) (K.dep 4 39 rfl) (by omega)
    intro f3 w3 A hb
    replace O := only_below O (Below.mono hb O.size)
    replace KO := KO.trans (keeps_below hb)
    replace R := R.below hb
    refine wl_storew rfl (.tmp 46) (.tmp 45) rfl rfl (w.heap.size + 1 + 1 + 1) ((2 * p) + (1 - b)) (y1) _ (A.has 11 46 rfl) (A.has 10 45 rfl) R (by (try simp only [List.length_set]); omega) hy1 ?_
    replace R := Rw.store R ((2 * p) + (1 - b)) (y1) (by (try simp only [List.length_set]); omega) hy1
    replace O := only_setCells ((y1).map V) (((2 * p) + (1 - b)) * 32) _ O
    replace KO := KO.trans (keeps_setCells (g := (w.heap.size + 1 + 1 + 1)) ((y1).map V) (((2 * p) + (1 - b)) * 32) _)
    generalize w3.setCells (w.heap.size + 1 + 1 + 1) (((2 * p) + (1 - b)) * 32) ((y1).map V) = w3b at R O KO ⊢
    replace x3 := (A.old 3 rfl).trans x3
    replace x6 := (A.old 6 rfl).trans x6
    replace x7 := (A.old 7 rfl).trans x7
    replace x8 := (A.old 8 rfl).trans x8
    replace x9 := (A.old 9 rfl).trans x9
    replace sz := A.size.trans sz
    replace df := A.defs.trans df
    clear A hb
    have c3 := (O.cell (p := ⟨w.heap.size + 1, 0, none⟩) (by dsimp only; omega) (by dsimp only; omega)).trans Zc3
    have c6 := (O.cell (p := ⟨w.heap.size + 1 + 1 + 1 + 1, 0, none⟩) (by dsimp only; omega) (by dsimp only; omega)).trans Zc6
    have bw := Zb.trans (O.below w.heap.size (by omega) (by omega))
    have tb := hK.below bw
    have hS := Fk.mono _ _ _ _ ZS bw
    refine wpList_nil ?_
    have ht2 := toldH_snoc ht.out ⟨p, hp⟩ (2 * p + b) (2 * p + (1 - b)) (by dsimp only; omega)
    rw [e1, e2] at ht2
    exact ⟨KO.from _, (O.block _ (by omega) (by omega)).trans (O1.block _ (by omega) (by omega)).symm, ⟨_, ⟨ht2⟩, R⟩, O⟩
  case done =>
    rintro D ys W2 hD rfl ⟨⟨hs, ht, R⟩, O⟩ hKD
    have c6 := (O.cell (p := ⟨w.heap.size + 1 + 1 + 1 + 1, 0, none⟩) (by dsimp only; omega) (by dsimp only; omega)).trans Zc6
    have m4 := HasV.onlyV Zm4 O (by omega)
    have hb := Zb.trans (O.below w.heap.size (by omega) (by omega))
    rw [toldH_all ht.out] at R
    have hpb := Box.mk (pub_anyL (w.heap.size + 1 + 1 + 1) _ W2 (all_lenL _) R (hK.below hb))
    obtain ⟨y, hy⟩ : ∃ y, Box (pub (all512 (rcOf h S)) = y) := ⟨_, ⟨rfl⟩⟩
    have hyl : Box ((y.map V).toArray.size = 32) := ⟨by rw [← hy.out]; simp [pub_len]⟩
    rw [hy.out] at hpb
    have m4B := Box.mk m4
    have hbB := Box.mk hb
    have hs2 : D < W2.heap.size := (Array.getElem?_eq_some_iff.1 hKD).1
    have hKDB := Box.mk hKD
    clear R O Zc3 Zc6 ZR hv Zb m4 Zm4 hb hKD ZS
    go_wp2_with (first | (go_at_call 52; refine hpb.out.mono ?_; rintro e w2 ⟨rfl, hb2⟩; have hk2 : Box (w2.heap[w.heap.size + 1 + 1]? = some (.cells (hz.map V).toArray 23 (0, 0))) := ⟨m4B.out.below hb2 m4B.out.lt⟩; have hb5 := Box.mk (hbB.out.trans (hb2.mono hbB.out.size)); have hD2 := Box.mk ((hb2.block D hs2).trans hKDB.out); clear hb2) | (refine wpList_store_row rfl 23 (.tmp 4) (.tmp 48) rfl (w.heap.size + 1 + 1) (y.map V).toArray rfl rfl 23 _ hk2.out (by rw [hyl.out]; exact Tryd.size23) (by rw [hyl.out]; rfl) (V_all _) ?_))
    have hD3 : (w2.setRow (w.heap.size + 1 + 1) (y.map V).toArray).heap[D]? = some (.deferred (some [])) := (Go.setRow_other w2 (w.heap.size + 1 + 1) D (y.map V).toArray (by omega)).trans hD2.out
    refine ⟨by simp, .inl ⟨_, _, rfl, run_takeDeferred hD3, ?_⟩⟩
    refine ⟨.tuple #[.agg (y.map V).toArray, .int .i64 0], ?_, by rw [hy.out], ?_⟩
    · refine results_row_tmp (P := Tryd.prog) (fn := Tryd.f23) (p := 4) (u := 5) (ty := 23) rfl _ _ (w.heap.size + 1 + 1) 23 _ (0, 0) _ _ rfl ?_ Tryd.under23 rfl (by rw [hyl.out]; exact Tryd.size23) rfl
      exact (World.putObj_heap_other (by omega)).trans (setRow_heap _ _ _ _ 23 (0, 0) hk2.out)
    · exact (hb5.out.trans (below_setRow _ _ _ _ (by omega))).trans (belowK_b (w := w) (Nat.le_refl _) _ D _ _ (by omega) hD3 rfl rfl)
  case stop =>
    rintro D c pre W _ _ h _
    exact h.elim
end Go.Proofs.YtnanipeapjpkfaaDoor
namespace Go.Proofs.YtnanipeapjpkfaaDoor
set_option maxRecDepth 100000
open Go.RowKit
set_option maxRecDepth 100000 in
set_option maxHeartbeats 1000000 in
theorem public_okL (seed : List (BitVec 8)) (key : Nat) (w : World) (hx : seed.length = 32) (hk : key ≤ 2147483647) (hK : Tab w) :
    Calls Tryd.prog 37 #[.agg (seed.map V).toArray, .int .i64 (key : Int)] w fun e w' => e = .returned (.tuple #[.agg ((pub (all512 (edOf seed key))).map V).toArray, .int .i64 0]) ∧ Below w.heap.size w w' := by
  have hmk := Tryd.make32L
  have hky := Box.mk (fun w => iskey_yesL key hk w)
  go_enter Tryd.func37, Tryd.ntmps37
  go_upto_region 4 with (go_at_call 46; refine (hky.out _).mono ?_; rintro e w2 ⟨rfl, rfl⟩)
  clear hmk hky
  refine code_any (fun w1 => HasV w1 w.heap.size 23 seed ∧ HasV w1 (w.heap.size + 1) 23 hz ∧ Rw w1 (w.heap.size + 1 + 1) (part512 (edOf seed key) 0) ∧ Below w.heap.size w w1) ?_ ?_
  · refine ⟨HasV.alloc (heap_alloc2_old _ _ _) _, HasV.alloc (T := 23) (xs := hz) (by exact heap_alloc2_new _ _ _) _, ?_, (((Below.refl _ _).alloc (Nat.le_refl _) _).alloc (by simp) _).alloc (by simp; omega) _⟩
    rw [part_zeroL]
    have := rw_newL ((w.alloc (Obj.cells (List.map V seed).toArray 23)).alloc (Obj.cells (hz.map V).toArray 23))
    rw [show ((w.alloc (Obj.cells (List.map V seed).toArray 23)).alloc (Obj.cells (hz.map V).toArray 23)).heap.size = w.heap.size + 1 + 1 by simp] at this
    exact this
  rintro w1 ⟨hv1, hv2, hr, hb1⟩
  go_wp2
  go_loopw [14] (fun i wr => ∃ k : Nat, k ≤ 256 ∧ i = .int .i64 (k : Int) ∧ HasV wr w.heap.size 23 seed ∧ HasV wr (w.heap.size + 1) 23 hz ∧ Box (Rw wr (w.heap.size + 1 + 1) (part512 (edOf seed key) (2 * k))) ∧ Below w.heap.size w wr) (fun i _ => 256 - (intOf i).toNat)
  case atStart => exact ⟨0, by omega, rfl, hv1, hv2, ⟨hr⟩, hb1⟩
  case round =>
    clear hv1 hv2 hr hb1
    obtain ⟨k, hk256, rfl, hv1, hv2, hr, hb⟩ := hrel
    by_cases hlt : k < 256
    · have hd : decide ((k : Int) < 256) = true := by simp; omega
      go_wp2
      go_loopw [17] (fun i wr => ∃ b : Nat, b ≤ 2 ∧ i = .int .i64 (b : Int) ∧ HasV wr w.heap.size 23 seed ∧ HasV wr (w.heap.size + 1) 23 hz ∧ Box (Rw wr (w.heap.size + 1 + 1) (part512 (edOf seed key) (2 * k + b))) ∧ Below w.heap.size w wr) (fun i _ => 2 - (intOf i).toNat)
      case atStart => exact ⟨0, by omega, rfl, hv1, hv2, hr, hb⟩
      case round =>
        clear hv1 hv2 hr hb
        obtain ⟨b, hb2, rfl, hv1, hv2, hr, hb⟩ := hrel
        by_cases hbl : b < 2
        · have hv1' : Box (wr.heap[w.heap.size]? = some (.cells (seed.map V).toArray 23 (0, 0))) := ⟨hv1⟩
          have hsz : Box ((seed.map V).toArray.size = 32) := ⟨by simp [hx]⟩
          have hT := hK.below hb
          have hS := Box.mk (sc_any seed key k b wr hx (by omega) (by omega) hT)
          have hE : Box (∀ w2, Tab w2 → Calls Tryd.prog 49 #[.agg ((sc seed key k b).map V).toArray, .int .i64 (k : Int), .int .i64 (b : Int)] w2 fun e w' => e = .returned (.agg ((en (sc seed key k b) k b).map V).toArray) ∧ Below w2.heap.size w2 w') := ⟨fun w2 h2 => en_any (sc seed key k b) k b w2 (sc_len _ _ _ _) (by omega) h2⟩
          have hP := Box.mk (part_setL (edOf seed key) (2 * k + b))
          rw [edOf_at seed key k b (by omega)] at hP
          obtain ⟨y, hy⟩ : ∃ y, Box (en (sc seed key k b) k b = y) := ⟨_, ⟨rfl⟩⟩
          have hel : y.length = 32 := by rw [← hy.out]; exact en_len _ _ _
          rw [hy.out] at hE hP
          have hv1B := Box.mk hv1
          have hv2B := Box.mk hv2
          have hsy : Box ((y.map V).toArray.size = 32) := ⟨by simp [hel]⟩
          have hpl := part_lenL (edOf seed key) (2 * k + b)
          generalize sc seed key k b = z at hS hE
          have i1 : (0 : Int) ≤ 2 * (k : Int) + (b : Int) := by omega
          have i2 : 2 * (k : Int) + (b : Int) < 512 := by omega
          clear hy hv1 hv2
          go_wp2_with (first | (refine wpList_load_row rfl 23 (.tmp 2) rfl w.heap.size rfl 23 _ (0, 0) _ hv1'.out Tryd.under23 rfl (by rw [hsz.out]; exact Tryd.size23) ?_) | (go_at_call 48; refine hS.out.mono ?_; rintro e w2 ⟨rfl, hb2⟩; have hT2 := hT.below hb2) | (go_at_call 49; refine (hE.out w2 hT2).mono ?_; rintro e w3 ⟨rfl, hb3⟩; have hb4 : Below wr.heap.size wr w3 := hb2.trans (hb3.mono hb2.size); have hr3 := Box.mk (hr.out.below hb4); have hvA := Box.mk (hv1B.out.below hb4 hv1B.out.lt); have hvC := Box.mk (hv2B.out.below hb4 hv2B.out.lt); have hb5 := Box.mk (hb.trans (hb4.mono hb.size)); clear hb4 hb3 hb2 hr hv1B hv2B hv1') | (refine wpList_store_mid rfl 23 (.tmp 33) (.tmp 32) rfl (w.heap.size + 1 + 1) ((2 * k + b) * 32) (y.map V).toArray rfl rfl (by rw [hsy.out]; exact hr3.out.there (2 * k + b) (by rw [hpl]; omega)) (by rw [hsy.out]; exact Tryd.size23) (V_all _) ?_))
          refine ⟨⟨b + 1, by omega, by go_num, hvA.out.cells_other (by omega), hvC.out.cells_other (by omega), ⟨?_⟩, below_setCells (by omega) _ _ _ hb5.out⟩, by simp [intOf]; omega⟩
          rw [← Nat.add_assoc, ← hP.out]
          exact hr3.out.store (2 * k + b) y (by rw [hpl]; omega) hel
        · obtain rfl : b = 2 := by omega
          go_wp2
          refine ⟨⟨k + 1, by omega, by go_num, hv1, hv2, ?_, hb⟩, by simp [intOf]; omega⟩
          rw [show 2 * (k + 1) = 2 * k + 2 by omega]
          exact hr
    · obtain rfl : k = 256 := by omega
      rw [show 2 * 256 = 512 by rfl, part_allL] at hr
      have hpb := Box.mk (pub_anyL (w.heap.size + 1 + 1) _ wr (all_lenL _) hr.out (hK.below hb))
      obtain ⟨y, hy⟩ : ∃ y, Box (pub (all512 (edOf seed key)) = y) := ⟨_, ⟨rfl⟩⟩
      have hyl : Box ((y.map V).toArray.size = 32) := ⟨by rw [← hy.out]; simp [pub_len]⟩
      rw [hy.out] at hpb
      have hv2B := Box.mk hv2
      clear hv1 hv2 hr
      go_wp2_with (first | (go_at_call 52; refine hpb.out.mono ?_; rintro e w2 ⟨rfl, hb2⟩; have hk2 : Box (w2.heap[w.heap.size + 1]? = some (.cells (hz.map V).toArray 23 (0, 0))) := ⟨hv2B.out.below hb2 hv2B.out.lt⟩; have hb5 := Box.mk (hb.trans (hb2.mono hb.size)); clear hb2) | (refine wpList_store_row rfl 23 (.tmp 4) (.tmp 37) rfl (w.heap.size + 1) (y.map V).toArray rfl rfl 23 _ hk2.out (by rw [hyl.out]; exact Tryd.size23) (by rw [hyl.out]; rfl) (V_all _) ?_))
      refine bodyPost_ret (v := .tuple #[.agg (y.map V).toArray, .int .i64 0]) ?_ rfl ⟨by rw [hy.out], ?_⟩
      · exact results_row_tmp (P := Tryd.prog) (fn := Tryd.f37) (p := 4) (u := 5) (ty := 23) rfl _ _ (w.heap.size + 1) 23 _ (0, 0) _ _ rfl (setRow_heap _ _ _ _ 23 (0, 0) hk2.out) Tryd.under23 rfl (by rw [hyl.out]; exact Tryd.size23) rfl
      · exact hb5.out.trans (below_setRow _ _ _ _ (by omega))
set_option maxHeartbeats 400000 in
theorem public_noL (seed : List (BitVec 8)) (key : Int) (w : World) (hk : key < 0 ∨ 2147483647 < key) :
    Calls Tryd.prog 37 #[.agg (seed.map V).toArray, .int .i64 key] w fun e w' => e = .returned (.tuple #[.agg (hz.map V).toArray, .int .i64 11]) ∧ Below w.heap.size w w' := by
  have hky := Box.mk (fun w => iskey_noL key hk w)
  have hzz := Tryd.zero23
  rw [show hsh St.first 0 = hz from rfl] at hzz
  go_enter Tryd.func37, Tryd.ntmps37
  go_upto_region 1 with fail
  refine code_any (fun w1 => HasV w1 (w.heap.size + 1) 23 hz ∧ Below w.heap.size w w1) ?_ ?_
  · exact ⟨by exact heap_alloc2_new _ _ _, ((Below.refl _ _).alloc (Nat.le_refl _) _).alloc (by simp) _⟩
  rintro w1 ⟨hv2, hb1⟩
  have hk2 : Box (w1.heap[w.heap.size + 1]? = some (.cells (hz.map V).toArray 23 (0, 0))) := ⟨hv2⟩
  have hsz : Box ((hz.map V).toArray.size = 32) := ⟨by simp [hz_len]⟩
  clear hv2 hk
  go_wp2_with (first | (go_at_call 46; refine (hky.out _).mono ?_; rintro e w2 ⟨rfl, rfl⟩) | (refine wpList_store_row rfl 23 (.tmp 4) (.tmp 12) rfl (w.heap.size + 1) (hz.map V).toArray rfl rfl 23 _ hk2.out (by rw [hsz.out]; exact Tryd.size23) (by rw [hsz.out]) (V_all _) ?_))
  refine bodyPost_ret (v := .tuple #[.agg (hz.map V).toArray, .int .i64 11]) ?_ rfl ⟨rfl, ?_⟩
  · exact results_row_tmp (P := Tryd.prog) (fn := Tryd.f37) (p := 4) (u := 5) (ty := 23) rfl _ _ (w.heap.size + 1) 23 _ (0, 0) _ _ rfl (setRow_heap _ _ _ _ 23 (0, 0) hk2.out) Tryd.under23 rfl (by rw [hsz.out]; exact Tryd.size23) rfl
  · exact hb1.trans (below_setRow _ _ _ _ (by omega))
end Go.Proofs.YtnanipeapjpkfaaDoor
namespace Go.Proofs.YtnanipeapjpkfaaDoor
set_option maxRecDepth 100000
open Go.RowKit
section
variable {Q : Exit → Act → World → Prop} {o : Oper} {a : Act} {w : World} {ops : Array Oper} {rest : List Oper}
theorem wl_run {P : Program} (hgd : o.guard = none) {v : Value} {w' : World} (hr : (execOp a.eval o).run P w = .ok (.value v) w') (h : wpList P ops Q rest (a.put o.dst v) w') : wpList P ops Q (o :: rest) a w := by
  unfold wpList
  rw [if_pos (by unfold Region.wanted; rw [hgd])]
  refine .inl ?_
  unfold Oper.wp
  rw [hr]
  exact h
theorem wl_build (hgd : o.guard = none) (x : Operand) (ho : o.op = .buildSlice 32 1 #[(0, x)]) (hh : List (BitVec 8)) (hl : hh.length = 32) (hx : a.eval x = .agg (hh.map V).toArray)
    (h : wpList Tryd.prog ops Q rest (a.put o.dst (.slice (some ⟨w.heap.size, 0, none⟩) 1 1)) (w.alloc (.cells (hh.map V).toArray 23))) : wpList Tryd.prog ops Q (o :: rest) a w := by
  refine wl_run hgd (v := .slice (some ⟨w.heap.size, 0, none⟩) 1 1) (w' := w.alloc (.cells (hh.map V).toArray 23)) ?_ h
  have := Tryd.build32 hh hl w
  unfold execOp
  rw [ho]
  simp [hx, this]
theorem appendH (hgd : o.guard = none) (s x : Operand) (ho : o.op = .call { callee := .builtin .append, args := #[s, x], argTypes := #[32, 32] })
    (wL : World) (v : Value) (hs : List (List (BitVec 8))) (hh : List (BitVec 8)) (g : Nat) (hsv : a.eval s = v) (hs1 : (Fk.ow wL.heap.size hs).f v w) (hx : a.eval x = .slice (some ⟨g, 0, none⟩) 1 1) (hv : HasV w g 23 hh) (hhl : hh.length = 32) (hL : Below wL.heap.size wL w) (hN : hs.length ≤ 1000)
    (h : ∀ v' w', (Fk.ow wL.heap.size (hs ++ [hh])).f v' w' → Below wL.heap.size wL w' → wpList Tryd.prog ops Q rest (a.put o.dst v') w') : wpList Tryd.prog ops Q (o :: rest) a w := by
  obtain ⟨i0, hi, hz0, hz1, hz2⟩ := info_parts Tryd.info23
  obtain ⟨hown, h32⟩ := hs1
  refine wpList_append_own w hgd s x 32 ho wL.heap.size 23 i0 _ 32 32 Tryd.under32' hi hz0 hz1 hz2 (by simp [Value.cells, hz_len]) (by decide) v hs.length _ hsv hown ⟨g, 0, none⟩ 1 1 (hh.map V) hx (by simp [hhl]) ?_ (V_one hh) (by unfold maxLen; omega) (by omega) hL.size ?_
  · intro j u hj
    have := hv.bytes.src hh.length j u
    rw [List.take_of_length_le (Nat.le_refl _)] at this
    exact this hj
  · intro v' w' h1 h2 _
    refine h v' w' ⟨?_, fun i y hi => ?_⟩ (hL.grown h2 hL.size (fun k e => (World.ownsRow.lt hown k e).1))
    · rw [List.length_append, List.flatten_append, List.map_append]
      simpa using h1
    · by_cases hil : i < hs.length
      · exact h32 i y (by rw [List.getElem?_append_left hil] at hi; exact hi)
      · rw [List.getElem?_append_right (by omega)] at hi
        cases hq : i - hs.length with
        | zero =>
          rw [hq] at hi
          obtain rfl : hh = y := by simpa using hi
          exact hhl
        | succ n => rw [hq] at hi; simp at hi
end
theorem ow_alloc {base : Nat} {hs : List (List (BitVec 8))} {v : Value} {w w' : World} (h : (Fk.ow base hs).f v w) (hb : Below w.heap.size w w') : (Fk.ow base hs).f v w' := Fk.mono _ _ _ _ h hb
end Go.Proofs.YtnanipeapjpkfaaDoor
namespace Go.Proofs.YtnanipeapjpkfaaDoor
set_option maxRecDepth 100000
open Go.RowKit
theorem fk_public_okL {seed : List (BitVec 8)} {key : Nat} {w : World} (hx : seed.length = 32) (hk : key ≤ 2147483647) (hK : Tab w) {y : List (BitVec 8)} (hy : Box (pub (all512 (edOf seed key)) = y)) :
    Calls Tryd.prog 37 #[.agg (seed.map V).toArray, .int .i64 ((key : Nat) : Int)] w fun e w' => ∃ u, e = .returned u ∧ (Fk.eq (.tuple #[.agg (y.map V).toArray, .int .i64 0])).f u w' ∧ Below w.heap.size w w' := by
  rw [← hy.out]; exact fk_of (public_okL seed key w hx hk hK)
theorem fk_public_noL {seed : List (BitVec 8)} {key : Int} {w : World} (hk : key < 0 ∨ 2147483647 < key) :
    Calls Tryd.prog 37 #[.agg (seed.map V).toArray, .int .i64 key] w fun e w' => ∃ u, e = .returned u ∧ (Fk.eq (.tuple #[.agg (hz.map V).toArray, .int .i64 11])).f u w' ∧ Below w.heap.size w w' := fk_of (public_noL seed key w hk)
theorem fk_sign_okL {seed : List (BitVec 8)} {key : Nat} {h : List (BitVec 8)} {w : World} (hx : seed.length = 32) (hh : h.length = 32) (hk : key ≤ 2147483647) (hK : Tab w) {S : List (List (BitVec 8))} (hS : Box (all512 (sgOf seed key h) = S)) :
    Calls Tryd.prog 18 #[.agg (seed.map V).toArray, .int .i64 ((key : Nat) : Int), .agg (h.map V).toArray] w fun e w' => ∃ u, e = .returned u ∧ (Fk.th S 0).f u w' ∧ Below w.heap.size w w' := by
  refine (sign_okL seed key h w hx hh hk hK).mono ?_
  rintro e w' ⟨g, rfl, hl, _, hb⟩
  rw [hS.out] at hl
  have h512 : S.length = 512 := by rw [← hS.out]; exact all_lenL _
  exact ⟨_, rfl, ⟨_, rfl, _, 512, g, 0, by rw [h512], hl.hl⟩, hb⟩
/-- No hashes. -/
def nilH : List (List (BitVec 8)) := []
theorem fk_sign_noL {seed : List (BitVec 8)} {key : Int} {h : List (BitVec 8)} {w : World} (hk : key < 0 ∨ 2147483647 < key) :
    Calls Tryd.prog 18 #[.agg (seed.map V).toArray, .int .i64 key, .agg (h.map V).toArray] w fun e w' => ∃ u, e = .returned u ∧ (Fk.th nilH 11).f u w' ∧ Below w.heap.size w w' := by
  refine (sign_noL seed key h w hk).mono ?_
  rintro e w' ⟨rfl, hb⟩
  exact ⟨_, rfl, ⟨_, rfl, none, 0, 0, 0, rfl, fun h => by simp [nilH] at h, fun h => by simp [nilH] at h, fun i x hi => by simp [nilH] at hi⟩, hb⟩
theorem fk_recover_okL {h : List (BitVec 8)} {S : List (List (BitVec 8))} {v : Value} {w : World} (hh : h.length = 32) (hSl : S.length = 512) (hK : Tab w) (hv : (Fk.hs S).f v w) {y : List (BitVec 8)} (hy : Box (pub (all512 (rcOf h S)) = y)) :
    Calls Tryd.prog 23 #[.agg (h.map V).toArray, v] w fun e w' => ∃ u, e = .returned u ∧ (Fk.eq (.tuple #[.agg (y.map V).toArray, .int .i64 0])).f u w' ∧ Below w.heap.size w w' := by
  have hv' := hv
  obtain ⟨A, C, lb, lo, rfl, hl⟩ := hv
  rw [hSl] at hv' ⊢
  rw [← hy.out]
  exact fk_of (recover_okL h A C S w hh hSl hv' hK)
theorem fk_recover_noL {h : List (BitVec 8)} {S : List (List (BitVec 8))} {v : Value} {w : World} (hSl : S.length ≠ 512) (hv : (Fk.hs S).f v w) :
    Calls Tryd.prog 23 #[.agg (h.map V).toArray, v] w fun e w' => ∃ u, e = .returned u ∧ (Fk.eq (.tuple #[.agg (hz.map V).toArray, .int .i64 10])).f u w' ∧ Below w.heap.size w w' := by
  obtain ⟨A, C, lb, lo, rfl, hl⟩ := hv
  exact fk_of (recover_noL h A _ C w hSl)
/-- A row of 512 noughts that is new. -/
def Fk.nr (g0 : Nat) : Fk := .inr (.inl ⟨fun v w => ∃ g, g0 ≤ g ∧ v = .slice (some ⟨g, 0, none⟩) 512 512 ∧ Rw w g z512, by
  rintro v w w' ⟨g, h, e, hr⟩ hb
  exact ⟨g, h, e, hr.below hb⟩⟩)
theorem st_make27 {Q : Exit → Act → World → Prop} {o : Oper} {a : Act} {w : World} (ho : o.op = .makeSlice 32 (.const (.int .i64 512)) (.const (.int .i64 512))) (g0 : Nat) (hg : g0 ≤ w.heap.size) : o.wp Tryd.prog a w (Ends a o.dst w (Fk.nr g0).f) Q := by
  refine st_run (v := .slice (some ⟨w.heap.size, 0, none⟩) 512 512) (w' := w.alloc (.cells mk512 23)) ?_ ((Below.refl _ _).alloc (Nat.le_refl _) _) ⟨w.heap.size, hg, rfl, rw_newL w⟩
  have := Tryd.make32L w
  have he : a.eval (.const (.int .i64 512)) = .int .i64 512 := rfl
  unfold execOp
  rw [ho]
  simp [he, this]
theorem rw_hs {w : World} {g : Nat} {hs : List (List (BitVec 8))} (h : Rw w g hs) (hl : hs.length = 512) : (Fk.hs hs).f (.slice (some ⟨g, 0, none⟩) 512 512) w := ⟨_, 512, g, 0, by rw [hl], h.hl⟩
end Go.Proofs.YtnanipeapjpkfaaDoor
namespace Go.Proofs.YtnanipeapjpkfaaDoor
set_option maxRecDepth 100000
open Go.RowKit
section
variable {Q : Exit → Act → World → Prop} {o : Oper} {a : Act} {w : World}
end
theorem fk_public_ok {seed : List (BitVec 8)} {key : Nat} {w : World} (hx : seed.length = 32) (hk : key ≤ 2147483647) (hK : Tab w) {y : List (BitVec 8)} (hy : Box (pub (all67 (endOf seed key)) = y)) :
    Calls Tryd.prog 36 #[.agg (seed.map V).toArray, .int .i64 ((key : Nat) : Int)] w fun e w' => ∃ u, e = .returned u ∧ (Fk.eq (.tuple #[.agg (y.map V).toArray, .int .i64 0])).f u w' ∧ Below w.heap.size w w' := by
  rw [← hy.out]; exact fk_of (public_ok seed key w hx hk hK)
theorem fk_public_no {seed : List (BitVec 8)} {key : Int} {w : World} (hk : key < 0 ∨ 2147483647 < key) :
    Calls Tryd.prog 36 #[.agg (seed.map V).toArray, .int .i64 key] w fun e w' => ∃ u, e = .returned u ∧ (Fk.eq (.tuple #[.agg (hz.map V).toArray, .int .i64 11])).f u w' ∧ Below w.heap.size w w' := fk_of (public_no seed key w hk)
theorem fk_sign_ok {seed : List (BitVec 8)} {key : Nat} {h : List (BitVec 8)} {w : World} (hx : seed.length = 32) (hh : h.length = 32) (hk : key ≤ 2147483647) (hK : Tab w) {S : List (List (BitVec 8))} (hS : Box (all67 (sigOf seed key h) = S)) :
    Calls Tryd.prog 16 #[.agg (seed.map V).toArray, .int .i64 ((key : Nat) : Int), .agg (h.map V).toArray] w fun e w' => ∃ u, e = .returned u ∧ (Fk.th S 0).f u w' ∧ Below w.heap.size w w' := by
  refine (sign_ok seed key h w hx hh hk hK).mono ?_
  rintro e w' ⟨g, rfl, hl, _, hb⟩
  rw [hS.out] at hl
  have h67 : S.length = 67 := by rw [← hS.out]; exact all_len _
  exact ⟨_, rfl, ⟨_, rfl, _, 67, g, 0, by rw [h67], hl⟩, hb⟩
theorem fk_sign_no {seed : List (BitVec 8)} {key : Int} {h : List (BitVec 8)} {w : World} (hk : key < 0 ∨ 2147483647 < key) :
    Calls Tryd.prog 16 #[.agg (seed.map V).toArray, .int .i64 key, .agg (h.map V).toArray] w fun e w' => ∃ u, e = .returned u ∧ (Fk.th nilH 11).f u w' ∧ Below w.heap.size w w' := by
  refine (sign_no seed key h w hk).mono ?_
  rintro e w' ⟨rfl, hb⟩
  exact ⟨_, rfl, ⟨_, rfl, none, 0, 0, 0, rfl, fun h => by simp [nilH] at h, fun h => by simp [nilH] at h, fun i x hi => by simp [nilH] at hi⟩, hb⟩
theorem sig_end (seed : List (BitVec 8)) (key : Nat) (h : List (BitVec 8)) (i : Nat) : wk (i : Int) (dg h i) (sigOf seed key h i) (15 - dg h i) = endOf seed key i := by
  unfold sigOf endOf
  have := dg_le h i
  have e := wk_add (i : Int) 0 (sec seed key i) (dg h i) (15 - dg h i)
  rw [Nat.zero_add, show dg h i + (15 - dg h i) = 15 by omega] at e
  exact e.symm
theorem rec_sig (seed : List (BitVec 8)) (key : Nat) (h : List (BitVec 8)) : all67 (recOf h (all67 (sigOf seed key h))) = all67 (endOf seed key) := by
  unfold all67
  apply List.map_congr_left
  intro i hi
  have hi' : i < 67 := by simpa using hi
  have e : (((List.range 67).map (sigOf seed key h)).getD i []) = sigOf seed key h i := by
    have := all_at (sigOf seed key h) i hi'
    unfold all67 at this
    simp only [List.getD_eq_getElem?_getD, this, Option.getD_some]
  unfold recOf
  rw [e, sig_end]
end Go.Proofs.YtnanipeapjpkfaaDoor
