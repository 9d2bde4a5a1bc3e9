/- What Node, Chain, Secret and Record hand back: the sums of just their bytes. Steps of a drawn region over texts, bytes and bools. Regions that end in an assignment; steps over numbers. Lists of hashes in memory, and what Public hands back. Numbers in memory, append of numbers, and the digits of a hash, plain. What wots.Digits hands back: the 67 digits, in new memory. Steps of chains: what the laws' walked and wots.Walk hand back. More that is told of slots, and steps over it: numbers and hashes in slices, comparisons, the calls of wots. Made by gen_uf.py. isKey; the digits by a pointer; what awake answers. A row of hashes that is written hash by hash. What wots.Public, Sign and Recover hand back. -/
import Derived.Test.YtnanipeapjpkfaaDoorM2
import Derived.Laws.Concat
import Derived.Laws.Small
import Derived.Laws.OwnMore
import Derived.Deep.MidRow
import Derived.Laws.ResultCell
namespace Go.Proofs.YtnanipeapjpkfaaDoor
set_option maxRecDepth 100000
open Go.RowKit
theorem Tryd.mixed : Tryd.prog.follows .mixedOrders = true := by kernel_rfl
theorem Tryd.enter45 (args : Array Value) (w : World) : (callFunc 45 args).run Tryd.prog w = .ok (.enter 45 args) w := by kernel_rfl
theorem Tryd.enter76 (args : Array Value) (w : World) : (callFunc 76 args).run Tryd.prog w = .ok (.enter 76 args) w := by kernel_rfl
theorem Tryd.enter65 (args : Array Value) (w : World) : (callFunc 65 args).run Tryd.prog w = .ok (.enter 65 args) w := by kernel_rfl
theorem heap_alloc3_new (w : World) (o1 o2 o3 : Obj) : (((w.alloc o1).alloc o2).alloc o3).heap[w.heap.size + 1 + 1]? = some o3 := by
  have := heap_alloc_new ((w.alloc o1).alloc o2) o3
  simpa using this
theorem one_arg {a : Act} {x : Operand} {v : Value} (h : a.eval x = v) : ((#[x].toList.map a.eval).toArray : Array Value) = #[v] := by rw [← h]; rfl
set_option maxHeartbeats 400000 in
theorem chain_any (xs : List (BitVec 8)) (m n : Int) (w : World) (hx : xs.length = 32) (hK : Tab w) :
    Calls Tryd.prog 64 #[.agg (xs.map V).toArray, .int .i64 m, .int .i64 n] w fun e w' => e = .returned (.agg ((shaOf (kb 2 :: (xs ++ (two m ++ two n)))).map V).toArray) ∧ Below w.heap.size w w' := by
  have hl : Box (((shaOf (kb 2 :: (xs ++ (two m ++ two n)))).map V).toArray.size = 32) := ⟨by simp [shaOf_len]⟩
  obtain ⟨hh, hS⟩ : ∃ hh, Box (shaOf (kb 2 :: (xs ++ (two m ++ two n))) = hh) := ⟨_, ⟨rfl⟩⟩
  rw [hS.out] at hl ⊢
  go_enter Tryd.func64, Tryd.ntmps64
  go_upto_region 1 with fail
  refine code_any (fun w1 => HasV w1 w.heap.size 23 xs ∧ HasV w1 (w.heap.size + 1) 23 (hsh St.first 0) ∧ Below w.heap.size w w1) ?_ ?_
  · exact ⟨heap_alloc2_old _ _ _, heap_alloc2_new _ _ _, ((Below.refl _ _).alloc (Nat.le_refl _) _).alloc (by simp) _⟩
  rintro w1 ⟨hv1, hv3, hb1⟩
  have hT1 : Tab w1 := hK.below hb1
  refine wp_region_end [.sl xs, .eq (.int .i64 m), .sl (two m), .eq (.int .i64 n), .sl (two n), .ls 3 (xs ++ (two m ++ two n)), .eq (.agg (hh.map V).toArray)] Tryd.mixed (by kernel_rfl) (by kernel_rfl) (by kernel_rfl) (by kernel_rfl) ⟨fun _ a w' K => ?_, fun _ a w' K => ?_, fun _ a w' K => ?_, fun _ a w' K => ?_, fun _ a w' K => ?_, fun _ a w' K => ?_, fun _ a w' K => ?_, trivial⟩ ?_
  · exact st_slice23 (.tmp 3) rfl _ _ xs (K.old 3 rfl) hx (hv1.below K.grow hv1.lt).lt (hv1.below K.grow hv1.lt).bytes
  · exact st_move (.tmp 1) rfl (K.old 1 rfl)
  · exact st_call 76 (.func 76) _ _ #[.int .i64 m] rfl rfl (one_arg (K.dep 1 8 rfl)) Tryd.enter76 (fk_two m w')
  · exact st_move (.tmp 2) rfl (K.old 2 rfl)
  · exact st_call 76 (.func 76) _ _ #[.int .i64 n] rfl rfl (one_arg (K.dep 3 10 rfl)) Tryd.enter76 (fk_two n w')
  · exact st_build3 (.tmp 7) (.tmp 9) (.tmp 11) rfl (K.dep 0 7 rfl) (K.dep 2 9 rfl) (K.dep 4 11 rfl)
  · rw [← hS.out]
    exact st_call 45 (.func 45) _ _ #[.int .i64 2, a.eval (.tmp 12)] rfl rfl rfl Tryd.enter45 (fk_tsum 2 (by simp [two]; omega) (by omega) (hT1.below K.grow) (K.dep 5 12 rfl))
  · intro af w4 fin hb4
    have e3 : af.eval (.tmp 13) = .agg (hh.map V).toArray := fin.has 6 13 rfl
    have hv5 : w4.heap[w.heap.size + 1]? = some (.cells ((hsh St.first 0).map V).toArray 23 (0, 0)) := hv3.below hb4 hv3.lt
    have hb6 : Below w.heap.size w w4 := hb1.trans (hb4.mono hb1.size)
    refine wpList_store_row rfl 23 (.tmp 6) (.tmp 13) rfl (w.heap.size + 1) (hh.map V).toArray (fin.old 6 rfl) e3 23 _ hv5 (by rw [hl.out]; exact Tryd.size23) (by rw [hl.out]; rfl) (V_all _) ?_
    go_wp2
    refine bodyPost_ret (v := .agg (hh.map V).toArray) ?_ fin.defs ⟨rfl, ?_⟩
    · exact results_cell_row (P := Tryd.prog) (fn := Tryd.f64) (p := 6) (ty := 23) rfl _ _ (w.heap.size + 1) 23 _ (0, 0) _ (fin.old 6 rfl) (setRow_heap _ _ _ _ 23 (0, 0) hv5) Tryd.under23 rfl (by rw [hl.out]; exact Tryd.size23)
    · exact hb6.trans (below_setRow _ _ _ _ (by omega))
set_option maxHeartbeats 400000 in
theorem secret_any (xs : List (BitVec 8)) (m n : Int) (w : World) (hx : xs.length = 32) (hK : Tab w) :
    Calls Tryd.prog 44 #[.agg (xs.map V).toArray, .int .i64 m, .int .i64 n] w fun e w' => e = .returned (.agg ((shaOf (kb 3 :: (xs ++ (four m ++ four n)))).map V).toArray) ∧ Below w.heap.size w w' := by
  have hl : Box (((shaOf (kb 3 :: (xs ++ (four m ++ four n)))).map V).toArray.size = 32) := ⟨by simp [shaOf_len]⟩
  obtain ⟨hh, hS⟩ : ∃ hh, Box (shaOf (kb 3 :: (xs ++ (four m ++ four n))) = hh) := ⟨_, ⟨rfl⟩⟩
  rw [hS.out] at hl ⊢
  go_enter Tryd.func44, Tryd.ntmps44
  go_upto_region 1 with fail
  refine code_any (fun w1 => HasV w1 w.heap.size 23 xs ∧ HasV w1 (w.heap.size + 1) 23 (hsh St.first 0) ∧ Below w.heap.size w w1) ?_ ?_
  · exact ⟨heap_alloc2_old _ _ _, heap_alloc2_new _ _ _, ((Below.refl _ _).alloc (Nat.le_refl _) _).alloc (by simp) _⟩
  rintro w1 ⟨hv1, hv3, hb1⟩
  have hT1 : Tab w1 := hK.below hb1
  refine wp_region_end [.sl xs, .eq (.int .i64 m), .sl (four m), .eq (.int .i64 n), .sl (four n), .ls 3 (xs ++ (four m ++ four n)), .eq (.agg (hh.map V).toArray)] Tryd.mixed (by kernel_rfl) (by kernel_rfl) (by kernel_rfl) (by kernel_rfl) ⟨fun _ a w' K => ?_, fun _ a w' K => ?_, fun _ a w' K => ?_, fun _ a w' K => ?_, fun _ a w' K => ?_, fun _ a w' K => ?_, fun _ a w' K => ?_, trivial⟩ ?_
  · exact st_slice23 (.tmp 3) rfl _ _ xs (K.old 3 rfl) hx (hv1.below K.grow hv1.lt).lt (hv1.below K.grow hv1.lt).bytes
  · exact st_move (.tmp 1) rfl (K.old 1 rfl)
  · exact st_call 65 (.func 65) _ _ #[.int .i64 m] rfl rfl (one_arg (K.dep 1 8 rfl)) Tryd.enter65 (fk_four m w')
  · exact st_move (.tmp 2) rfl (K.old 2 rfl)
  · exact st_call 65 (.func 65) _ _ #[.int .i64 n] rfl rfl (one_arg (K.dep 3 10 rfl)) Tryd.enter65 (fk_four n w')
  · exact st_build3 (.tmp 7) (.tmp 9) (.tmp 11) rfl (K.dep 0 7 rfl) (K.dep 2 9 rfl) (K.dep 4 11 rfl)
  · rw [← hS.out]
    exact st_call 45 (.func 45) _ _ #[.int .i64 3, a.eval (.tmp 12)] rfl rfl rfl Tryd.enter45 (fk_tsum 3 (by simp [four]; omega) (by omega) (hT1.below K.grow) (K.dep 5 12 rfl))
  · intro af w4 fin hb4
    have e3 : af.eval (.tmp 13) = .agg (hh.map V).toArray := fin.has 6 13 rfl
    have hv5 : w4.heap[w.heap.size + 1]? = some (.cells ((hsh St.first 0).map V).toArray 23 (0, 0)) := hv3.below hb4 hv3.lt
    have hb6 : Below w.heap.size w w4 := hb1.trans (hb4.mono hb1.size)
    refine wpList_store_row rfl 23 (.tmp 6) (.tmp 13) rfl (w.heap.size + 1) (hh.map V).toArray (fin.old 6 rfl) e3 23 _ hv5 (by rw [hl.out]; exact Tryd.size23) (by rw [hl.out]; rfl) (V_all _) ?_
    go_wp2
    refine bodyPost_ret (v := .agg (hh.map V).toArray) ?_ fin.defs ⟨rfl, ?_⟩
    · exact results_cell_row (P := Tryd.prog) (fn := Tryd.f44) (p := 6) (ty := 23) rfl _ _ (w.heap.size + 1) 23 _ (0, 0) _ (fin.old 6 rfl) (setRow_heap _ _ _ _ 23 (0, 0) hv5) Tryd.under23 rfl (by rw [hl.out]; exact Tryd.size23)
    · exact hb6.trans (below_setRow _ _ _ _ (by omega))
end Go.Proofs.YtnanipeapjpkfaaDoor
namespace Go.Proofs.YtnanipeapjpkfaaDoor
set_option maxRecDepth 100000
open Go.RowKit
/-- The text of bytes. -/
def str (xs : List (BitVec 8)) : ByteArray := strOfNums (xs.map bv)
theorem byte_inj {x y : BitVec 8} (h : UInt8.ofNat (bv x).toNat = UInt8.ofNat (bv y).toNat) : x = y := by
  have := congrArg UInt8.toNat h
  simp only [bv, Int.toNat_natCast, UInt8.toNat_ofNat'] at this
  have h1 := x.isLt
  have h2 := y.isLt
  apply BitVec.eq_of_toNat_eq
  omega
theorem str_inj {xs ys : List (BitVec 8)} (h : str xs = str ys) : xs = ys := by
  have h2 : (str xs).data.toList = (str ys).data.toList := by rw [h]
  unfold str at h2
  rw [strOfNums_data, strOfNums_data, List.map_map, List.map_map] at h2
  induction xs generalizing ys with
  | nil => cases ys with
    | nil => rfl
    | cons y ys => simp at h2
  | cons x xs ih => cases ys with
    | nil => simp at h2
    | cons y ys =>
      simp only [List.map_cons, List.cons.injEq, Function.comp] at h2
      have e := byte_inj h2.1
      have hr : xs = ys := by
        refine ih (ys := ys) ?_ h2.2
        unfold str
        have : (strOfNums (xs.map bv)).data = (strOfNums (ys.map bv)).data := Array.toList_inj.1 (by rw [strOfNums_data, strOfNums_data, List.map_map, List.map_map]; exact h2.2)
        exact ByteArray.ext this
      rw [e, hr]
theorem str_append (xs ys : List (BitVec 8)) : str (xs ++ ys) = str xs ++ str ys := by
  apply ByteArray.ext
  apply Array.toList_inj.1
  simp [str, strOfNums]
theorem str_beq (s t : ByteArray) : (s.toList == t.toList) = decide (s = t) := by
  rw [ByteArray.toList_eq, ByteArray.toList_eq]
  by_cases h : s = t
  · subst h; simp
  · have : s.data ≠ t.data := fun e => h (ByteArray.ext e)
    simp [h, this]
theorem bv_eq (s t : BitVec 8) : (bv s == bv t) = decide (s = t) := by
  by_cases h : s = t
  · subst h; simp
  · have : bv s ≠ bv t := fun e => h (BitVec.eq_of_toNat_eq (by unfold bv at e; omega))
    simp [h, this]
theorem Tryd.under4 : Tryd.prog.underlying 4 = some .bool := by kernel_rfl
section
variable {Q : Exit → Act → World → Prop} {o : Oper} {a : Act} {w : World} {q : Fk}
theorem st_str (x : Operand) (ho : o.op = .convert 36 9 x) {bs : List (BitVec 8)} (hne : 0 < bs.length) (h : (Fk.sl bs).f (a.eval x) w) : o.wp Tryd.prog a w (Ends a o.dst w (Fk.eq (.string (str bs))).f) Q := by
  obtain ⟨sp, m, c, b, so, e, hs⟩ := h
  refine st_pure (v := .string (str bs)) ?_ rfl
  have hl := hs.len
  obtain ⟨rfl, _, hB⟩ := hs.src (by omega)
  have := run_convert_bytes_arg (P := Tryd.prog) w 36 5 Tryd.under36 Tryd.under5 b so m c (bs.map bv) (by simp [hl]) (fun i hi => by
    rw [hB i (by omega)]
    have : i < bs.length := by omega
    simp [this]) 9 Tryd.under9
  unfold execOp
  rw [ho]
  simp [e, this, str]
theorem st_eqs (x y : Operand) (ho : o.op = .binOp .eql 9 x y 9) (s t : ByteArray) (hx : a.eval x = .string s) (hy : a.eval y = .string t) (b : Bool) (hb : b = decide (s = t)) : o.wp Tryd.prog a w (Ends a o.dst w (Fk.eq (.bool b)).f) Q := by
  refine st_pure (v := .bool b) ?_ rfl
  unfold execOp
  rw [ho]
  subst hb
  simp [hx, hy, eqGuard, binOp, Op.stringOp, str_beq]
theorem st_adds (x y : Operand) (ho : o.op = .binOp .add 9 x y 9) (s t : ByteArray) (hx : a.eval x = .string s) (hy : a.eval y = .string t) (hle : s.size + t.size ≤ 1000000) : o.wp Tryd.prog a w (Ends a o.dst w (Fk.eq (.string (s ++ t))).f) Q := by
  refine st_pure (v := .string (s ++ t)) ?_ rfl
  unfold execOp
  rw [ho]
  have h2 := run_string_add_sum (P := Tryd.prog) (w := w) s t (by omega)
  simp [hx, hy, eqGuard, binOp, h2]
theorem st_conv8 (x : Operand) (ho : o.op = .convert 3 5 x) (z : Int) (hx : a.eval x = .int .i64 z) : o.wp Tryd.prog a w (Ends a o.dst w (Fk.eq (.int .u8 (bv (kb z)))).f) Q := by
  refine st_pure (v := .int .u8 (bv (kb z))) ?_ rfl
  unfold execOp
  rw [ho]
  simp [hx, convert, Conv.intToInt, IntKind.wrap_u8, ← kb_v]
theorem st_eq8 (x y : Operand) (ho : o.op = .binOp .eql 5 x y 5) (s t : BitVec 8) (hx : a.eval x = .int .u8 (bv s)) (hy : a.eval y = .int .u8 (bv t)) : o.wp Tryd.prog a w (Ends a o.dst w (Fk.eq (.bool (decide (s = t)))).f) Q := by
  refine st_pure (v := .bool (decide (s = t))) ?_ rfl
  unfold execOp
  rw [ho]
  simp [hx, hy, eqGuard, binOp, Op.intCmp, bv_eq]
theorem st_eqb (x y : Operand) (ho : o.op = .binOp .eql 4 x y 4) (s : Bool) (hx : a.eval x = .bool s) (hy : a.eval y = .bool s) : o.wp Tryd.prog a w (Ends a o.dst w (Fk.eq (.bool true)).f) Q := by
  refine st_pure (v := .bool true) ?_ rfl
  unfold execOp
  rw [ho]
  have h2 := run_equal_bool (P := Tryd.prog) w 4 s s Tryd.under4
  simp [hx, hy, eqGuard, binOp, h2]
end
end Go.Proofs.YtnanipeapjpkfaaDoor
namespace Go.Proofs.YtnanipeapjpkfaaDoor
set_option maxRecDepth 100000
open Go.RowKit
/-- One operation that lays slot s into slot d. -/
def lastAssign (s d : Nat) : List Oper → Bool
  | [o] => (o.dst == some d) && (match o.op with | .assign (.tmp t) => t == s | _ => false) && o.guard.isNone
  | _ => false
/-- What is told of the frame behind a region that ends in an assignment. -/
structure After (ops : List Oper) (q : Fk) (d : Nat) (a0 a2 : Act) (w : World) : Prop where
  defs : a2.defers = a0.defers
  size : a2.tmps.size = a0.tmps.size
  old : ∀ t, freeOf ops t = true → a2.eval (.tmp t) = a0.eval (.tmp t)
  new : q.f (a2.eval (.tmp d)) w
theorem put_eval_other (a : Act) (d : Nat) (v : Value) (t : Nat) (h : d ≠ t) : (a.put (some d) v).eval (.tmp t) = a.eval (.tmp t) := eval_of_get (put_other a (some d) v t (by simp [h]))
theorem put_eval_same (a : Act) (d : Nat) (v : Value) (h : d < a.tmps.size) : (a.put (some d) v).eval (.tmp d) = v := by
  have := put_same a d v h
  simp [Act.eval, this]
theorem after_of_final {P : Program} {Q : Exit → Act → World → Prop} {ops : Array Oper} {a0 : Act} {w : World} (qs : List Fk) (i s d : Nat) (hL : lastAssign s d (ops.toList.drop qs.length) = true) (hi : (decide (i < qs.length) && (((ops.toList[i]?).bind (·.dst)) == some s)) = true) (hd : decide (d < a0.tmps.size) = true)
    (hF : ∀ a2 w', After ops.toList (qs.getD i .any) d a0 a2 w' → Below w.heap.size w w' → Q .normal a2 w') :
    ∀ af w', Final ops.toList qs a0 af w' → Below w.heap.size w w' → wpList P ops Q (ops.toList.drop qs.length) af w' := by
  intro af w' fin hb
  cases hl : ops.toList.drop qs.length with
  | nil => rw [hl] at hL; simp [lastAssign] at hL
  | cons o r =>
    cases r with
    | cons _ _ => rw [hl] at hL; simp [lastAssign] at hL
    | nil =>
      rw [hl] at hL
      simp only [lastAssign, Bool.and_eq_true, beq_iff_eq, Option.isNone_iff_eq_none] at hL
      obtain ⟨⟨h1, h2⟩, h3⟩ := hL
      have hop : o.op = .assign (.tmp s) := by
        cases ho : o.op with
        | assign x =>
          cases x with
          | tmp t => rw [ho] at h2; simp at h2; rw [h2]
          | const _ => rw [ho] at h2; simp at h2
          | global _ => rw [ho] at h2; simp at h2
          | func _ => rw [ho] at h2; simp at h2
        | _ => rw [ho] at h2; simp at h2
      refine end_assign (.tmp s) hop h3 ?_
      rw [h1]
      have hsz : d < af.tmps.size := by rw [fin.size]; exact of_decide_eq_true hd
      refine hF _ _ ⟨(put_def _ _ _).trans fin.defs, (put_size _ _ _).trans fin.size, fun t ht => ?_, ?_⟩ hb
      · have hall := List.all_eq_true.1 ht
        have hne : d ≠ t := by
          have hm : o ∈ ops.toList := by
            have : o ∈ ops.toList.drop qs.length := by rw [hl]; simp
            exact List.mem_of_mem_drop this
          have := hall o hm
          rw [h1] at this
          intro e
          simp [e] at this
        rw [put_eval_other _ _ _ _ hne]
        refine fin.old t ?_
        exact List.all_eq_true.2 (fun x hx => hall x (List.mem_of_mem_take hx))
      · rw [put_eval_same _ _ _ hsz]
        exact fin.has i s hi
/-- A drawn region that ends in an assignment. -/
theorem wp_region_assign {P : Program} {Q : Exit → Act → World → Prop} {ops : Array Oper} {id : Nat} {a0 : Act} {w : World} (qs : List Fk) (i s d : Nat) (hm : P.follows .mixedOrders = true) (hL : lastAssign s d (ops.toList.drop qs.length) = true) (hi : (decide (i < qs.length) && (((ops.toList[i]?).bind (·.dst)) == some s)) = true) (hd : decide (d < a0.tmps.size) = true) (hk : decide (qs.length ≤ ops.size) = true) (hE : edgesOk ops.toList qs.length = true)
    (hD : dstsOk a0.tmps.size (ops.toList.take qs.length) = true) (hG : guardsOk ops.toList qs.length qs ops.toList qs = true)
    (hS : Steps P Q ops.toList qs.length qs a0 w ops.toList qs)
    (hF : ∀ a2 w', After ops.toList (qs.getD i .any) d a0 a2 w' → Below w.heap.size w w' → Q .normal a2 w') :
    (Code.region id ops true).wp P Q a0 w :=
  wp_region_end qs hm hk hE hD hG hS (after_of_final qs i s d hL hi hd hF)
/-- A region in the text's order that ends in an assignment. -/
theorem wp_text_assign {P : Program} {Q : Exit → Act → World → Prop} {ops : Array Oper} {id : Nat} {a0 : Act} {w : World} (qs : List Fk) (i s d : Nat) (hl : Region.linearise .any ops 0 = List.range ops.size) (hL : lastAssign s d (ops.toList.drop qs.length) = true) (hi : (decide (i < qs.length) && (((ops.toList[i]?).bind (·.dst)) == some s)) = true) (hd : decide (d < a0.tmps.size) = true) (hk : decide (qs.length ≤ ops.size) = true) (hE : edgesOk ops.toList qs.length = true)
    (hD : dstsOk a0.tmps.size (ops.toList.take qs.length) = true) (hG : guardsOk ops.toList qs.length qs ops.toList qs = true)
    (hS : Steps P Q ops.toList qs.length qs a0 w ops.toList qs)
    (hF : ∀ a2 w', After ops.toList (qs.getD i .any) d a0 a2 w' → Below w.heap.size w w' → Q .normal a2 w') :
    (Code.region id ops false).wp P Q a0 w :=
  wp_region_text qs hl hk hE hD hG hS (after_of_final qs i s d hL hi hd hF)
theorem ret_slot {fn : Func} {t : Tmp} (h : fn.results = #[.tmp t]) (a : Act) (v : Value) (ht : a.eval (.tmp t) = v) (P : Program) (w : World) : (results fn a.tmps).run P w = .ok v w := by
  rw [results_tmp h]
  have : a.tmps.getD t undef = v := ht
  rw [this]
theorem Tryd.under3 : Tryd.prog.underlying 3 = some (.int .i64) := by kernel_rfl
theorem Tryd.under108 : Tryd.prog.underlying 108 = some (.int .u32) := by kernel_rfl
theorem Tryd.isAgg3 (w : World) : (isAgg 3).run Tryd.prog w = .ok false w := by kernel_rfl
section
variable {Q : Exit → Act → World → Prop} {o : Oper} {a : Act} {w : World} {q : Fk}
theorem st_load3 (x : Operand) (ho : o.op = .load 3 x) (p i : Nat) (z : Int) (hx : a.eval x = .pointer (some ⟨p, i, none⟩)) (hc : w.cell? ⟨p, i, none⟩ = some (.int .i64 z)) : o.wp Tryd.prog a w (Ends a o.dst w (Fk.eq (.int .i64 z)).f) Q := by
  refine st_pure (v := .int .i64 z) ?_ rfl
  have h1 : (isAgg 3).run Tryd.prog w = .ok false w := Tryd.isAgg3 w
  unfold execOp
  rw [ho]
  simp [hx, Instr.loadAt, Instr.sureAddr, loadVar, h1, run_load, hc]
theorem st_conv32 (x : Operand) (ho : o.op = .convert 3 108 x) (z : Int) (hx : a.eval x = .int .i64 z) : o.wp Tryd.prog a w (Ends a o.dst w (Fk.eq (.int .u32 (z % 4294967296))).f) Q := by
  refine st_pure (v := .int .u32 (z % 4294967296)) ?_ rfl
  unfold execOp
  rw [ho]
  simp [hx, convert, run_underlying Tryd.under3, run_underlying Tryd.under108, Conv.intToInt, IntKind.wrap_u32]
theorem st_eqi (t : TypeId) (x y : Operand) (ho : o.op = .binOp .eql t x y t) (k : IntKind) (s u : Int) (hx : a.eval x = .int k s) (hy : a.eval y = .int k u) (b : Bool) (hb : b = decide (s = u)) : o.wp Tryd.prog a w (Ends a o.dst w (Fk.eq (.bool b)).f) Q := by
  refine st_pure (v := .bool b) ?_ rfl
  subst hb
  unfold execOp
  rw [ho]
  simp [hx, hy, eqGuard, binOp, Op.intCmp]
  by_cases h : s = u
  · simp [h]
  · simp [h]
theorem st_neqb (x y : Operand) (ho : o.op = .binOp .neq 4 x y 4) (s : Bool) (hx : a.eval x = .bool s) (hy : a.eval y = .bool s) : o.wp Tryd.prog a w (Ends a o.dst w (Fk.eq (.bool false)).f) Q := by
  refine st_pure (v := .bool false) ?_ rfl
  unfold execOp
  rw [ho]
  have h2 := run_equal_bool (P := Tryd.prog) w 4 s s Tryd.under4
  simp [hx, hy, eqGuard, binOp, h2]
theorem Tryd.noGuard23n (x y : Operand) (a b : Array Value) (w : World) : (eqGuard .neq 23 x y (.agg a) (.agg b)).run Tryd.prog w = .ok () w := by kernel_rfl
theorem st_neq23 (x y : Operand) (ho : o.op = .binOp .neq 23 x y 23) (hh : List (BitVec 8)) (hl : hh.length = 32) (hx : a.eval x = .agg (hh.map V).toArray) (hy : a.eval y = .agg (hh.map V).toArray) : o.wp Tryd.prog a w (Ends a o.dst w (Fk.eq (.bool false)).f) Q := by
  refine st_pure (v := .bool false) ?_ rfl
  have h1 := Tryd.noGuard23n x y (hh.map V).toArray (hh.map V).toArray w
  have h2 := run_equal25_same w hh hl
  unfold execOp
  rw [ho]
  simp [hx, hy, h1, binOp, Op.equal, Op.maxDepth, h2]
theorem st_pick_f (c x y : Operand) (ho : o.op = .pick c x y) (hc : a.eval c = .bool false) (h : q.f (a.eval y) w) : o.wp Tryd.prog a w (Ends a o.dst w q.f) Q :=
  st_pure (v := a.eval y) (by unfold execOp; rw [ho]; simp [hc, asBool]) h
end
theorem kb_eq {a b : Int} : kb a = kb b ↔ a % 256 = b % 256 := by
  constructor
  · intro h
    have := congrArg bv h
    rw [← kb_v, ← kb_v] at this
    exact this
  · intro h
    apply BitVec.eq_of_toNat_eq
    have h1 := kb_v a
    have h2 := kb_v b
    unfold bv at h1 h2
    omega
theorem four_eq (a b : Int) : four a = four b ↔ a % 4294967296 = b % 4294967296 := by
  unfold four
  simp only [List.cons.injEq, kb_eq, and_true]
  omega
theorem two_eq (a b : Int) : two a = two b ↔ a % 65536 = b % 65536 := by
  unfold two
  simp only [List.cons.injEq, kb_eq, and_true]
  omega
theorem four_len (a : Int) : (four a).length = 4 := rfl
theorem two_len (a : Int) : (two a).length = 2 := rfl
theorem secret_eq (x : BitVec 8) (seed : List (BitVec 8)) (a0 a1 b0 b1 : Int) : (decide (a0 % 4294967296 = b0 % 4294967296) && decide (a1 % 4294967296 = b1 % 4294967296)) = decide (str (x :: (seed ++ (four a0 ++ four a1))) = str (x :: (seed ++ (four b0 ++ four b1)))) := by
  have : str (x :: (seed ++ (four a0 ++ four a1))) = str (x :: (seed ++ (four b0 ++ four b1))) ↔ (a0 % 4294967296 = b0 % 4294967296 ∧ a1 % 4294967296 = b1 % 4294967296) := by
    rw [← four_eq, ← four_eq]
    constructor
    · intro h
      have := str_inj h
      simp only [List.cons.injEq, true_and, List.append_cancel_left_eq] at this
      exact List.append_inj this (by rw [four_len, four_len])
    · rintro ⟨h1, h2⟩
      rw [h1, h2]
  simp [this]
theorem chain_eq (x : BitVec 8) (seed : List (BitVec 8)) (a0 a1 b0 b1 : Int) : (decide (a0 % 65536 = b0 % 65536) && decide (a1 % 65536 = b1 % 65536)) = decide (str (x :: (seed ++ (two a0 ++ two a1))) = str (x :: (seed ++ (two b0 ++ two b1)))) := by
  have : str (x :: (seed ++ (two a0 ++ two a1))) = str (x :: (seed ++ (two b0 ++ two b1))) ↔ (a0 % 65536 = b0 % 65536 ∧ a1 % 65536 = b1 % 65536) := by
    rw [← two_eq, ← two_eq]
    constructor
    · intro h
      have := str_inj h
      simp only [List.cons.injEq, true_and, List.append_cancel_left_eq] at this
      exact List.append_inj this (by rw [two_len, two_len])
    · rintro ⟨h1, h2⟩
      rw [h1, h2]
  simp [this]
end Go.Proofs.YtnanipeapjpkfaaDoor
namespace Go.Proofs.YtnanipeapjpkfaaDoor
set_option maxRecDepth 100000
open Go.RowKit
/-- A slice value that has the hashes hs, one behind the other. -/
structure Hl (w : World) (A : Option Addr) (lb lo : Nat) (hs : List (List (BitVec 8))) : Prop where
  ptr : 0 < hs.length → A = some ⟨lb, lo, none⟩
  lt : 0 < hs.length → lb < w.heap.size
  all : ∀ (i : Nat) (h : List (BitVec 8)), hs[i]? = some h → h.length = 32 ∧ HasB w lb (lo + i * 32) h
theorem Hl.below {w w' : World} {A : Option Addr} {lb lo : Nat} {hs : List (List (BitVec 8))} (h : Hl w A lb lo hs) (hb : Below w.heap.size w w') : Hl w' A lb lo hs :=
  ⟨h.ptr, fun hp => Nat.lt_of_lt_of_le (h.lt hp) hb.size, fun i x hi => ⟨(h.all i x hi).1, (h.all i x hi).2.below hb (h.lt (by have := (List.getElem?_eq_some_iff.1 hi).1; omega))⟩⟩
/-- The slice of hash number i. -/
def hp (lb lo : Nat) (hs : List (List (BitVec 8))) (i : Nat) : Pt := ⟨some ⟨lb, lo + i * 32, none⟩, 32, 32, hs.getD i [], lb, lo + i * 32⟩
def hps (lb lo : Nat) (hs : List (List (BitVec 8))) (k : Nat) : List Pt := (List.range k).map (hp lb lo hs)
theorem hps_len (lb lo : Nat) (hs : List (List (BitVec 8))) (k : Nat) : (hps lb lo hs k).length = k := by simp [hps]
theorem hps_succ (lb lo : Nat) (hs : List (List (BitVec 8))) (k : Nat) : hps lb lo hs (k + 1) = hps lb lo hs k ++ [hp lb lo hs k] := by simp [hps, List.range_succ]
theorem hps_get (lb lo : Nat) (hs : List (List (BitVec 8))) (k i : Nat) (p : Pt) (h : (hps lb lo hs k)[i]? = some p) : i < k ∧ p = hp lb lo hs i := by
  obtain ⟨h1, h2⟩ := List.getElem?_eq_some_iff.1 h
  rw [hps_len] at h1
  refine ⟨h1, ?_⟩
  rw [← h2]
  simp [hps]
theorem hp_ok {w : World} {A : Option Addr} {lb lo : Nat} {hs : List (List (BitVec 8))} (h : Hl w A lb lo hs) (i : Nat) (hi : i < hs.length) : (hp lb lo hs i).ok w := by
  have hg : hs[i]? = some (hs.getD i []) := by simp [hi]
  obtain ⟨h1, h2⟩ := h.all i _ hg
  exact ⟨h1.symm, Nat.le_refl _, fun h => by (cases h), fun _ => ⟨rfl, h.lt (by omega), h2⟩⟩
theorem hps_ok {w : World} {A : Option Addr} {lb lo : Nat} {hs : List (List (BitVec 8))} (h : Hl w A lb lo hs) (k : Nat) (hk : k ≤ hs.length) : Oks w (hps lb lo hs k) := fun i p hi => by
  obtain ⟨h1, rfl⟩ := hps_get lb lo hs k i p hi
  exact hp_ok h i (by omega)
theorem hps_cat (lb lo : Nat) (hs : List (List (BitVec 8))) (k : Nat) (hk : k ≤ hs.length) : cat (hps lb lo hs k) = (hs.take k).flatten := by
  induction k with
  | zero => rfl
  | succ k ih =>
    have : k < hs.length := by omega
    have e : (hs.take (k + 1)).flatten = (hs.take k).flatten ++ hs[k] := by
      rw [List.take_add_one, List.getElem?_eq_getElem this]
      simp only [Option.toList_some, List.flatten_append, List.flatten_cons, List.flatten_nil, List.append_nil]
    rw [hps_succ, cat_append, ih (by omega), e]
    simp [cat, hp, this]
theorem flat_len {w : World} {A : Option Addr} {lb lo : Nat} {hs : List (List (BitVec 8))} (h : Hl w A lb lo hs) : hs.flatten.length = 32 * hs.length := by
  have : ∀ (l : List (List (BitVec 8))), (∀ (i : Nat) (x : List (BitVec 8)), l[i]? = some x → x.length = 32) → l.flatten.length = 32 * l.length := by
    intro l
    induction l with
    | nil => intro _; rfl
    | cons a l ih =>
      intro hl
      have h0 := hl 0 a rfl
      have h1 := ih (fun i x hi => hl (i + 1) x (by simpa using hi))
      simp only [List.flatten_cons, List.length_append, List.length_cons]
      omega
  exact this hs (fun i x hi => (h.all i x hi).1)
/-- Block g is a row of slices. -/
def HasP (w : World) (g : Nat) (xs : List Value) : Prop := w.heap[g]? = some (.cells xs.toArray 36 (0, 0))
theorem HasP.cell {w : World} {g : Nat} {xs : List Value} (h : HasP w g xs) (i : Nat) : w.cell? ⟨g, i, none⟩ = xs[i]? := by
  unfold HasP at h
  rw [cell_of_row w g i _ 36 _ h]; simp
theorem HasP.frozen {w : World} {g : Nat} {xs : List Value} (h : HasP w g xs) (i : Nat) : w.frozen? ⟨g, i, none⟩ = false := frozen_of_row w g i _ 36 h
theorem HasP.set {w : World} {g : Nat} {xs : List Value} (h : HasP w g xs) (i : Nat) (v : Value) : HasP (w.setCell ⟨g, i, none⟩ v) g (xs.set i v) := by
  unfold HasP at *
  simp [World.setCell, Array.getElem?_modify, h]
theorem HasP.lt {w : World} {g : Nat} {xs : List Value} (h : HasP w g xs) : g < w.heap.size := (Array.getElem?_eq_some_iff.1 h).1
theorem HasP.below {w w' : World} {B g : Nat} {xs : List Value} (h : HasP w g xs) (hb : Below B w w') (hB : g < B) : HasP w' g xs := by
  unfold HasP at *
  rw [hb.block g hB]; exact h
/-- The first k are set. -/
def prow (lb lo : Nat) (hs : List (List (BitVec 8))) (n k : Nat) : List Value := (hps lb lo hs k).map Pt.val ++ List.replicate (n - k) (.slice none 0 0)
theorem prow_set (lb lo : Nat) (hs : List (List (BitVec 8))) (n k : Nat) (h : k < n) : (prow lb lo hs n k).set k (hp lb lo hs k).val = prow lb lo hs n (k + 1) := by
  unfold prow
  rw [List.set_append_right _ _ (by simp [hps_len]), List.length_map, hps_len, Nat.sub_self, show n - k = (n - (k + 1)) + 1 by omega, List.replicate_succ, List.set_cons_zero, hps_succ, List.map_append, List.append_assoc]
  rfl
theorem prow_at (lb lo : Nat) (hs : List (List (BitVec 8))) (n k : Nat) (h : k < n) : (prow lb lo hs n k)[k]? = some (.slice none 0 0) := by
  unfold prow
  rw [List.getElem?_append_right (by simp [hps_len]), List.length_map, hps_len, Nat.sub_self, List.getElem?_replicate, if_pos (by omega)]
theorem prow_ls {w : World} {A : Option Addr} {lb lo : Nat} {hs : List (List (BitVec 8))} {g n : Nat} (h : Hl w A lb lo hs) (hp : HasP w g (prow lb lo hs n n)) (hn : n ≤ hs.length) : Ls w g 0 (hps lb lo hs n) :=
  ⟨fun i p hi => by
    rw [Nat.zero_add, hp.cell]
    unfold prow
    rw [List.getElem?_append_left (by rw [List.length_map]; exact (List.getElem?_eq_some_iff.1 hi).1), List.getElem?_map, hi]
    rfl, hps_ok h n hn⟩
theorem Tryd.info36 : (Tryd.prog.info? 36).map (fun i => (i.zero, i.size, i.bytes)) = some (some (.slice none 0 0), 1, 24) := by kernel_rfl
theorem Tryd.make24 (c : Nat) (hc : c ≤ 1000) (w : World) : (Instr.makeSlice 24 (.int .i64 (c : Int)) (.int .i64 (c : Int))).run Tryd.prog w = .ok (.slice (some ⟨w.heap.size, 0, none⟩) c c) (w.alloc (.cells (prow 0 0 [] c 0).toArray 36)) := by
  obtain ⟨i0, hi, hz0, hz1, hz2⟩ := info_parts Tryd.info36
  have := run_make (P := Tryd.prog) w 24 36 i0 (.slice none 0 0) Tryd.under24 hi hz0 .i64 .i64 (c : Int) (c : Int) (by omega) (by omega) (by rw [hz2]; omega) (by omega)
  rw [hz1, Int.toNat_natCast, Nat.mul_one, show madeCells (Value.slice none 0 0).cells c = (prow 0 0 [] c 0).toArray from by
    apply Array.toList_inj.1
    rw [show (Value.slice none 0 0).cells = #[Value.slice none 0 0] from rfl, toList_madeCells_one]
    simp [prow, hps]] at this
  exact this
theorem prow_start (lb lo : Nat) (hs : List (List (BitVec 8))) (n : Nat) : prow lb lo hs n 0 = prow 0 0 [] n 0 := by simp [prow, hps]
set_option maxHeartbeats 400000 in
theorem public_any (A : Option Addr) (n C lb lo : Nat) (hs : List (List (BitVec 8))) (w : World) (hn : n = hs.length) (hL : Hl w A lb lo hs) (hN : n ≤ 1000) (hK : Tab w) :
    Calls Tryd.prog 52 #[.slice A n C] w fun e w' => e = .returned (.agg ((shaOf (kb 4 :: hs.flatten)).map V).toArray) ∧ Below w.heap.size w w' := by
  have hl : Box (((shaOf (kb 4 :: hs.flatten)).map V).toArray.size = 32) := ⟨by simp [shaOf_len]⟩
  obtain ⟨hh, hS⟩ : ∃ hh, Box (shaOf (kb 4 :: hs.flatten) = hh) := ⟨_, ⟨rfl⟩⟩
  rw [hS.out] at hl ⊢
  have hn' : Box (n = hs.length) := ⟨hn⟩
  have hL' : Box (Hl w A lb lo hs) := ⟨hL⟩
  clear hn hL
  have hmk := Tryd.make24 n hN
  go_enter Tryd.func52, Tryd.ntmps52
  go_upto_region 2 with fail
  clear hmk
  refine code_any (fun w1 => HasV w1 w.heap.size 23 (hsh St.first 0) ∧ HasP w1 (w.heap.size + 1) (prow lb lo hs n 0) ∧ Below w.heap.size w w1) ?_ ?_
  · exact ⟨heap_alloc2_old _ _ _, by rw [prow_start]; exact heap_alloc2_new _ _ _, ((Below.refl _ _).alloc (Nat.le_refl _) _).alloc (by simp) _⟩
  rintro w1 ⟨hv1, hp1, hb1⟩
  go_wp2
  go_loopw [10] (fun i wr => ∃ k : Nat, k ≤ n ∧ i = .int .i64 k ∧ HasV wr w.heap.size 23 (hsh St.first 0) ∧ HasP wr (w.heap.size + 1) (prow lb lo hs n k) ∧ Below w.heap.size w wr) (fun i _ => n - (intOf i).toNat)
  case atStart => exact ⟨0, by omega, rfl, hv1, hp1, hb1⟩
  case round =>
    clear hv1 hp1 hb1
    obtain ⟨k, hk, rfl, hv, hpw, hb⟩ := hrel
    by_cases hlt : k < n
    · obtain rfl : A = some ⟨lb, lo, none⟩ := hL'.out.ptr (by rw [← hn'.out]; omega)
      have hsl := Tryd.slice23
      have c0 := hpw.cell k
      rw [prow_at lb lo hs n k hlt] at c0
      have f0 := hpw.frozen k
      have HR : Box (HasP (wr.setCell ⟨w.heap.size + 1, k, none⟩ (.slice (some ⟨lb, lo + k * 32, none⟩) 32 32)) (w.heap.size + 1) (prow lb lo hs n (k + 1))) := ⟨by
        have := hpw.set k (hp lb lo hs k).val
        rw [prow_set lb lo hs n k hlt] at this
        exact this⟩
      have hv' : Box (HasV wr w.heap.size 23 (hsh St.first 0)) := ⟨hv⟩
      clear hpw hv
      go_wp2
      go_roundw
      case rel => exact ⟨k + 1, by omega, by go_num, hv'.out.other _ _ (by simp), HR.out, hb.setCell (by simp) _⟩
      case measure => simp [intOf]; omega
    · have hkn : Box (k = n) := ⟨by omega⟩
      rw [hkn.out] at hpw
      have hT1 : Tab wr := hK.below hb
      have hLs : Box (Ls wr (w.heap.size + 1) 0 (hps lb lo hs n)) := ⟨prow_ls (hL'.out.below hb) hpw (by rw [hn'.out]; exact Nat.le_refl _)⟩
      have hcat : Box (cat (hps lb lo hs n) = hs.flatten) := ⟨by rw [hps_cat lb lo hs n (by rw [hn'.out]; exact Nat.le_refl _), hn'.out, List.take_of_length_le (Nat.le_refl _)]⟩
      have hfl : Box (hs.flatten.length ≤ 900000) := ⟨by rw [flat_len hL'.out, ← hn'.out]; omega⟩
      clear hpw
      go_wp2_with fail
      refine (tsum_any 4 _ n n (w.heap.size + 1) 0 (hps lb lo hs n) wr (hps_len _ _ _ _).symm (fun _ => rfl) hLs.out (by rw [hcat.out]; exact hfl.out) hN hT1.K hT1.pos).mono ?_
      rintro e w4 ⟨rfl, hb4⟩
      have hv5 : w4.heap[w.heap.size]? = some (.cells ((hsh St.first 0).map V).toArray 23 (0, 0)) := hv.below hb4 hv.lt
      have hb6 : Below w.heap.size w w4 := hb.trans (hb4.mono hb.size)
      clear hv hb hb4 hLs
      rw [hcat.out, hS.out]
      go_wp2_with (refine wpList_store_row rfl 23 (.tmp 2) (.tmp 22) rfl w.heap.size (hh.map V).toArray rfl rfl 23 _ hv5 (by rw [hl.out]; exact Tryd.size23) (by rw [hl.out]; rfl) (V_all _) ?_)
      refine bodyPost_ret (v := .agg (hh.map V).toArray) ?_ rfl ⟨rfl, ?_⟩
      · exact results_cell_row (P := Tryd.prog) (fn := Tryd.f52) (p := 2) (ty := 23) rfl _ _ w.heap.size 23 _ (0, 0) _ rfl (setRow_heap _ _ _ _ 23 (0, 0) hv5) Tryd.under23 rfl (by rw [hl.out]; exact Tryd.size23)
      · exact hb6.trans (below_setRow _ _ _ _ (Nat.le_refl _))
end Go.Proofs.YtnanipeapjpkfaaDoor
namespace Go.Proofs.YtnanipeapjpkfaaDoor
set_option maxRecDepth 100000
open Go.RowKit
/-- A number in a cell. -/
def Nv (n : Nat) : Value := .int .i64 (n : Int)
theorem Nv_one (ns : List Nat) : ∀ v ∈ ns.map Nv, v.oneCell' = true := by
  intro v hv
  obtain ⟨x, _, rfl⟩ := List.mem_map.1 hv
  rfl
/-- A slice value that has the numbers ds. -/
structure Is (w : World) (sp : Option Addr) (b o : Nat) (ds : List Nat) : Prop where
  ptr : 0 < ds.length → sp = some ⟨b, o, none⟩
  cell : ∀ (i : Nat) (d : Nat), ds[i]? = some d → w.cell? ⟨b, o + i, none⟩ = some (.int .i64 (d : Int))
theorem Is.lt {w : World} {sp : Option Addr} {b o : Nat} {ds : List Nat} (h : Is w sp b o ds) {i d : Nat} (hi : ds[i]? = some d) : b < w.heap.size := block_lt_of_cell (h.cell i d hi)
theorem Is.below {w w' : World} {sp : Option Addr} {b o : Nat} {ds : List Nat} (h : Is w sp b o ds) (hb : Below w.heap.size w w') : Is w' sp b o ds :=
  ⟨h.ptr, fun i d hi => by rw [hb.cell (h.lt hi)]; exact h.cell i d hi⟩
theorem own_is {w : World} {base n : Nat} {v : Value} {xs : List Nat} (h : w.ownsRow base 3 1 v n (xs.map Nv)) : ∃ g sp c, v = .slice sp xs.length c ∧ Is w sp g 0 xs ∧ (0 < n → base ≤ g) := by
  obtain ⟨hl, h⟩ := h
  have hn : n = xs.length := by simpa using hl.symm
  rcases h with ⟨rfl, rfl⟩ | ⟨g, cap, cur, rfl, hbg, hg, hnc, _, hcs, ht⟩
  · have : xs = [] := List.eq_nil_of_length_eq_zero hn.symm
    subst this
    exact ⟨0, none, 0, rfl, ⟨fun h => by simp at h, fun i d hi => by simp at hi⟩, fun h => absurd h (by omega)⟩
  · subst hn
    refine ⟨g, some ⟨g, 0, none⟩, cap, rfl, ⟨fun _ => rfl, ?_⟩, fun _ => hbg⟩
    intro i d hi
    have hil : i < xs.length := (List.getElem?_eq_some_iff.1 hi).1
    rw [Nat.zero_add, cell_of_row _ _ _ _ _ _ hg]
    have e2 := congrArg (·[i]?) ht
    simp only [Nat.mul_one, List.getElem?_take, if_pos hil, List.getElem?_map, hi, Option.map_some, Array.getElem?_toList] at e2
    exact e2
theorem Tryd.info3 : (Tryd.prog.info? 3).map (fun i => (i.zero, i.size, i.bytes)) = some (some (.int .i64 0), 1, 8) := by kernel_rfl
theorem Tryd.under75 : Tryd.prog.underlying 75 = some (.slice 3) := by kernel_rfl
/-- append of numbers onto a slice of the call's own. -/
theorem appendI {ops : Array Oper} {rest : List Oper} {o : Oper} {a : Act} {w : World} {Q : Exit → Act → World → Prop} (hgd : o.guard = none) (s x : Operand)
    (ho : o.op = .call { callee := .builtin .append, args := #[s, x], argTypes := #[75, 75] })
    (base : Nat) (v : Value) (n : Nat) (xs : List Nat) (hs : a.eval s = v) (hown : w.ownsRow base 3 1 v n (xs.map Nv))
    (ad : Addr) (m c : Nat) (ys : List Nat) (hx : a.eval x = .slice (some ad) m c) (hl : ys.length = m) (hnews : ∀ j u, (ys.map Nv)[j]? = some u → w.cell? (ad.add j) = some u) (hb : n + m ≤ 1000000) (hbase : base ≤ w.heap.size)
    (h : ∀ v' w', w'.ownsRow base 3 1 v' (n + m) ((xs ++ ys).map Nv) → w.grownBy w' v.ownBlock → wpList Tryd.prog ops Q rest (a.put o.dst v') w') : wpList Tryd.prog ops Q (o :: rest) a w := by
  obtain ⟨i0, hi, hz0, hz1, hz2⟩ := info_parts Tryd.info3
  refine wpList_append_own w hgd s x 75 ho base 3 i0 (.int .i64 0) 1 8 Tryd.under75 hi hz0 hz1 hz2 rfl (by decide) v n (xs.map Nv) hs hown ad m c (ys.map Nv) hx (by rw [List.length_map, Nat.mul_one]; exact hl) hnews (Nv_one ys) (by unfold maxLen; omega) (by omega) hbase ?_
  intro v' w' h1 h2 _
  rw [← List.map_append] at h1
  exact h v' w' h1 h2
theorem news_new (w : World) (T : TypeId) (ys : List Nat) : ∀ j u, (ys.map Nv)[j]? = some u → (w.alloc (.cells (ys.map Nv).toArray T)).cell? ((⟨w.heap.size, 0, none⟩ : Addr).add j) = some u := by
  intro j u hj
  have hadd : (⟨w.heap.size, 0, none⟩ : Addr).add j = ⟨w.heap.size, j, none⟩ := by unfold Addr.add; split <;> simp_all
  rw [hadd, World.cell?_alloc_mark]
  simpa using hj
/- The digits. -/
/-- Digit i of the first 64. -/
def half (h : List (BitVec 8)) (i : Nat) : Nat := if i % 2 = 0 then (h.getD (i / 2) 0).toNat / 16 else (h.getD (i / 2) 0).toNat % 16
/-- The first k. -/
def hds (h : List (BitVec 8)) (k : Nat) : List Nat := (List.range k).map (half h)
/-- What is left to 15, of the first k, added. -/
def lef (h : List (BitVec 8)) : Nat → Nat
  | 0 => 0
  | k + 1 => lef h k + (15 - half h k)
/-- All 67. -/
def dig (h : List (BitVec 8)) : List Nat := hds h 64 ++ [lef h 64 / 256, lef h 64 / 16 % 16, lef h 64 % 16]
theorem half_le (h : List (BitVec 8)) (i : Nat) : half h i ≤ 15 := by
  unfold half
  have := (h.getD (i / 2) 0).isLt
  split <;> omega
theorem lef_le (h : List (BitVec 8)) (k : Nat) : lef h k ≤ 15 * k := by
  induction k with
  | zero => simp [lef]
  | succ k ih => simp only [lef]; omega
theorem hds_len (h : List (BitVec 8)) (k : Nat) : (hds h k).length = k := by simp [hds]
theorem hds_succ (h : List (BitVec 8)) (k : Nat) : hds h (k + 1) = hds h k ++ [half h k] := by simp [hds, List.range_succ]
theorem dig_len (h : List (BitVec 8)) : (dig h).length = 67 := by simp [dig, hds_len]
theorem dig_le (h : List (BitVec 8)) (i d : Nat) (hi : (dig h)[i]? = some d) : d ≤ 15 := by
  have hm := List.mem_of_getElem? hi
  unfold dig at hm
  have hl := lef_le h 64
  rcases List.mem_append.1 hm with hm | hm
  · unfold hds at hm
    obtain ⟨j, _, rfl⟩ := List.mem_map.1 hm
    exact half_le h j
  · simp at hm; omega
theorem half_even (h : List (BitVec 8)) (k : Nat) : half h (2 * k) = (h.getD k 0).toNat / 16 := by
  unfold half; rw [if_pos (by omega), show 2 * k / 2 = k by omega]
theorem half_odd (h : List (BitVec 8)) (k : Nat) : half h (2 * k + 1) = (h.getD k 0).toNat % 16 := by
  unfold half; rw [if_neg (by omega), show (2 * k + 1) / 2 = k by omega]
theorem hds_two (h : List (BitVec 8)) (k : Nat) : hds h (2 * (k + 1)) = hds h (2 * k) ++ [(h.getD k 0).toNat / 16, (h.getD k 0).toNat % 16] := by
  rw [show 2 * (k + 1) = 2 * k + 1 + 1 by omega, hds_succ, hds_succ, half_even, half_odd, List.append_assoc]
  rfl
theorem lef_two (h : List (BitVec 8)) (k : Nat) : lef h (2 * (k + 1)) = lef h (2 * k) + (15 - (h.getD k 0).toNat / 16) + (15 - (h.getD k 0).toNat % 16) := by
  rw [show 2 * (k + 1) = 2 * k + 1 + 1 by omega, lef, lef, half_even, half_odd]
end Go.Proofs.YtnanipeapjpkfaaDoor
namespace Go.Proofs.YtnanipeapjpkfaaDoor
set_option maxRecDepth 100000
open Go.RowKit
/-- So many numbers 0. -/
def zn (c : Nat) : List Nat := List.replicate c 0
theorem Tryd.make67 (w : World) : (Instr.makeSlice 75 (.int .i64 0) (.int .i64 67)).run Tryd.prog w = .ok (.slice (some ⟨w.heap.size, 0, none⟩) 0 67) (w.alloc (.cells ((zn 67).map Nv).toArray 3)) := by kernel_rfl
/-- v is a slice of the call's own that has the numbers xs. -/
def OwnI (w : World) (base : Nat) (v : Value) (n : Nat) (xs : List Nat) : Prop := w.ownsRow base 3 1 v n (xs.map Nv)
theorem own_made (w : World) (base c : Nat) (h : base ≤ w.heap.size) (hc : c ≤ maxLen) : OwnI (w.alloc (.cells ((zn c).map Nv).toArray 3)) base (.slice (some ⟨w.heap.size, 0, none⟩) 0 c) 0 [] :=
  ⟨rfl, .inr ⟨w.heap.size, c, ((zn c).map Nv).toArray, rfl, h, heap_alloc_new _ _, Nat.zero_le _, hc, by simp [zn], by simp⟩⟩
theorem OwnI.alloc {w : World} {base n : Nat} {v : Value} {xs : List Nat} (h : OwnI w base v n xs) (o : Obj) : OwnI (w.alloc o) base v n xs := World.ownsRow.alloc h o
theorem i15_all : ∀ x : Fin 1024, bits .and .i64 ((x.val : Nat) : Int) 15 = ((x.val % 16 : Nat) : Int) := by decide +kernel
theorem i15 (n : Nat) (h : n < 1024) : bits .and .i64 (n : Int) (15 : Int) = ((n % 16 : Nat) : Int) := i15_all ⟨n, h⟩
attribute [local go_sem] and15
set_option maxHeartbeats 400000 in
theorem digits_own (hs : List (BitVec 8)) (w : World) (hl : hs.length = 32) :
    Calls Tryd.prog 42 #[.agg (hs.map V).toArray] w fun e w' => ∃ v, e = .returned v ∧ w'.ownsRow w.heap.size 3 1 v 67 ((dig hs).map Nv) ∧ Below w.heap.size w w' := by
  have hmk := Tryd.make67
  go_enter Tryd.func42, Tryd.ntmps42
  go_upto_region 3 with fail
  clear hmk
  refine code_any (fun w1 => OwnI w1 w.heap.size (.slice (some ⟨w.heap.size + 1, 0, none⟩) 0 67) 0 [] ∧ HasV w1 w.heap.size 23 hs ∧ Below w.heap.size w w1) ?_ ?_
  · refine ⟨?_, heap_alloc2_old _ _ _, ((Below.refl _ _).alloc (Nat.le_refl _) _).alloc (by simp) _⟩
    have := own_made (w.alloc (.cells (hs.map V).toArray 23)) w.heap.size 67 (by simp) (by unfold maxLen; omega)
    simpa using this
  rintro w1 ⟨hown1, hh1, hb1⟩
  have hown : Box (OwnI w1 w.heap.size (.slice (some ⟨w.heap.size + 1, 0, none⟩) 0 67) 0 []) := ⟨hown1⟩
  have hh' : w1.heap[w.heap.size]? = some (.cells (hs.map V).toArray 23 (0, 0)) := hh1
  have hl' : Box ((hs.map V).toArray.size = 32) := ⟨by simp [hl]⟩
  clear hh1 hown1
  go_wp2_with (refine wpList_load_row rfl 23 (.tmp 1) rfl w.heap.size rfl 23 _ (0, 0) _ hh' Tryd.under23 rfl (by rw [hl'.out]; exact Tryd.size23) ?_)
  try go_frame
  clear hh'
  go_loopw [3, 4, 11] (fun v L i wr => ∃ k : Nat, k ≤ 32 ∧ i = .int .i64 k ∧ L = .int .i64 ((lef hs (2 * k) : Nat) : Int) ∧ Box (OwnI wr w.heap.size v (2 * k) (hds hs (2 * k))) ∧ Below w.heap.size w wr) (fun _ _ i _ => 32 - (intOf i).toNat)
  case atStart => exact ⟨0, by omega, rfl, rfl, hown, hb1⟩
  case round =>
    clear hown hb1
    obtain ⟨k, hk, rfl, rfl, hown, hb⟩ := hrel
    have hz := hb.size
    have hll := lef_le hs (2 * k)
    by_cases hlt : k < 32
    · have hidx := Tryd.idx23 hs hl k hlt
      have hD := Box.mk (hds_two hs k)
      have hL := Box.mk (lef_two hs k)
      generalize lef hs (2 * k) = L at hll hL ⊢
      generalize hs.getD k 0 = x at hidx hD hL
      have hx := bv_range x
      have hxn : bv x = (x.toNat : Int) := rfl
      have hin : x.toNat < 256 := x.isLt
      obtain ⟨p, hp⟩ : ∃ p : Nat, Box (p = x.toNat / 16) := ⟨_, ⟨rfl⟩⟩
      obtain ⟨q, hq⟩ : ∃ q : Nat, Box (q = x.toNat % 16) := ⟨_, ⟨rfl⟩⟩
      have hp15 : p ≤ 15 := by rw [hp.out]; omega
      have hq15 : q ≤ 15 := by rw [hq.out]; omega
      have e1 : bv x / (16 : Int) = (p : Int) := by rw [hp.out, hxn]; omega
      have e2 : bv x % (16 : Int) = (q : Int) := by rw [hq.out, hxn]; omega
      rw [← hp.out, ← hq.out] at hD hL
      clear hxn hin hx hp hq
      go_wp2_with (at_builtin; refine appendI rfl (.tmp 20) (.tmp 23) rfl w.heap.size _ (2 * k) (hds hs (2 * k)) rfl (hown.out.alloc _) ⟨wr.heap.size, 0, none⟩ 2 2 [p, q] rfl rfl (news_new wr 3 [p, q]) (by omega) (by simp; omega) ?_; intro v2 w2 own2 gr2)
      have hb2 : Below w.heap.size w w2 := (hb.alloc hz _).grown gr2 (by simp; omega) (fun k e => (World.ownsRow.lt hown.out k e).1)
      rw [← hD.out] at own2
      have own2' : Box (OwnI w2 w.heap.size v2 (2 * (k + 1)) (hds hs (2 * (k + 1)))) := ⟨own2⟩
      clear own2 gr2 hown hb
      go_wp2
      go_roundw
      case rel => exact ⟨k + 1, by omega, by go_num, by rw [hL.out]; go_num, own2', hb2⟩
      case measure => simp [intOf]; omega
    · obtain rfl : k = 32 := by omega
      have hD : Box (dig hs = hds hs (2 * 32) ++ [lef hs (2 * 32) / 256, lef hs (2 * 32) / 16 % 16, lef hs (2 * 32) % 16]) := ⟨rfl⟩
      generalize lef hs (2 * 32) = L at hll hD ⊢
      obtain ⟨p, hp⟩ : ∃ p : Nat, Box (p = L / 256) := ⟨_, ⟨rfl⟩⟩
      obtain ⟨q, hq⟩ : ∃ q : Nat, Box (q = L / 16) := ⟨_, ⟨rfl⟩⟩
      obtain ⟨q2, hq2⟩ : ∃ q2 : Nat, Box (q2 = q % 16) := ⟨_, ⟨rfl⟩⟩
      obtain ⟨r, hr⟩ : ∃ r : Nat, Box (r = L % 16) := ⟨_, ⟨rfl⟩⟩
      have e1 : (L : Int) / (256 : Int) = (p : Int) := by rw [hp.out]; omega
      have e2 : (L : Int) / (16 : Int) = (q : Int) := by rw [hq.out]; omega
      have e3 : bits .and .i64 (q : Int) (15 : Int) = (q2 : Int) := by rw [hq2.out]; exact i15 q (by rw [hq.out]; omega)
      have e4 : bits .and .i64 (L : Int) (15 : Int) = (r : Int) := by rw [hr.out]; exact i15 L (by omega)
      rw [← hq.out, ← hq2.out, ← hp.out, ← hr.out] at hD
      clear hp hq hq2 hr
      go_wp2_with (at_builtin; refine appendI rfl (.tmp 33) (.tmp 41) rfl w.heap.size _ (2 * 32) (hds hs (2 * 32)) rfl (hown.out.alloc _) ⟨wr.heap.size, 0, none⟩ 3 3 [p, q2, r] rfl rfl (news_new wr 3 [p, q2, r]) (by omega) (by simp; omega) ?_; intro v2 w2 own2 gr2)
      have hb2 : Below w.heap.size w w2 := (hb.alloc hz _).grown gr2 (by simp; omega) (fun k e => (World.ownsRow.lt hown.out k e).1)
      rw [← hD.out] at own2
      have own2' := Box.mk own2
      clear own2 gr2 hown hb
      go_wp2
      go_ret
      exact ⟨_, rfl, own2'.out, hb2⟩
theorem digits_any (hs : List (BitVec 8)) (w : World) (hl : hs.length = 32) :
    Calls Tryd.prog 42 #[.agg (hs.map V).toArray] w fun e w' => ∃ sp c b, e = .returned (.slice sp 67 c) ∧ Is w' sp b 0 (dig hs) ∧ w.heap.size ≤ b ∧ Below w.heap.size w w' := by
  refine (digits_own hs w hl).mono ?_
  rintro e w' ⟨v, rfl, ho, hb⟩
  obtain ⟨g, sp, c, rfl, hs, hg⟩ := own_is ho
  exact ⟨sp, c, g, by rw [dig_len], hs, hg (by omega), hb⟩
end Go.Proofs.YtnanipeapjpkfaaDoor
namespace Go.Proofs.YtnanipeapjpkfaaDoor
set_option maxRecDepth 100000
open Go.RowKit
/-- One step of chain c, from step s. -/
def chn (c s : Int) (x : List (BitVec 8)) : List (BitVec 8) := shaOf (kb 2 :: (x ++ (two c ++ two s)))
theorem chn_len (c s : Int) (x : List (BitVec 8)) : (chn c s x).length = 32 := shaOf_len _
/-- n steps of chain c, from step f on. -/
def wk (c : Int) (f : Nat) (x : List (BitVec 8)) : Nat → List (BitVec 8)
  | 0 => x
  | n + 1 => chn c ((f + n : Nat) : Int) (wk c f x n)
theorem wk_len (c : Int) (f : Nat) (x : List (BitVec 8)) (n : Nat) (h : x.length = 32) : (wk c f x n).length = 32 := by
  cases n with
  | zero => exact h
  | succ n => exact chn_len _ _ _
theorem wk_add (c : Int) (f : Nat) (x : List (BitVec 8)) (m n : Nat) : wk c f x (m + n) = wk c (f + m) (wk c f x m) n := by
  induction n with
  | zero => rfl
  | succ n ih => rw [← Nat.add_assoc, wk, ih, wk, Nat.add_assoc]
/-- The secret of chain c. -/
def sec (seed : List (BitVec 8)) (key c : Int) : List (BitVec 8) := shaOf (kb 3 :: (seed ++ (four key ++ four c)))
theorem sec_len (seed : List (BitVec 8)) (key c : Int) : (sec seed key c).length = 32 := shaOf_len _
/-- A public key. -/
def pub (hs : List (List (BitVec 8))) : List (BitVec 8) := shaOf (kb 4 :: hs.flatten)
theorem pub_len (hs : List (List (BitVec 8))) : (pub hs).length = 32 := shaOf_len _
theorem chn_any (xs : List (BitVec 8)) (m n : Int) (w : World) (hx : xs.length = 32) (hK : Tab w) :
    Calls Tryd.prog 64 #[.agg (xs.map V).toArray, .int .i64 m, .int .i64 n] w fun e w' => e = .returned (.agg ((chn m n xs).map V).toArray) ∧ Below w.heap.size w w' := chain_any xs m n w hx hK
theorem HasV.setRow {w : World} {g : Nat} {T : TypeId} {xs ys : List (BitVec 8)} (h : HasV w g T xs) : HasV (w.setRow g (ys.map V).toArray) g T ys := setRow_heap _ _ _ _ T (0, 0) h
theorem HasV.setRow_other {w : World} {g b : Nat} {T : TypeId} {xs : List (BitVec 8)} {cs : Array Value} (h : HasV w b T xs) (hne : b ≠ g) : HasV (w.setRow g cs) b T xs := by
  have := Go.setRow_other w g b cs hne
  unfold HasV at *
  rw [this]; exact h
/-- What wots.Walk has behind k looks. -/
def lk (c f t : Int) (x : List (BitVec 8)) : Nat → List (BitVec 8)
  | 0 => x
  | k + 1 => if f ≤ (k : Int) ∧ (k : Int) < t then chn c k (lk c f t x k) else lk c f t x k
theorem lk_len (c f t : Int) (x : List (BitVec 8)) (k : Nat) (h : x.length = 32) : (lk c f t x k).length = 32 := by
  induction k with
  | zero => exact h
  | succ k ih =>
    simp only [lk]
    split
    · exact chn_len _ _ _
    · exact ih
theorem lk_wk (c : Int) (f t : Nat) (x : List (BitVec 8)) (k : Nat) : lk c f t x k = wk c f x (min k t - f) := by
  induction k with
  | zero => simp [lk, wk]
  | succ k ih =>
    simp only [lk]
    split
    · rename_i h
      have e : min (k + 1) t - f = (min k t - f) + 1 := by omega
      rw [ih, e, wk, show f + (min k t - f) = k by omega]
    · rename_i h
      rw [ih]
      congr 1
      omega
set_option maxHeartbeats 400000 in
theorem wlk_any (xs : List (BitVec 8)) (c f t : Int) (w : World) (hx : xs.length = 32) (hK : Tab w) :
    Calls Tryd.prog 43 #[.agg (xs.map V).toArray, .int .i64 c, .int .i64 f, .int .i64 t] w fun e w' => e = .returned (.agg ((lk c f t xs 15).map V).toArray) ∧ Below w.heap.size w w' := by
  go_enter Tryd.func43, Tryd.ntmps43
  go_upto_region 1 with fail
  refine code_any (fun w1 => HasV w1 w.heap.size 23 xs ∧ HasV w1 (w.heap.size + 1) 23 (hsh St.first 0) ∧ Below w.heap.size w w1) ?_ ?_
  · exact ⟨heap_alloc2_old _ _ _, heap_alloc2_new _ _ _, ((Below.refl _ _).alloc (Nat.le_refl _) _).alloc (by simp) _⟩
  rintro w1 ⟨hv1, hv2, hb1⟩
  go_wp2
  go_loopw [10] (fun i wr => ∃ k : Nat, k ≤ 15 ∧ i = .int .i64 (k : Int) ∧ HasV wr w.heap.size 23 (lk c f t xs k) ∧ HasV wr (w.heap.size + 1) 23 (hsh St.first 0) ∧ Below w.heap.size w wr) (fun i _ => 15 - (intOf i).toNat)
  case atStart => exact ⟨0, by omega, rfl, hv1, hv2, hb1⟩
  case round =>
    clear hv1 hv2 hb1
    obtain ⟨k, hk, rfl, hv1, hv2, hb⟩ := hrel
    have hv1' : Box (wr.heap[w.heap.size]? = some (.cells ((lk c f t xs k).map V).toArray 23 (0, 0))) := ⟨hv1⟩
    have hlen := lk_len c f t xs k hx
    have hsz : Box (((lk c f t xs k).map V).toArray.size = 32) := ⟨by simp [hlen]⟩
    by_cases hlt : k < 15
    · have hvB := Box.mk hv1
      have hvB2 := Box.mk hv2
      by_cases hin : f ≤ (k : Int) ∧ (k : Int) < t
      · have hc := Box.mk (chn_any (lk c f t xs k) c (k : Int) wr hlen (hK.below hb))
        have hZ : Box (lk c f t xs (k + 1) = chn c (k : Int) (lk c f t xs k)) := ⟨by simp only [lk]; rw [if_pos hin]⟩
        have hlen2 := chn_len c (k : Int) (lk c f t xs k)
        have hsz2 : Box (((chn c (k : Int) (lk c f t xs k)).map V).toArray.size = 32) := ⟨by simp [hlen2]⟩
        generalize chn c (k : Int) (lk c f t xs k) = z at *
        generalize lk c f t xs k = y at *
        obtain ⟨h1, h2⟩ := hin
        clear hv1 hv2
        go_wp2_with (first | (refine wpList_load_row rfl 23 (.tmp 4) rfl w.heap.size rfl 23 _ (0, 0) _ hv1'.out Tryd.under23 rfl (by rw [hsz.out]; exact Tryd.size23) ?_) | (go_at_call 64; refine hc.out.mono ?_; rintro e w2 ⟨rfl, hb2⟩; have hvC := Box.mk (hvB.out.below hb2 hvB.out.lt); have hvD := Box.mk (hvB2.out.below hb2 hvB2.out.lt); have hb3 := hb.trans (hb2.mono hb.size)) | (refine wpList_store_row rfl 23 (.tmp 4) (.tmp 24) rfl w.heap.size (z.map V).toArray rfl rfl 23 _ hvC.out (by rw [hsz2.out]; exact Tryd.size23) (by rw [hsz2.out]; simp [hlen]) (V_all _) ?_))
        refine ⟨⟨k + 1, by omega, by go_num, ?_, hvD.out.setRow_other (by omega), hb3.trans (below_setRow _ _ _ _ (Nat.le_refl _))⟩, by simp [intOf]; omega⟩
        rw [hZ.out]
        exact hvC.out.setRow
      · have hZ : Box (lk c f t xs (k + 1) = lk c f t xs k) := ⟨by simp only [lk]; rw [if_neg hin]⟩
        generalize lk c f t xs k = y at *
        clear hv1 hv2
        by_cases h1 : f ≤ (k : Int)
        · have h2 : ¬ ((k : Int) < t) := fun h => hin ⟨h1, h⟩
          clear hin
          go_wp2
          exact ⟨⟨k + 1, by omega, by go_num, by rw [hZ.out]; exact hvB.out, hvB2.out, hb⟩, by simp [intOf]; omega⟩
        · clear hin
          go_wp2
          exact ⟨⟨k + 1, by omega, by go_num, by rw [hZ.out]; exact hvB.out, hvB2.out, hb⟩, by simp [intOf]; omega⟩
    · obtain rfl : k = 15 := by omega
      have hk2 : Box (wr.heap[w.heap.size + 1]? = some (.cells ((hsh St.first 0).map V).toArray 23 (0, 0))) := ⟨hv2⟩
      obtain ⟨y, hy⟩ : ∃ y, Box (lk c f t xs 15 = y) := ⟨_, ⟨rfl⟩⟩
      rw [hy.out] at hv1' hsz hlen
      clear hv1 hv2
      go_wp2_with (first | (refine wpList_load_row rfl 23 (.tmp 4) rfl w.heap.size rfl 23 _ (0, 0) _ hv1'.out Tryd.under23 rfl (by rw [hsz.out]; exact Tryd.size23) ?_) | (refine wpList_store_row rfl 23 (.tmp 8) (.tmp 26) rfl (w.heap.size + 1) (y.map V).toArray rfl rfl 23 _ hk2.out (by rw [hsz.out]; exact Tryd.size23) (by rw [hsz.out]; rfl) (V_all _) ?_))
      refine bodyPost_ret (v := .agg (y.map V).toArray) ?_ rfl ⟨by rw [hy.out], ?_⟩
      · exact results_cell_row (P := Tryd.prog) (fn := Tryd.f43) (p := 8) (ty := 23) rfl _ _ (w.heap.size + 1) 23 _ (0, 0) _ rfl (setRow_heap _ _ _ _ 23 (0, 0) hk2.out) Tryd.under23 rfl (by rw [hsz.out]; exact Tryd.size23)
      · exact hb.trans (below_setRow _ _ _ _ (by omega))
/-- wots.Walk between steps that there are. -/
theorem walk_any (xs : List (BitVec 8)) (c : Int) (f t : Nat) (w : World) (hx : xs.length = 32) (ht : t ≤ 15) (hK : Tab w) :
    Calls Tryd.prog 43 #[.agg (xs.map V).toArray, .int .i64 c, .int .i64 f, .int .i64 t] w fun e w' => e = .returned (.agg ((wk c f xs (t - f)).map V).toArray) ∧ Below w.heap.size w w' := by
  have := wlk_any xs c f t w hx hK
  rw [lk_wk, Nat.min_eq_right ht] at this
  exact this
end Go.Proofs.YtnanipeapjpkfaaDoor
namespace Go.Proofs.YtnanipeapjpkfaaDoor
set_option maxRecDepth 100000
open Go.RowKit
/-- A pointer to a number. -/
def Fk.pi (z : Int) : Fk := .inr (.inl ⟨fun v w => ∃ b o, v = .pointer (some ⟨b, o, none⟩) ∧ w.cell? ⟨b, o, none⟩ = some (.int .i64 z), by
  rintro v w w' ⟨b, o, e, h⟩ hb
  exact ⟨b, o, e, by rw [hb.cell (block_lt_of_cell h)]; exact h⟩⟩)
/-- A pointer to a hash. -/
def Fk.ph (xs : List (BitVec 8)) : Fk := .inr (.inl ⟨fun v w => ∃ b o, v = .pointer (some ⟨b, o, none⟩) ∧ xs.length = 32 ∧ b < w.heap.size ∧ HasB w b o xs, by
  rintro v w w' ⟨b, o, e, hl, hlt, h⟩ hb
  exact ⟨b, o, e, hl, Nat.lt_of_lt_of_le hlt hb.size, h.below hb hlt⟩⟩)
/-- A slice of numbers. -/
def Fk.ds (ds : List Nat) : Fk := .inr (.inl ⟨fun v w => ∃ sp c b o, v = .slice sp ds.length c ∧ Is w sp b o ds, by
  rintro v w w' ⟨sp, c, b, o, e, h⟩ hb
  exact ⟨sp, c, b, o, e, h.below hb⟩⟩)
/-- A slice of hashes. -/
def Fk.hs (hs : List (List (BitVec 8))) : Fk := .inr (.inl ⟨fun v w => ∃ A C lb lo, v = .slice A hs.length C ∧ Hl w A lb lo hs, by
  rintro v w w' ⟨A, C, lb, lo, e, h⟩ hb
  exact ⟨A, C, lb, lo, e, h.below hb⟩⟩)
/-- Two values: such a slice, and an error's number. -/
def Fk.th (hs : List (List (BitVec 8))) (n : Int) : Fk := .inr (.inl ⟨fun v w => ∃ u, v = .tuple #[u, .int .i64 n] ∧ (Fk.hs hs).f u w, by
  rintro v w w' ⟨u, e, h⟩ hb
  exact ⟨u, e, Fk.mono _ _ _ _ h hb⟩⟩)
theorem arg2 {a : Act} {x y : Operand} {u v : Value} (h : a.eval x = u) (h2 : a.eval y = v) : ((#[x, y].toList.map a.eval).toArray : Array Value) = #[u, v] := by rw [← h, ← h2]; rfl
theorem arg3 {a : Act} {x y z : Operand} {u v t : Value} (h : a.eval x = u) (h2 : a.eval y = v) (h3 : a.eval z = t) : ((#[x, y, z].toList.map a.eval).toArray : Array Value) = #[u, v, t] := by rw [← h, ← h2, ← h3]; rfl
theorem arg4 {a : Act} {x y z p : Operand} {u v t s : Value} (h : a.eval x = u) (h2 : a.eval y = v) (h3 : a.eval z = t) (h4 : a.eval p = s) : ((#[x, y, z, p].toList.map a.eval).toArray : Array Value) = #[u, v, t, s] := by rw [← h, ← h2, ← h3, ← h4]; rfl
theorem fk_of {f : FuncId} {args : Array Value} {w : World} {v : Value} (h : Calls Tryd.prog f args w fun e w' => e = .returned v ∧ Below w.heap.size w w') : Calls Tryd.prog f args w fun e w' => ∃ u, e = .returned u ∧ (Fk.eq v).f u w' ∧ Below w.heap.size w w' := by
  refine h.mono ?_
  rintro e w' ⟨rfl, hb⟩
  exact ⟨_, rfl, rfl, hb⟩
theorem Tryd.isAgg3' (w : World) : (isAgg 3).run Tryd.prog w = .ok false w := by kernel_rfl
theorem Tryd.elem75 : Tryd.prog.elem 75 = 3 := by kernel_rfl
theorem Tryd.elem32 : Tryd.prog.elem 32 = 23 := by kernel_rfl
theorem Tryd.sizeOf3 (w : World) : (sizeOf 3).run Tryd.prog w = .ok 1 w := by kernel_rfl
theorem Tryd.sizeOf23 (w : World) : (sizeOf 23).run Tryd.prog w = .ok 32 w := by kernel_rfl
theorem Tryd.under32' : Tryd.prog.underlying 32 = some (.slice 23) := by kernel_rfl
theorem Tryd.zero23 (w : World) : (Instr.build 23 #[]).run Tryd.prog w = .ok (.agg ((hsh St.first 0).map V).toArray) w := by kernel_rfl
section
variable {Q : Exit → Act → World → Prop} {o : Oper} {a : Act} {w : World} {q : Fk}
theorem st_loadi (x : Operand) (ho : o.op = .load 3 x) {z : Int} (h : (Fk.pi z).f (a.eval x) w) : o.wp Tryd.prog a w (Ends a o.dst w (Fk.eq (.int .i64 z)).f) Q := by
  obtain ⟨b, so, e, hc⟩ := h
  refine st_pure (v := .int .i64 z) ?_ rfl
  have h1 : (isAgg 3).run Tryd.prog w = .ok false w := Tryd.isAgg3' w
  unfold execOp
  rw [ho]
  simp [e, Instr.loadAt, Instr.sureAddr, loadVar, h1, run_load, hc]
theorem st_loadh (x : Operand) (ho : o.op = .load 23 x) {xs : List (BitVec 8)} (h : (Fk.ph xs).f (a.eval x) w) : o.wp Tryd.prog a w (Ends a o.dst w (Fk.eq (.agg (xs.map V).toArray)).f) Q := by
  obtain ⟨b, so, e, hl, hlt, hB⟩ := h
  refine wp_load_mid 23 x ho b so e (xs.map V) _ ?_ Tryd.under23 rfl (by rw [List.length_map, hl]; exact Tryd.size23) ⟨_, rfl, Below.refl _ _, rfl⟩
  intro j v hj
  have := hB.src xs.length j v
  rw [List.take_of_length_le (Nat.le_refl _)] at this
  have h2 := this hj
  rw [Addr.add_mid] at h2
  exact h2
theorem st_idxi (x y : Operand) (ho : o.op = .indexAddr 75 x y) {ds : List Nat} (h : (Fk.ds ds).f (a.eval x) w) (i d : Nat) (hy : a.eval y = .int .i64 (i : Int)) (hi : ds[i]? = some d) : o.wp Tryd.prog a w (Ends a o.dst w (Fk.pi (d : Int)).f) Q := by
  obtain ⟨sp, c, b, so, e, hs⟩ := h
  have hil : i < ds.length := (List.getElem?_eq_some_iff.1 hi).1
  have hp := hs.ptr (by omega)
  subst hp
  refine st_pure (v := .pointer (some ⟨b, so + i, none⟩)) ?_ ⟨b, so + i, rfl, hs.cell i d hi⟩
  have h1 := run_indexAt_slice (P := Tryd.prog) (w := w) 75 ⟨b, so, none⟩ ds.length c .i64 (i : Int) (by rw [Tryd.elem75]; exact Tryd.under75)
  rw [if_pos (by omega), Tryd.elem75, Tryd.sizeOf3] at h1
  simp only [Result.andThen_ok, Int.toNat_natCast, Nat.mul_one, Addr.add_mid] at h1
  unfold execOp
  rw [ho]
  simp [e, hy, h1]
theorem st_idxh (x y : Operand) (ho : o.op = .indexAddr 32 x y) {hs : List (List (BitVec 8))} (h : (Fk.hs hs).f (a.eval x) w) (i : Nat) (xs : List (BitVec 8)) (hy : a.eval y = .int .i64 (i : Int)) (hi : hs[i]? = some xs) : o.wp Tryd.prog a w (Ends a o.dst w (Fk.ph xs).f) Q := by
  obtain ⟨A, C, lb, lo, e, hl⟩ := h
  have hil : i < hs.length := (List.getElem?_eq_some_iff.1 hi).1
  have hp := hl.ptr (by omega)
  subst hp
  obtain ⟨h32, hB⟩ := hl.all i xs hi
  refine st_pure (v := .pointer (some ⟨lb, lo + i * 32, none⟩)) ?_ ⟨lb, lo + i * 32, rfl, h32, hl.lt (by omega), hB⟩
  have h1 := run_indexAt_slice (P := Tryd.prog) (w := w) 32 ⟨lb, lo, none⟩ hs.length C .i64 (i : Int) (by rw [Tryd.elem32]; exact Tryd.under32')
  rw [if_pos (by omega), Tryd.elem32, Tryd.sizeOf23] at h1
  simp only [Result.andThen_ok, Int.toNat_natCast, Addr.add_mid] at h1
  unfold execOp
  rw [ho]
  simp [e, hy, h1]
theorem st_zero23 (ho : o.op = .build 23 #[]) : o.wp Tryd.prog a w (Ends a o.dst w (Fk.eq (.agg ((hsh St.first 0).map V).toArray)).f) Q := by
  refine st_pure (v := .agg ((hsh St.first 0).map V).toArray) ?_ rfl
  have := Tryd.zero23 w
  unfold execOp
  rw [ho]
  simp [this]
theorem st_leni (x : Operand) (ho : o.op = .call { callee := .builtin .len, args := #[x], argTypes := #[75] }) {ds : List Nat} (h : (Fk.ds ds).f (a.eval x) w) : o.wp Tryd.prog a w (Ends a o.dst w (Fk.eq (.int .i64 (ds.length : Int))).f) Q := by
  obtain ⟨sp, c, b, so, e, hs⟩ := h
  refine st_pure (v := .int .i64 (ds.length : Int)) ?_ rfl
  have h1 := run_len_slice (P := Tryd.prog) (w := w) 75 o.type sp ds.length c (by rw [Tryd.elem75]; exact Tryd.under75)
  unfold execOp
  simp [ho, resolve, invoke, builtin, e, h1, goInt]
theorem st_lenh (x : Operand) (ho : o.op = .call { callee := .builtin .len, args := #[x], argTypes := #[32] }) {hs : List (List (BitVec 8))} (h : (Fk.hs hs).f (a.eval x) w) : o.wp Tryd.prog a w (Ends a o.dst w (Fk.eq (.int .i64 (hs.length : Int))).f) Q := by
  obtain ⟨A, C, lb, lo, e, hl⟩ := h
  refine st_pure (v := .int .i64 (hs.length : Int)) ?_ rfl
  have h1 := run_len_slice (P := Tryd.prog) (w := w) 32 o.type A hs.length C (by rw [Tryd.elem32]; exact Tryd.under32')
  unfold execOp
  simp [ho, resolve, invoke, builtin, e, h1, goInt]
theorem st_neqi (t : TypeId) (x y : Operand) (ho : o.op = .binOp .neq t x y t) (k : IntKind) (s u : Int) (hx : a.eval x = .int k s) (hy : a.eval y = .int k u) (b : Bool) (hb : b = decide (s ≠ u)) : o.wp Tryd.prog a w (Ends a o.dst w (Fk.eq (.bool b)).f) Q := by
  refine st_pure (v := .bool b) ?_ rfl
  subst hb
  unfold execOp
  rw [ho]
  simp [hx, hy, eqGuard, binOp, Op.intCmp]
  by_cases h : s = u
  · simp [h]
  · simp [h]
theorem st_lss (t : TypeId) (x y : Operand) (ho : o.op = .binOp .lss t x y t) (k : IntKind) (s u : Int) (hx : a.eval x = .int k s) (hy : a.eval y = .int k u) (b : Bool) (hb : b = decide (s < u)) : o.wp Tryd.prog a w (Ends a o.dst w (Fk.eq (.bool b)).f) Q := by
  refine st_pure (v := .bool b) ?_ rfl
  subst hb
  unfold execOp
  rw [ho]
  simp [hx, hy, eqGuard, binOp, Op.intCmp]
theorem st_gtr (t : TypeId) (x y : Operand) (ho : o.op = .binOp .gtr t x y t) (k : IntKind) (s u : Int) (hx : a.eval x = .int k s) (hy : a.eval y = .int k u) (b : Bool) (hb : b = decide (u < s)) : o.wp Tryd.prog a w (Ends a o.dst w (Fk.eq (.bool b)).f) Q := by
  refine st_pure (v := .bool b) ?_ rfl
  subst hb
  unfold execOp
  rw [ho]
  simp [hx, hy, eqGuard, binOp, Op.intCmp]
theorem st_not (x : Operand) (ho : o.op = .unOp .not 4 x) (s : Bool) (hx : a.eval x = .bool s) : o.wp Tryd.prog a w (Ends a o.dst w (Fk.eq (.bool !s)).f) Q := by
  refine st_pure (v := .bool !s) ?_ rfl
  unfold execOp
  rw [ho]
  simp [hx, Op.unary]
theorem st_eqh (x y : Operand) (ho : o.op = .binOp .eql 23 x y 23) (xs ys : List (BitVec 8)) (hl : xs.length = 32) (hl2 : ys.length = 32) (hx : a.eval x = .agg (xs.map V).toArray) (hy : a.eval y = .agg (ys.map V).toArray) (b : Bool) (hb : b = decide (xs = ys)) : o.wp Tryd.prog a w (Ends a o.dst w (Fk.eq (.bool b)).f) Q := by
  refine st_pure (v := .bool b) ?_ rfl
  subst hb
  have h1 := Tryd.noGuard23 x y (xs.map V).toArray (ys.map V).toArray w
  have h2 := run_equal23 w xs ys hl hl2
  unfold execOp
  rw [ho]
  simp [hx, hy, h1, binOp, Op.equal, Op.maxDepth, h2]
theorem st_neqh (x y : Operand) (ho : o.op = .binOp .neq 23 x y 23) (xs ys : List (BitVec 8)) (hl : xs.length = 32) (hl2 : ys.length = 32) (hx : a.eval x = .agg (xs.map V).toArray) (hy : a.eval y = .agg (ys.map V).toArray) (b : Bool) (hb : b = decide (xs ≠ ys)) : o.wp Tryd.prog a w (Ends a o.dst w (Fk.eq (.bool b)).f) Q := by
  refine st_pure (v := .bool b) ?_ rfl
  subst hb
  have h1 := Tryd.noGuard23n x y (xs.map V).toArray (ys.map V).toArray w
  have h2 := run_equal23 w xs ys hl hl2
  unfold execOp
  rw [ho]
  simp [hx, hy, h1, binOp, Op.equal, Op.maxDepth, h2]
theorem st_eqbb (x y : Operand) (ho : o.op = .binOp .eql 4 x y 4) (s t : Bool) (hx : a.eval x = .bool s) (hy : a.eval y = .bool t) (b : Bool) (hb : b = (s == t)) : o.wp Tryd.prog a w (Ends a o.dst w (Fk.eq (.bool b)).f) Q := by
  refine st_pure (v := .bool b) ?_ rfl
  subst hb
  unfold execOp
  rw [ho]
  have h2 := run_equal_bool (P := Tryd.prog) w 4 s t Tryd.under4
  simp [hx, hy, eqGuard, binOp, h2]
theorem st_ext0 (x : Operand) (ho : o.op = .extract x 0) {u v : Value} (hx : a.eval x = .tuple #[u, v]) (h : q.f u w) : o.wp Tryd.prog a w (Ends a o.dst w q.f) Q := by
  refine st_pure (v := u) ?_ h
  unfold execOp
  rw [ho]
  simp [hx, Instr.extract]
theorem st_ext1 (x : Operand) (ho : o.op = .extract x 1) {u v : Value} (hx : a.eval x = .tuple #[u, v]) (h : q.f v w) : o.wp Tryd.prog a w (Ends a o.dst w q.f) Q := by
  refine st_pure (v := v) ?_ h
  unfold execOp
  rw [ho]
  simp [hx, Instr.extract]
end
end Go.Proofs.YtnanipeapjpkfaaDoor
namespace Go.Proofs.YtnanipeapjpkfaaDoor
set_option maxRecDepth 100000
open Go.RowKit
theorem digits_at (hs : List (BitVec 8)) (w : World) (hl : hs.length = 32) :
    Calls Tryd.prog 42 #[.agg (hs.map V).toArray] w fun e w' => ∃ c b, e = .returned (.slice (some ⟨b, 0, none⟩) 67 c) ∧ Is w' (some ⟨b, 0, none⟩) b 0 (dig hs) ∧ w.heap.size ≤ b ∧ Below w.heap.size w w' := by
  refine (digits_any hs w hl).mono ?_
  rintro e w' ⟨sp, c, b, rfl, hs, hg, hb⟩
  obtain rfl := hs.ptr (by rw [dig_len]; omega)
  exact ⟨c, b, rfl, hs, hg, hb⟩
theorem fk_digits {hs : List (BitVec 8)} {w : World} (hl : hs.length = 32) : Calls Tryd.prog 42 #[.agg (hs.map V).toArray] w fun e w' => ∃ u, e = .returned u ∧ (Fk.ds (dig hs)).f u w' ∧ Below w.heap.size w w' := by
  refine (digits_at hs w hl).mono ?_
  rintro e w' ⟨c, b, rfl, h, _, hb⟩
  exact ⟨_, rfl, ⟨_, c, b, 0, by rw [dig_len], h⟩, hb⟩
theorem fk_public {hs : List (List (BitVec 8))} {v : Value} {w : World} (hN : hs.length ≤ 1000) (hK : Tab w) (h : (Fk.hs hs).f v w) : Calls Tryd.prog 52 #[v] w fun e w' => ∃ u, e = .returned u ∧ (Fk.eq (.agg ((pub hs).map V).toArray)).f u w' ∧ Below w.heap.size w w' := by
  obtain ⟨A, C, lb, lo, rfl, hL⟩ := h
  exact fk_of (public_any A hs.length C lb lo hs w rfl hL hN hK)

theorem Tryd.enter42 (args : Array Value) (w : World) : (callFunc 42 args).run Tryd.prog w = .ok (.enter 42 args) w := by kernel_rfl
theorem Tryd.enter36 (args : Array Value) (w : World) : (callFunc 36 args).run Tryd.prog w = .ok (.enter 36 args) w := by kernel_rfl
theorem Tryd.enter16 (args : Array Value) (w : World) : (callFunc 16 args).run Tryd.prog w = .ok (.enter 16 args) w := by kernel_rfl
theorem Tryd.enter44 (args : Array Value) (w : World) : (callFunc 44 args).run Tryd.prog w = .ok (.enter 44 args) w := by kernel_rfl
theorem Tryd.enter22 (args : Array Value) (w : World) : (callFunc 22 args).run Tryd.prog w = .ok (.enter 22 args) w := by kernel_rfl
theorem Tryd.enter52 (args : Array Value) (w : World) : (callFunc 52 args).run Tryd.prog w = .ok (.enter 52 args) w := by kernel_rfl
theorem Tryd.enter43 (args : Array Value) (w : World) : (callFunc 43 args).run Tryd.prog w = .ok (.enter 43 args) w := by kernel_rfl
theorem Tryd.enter64 (args : Array Value) (w : World) : (callFunc 64 args).run Tryd.prog w = .ok (.enter 64 args) w := by kernel_rfl
theorem Tryd.enter66 (args : Array Value) (w : World) : (callFunc 66 args).run Tryd.prog w = .ok (.enter 66 args) w := by kernel_rfl
theorem Tryd.enter67 (args : Array Value) (w : World) : (callFunc 67 args).run Tryd.prog w = .ok (.enter 67 args) w := by kernel_rfl
theorem iskey_yes (n : Nat) (h : n ≤ 2147483647) (w : World) : Calls Tryd.prog 41 #[.int .i64 (n : Int)] w fun e w' => e = .returned (.bool true) ∧ w' = w := by
  have h1 : (0 : Int) ≤ (n : Int) := by omega
  have h2 : (n : Int) ≤ (2147483647 : Int) := by omega
  go_enter Tryd.func41, Tryd.ntmps41
  go_wp2
  go_ret
  exact ⟨rfl, rfl⟩
theorem iskey_no (z : Int) (h : z < 0 ∨ 2147483647 < z) (w : World) : Calls Tryd.prog 41 #[.int .i64 z] w fun e w' => e = .returned (.bool false) ∧ w' = w := by
  rcases h with h | h
  · have h1 : ¬ ((0 : Int) ≤ z) := by omega
    clear h
    go_enter Tryd.func41, Tryd.ntmps41
    go_wp2
    go_ret
    exact ⟨rfl, rfl⟩
  · have h1 : (0 : Int) ≤ z := by omega
    have h2 : ¬ (z ≤ (2147483647 : Int)) := by omega
    clear h
    go_enter Tryd.func41, Tryd.ntmps41
    go_wp2
    go_ret
    exact ⟨rfl, rfl⟩
/-- The hash of noughts. -/
def hz : List (BitVec 8) := hsh St.first 0
theorem hz_len : hz.length = 32 := rfl
theorem hz_dig : (dig hz)[64]? = some 3 ∧ (dig hz)[65]? = some 12 ∧ (dig hz)[66]? = some 0 := by decide +kernel
theorem hz_walk : wk 1 2 hz (3 - 2) = chn 1 2 hz := rfl
end Go.Proofs.YtnanipeapjpkfaaDoor
namespace Go.Proofs.YtnanipeapjpkfaaDoor
set_option maxRecDepth 100000
open Go.RowKit
/-- Block g is a row of hashes that may be written. -/
structure Rw (w : World) (g : Nat) (hs : List (List (BitVec 8))) : Prop where
  hl : Hl w (some ⟨g, 0, none⟩) g 0 hs
  lt : g < w.heap.size
  fz : ∀ j, w.frozen? ⟨g, j, none⟩ = false
theorem Rw.below {w w' : World} {g : Nat} {hs : List (List (BitVec 8))} (h : Rw w g hs) (hb : Below w.heap.size w w') : Rw w' g hs :=
  ⟨h.hl.below hb, Nat.lt_of_lt_of_le h.lt hb.size, fun j => by rw [World.frozen?_of_block (w := w) (hb.block g h.lt)]; exact h.fz j⟩
theorem Rw.there {w : World} {g : Nat} {hs : List (List (BitVec 8))} (h : Rw w g hs) (k : Nat) (hk : k < hs.length) : w.there g (k * 32) 32 := by
  intro j hj
  obtain ⟨h1, h2⟩ := h.hl.all k hs[k] (List.getElem?_eq_getElem hk)
  have := h2 j (by rw [h1]; exact hj)
  rw [Nat.zero_add] at this
  exact ⟨by rw [this]; rfl, h.fz _⟩
theorem size_setCells (b : Nat) : ∀ (vs : List Value) (o : Nat) (w : World), (w.setCells b o vs).heap.size = w.heap.size
  | [], _, _ => rfl
  | v :: r, o, w => by rw [World.setCells, size_setCells b r]; simp [World.setCell]
theorem block_setCells (b : Nat) (i : Nat) (hne : i ≠ b) : ∀ (vs : List Value) (o : Nat) (w : World), (w.setCells b o vs).heap[i]? = w.heap[i]?
  | [], _, _ => rfl
  | v :: r, o, w => by rw [World.setCells, block_setCells b i hne r, heap_setCell_other _ _ _ _ hne]
theorem below_setCells {B g : Nat} {a : World} (hb : B ≤ g) : ∀ (vs : List Value) (o : Nat) (w : World), Below B a w → Below B a (w.setCells g o vs)
  | [], _, _, h => h
  | v :: r, o, w, h => below_setCells hb r (o + 1) _ (h.setCell (by exact hb) v)
theorem HasV.cells_other {w : World} {g b o : Nat} {T : TypeId} {xs : List (BitVec 8)} {vs : List Value} (h : HasV w b T xs) (hne : b ≠ g) : HasV (w.setCells g o vs) b T xs := by
  have := block_setCells g b hne vs o w
  unfold HasV at *
  rw [this]; exact h
theorem Rw.store {w : World} {g : Nat} {hs : List (List (BitVec 8))} (h : Rw w g hs) (k : Nat) (x : List (BitVec 8)) (hk : k < hs.length) (hx : x.length = 32) : Rw (w.setCells g (k * 32) (x.map V)) g (hs.set k x) := by
  have ht := h.there k hk
  refine ⟨⟨fun _ => rfl, fun _ => by rw [size_setCells]; exact h.lt, fun i y hi => ?_⟩, by rw [size_setCells]; exact h.lt, fun j => by rw [World.frozen?_setCells]; exact h.fz j⟩
  by_cases e : i = k
  · subst e
    rw [List.getElem?_set_self hk] at hi
    obtain rfl := Option.some.inj hi
    refine ⟨hx, fun j hj => ?_⟩
    have := World.rangeAt_setCells_same w g (i * 32) (x.map V) (by rw [List.length_map, hx]; exact ht) j (V (x.getD j 0)) (by simp [hj])
    rw [Nat.zero_add]
    exact this
  · rw [List.getElem?_set_ne (fun h => e h.symm)] at hi
    obtain ⟨h1, h2⟩ := h.hl.all i y hi
    refine ⟨h1, fun j hj => ?_⟩
    rw [World.cell?_setCells_out _ _ _ _ _ (fun _ _ => ?_)]
    · exact h2 j hj
    · show 0 + i * 32 + j < k * 32 ∨ k * 32 + (x.map V).length ≤ 0 + i * 32 + j
      rw [List.length_map, hx]
      rw [h1] at hj
      omega
/-- 67 hashes of noughts, in cells. -/
def mk67 : Array Value := madeCells ((hz.map V).toArray) (67 * 32)
theorem mk67_at (j : Nat) (h : j < 67 * 32) : mk67[j]? = some (.int .u8 (bv (hz.getD (j % 32) 0))) := by
  have h2 : j % 32 < hz.length := by rw [hz_len]; omega
  have h3 : mk67.size = 67 * 32 := by unfold mk67; simp [size_madeCells]
  rw [Array.getElem?_eq_getElem (by rw [h3]; exact h)]
  unfold mk67
  simp only [madeCells, Array.getElem_map, Array.getElem_range, List.size_toArray, List.length_map, hz_len]
  have : (hz.map V).toArray[j % 32]? = some (V (hz.getD (j % 32) 0)) := by
    rw [List.getElem?_toArray, List.getElem?_map, List.getElem?_eq_getElem h2, Option.map_some, List.getD_eq_getElem?_getD, List.getElem?_eq_getElem h2]
    rfl
  rw [getElem!_def, this]
  rfl
theorem Tryd.info23 : (Tryd.prog.info? 23).map (fun i => (i.zero, i.size, i.bytes)) = some (some (.agg (hz.map V).toArray), 32, 32) := by kernel_rfl
theorem Tryd.make32 (w : World) : (Instr.makeSlice 32 (.int .i64 67) (.int .i64 67)).run Tryd.prog w = .ok (.slice (some ⟨w.heap.size, 0, none⟩) 67 67) (w.alloc (.cells mk67 23)) := by
  obtain ⟨i0, hi, hz0, hz1, hz2⟩ := info_parts Tryd.info23
  have := run_make (P := Tryd.prog) w 32 23 i0 _ Tryd.under32' hi hz0 .i64 .i64 67 67 (by omega) (by omega) (by rw [hz2]; omega) (by omega)
  rw [hz1] at this
  exact this
/-- 67 hashes of noughts. -/
def z67 : List (List (BitVec 8)) := List.replicate 67 hz
theorem rw_new (w : World) : Rw (w.alloc (.cells mk67 23)) w.heap.size z67 := by
  unfold z67
  refine ⟨⟨fun _ => rfl, fun _ => by simp, fun i x hi => ?_⟩, by simp, fun j => ?_⟩
  · obtain ⟨h1, h2⟩ := List.getElem?_eq_some_iff.1 hi
    simp only [List.length_replicate] at h1
    obtain rfl : hz = x := by rw [← h2, List.getElem_replicate]
    refine ⟨hz_len, fun j hj => ?_⟩
    rw [hz_len] at hj
    rw [World.cell?_alloc_mark, mk67_at _ (by omega), show (0 + i * 32 + j) % 32 = j by omega]
  · have := heap_alloc_new w (.cells mk67 23)
    exact frozen_of_row _ _ j _ 23 this
/-- The first k of 67 are told, the others are noughts. -/
def part67 (F : Nat → List (BitVec 8)) (k : Nat) : List (List (BitVec 8)) := (List.range 67).map fun i => if i < k then F i else hz
theorem part_len (F : Nat → List (BitVec 8)) (k : Nat) : (part67 F k).length = 67 := by simp [part67]
theorem part_zero (F : Nat → List (BitVec 8)) : part67 F 0 = z67 := by
  unfold z67
  apply List.ext_getElem (by simp [part67])
  intro i h1 h2
  rw [List.getElem_replicate]
  simp [part67]
theorem part_set (F : Nat → List (BitVec 8)) (k : Nat) : (part67 F k).set k (F k) = part67 F (k + 1) := by
  apply List.ext_getElem (by simp [part67])
  intro i h1 h2
  rw [List.getElem_set]
  simp only [part67, List.getElem_map, List.getElem_range]
  by_cases e : k = i
  · subst e; simp
  · rw [if_neg e]
    by_cases h : i < k
    · rw [if_pos h, if_pos (by omega)]
    · rw [if_neg h, if_neg (by omega)]
/-- All 67. -/
def all67 (F : Nat → List (BitVec 8)) : List (List (BitVec 8)) := (List.range 67).map F
theorem part_all (F : Nat → List (BitVec 8)) : part67 F 67 = all67 F := by
  apply List.ext_getElem (by simp [part67, all67])
  intro i h1 h2
  simp only [part67, List.length_map, List.length_range] at h1
  simp [part67, all67, h1]
theorem all_len (F : Nat → List (BitVec 8)) : (all67 F).length = 67 := by simp [all67]
theorem all_at (F : Nat → List (BitVec 8)) (i : Nat) (h : i < 67) : (all67 F)[i]? = some (F i) := by simp [all67, h]
end Go.Proofs.YtnanipeapjpkfaaDoor
namespace Go.Proofs.YtnanipeapjpkfaaDoor
set_option maxRecDepth 100000
open Go.RowKit
/-- The end of chain i. -/
def endOf (seed : List (BitVec 8)) (key : Nat) (i : Nat) : List (BitVec 8) := wk (i : Int) 0 (sec seed key i) 15
theorem endOf_len (seed : List (BitVec 8)) (key i : Nat) : (endOf seed key i).length = 32 := wk_len _ _ _ _ (sec_len _ _ _)
theorem sec_any (xs : List (BitVec 8)) (m n : Int) (w : World) (hx : xs.length = 32) (hK : Tab w) :
    Calls Tryd.prog 44 #[.agg (xs.map V).toArray, .int .i64 m, .int .i64 n] w fun e w' => e = .returned (.agg ((sec xs m n).map V).toArray) ∧ Below w.heap.size w w' := secret_any xs m n w hx hK
theorem pub_any (g : Nat) (hs : List (List (BitVec 8))) (w : World) (hn : hs.length = 67) (hL : Rw w g hs) (hK : Tab w) :
    Calls Tryd.prog 52 #[.slice (some ⟨g, 0, none⟩) 67 67] w fun e w' => e = .returned (.agg ((pub hs).map V).toArray) ∧ Below w.heap.size w w' := public_any _ 67 67 g 0 hs w hn.symm hL.hl (by omega) hK
theorem results_row_tmp {P : Program} {fn : Func} {p u : Tmp} {ty : TypeId} (h : fn.results = #[.cell p ty, .tmp u]) (tmps : Array Value) (w : World) (g : Nat) (t : TypeId) (cs : Array Value) (fr : Nat × Nat) (d : TypeDesc) (v : Value)
    (hp : tmps.getD p undef = .pointer (some ⟨g, 0, none⟩)) (hg : w.heap[g]? = some (.cells cs t fr))
    (hu : P.underlying ty = some d) (hd : (match d with | .struct _ | .array _ _ => true | _ => false) = true) (hi : (P.info? ty).map (·.size) = some cs.size) (hv : tmps.getD u undef = v) :
    (results fn tmps).run P w = .ok (.tuple #[.agg cs, v]) w := by
  rw [results_cell_tmp h, hp, hv]
  simp [asAddr, run_loadVar_row w g t ty cs fr d hg hu hd hi]
set_option maxHeartbeats 400000 in
theorem public_ok (seed : List (BitVec 8)) (key : Nat) (w : World) (hx : seed.length = 32) (hk : key ≤ 2147483647) (hK : Tab w) :
    Calls Tryd.prog 36 #[.agg (seed.map V).toArray, .int .i64 (key : Int)] w fun e w' => e = .returned (.tuple #[.agg ((pub (all67 (endOf seed key))).map V).toArray, .int .i64 0]) ∧ Below w.heap.size w w' := by
  have hmk := Tryd.make32
  have hky := Box.mk (fun w => iskey_yes key hk w)
  go_enter Tryd.func36, Tryd.ntmps36
  go_upto_region 4 with (go_at_call 41; refine (hky.out _).mono ?_; rintro e w2 ⟨rfl, rfl⟩)
  clear hmk hky
  refine code_any (fun w1 => HasV w1 w.heap.size 23 seed ∧ HasV w1 (w.heap.size + 1) 23 hz ∧ Rw w1 (w.heap.size + 1 + 1) (part67 (endOf seed key) 0) ∧ Below w.heap.size w w1) ?_ ?_
  · refine ⟨HasV.alloc (heap_alloc2_old _ _ _) _, HasV.alloc (T := 23) (xs := hz) (by exact heap_alloc2_new _ _ _) _, ?_, (((Below.refl _ _).alloc (Nat.le_refl _) _).alloc (by simp) _).alloc (by simp; omega) _⟩
    rw [part_zero]
    have := rw_new ((w.alloc (Obj.cells (List.map V seed).toArray 23)).alloc (Obj.cells (hz.map V).toArray 23))
    rw [show ((w.alloc (Obj.cells (List.map V seed).toArray 23)).alloc (Obj.cells (hz.map V).toArray 23)).heap.size = w.heap.size + 1 + 1 by simp] at this
    exact this
  rintro w1 ⟨hv1, hv2, hr, hb1⟩
  go_wp2
  go_loopw [13] (fun i wr => ∃ k : Nat, k ≤ 67 ∧ i = .int .i64 (k : Int) ∧ HasV wr w.heap.size 23 seed ∧ HasV wr (w.heap.size + 1) 23 hz ∧ Box (Rw wr (w.heap.size + 1 + 1) (part67 (endOf seed key) k)) ∧ Below w.heap.size w wr) (fun i _ => 67 - (intOf i).toNat)
  case atStart => exact ⟨0, by omega, rfl, hv1, hv2, ⟨hr⟩, hb1⟩
  case round =>
    clear hv1 hv2 hr hb1
    obtain ⟨k, hk67, rfl, hv1, hv2, hr, hb⟩ := hrel
    have hv1' : Box (wr.heap[w.heap.size]? = some (.cells (seed.map V).toArray 23 (0, 0))) := ⟨hv1⟩
    have hsz : Box ((seed.map V).toArray.size = 32) := ⟨by simp [hx]⟩
    by_cases hlt : k < 67
    · have hE : Box (wk (k : Int) 0 (sec seed key k) (15 - 0) = endOf seed key k) := ⟨rfl⟩
      have hS := Box.mk (sec_any seed key k wr hx (hK.below hb))
      have hW : Box (∀ w2, Tab w2 → Calls Tryd.prog 43 #[.agg ((sec seed key k).map V).toArray, .int .i64 (k : Int), .int .i64 0, .int .i64 15] w2 fun e w' => e = .returned (.agg ((endOf seed key k).map V).toArray) ∧ Below w2.heap.size w2 w') := ⟨fun w2 h2 => by
        have := walk_any (sec seed key k) k 0 15 w2 (sec_len _ _ _) (by omega) h2
        rw [hE.out] at this
        exact this⟩
      have hel := endOf_len seed key k
      have hP := Box.mk (part_set (endOf seed key) k)
      obtain ⟨y, hy⟩ : ∃ y, Box (endOf seed key k = y) := ⟨_, ⟨rfl⟩⟩
      rw [hy.out] at hW hel hP
      have hv1B := Box.mk hv1
      have hv2B := Box.mk hv2
      have hsy : Box ((y.map V).toArray.size = 32) := ⟨by simp [hel]⟩
      have hpl := part_len (endOf seed key) k
      generalize sec seed key k = z at hS hW
      clear hE hy hv1 hv2
      have hT := hK.below hb
      go_wp2_with (first | (refine wpList_load_row rfl 23 (.tmp 2) rfl w.heap.size rfl 23 _ (0, 0) _ hv1'.out Tryd.under23 rfl (by rw [hsz.out]; exact Tryd.size23) ?_) | (go_at_call 44; refine hS.out.mono ?_; rintro e w2 ⟨rfl, hb2⟩; have hT2 := hT.below hb2) | (go_at_call 43; refine (hW.out w2 hT2).mono ?_; rintro e w3 ⟨rfl, hb3⟩; have hb4 : Below wr.heap.size wr w3 := hb2.trans (hb3.mono hb2.size); have hr3 := Box.mk (hr.out.below hb4); have hvA := Box.mk (hv1B.out.below hb4 hv1B.out.lt); have hvC := Box.mk (hv2B.out.below hb4 hv2B.out.lt); have hb5 := Box.mk (hb.trans (hb4.mono hb.size)); clear hb4 hb3 hb2 hr hv1B hv2B hv1') | (refine wpList_store_mid rfl 23 (.tmp 24) (.tmp 23) rfl (w.heap.size + 1 + 1) (k * 32) (y.map V).toArray rfl rfl (by rw [hsy.out]; exact hr3.out.there k (by rw [hpl]; exact hlt)) (by rw [hsy.out]; exact Tryd.size23) (V_all _) ?_))
      refine ⟨⟨k + 1, by omega, by go_num, hvA.out.cells_other (by omega), hvC.out.cells_other (by omega), ⟨?_⟩, below_setCells (by omega) _ _ _ hb5.out⟩, by simp [intOf]; omega⟩
      rw [← hP.out]
      exact hr3.out.store k y (by rw [hpl]; exact hlt) hel
    · obtain rfl : k = 67 := by omega
      rw [part_all] at hr
      have hpb := Box.mk (pub_any (w.heap.size + 1 + 1) _ wr (all_len _) hr.out (hK.below hb))
      obtain ⟨y, hy⟩ : ∃ y, Box (pub (all67 (endOf seed key)) = y) := ⟨_, ⟨rfl⟩⟩
      have hyl : Box ((y.map V).toArray.size = 32) := ⟨by rw [← hy.out]; simp [pub_len]⟩
      rw [hy.out] at hpb
      have hv2B := Box.mk hv2
      clear hv1 hv2 hr hv1'
      go_wp2_with (first | (go_at_call 52; refine hpb.out.mono ?_; rintro e w2 ⟨rfl, hb2⟩; have hk2 : Box (w2.heap[w.heap.size + 1]? = some (.cells (hz.map V).toArray 23 (0, 0))) := ⟨hv2B.out.below hb2 hv2B.out.lt⟩; have hb5 := Box.mk (hb.trans (hb2.mono hb.size)); clear hb2) | (refine wpList_store_row rfl 23 (.tmp 4) (.tmp 27) rfl (w.heap.size + 1) (y.map V).toArray rfl rfl 23 _ hk2.out (by rw [hyl.out]; exact Tryd.size23) (by rw [hyl.out]; rfl) (V_all _) ?_))
      refine bodyPost_ret (v := .tuple #[.agg (y.map V).toArray, .int .i64 0]) ?_ rfl ⟨by rw [hy.out], ?_⟩
      · exact results_row_tmp (P := Tryd.prog) (fn := Tryd.f36) (p := 4) (u := 5) (ty := 23) rfl _ _ (w.heap.size + 1) 23 _ (0, 0) _ _ rfl (setRow_heap _ _ _ _ 23 (0, 0) hk2.out) Tryd.under23 rfl (by rw [hyl.out]; exact Tryd.size23) rfl
      · exact hb5.out.trans (below_setRow _ _ _ _ (by omega))
set_option maxHeartbeats 400000 in
theorem public_no (seed : List (BitVec 8)) (key : Int) (w : World) (hk : key < 0 ∨ 2147483647 < key) :
    Calls Tryd.prog 36 #[.agg (seed.map V).toArray, .int .i64 key] w fun e w' => e = .returned (.tuple #[.agg (hz.map V).toArray, .int .i64 11]) ∧ Below w.heap.size w w' := by
  have hky := Box.mk (fun w => iskey_no key hk w)
  have hzz := Tryd.zero23
  rw [show hsh St.first 0 = hz from rfl] at hzz
  go_enter Tryd.func36, Tryd.ntmps36
  go_upto_region 1 with fail
  refine code_any (fun w1 => HasV w1 (w.heap.size + 1) 23 hz ∧ Below w.heap.size w w1) ?_ ?_
  · exact ⟨by exact heap_alloc2_new _ _ _, ((Below.refl _ _).alloc (Nat.le_refl _) _).alloc (by simp) _⟩
  rintro w1 ⟨hv2, hb1⟩
  have hk2 : Box (w1.heap[w.heap.size + 1]? = some (.cells (hz.map V).toArray 23 (0, 0))) := ⟨hv2⟩
  have hsz : Box ((hz.map V).toArray.size = 32) := ⟨by simp [hz_len]⟩
  clear hv2 hk
  go_wp2_with (first | (go_at_call 41; refine (hky.out _).mono ?_; rintro e w2 ⟨rfl, rfl⟩) | (refine wpList_store_row rfl 23 (.tmp 4) (.tmp 11) rfl (w.heap.size + 1) (hz.map V).toArray rfl rfl 23 _ hk2.out (by rw [hsz.out]; exact Tryd.size23) (by rw [hsz.out]) (V_all _) ?_))
  refine bodyPost_ret (v := .tuple #[.agg (hz.map V).toArray, .int .i64 11]) ?_ rfl ⟨rfl, ?_⟩
  · exact results_row_tmp (P := Tryd.prog) (fn := Tryd.f36) (p := 4) (u := 5) (ty := 23) rfl _ _ (w.heap.size + 1) 23 _ (0, 0) _ _ rfl (setRow_heap _ _ _ _ 23 (0, 0) hk2.out) Tryd.under23 rfl (by rw [hsz.out]; exact Tryd.size23) rfl
  · exact hb1.trans (below_setRow _ _ _ _ (by omega))
end Go.Proofs.YtnanipeapjpkfaaDoor
