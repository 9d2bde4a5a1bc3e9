/- A digest in memory, what writing bytes makes of it, and small laws on worlds in which one block has turned. No program is spoken of. -/
import Derived.Test.YtfhhlkbcoofemaaDoorPm
import Derived.Laws.CopyOwn
namespace Go.Proofs.YtfhhlkbcoofemaaDoor
open Go.RowKit

/-- w' is as w was, but for block g and for new blocks. -/
structure Only (g : Nat) (w w' : World) : Prop where
  os : w'.os = w.os
  tape : w'.tape = w.tape
  output : w'.output = w.output
  size : w.heap.size ≤ w'.heap.size
  block : ∀ k, k < w.heap.size → k ≠ g → w'.heap[k]? = w.heap[k]?
theorem Only.refl (g : Nat) (w : World) : Only g w w := ⟨rfl, rfl, rfl, Nat.le_refl _, fun _ _ _ => rfl⟩
theorem Only.trans {g : Nat} {a b c : World} (h : Only g a b) (k : Only g b c) : Only g a c :=
  ⟨k.os.trans h.os, k.tape.trans h.tape, k.output.trans h.output, Nat.le_trans h.size k.size, fun i hi hg => (k.block i (Nat.lt_of_lt_of_le hi h.size) hg).trans (h.block i hi hg)⟩
theorem Only.drew {g : Nat} {a w : World} (h : Only g a w) : Only g a w.drew := ⟨h.os, h.tape, h.output, h.size, h.block⟩
theorem Only.setCell {g : Nat} {a w : World} (h : Only g a w) (o : Nat) (v : Value) : Only g a (w.setCell ⟨g, o, none⟩ v) :=
  h.trans ⟨rfl, rfl, rfl, by simp [World.setCell], fun k _ hk => heap_setCell_other _ _ _ _ hk⟩
theorem Only.setRow {g : Nat} {a w : World} (h : Only g a w) (cs : Array Value) : Only g a (w.setRow g cs) :=
  h.trans ⟨rfl, rfl, rfl, by simp, fun k _ hk => setRow_other w g k cs hk⟩
theorem Only.of_below {g : Nat} {a w : World} (h : Below a.heap.size a w) : Only g a w := ⟨h.os, h.tape, h.output, h.size, fun k hk _ => h.block k hk⟩
theorem Only.below {g : Nat} {a w : World} (h : Only g a w) (B : Nat) (h1 : B ≤ g) (h2 : B ≤ a.heap.size) : Below B a w := ⟨h.os, h.tape, h.output, h.size, fun k hk => h.block k (by omega) (by omega)⟩
theorem Only.cell {g : Nat} {a w : World} (h : Only g a w) {p : Addr} (hp : p.block < a.heap.size) (hg : p.block ≠ g) : w.cell? p = a.cell? p := World.cell?_of_block (w := a) (h.block p.block hp hg)
theorem HasB.only {w w' : World} {g b o : Nat} {bs : List (BitVec 8)} (h : HasB w b o bs) (hb : Only g w w') (hB : b < w.heap.size) (hg : b ≠ g) : HasB w' b o bs := fun i hi => by rw [hb.cell (by exact hB) (by exact hg)]; exact h i hi
theorem HasK.only {w w' : World} {g k : Nat} (h : HasK w k) (hb : Only g w w') (hB : k < w.heap.size) (hg : k ≠ g) : HasK w' k := fun i hi => by rw [hb.cell (by exact hB) (by exact hg)]; exact h i hi

/-- A byte in a cell. -/
def V (x : BitVec 8) : Value := .int .u8 (bv x)
/-- A digest: the eight numbers, the block that isn't full yet, how many bytes. -/
structure Dg where
  st : St
  blk : List (BitVec 8)
  len : Nat
def Dg.cells (d : Dg) : List Value := d.st.list.map U ++ (d.blk.map V ++ [.int .i64 (d.len : Int)])
def HasD (w : World) (b : Nat) (T : TypeId) (d : Dg) : Prop := d.blk.length = 64 ∧ w.heap[b]? = some (.cells d.cells.toArray T (0, 0))
theorem HasD.at {w : World} {b : Nat} {T : TypeId} {d : Dg} (h : HasD w b T d) (i : Nat) : w.cell? ⟨b, i, none⟩ = d.cells[i]? := by
  rw [cell_of_row w b i _ T _ h.2]; simp
theorem HasD.frozen {w : World} {b : Nat} {T : TypeId} {d : Dg} (h : HasD w b T d) (i : Nat) : w.frozen? ⟨b, i, none⟩ = false := frozen_of_row w b i _ T h.2
theorem HasD.s0 {w : World} {b : Nat} {T : TypeId} {d : Dg} (h : HasD w b T d) : w.cell? ⟨b, 0, none⟩ = some (.int .u32 (vl d.st.a)) := by rw [h.at]; rfl
theorem HasD.s1 {w : World} {b : Nat} {T : TypeId} {d : Dg} (h : HasD w b T d) : w.cell? ⟨b, 1, none⟩ = some (.int .u32 (vl d.st.b)) := by rw [h.at]; rfl
theorem HasD.s2 {w : World} {b : Nat} {T : TypeId} {d : Dg} (h : HasD w b T d) : w.cell? ⟨b, 2, none⟩ = some (.int .u32 (vl d.st.c)) := by rw [h.at]; rfl
theorem HasD.s3 {w : World} {b : Nat} {T : TypeId} {d : Dg} (h : HasD w b T d) : w.cell? ⟨b, 3, none⟩ = some (.int .u32 (vl d.st.d)) := by rw [h.at]; rfl
theorem HasD.s4 {w : World} {b : Nat} {T : TypeId} {d : Dg} (h : HasD w b T d) : w.cell? ⟨b, 4, none⟩ = some (.int .u32 (vl d.st.e)) := by rw [h.at]; rfl
theorem HasD.s5 {w : World} {b : Nat} {T : TypeId} {d : Dg} (h : HasD w b T d) : w.cell? ⟨b, 5, none⟩ = some (.int .u32 (vl d.st.f)) := by rw [h.at]; rfl
theorem HasD.s6 {w : World} {b : Nat} {T : TypeId} {d : Dg} (h : HasD w b T d) : w.cell? ⟨b, 6, none⟩ = some (.int .u32 (vl d.st.g)) := by rw [h.at]; rfl
theorem HasD.s7 {w : World} {b : Nat} {T : TypeId} {d : Dg} (h : HasD w b T d) : w.cell? ⟨b, 7, none⟩ = some (.int .u32 (vl d.st.h)) := by rw [h.at]; rfl
theorem St.len (s : St) : (s.list.map U).length = 8 := rfl
theorem HasD.bytes {w : World} {b : Nat} {T : TypeId} {d : Dg} (h : HasD w b T d) : HasB w b 8 d.blk := fun i hi => by
  rw [h.at, Dg.cells, List.getElem?_append_right (by rw [St.len]; omega), St.len, show 8 + i - 8 = i by omega, List.getElem?_append_left (by simpa using hi)]
  simp [V, hi]
theorem HasD.num {w : World} {b : Nat} {T : TypeId} {d : Dg} (h : HasD w b T d) : w.cell? ⟨b, 72, none⟩ = some (.int .i64 (d.len : Int)) := by
  rw [h.at, Dg.cells, List.getElem?_append_right (by rw [St.len]; omega), St.len, List.getElem?_append_right (by simp [h.1])]
  simp [h.1]
theorem Dg.size (d : Dg) (h : d.blk.length = 64) : d.cells.length = 73 := by simp [Dg.cells, h, St.list]
theorem HasD.only {w w' : World} {g b : Nat} {T : TypeId} {d : Dg} (h : HasD w b T d) (hb : Only g w w') (hg : b ≠ g) : HasD w' b T d := by
  refine ⟨h.1, ?_⟩
  have hlt : b < w.heap.size := (Array.getElem?_eq_some_iff.1 h.2).1
  rw [hb.block b hlt hg]; exact h.2
theorem HasD.lt {w : World} {b : Nat} {T : TypeId} {d : Dg} (h : HasD w b T d) : b < w.heap.size := (Array.getElem?_eq_some_iff.1 h.2).1
theorem HasD.below {w w' : World} {b : Nat} {T : TypeId} {d : Dg} (h : HasD w b T d) (hb : Below w.heap.size w w') : HasD w' b T d := ⟨h.1, by rw [hb.block b h.lt]; exact h.2⟩
theorem HasD.drew {w : World} {b : Nat} {T : TypeId} {d : Dg} (h : HasD w b T d) : HasD w.drew b T d := h
/-- The count is set. -/
theorem HasD.setLen {w : World} {b : Nat} {T : TypeId} {d : Dg} (h : HasD w b T d) (n : Nat) : HasD (w.setCell ⟨b, 72, none⟩ (.int .i64 (n : Int))) b T { d with len := n } := by
  refine ⟨h.1, ?_⟩
  rw [heap_setCell_same w b 72 _ T _ h.2]
  refine congrArg (fun c : Array Value => some (Obj.cells c T (0, 0))) ?_
  apply Array.toList_inj.1
  simp only [Array.toList_setIfInBounds, Dg.cells]
  rw [List.set_append_right _ _ (by rw [St.len]; omega), St.len, List.set_append_right _ _ (by simp [h.1])]
  simp [h.1]
/-- The eight numbers are set. -/
theorem HasD.setSt {w : World} {b : Nat} {T : TypeId} {d : Dg} (h : HasD w b T d) (s : St) :
    HasD ((((((((w.setCell ⟨b, 0, none⟩ (.int .u32 (vl s.a))).setCell ⟨b, 1, none⟩ (.int .u32 (vl s.b))).setCell ⟨b, 2, none⟩ (.int .u32 (vl s.c))).setCell ⟨b, 3, none⟩ (.int .u32 (vl s.d))).setCell ⟨b, 4, none⟩ (.int .u32 (vl s.e))).setCell ⟨b, 5, none⟩ (.int .u32 (vl s.f))).setCell ⟨b, 6, none⟩ (.int .u32 (vl s.g))).setCell ⟨b, 7, none⟩ (.int .u32 (vl s.h))) b T { d with st := s } := by
  refine ⟨h.1, ?_⟩
  have e0 := heap_setCell_same w b 0 _ T (.int .u32 (vl s.a)) h.2
  have e1 := heap_setCell_same _ b 1 _ T (.int .u32 (vl s.b)) e0
  have e2 := heap_setCell_same _ b 2 _ T (.int .u32 (vl s.c)) e1
  have e3 := heap_setCell_same _ b 3 _ T (.int .u32 (vl s.d)) e2
  have e4 := heap_setCell_same _ b 4 _ T (.int .u32 (vl s.e)) e3
  have e5 := heap_setCell_same _ b 5 _ T (.int .u32 (vl s.f)) e4
  have e6 := heap_setCell_same _ b 6 _ T (.int .u32 (vl s.g)) e5
  have e7 := heap_setCell_same _ b 7 _ T (.int .u32 (vl s.h)) e6
  rw [e7]
  refine congrArg (fun c : Array Value => some (Obj.cells c T (0, 0))) ?_
  apply Array.toList_inj.1
  simp [Dg.cells, St.list, U]
theorem splice_cells (d : Dg) (u : Nat) (bs : List (BitVec 8)) (h : d.blk.length = 64) (hu : u + bs.length ≤ 64) : splice d.cells (8 + u) (bs.map V) = ({ d with blk := splice d.blk u bs } : Dg).cells := by
  simp only [splice, Dg.cells, List.length_map]
  rw [List.take_append, St.len, List.drop_append, St.len, List.take_of_length_le (by rw [St.len]; omega), List.drop_eq_nil_of_le (by rw [St.len]; omega)]
  rw [show 8 + u - 8 = u by omega, show 8 + u + bs.length - 8 = u + bs.length by omega]
  rw [List.take_append, List.drop_append]
  simp [h]
  rw [show u - 64 = 0 by omega, show u + bs.length - 64 = 0 by omega]
  simp
/-- Bytes are laid into the block. -/
theorem HasD.setBlk {w : World} {b : Nat} {T : TypeId} {d : Dg} (h : HasD w b T d) (u : Nat) (bs : List (BitVec 8)) (hu : u + bs.length ≤ 64) :
    HasD (w.setRow b (splice d.cells (8 + u) (bs.map V)).toArray) b T { d with blk := splice d.blk u bs } := by
  refine ⟨?_, ?_⟩
  · show (splice d.blk u bs).length = 64
    rw [length_splice _ _ _ (by rw [h.1]; exact hu)]; exact h.1
  · rw [setRow_heap w b _ _ T _ h.2, splice_cells d u bs h.1 hu]
/-- copy into a row that is known whole, exactly. -/
theorem wpList_copy_exact {P : Program} {w : World} {ops : Array Oper} {rest : List Oper} {o : Oper} {a : Act} {Q : Exit → Act → World → Prop} (hgd : o.guard = none) (d s : Operand) (dT sT : TypeId)
    (ho : o.op = .call { callee := .builtin .copy, args := #[d, s], argTypes := #[dT, sT] }) (elem : TypeId) (hu : P.underlying dT = some (.slice elem)) (hsz : (P.info? elem).map (·.size) = some 1)
    (dp sp : Option Addr) (dLen dCap sLen sCap : Nat) (hd : a.eval d = .slice dp dLen dCap) (hs : a.eval s = .slice sp sLen sCap)
    (g off : Nat) (cur : List Value) (t : TypeId) (hg : w.heap[g]? = some (.cells cur.toArray t (0, 0))) (cs : List Value) (hn : cs.length = Nat.min sLen dLen)
    (hpos : 0 < cs.length → dp = some ⟨g, off, none⟩ ∧ ∃ ad, sp = some ad ∧ ∀ j v, cs[j]? = some v → w.cell? (ad.add j) = some v)
    (hfit : off + cs.length ≤ cur.length) (h1 : ∀ v ∈ cs, v.oneCell' = true)
    (h : wpList P ops Q rest (a.put o.dst (goInt cs.length)) (w.setRow g (splice cur off cs).toArray)) :
    wpList P ops Q (o :: rest) a w := by
  by_cases h0 : cs.length = 0
  · obtain rfl : cs = [] := List.eq_nil_of_length_eq_zero h0
    refine wpList_copy_nothing hgd d s dT sT ho elem hu hsz dp sp dLen dCap sLen sCap hd hs (by simpa using hn.symm) ?_
    have e : w.setRow g (splice cur off []).toArray = w := by
      rw [show splice cur off [] = cur by simp [splice]]
      exact setRow_self w g _ t _ hg
    rw [e] at h; exact h
  · obtain ⟨rfl, ad, rfl, hsrc⟩ := hpos (by omega)
    refine wpList_copy_own hgd d s dT sT ho elem hu hsz g off dLen dCap ad sLen sCap hd hs cur.toArray t hg cs hn hsrc (by simpa using hfit) h1 ?_
    exact h
theorem run_copy_exact {P : Program} (w : World) (dT sT ty elem : TypeId) (hu : P.underlying dT = some (.slice elem)) (hsz : (P.info? elem).map (·.size) = some 1)
    (dp sp : Option Addr) (dLen dCap sLen sCap : Nat) (g off : Nat) (cur : List Value) (t : TypeId) (hg : w.heap[g]? = some (.cells cur.toArray t (0, 0))) (cs : List Value) (hn : cs.length = Nat.min sLen dLen)
    (hpos : 0 < cs.length → dp = some ⟨g, off, none⟩ ∧ ∃ ad, sp = some ad ∧ ∀ j v, cs[j]? = some v → w.cell? (ad.add j) = some v)
    (hfit : off + cs.length ≤ cur.length) (h1 : ∀ v ∈ cs, v.oneCell' = true) :
    (Builtin.copy_ #[dT, sT] ty #[.slice dp dLen dCap, .slice sp sLen sCap]).run P w = .ok (.int .i64 (cs.length : Int)) (w.setRow g (splice cur off cs).toArray) := by
  by_cases h0 : cs.length = 0
  · obtain rfl : cs = [] := List.eq_nil_of_length_eq_zero h0
    have e : w.setRow g (splice cur off []).toArray = w := by
      rw [show splice cur off [] = cur by simp [splice]]
      exact setRow_self w g _ t _ hg
    rw [e]
    exact run_copy_none (P := P) w dT sT ty elem dp sp dLen dCap sLen sCap hu hsz (by simpa using hn.symm)
  · obtain ⟨rfl, ad, rfl, hsrc⟩ := hpos (by omega)
    have := run_copy_row (P := P) w dT sT ty elem g off dLen dCap ad sLen sCap cur.toArray t cs hu hsz hg hn hsrc (by simpa using hfit) h1
    rw [this]
    simp [splice, goInt]
theorem V_one (bs : List (BitVec 8)) : ∀ v ∈ bs.map V, v.oneCell' = true := by
  intro v hv
  obtain ⟨x, _, rfl⟩ := List.mem_map.1 hv
  rfl
theorem HasB.src {w : World} {b o : Nat} {bs : List (BitVec 8)} (h : HasB w b o bs) (n : Nat) : ∀ j v, ((bs.take n).map V)[j]? = some v → w.cell? ((⟨b, o, none⟩ : Addr).add j) = some v := by
  intro j v hj
  have hadd : (⟨b, o, none⟩ : Addr).add j = ⟨b, o + j, none⟩ := by unfold Addr.add; split <;> simp_all
  rw [hadd]
  simp only [List.getElem?_map, Option.map_eq_some_iff] at hj
  obtain ⟨x, hx, rfl⟩ := hj
  have hx2 := (List.getElem?_eq_some_iff.1 hx)
  obtain ⟨hl, e⟩ := hx2
  have hjl : j < bs.length := by simp at hl; omega
  rw [h j hjl]
  simp at e
  simp [V, hjl, e]
theorem HasB.drop {w : World} {b o : Nat} {bs : List (BitVec 8)} (h : HasB w b o bs) (n : Nat) : HasB w b (o + n) (bs.drop n) := by
  intro i hi
  rw [List.length_drop] at hi
  have := h (n + i) (by omega)
  rw [Nat.add_assoc, this]
  simp
theorem HasB.take {w : World} {b o : Nat} {bs : List (BitVec 8)} (h : HasB w b o bs) (n : Nat) : HasB w b o (bs.take n) := by
  intro i hi
  rw [List.length_take] at hi
  rw [h i (by omega)]
  simp [show i < n by omega]

/-- k blocks of 64 bytes are mixed in. -/
def mixs (s : St) (b : List (BitVec 8)) : Nat → St
  | 0 => s
  | k + 1 => mix (mixs s b k) ((b.drop (64 * k)).take 64)
def Dg.rest (s : St) (blk : List (BitVec 8)) (len : Nat) (b : List (BitVec 8)) : Dg := ⟨mixs s b (b.length / 64), splice blk 0 (b.drop (64 * (b.length / 64))), len⟩
/-- What writing makes of a digest. -/
def Dg.write (d : Dg) (b : List (BitVec 8)) : Dg :=
  if d.len % 64 = 0 then Dg.rest d.st d.blk (d.len + b.length) b
  else if b.length < 64 - d.len % 64 then ⟨d.st, splice d.blk (d.len % 64) b, d.len + b.length⟩
  else Dg.rest (mix d.st (splice d.blk (d.len % 64) (b.take (64 - d.len % 64)))) (splice d.blk (d.len % 64) (b.take (64 - d.len % 64))) (d.len + b.length) (b.drop (64 - d.len % 64))
/-- Block b of the world is an array of bytes. -/
def HasV (w : World) (b : Nat) (T : TypeId) (xs : List (BitVec 8)) : Prop := w.heap[b]? = some (.cells (xs.map V).toArray T (0, 0))
theorem HasV.cell {w : World} {b : Nat} {T : TypeId} {xs : List (BitVec 8)} (h : HasV w b T xs) (i : Nat) (hi : i < xs.length) : w.cell? ⟨b, i, none⟩ = some (.int .u8 (bv (xs.getD i 0))) := by
  unfold HasV at h
  simp [World.cell?, h, hi, V]
theorem HasV.bytes {w : World} {b : Nat} {T : TypeId} {xs : List (BitVec 8)} (h : HasV w b T xs) : HasB w b 0 xs := fun i hi => by rw [Nat.zero_add]; exact h.cell i hi
theorem HasV.frozen {w : World} {b : Nat} {T : TypeId} {xs : List (BitVec 8)} (h : HasV w b T xs) (i : Nat) : w.frozen? ⟨b, i, none⟩ = false := by
  unfold HasV at h
  simp [World.frozen?, h]
theorem HasV.set {w : World} {b : Nat} {T : TypeId} {xs : List (BitVec 8)} (h : HasV w b T xs) (i : Nat) (x : BitVec 8) : HasV (w.setCell ⟨b, i, none⟩ (.int .u8 (bv x))) b T (xs.set i x) := by
  unfold HasV at *
  simp [World.setCell, Array.getElem?_modify, h, V, List.map_set]
theorem HasV.below {w w' : World} {B b : Nat} {T : TypeId} {xs : List (BitVec 8)} (h : HasV w b T xs) (hb : Below B w w') (hB : b < B) : HasV w' b T xs := by
  unfold HasV at *
  rw [hb.block b hB]; exact h
theorem HasV.drew {w : World} {b : Nat} {T : TypeId} {xs : List (BitVec 8)} (h : HasV w b T xs) : HasV w.drew b T xs := h
theorem HasV.other {w : World} {b : Nat} {T : TypeId} {xs : List (BitVec 8)} (h : HasV w b T xs) (a : Addr) (v : Value) (hne : b ≠ a.block) : HasV (w.setCell a v) b T xs := by
  unfold HasV at *
  rw [heap_setCell_other _ _ _ _ hne]; exact h
theorem HasV.lt {w : World} {b : Nat} {T : TypeId} {xs : List (BitVec 8)} (h : HasV w b T xs) : b < w.heap.size := (Array.getElem?_eq_some_iff.1 h).1
theorem V_all (xs : List (BitVec 8)) : ((xs.map V).toArray).all (·.oneCell') = true := by
  simp [V, Value.oneCell']
theorem bv_lit (n : Nat) : bv (BitVec.ofNat 8 n) = ((n % 256 : Nat) : Int) := by unfold bv; rw [BitVec.toNat_ofNat]
/-- Byte j (of four, the highest first) of a word. -/
def byt (x : BitVec 32) (j : Nat) : BitVec 8 := BitVec.ofNat 8 (x.toNat / 2 ^ (24 - 8 * j))
theorem byt0 (x : BitVec 32) : (vl x / (16777216 : Int)) % (256 : Int) = bv (byt x 0) := by unfold vl byt; rw [bv_lit]; omega
theorem byt1 (x : BitVec 32) : (vl x / (65536 : Int)) % (256 : Int) = bv (byt x 1) := by unfold vl byt; rw [bv_lit]; omega
theorem byt2 (x : BitVec 32) : (vl x / (256 : Int)) % (256 : Int) = bv (byt x 2) := by unfold vl byt; rw [bv_lit]; omega
theorem byt3 (x : BitVec 32) : vl x % (256 : Int) = bv (byt x 3) := by unfold vl byt; rw [bv_lit]; omega
/-- The sum's bytes: of the first k numbers. -/
def hsh (s : St) : Nat → List (BitVec 8)
  | 0 => List.replicate 32 0
  | k + 1 => ((((hsh s k).set (4 * k) (byt (s.list.getD k 0) 0)).set (4 * k + 1) (byt (s.list.getD k 0) 1)).set (4 * k + 2) (byt (s.list.getD k 0) 2)).set (4 * k + 3) (byt (s.list.getD k 0) 3)
theorem hsh_len (s : St) (k : Nat) : (hsh s k).length = 32 := by
  induction k with
  | zero => simp [hsh]
  | succ k ih => simp [hsh, ih]
/-- Byte i of the count of bits. -/
def cb (n i : Nat) : BitVec 8 := BitVec.ofNat 8 (n * 8 / 2 ^ (8 * (7 - i)))
def padEnd (n : Nat) : Nat := 1 + (119 - n % 64) % 64
def padArr (n : Nat) : Nat → List (BitVec 8)
  | 0 => (List.replicate 72 0).set 0 128
  | i + 1 => (padArr n i).set (padEnd n + i) (cb n i)
theorem padArr_len (n k : Nat) : (padArr n k).length = 72 := by
  induction k with
  | zero => simp [padArr]
  | succ k ih => simp [padArr, ih]
/-- What is put behind n bytes. -/
def padOf (n : Nat) : List (BitVec 8) := (padArr n 8).take (padEnd n + 8)
/-- The sum of a digest. -/
def Dg.sum (d : Dg) : List (BitVec 8) := hsh (d.write (padOf d.len)).st 8
/-- A type whose values lie in several cells. -/
def aggB : TypeDesc → Bool
  | .struct _ => true
  | .array _ _ => true
  | _ => false
theorem wpList_load_agg {P : Program} {ops : Array Oper} {rest : List Oper} {o : Oper} {a : Act} {w : World} {Q : Exit → Act → World → Prop} (hgd : o.guard = none) (ty : TypeId) (x : Operand) (ho : o.op = .load ty x)
    (g : Nat) (hx : a.eval x = .pointer (some ⟨g, 0, none⟩)) (t : TypeId) (cs : Array Value) (fr : Nat × Nat) (hg : w.heap[g]? = some (.cells cs t fr))
    (hu : (P.underlying ty).map aggB = some true) (hi : (P.info? ty).map (·.size) = some cs.size)
    (h : wpList P ops Q rest (a.put o.dst (.agg cs)) w) : wpList P ops Q (o :: rest) a w := by
  cases hq : P.underlying ty with
  | none => rw [hq] at hu; simp at hu
  | some d =>
    rw [hq] at hu
    refine wpList_load_row hgd ty x ho g hx t cs fr d hg hq ?_ hi h
    cases d <;> simp_all [aggB]
theorem HasV.alloc {w : World} {b : Nat} {T : TypeId} {xs : List (BitVec 8)} (h : HasV w b T xs) (o : Obj) : HasV (w.alloc o) b T xs := by
  have hl := h.lt
  unfold HasV at *
  rw [Below.heap_alloc w o b hl]; exact h
end Go.Proofs.YtfhhlkbcoofemaaDoor
