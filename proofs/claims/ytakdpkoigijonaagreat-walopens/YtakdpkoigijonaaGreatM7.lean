/- Contracts: Cached; layings of the shelf. Contracts: Copy. Contracts: Differ. The wal, plainly: what its commands leave of a disk, and what a crash may make of it. The wal, plainly: a commit, and what a crash in it leaves. The reference's Home and Room; the law's full. Lists of structs that came in (any kind); changes; calls of layer 12. The law's small. -/
import Derived.Test.YtakdpkoigijonaaGreatM6
import Derived.Shelf.SlGeneric
import Derived.Shelf.SlMaps.Clone
import Derived.Shelf.SlIterI.Nil
import Derived.Shelf.SortM.Plain
import Derived.Shelf.SortM.SortNone
import Derived.Shelf.SlicesG.CompactI
import Derived.Ground.SlgnProg
import Derived.Ground.GgzProg
import Derived.Ground.SlgmProg
import Derived.Ground.SlmcProg
import Derived.Test.YtakdpkoigijonaaGreatM3
import Derived.Test.YtakdpkoigijonaaGreatM2
namespace Go.Proofs.YtakdpkoigijonaaGreat
set_option maxRecDepth 100000
open Go.RowKit
open Go.Shelf Go.Maps Go.Sort
def Tryz.keysA_ren : Go.Shelf.Ren := ⟨fun | 7 => 35 | 10 => 51 | n => n, fun | 23 => 46 | 26 => 3 | 3 => 22 | 28 => 69 | 0 => 0 | 27 => 68 | 33 => 64 | 4 => 4 | n => n, fun | n => n⟩
theorem Tryz.keysA : Go.Proofs.SlLaysZI.n7 Tryz.prog Tryz.keysA_ren := {
  mixed := by kernel_rfl
  f7 := ⟨Tryz.f35.name, by decide, Tryz.func35.trans (congrArg some (by kernel_rfl))⟩
  f10 := ⟨Tryz.f51.name, by decide, Tryz.func51.trans (congrArg some (by kernel_rfl))⟩
  t0 := Tryz.underlying0
  a0 := Tryz.isAgg0
  z0 := Tryz.sizeOf0
  v0 := Tryz.zeroValue0
  t4 := Tryz.underlying4
  a4 := Tryz.isAgg4
  z4 := Tryz.sizeOf4
  v4 := Tryz.zeroValue4
  t23 := Tryz.underlying46
  a23 := Tryz.isAgg46
  z23 := Tryz.sizeOf46
  v23 := Tryz.zeroValue46
  t26 := Tryz.underlying3
  a26 := Tryz.isAgg3
  z26 := Tryz.sizeOf3
  v26 := Tryz.zeroValue3
  t27 := Tryz.underlying68
  a27 := Tryz.isAgg68
  z27 := Tryz.sizeOf68
  v27 := Tryz.zeroValue68
  t28 := Tryz.underlying69
  a28 := Tryz.isAgg69
  z28 := Tryz.sizeOf69
  v28 := Tryz.zeroValue69
  t33 := Tryz.underlying64
  a33 := Tryz.isAgg64
  z33 := Tryz.sizeOf64
  v33 := Tryz.zeroValue64 }
def Tryz.sortedA_ren : Go.Shelf.Ren := ⟨fun | 6 => 34 | 8 => 49 | 9 => 50 | 11 => 64 | 13 => 66 | 12 => 65 | 23 => 89 | 24 => 90 | 14 => 80 | 15 => 81 | 16 => 82 | 17 => 83 | 18 => 84 | 19 => 85 | 20 => 86 | 21 => 87 | 22 => 88 | 25 => 96 | 26 => 97 | 27 => 98 | 28 => 99 | 29 => 100 | 30 => 101 | 31 => 104 | n => n, fun | 26 => 3 | 28 => 69 | 24 => 31 | 0 => 0 | 3 => 3 | 37 => 71 | 48 => 85 | 50 => 88 | 4 => 4 | 40 => 109 | 39 => 108 | 45 => 57 | 5 => 5 | 9 => 9 | 51 => 124 | 55 => 128 | 57 => 133 | 58 => 134 | 33 => 64 | n => n, fun | n => n⟩
theorem Tryz.sortedA : Go.Proofs.SlLaysZI.n6 Tryz.prog Tryz.sortedA_ren := {
  mixed := by kernel_rfl
  f6 := ⟨Tryz.f34.name, by decide, Tryz.func34.trans (congrArg some (by kernel_rfl))⟩
  f8 := ⟨Tryz.f49.name, by decide, Tryz.func49.trans (congrArg some (by kernel_rfl))⟩
  f11 := ⟨Tryz.f64.name, by decide, Tryz.func64.trans (congrArg some (by kernel_rfl))⟩
  t0 := Tryz.underlying0
  a0 := Tryz.isAgg0
  z0 := Tryz.sizeOf0
  v0 := Tryz.zeroValue0
  t24 := Tryz.underlying31
  a24 := Tryz.isAgg31
  z24 := Tryz.sizeOf31
  v24 := Tryz.zeroValue31
  t26 := Tryz.underlying3
  a26 := Tryz.isAgg3
  z26 := Tryz.sizeOf3
  v26 := Tryz.zeroValue3
  t28 := Tryz.underlying69
  a28 := Tryz.isAgg69
  z28 := Tryz.sizeOf69
  v28 := Tryz.zeroValue69
  i26 := by kernel_rfl }
def Tryz.sortA_ren : Go.Shelf.Ren := ⟨fun | 5 => 50 | 8 => 66 | 7 => 65 | 19 => 89 | 20 => 90 | 10 => 80 | 11 => 81 | 12 => 82 | 13 => 83 | 14 => 84 | 15 => 85 | 16 => 86 | 17 => 87 | 18 => 88 | 30 => 96 | 31 => 97 | 32 => 98 | 33 => 99 | 34 => 100 | 35 => 101 | 40 => 104 | n => n, fun | 23 => 31 | 25 => 3 | 3 => 3 | 32 => 71 | 22 => 31 | 0 => 0 | 44 => 85 | 46 => 88 | 4 => 4 | 36 => 109 | 35 => 108 | 41 => 57 | 5 => 5 | 9 => 9 | 53 => 124 | 57 => 128 | 63 => 133 | 64 => 134 | n => n, fun | n => n⟩
theorem Tryz.sortA : Go.Proofs.SlLaysM.n5 Tryz.prog Tryz.sortA_ren := {
  mixed := by kernel_rfl
  f5 := ⟨Tryz.f50.name, by decide, Tryz.func50.trans (congrArg some (by kernel_rfl))⟩
  f7 := ⟨Tryz.f65.name, by decide, Tryz.func65.trans (congrArg some (by kernel_rfl))⟩
  f8 := Tryz.func66.trans (congrArg some (by kernel_rfl))
  f10 := ⟨Tryz.f80.name, by decide, Tryz.func80.trans (congrArg some (by kernel_rfl))⟩
  f11 := ⟨Tryz.f81.name, by decide, Tryz.func81.trans (congrArg some (by kernel_rfl))⟩
  f12 := ⟨Tryz.f82.name, by decide, Tryz.func82.trans (congrArg some (by kernel_rfl))⟩
  f13 := ⟨Tryz.f83.name, by decide, Tryz.func83.trans (congrArg some (by kernel_rfl))⟩
  f14 := ⟨Tryz.f84.name, by decide, Tryz.func84.trans (congrArg some (by kernel_rfl))⟩
  f15 := ⟨Tryz.f85.name, by decide, Tryz.func85.trans (congrArg some (by kernel_rfl))⟩
  f16 := ⟨Tryz.f86.name, by decide, Tryz.func86.trans (congrArg some (by kernel_rfl))⟩
  f17 := ⟨Tryz.f87.name, by decide, Tryz.func87.trans (congrArg some (by kernel_rfl))⟩
  f18 := ⟨Tryz.f88.name, by decide, Tryz.func88.trans (congrArg some (by kernel_rfl))⟩
  f19 := Tryz.func89.trans (congrArg some (by kernel_rfl))
  f20 := Tryz.func90.trans (congrArg some (by kernel_rfl))
  f30 := ⟨Tryz.f96.name, by decide, Tryz.func96.trans (congrArg some (by kernel_rfl))⟩
  f31 := Tryz.func97.trans (congrArg some (by kernel_rfl))
  f32 := Tryz.func98.trans (congrArg some (by kernel_rfl))
  f33 := ⟨Tryz.f99.name, by decide, Tryz.func99.trans (congrArg some (by kernel_rfl))⟩
  f34 := ⟨Tryz.f100.name, by decide, Tryz.func100.trans (congrArg some (by kernel_rfl))⟩
  f35 := ⟨Tryz.f101.name, by decide, Tryz.func101.trans (congrArg some (by kernel_rfl))⟩
  f40 := ⟨Tryz.f104.name, by decide, Tryz.func104.trans (congrArg some (by kernel_rfl))⟩
  t0 := Tryz.underlying0
  a0 := Tryz.isAgg0
  z0 := Tryz.sizeOf0
  v0 := Tryz.zeroValue0
  t3 := Tryz.underlying3
  a3 := Tryz.isAgg3
  z3 := Tryz.sizeOf3
  v3 := Tryz.zeroValue3
  t4 := Tryz.underlying4
  a4 := Tryz.isAgg4
  z4 := Tryz.sizeOf4
  v4 := Tryz.zeroValue4
  t5 := Tryz.underlying5
  a5 := Tryz.isAgg5
  z5 := Tryz.sizeOf5
  v5 := Tryz.zeroValue5
  t9 := Tryz.underlying9
  a9 := Tryz.isAgg9
  z9 := Tryz.sizeOf9
  v9 := Tryz.zeroValue9
  t22 := Tryz.underlying31
  a22 := Tryz.isAgg31
  z22 := Tryz.sizeOf31
  v22 := Tryz.zeroValue31
  t23 := Tryz.underlying31
  a23 := Tryz.isAgg31
  z23 := Tryz.sizeOf31
  v23 := Tryz.zeroValue31
  t25 := Tryz.underlying3
  a25 := Tryz.isAgg3
  z25 := Tryz.sizeOf3
  v25 := Tryz.zeroValue3
  t32 := Tryz.underlying71
  a32 := Tryz.isAgg71
  z32 := Tryz.sizeOf71
  v32 := Tryz.zeroValue71
  t35 := Tryz.underlying108
  a35 := Tryz.isAgg108
  z35 := Tryz.sizeOf108
  v35 := Tryz.zeroValue108
  t36 := Tryz.underlying109
  a36 := Tryz.isAgg109
  z36 := Tryz.sizeOf109
  v36 := Tryz.zeroValue109
  t41 := Tryz.underlying57
  a41 := Tryz.isAgg57
  z41 := Tryz.sizeOf57
  v41 := Tryz.zeroValue57
  t44 := Tryz.underlying85
  a44 := Tryz.isAgg85
  z44 := Tryz.sizeOf85
  v44 := Tryz.zeroValue85
  t46 := Tryz.underlying88
  a46 := Tryz.isAgg88
  z46 := Tryz.sizeOf88
  v46 := Tryz.zeroValue88
  t53 := Tryz.underlying124
  a53 := Tryz.isAgg124
  z53 := Tryz.sizeOf124
  v53 := Tryz.zeroValue124
  t57 := Tryz.underlying128
  a57 := Tryz.isAgg128
  z57 := Tryz.sizeOf128
  v57 := Tryz.zeroValue128
  t63 := Tryz.underlying133
  a63 := Tryz.isAgg133
  z63 := Tryz.sizeOf133
  v63 := Tryz.zeroValue133
  t64 := Tryz.underlying134
  a64 := Tryz.isAgg134
  z64 := Tryz.sizeOf134
  v64 := Tryz.zeroValue134 }
def Tryz.compactA_ren : Go.Shelf.Ren := ⟨fun | 43 => 69 | n => n, fun | 22 => 31 | 23 => 3 | 3 => 3 | 4 => 4 | 0 => 0 | n => n, fun | n => n⟩
theorem Tryz.compactA : Go.Proofs.SlLaysN.n43 Tryz.prog Tryz.compactA_ren := {
  mixed := by kernel_rfl
  f43 := ⟨Tryz.f69.name, by decide, Tryz.func69.trans (congrArg some (by kernel_rfl))⟩
  t0 := Tryz.underlying0
  a0 := Tryz.isAgg0
  z0 := Tryz.sizeOf0
  v0 := Tryz.zeroValue0
  t3 := Tryz.underlying3
  a3 := Tryz.isAgg3
  z3 := Tryz.sizeOf3
  v3 := Tryz.zeroValue3
  t4 := Tryz.underlying4
  a4 := Tryz.isAgg4
  z4 := Tryz.sizeOf4
  v4 := Tryz.zeroValue4
  t22 := Tryz.underlying31
  a22 := Tryz.isAgg31
  z22 := Tryz.sizeOf31
  v22 := Tryz.zeroValue31
  t23 := Tryz.underlying3
  a23 := Tryz.isAgg3
  z23 := Tryz.sizeOf3
  v23 := Tryz.zeroValue3
  i23 := by kernel_rfl }
/-- A map of its own. -/
def Fk.im (B : Nat) (l : List (Int × Value)) : Fk := .inr (.inl ⟨fun v w => ∃ b, v = .map (some b) ∧ B ≤ b ∧ Im w b l, by
  rintro v w w' ⟨b, e, h1, h2⟩ hb
  exact ⟨b, e, h1, h2.below hb⟩⟩)
/-- A map's keys, read as a datum. -/
theorem im_owns {w : World} {b : Nat} {l : List (Int × Value)} (him : Im w b l) (hl : l.length ≤ 100000) : ∃ (D0 : DataW Unit) (nn : Nat), w.ownsMap Tryz.prog 3 (fun _ => some (.nil, [])) b nn D0 ∧ (intKeys D0).Perm (l.map (·.1)) ∧ Maps.size D0 = l.length := by
  obtain ⟨ho, es, clock, hb, h1, h2, h3⟩ := him
  have hsz : es.size = l.length := by have := congrArg List.length h1; simpa using this
  have hk : es.toList.map (·.key) = l.map fun p => Value.int .i64 p.1 := by
    have := congrArg (List.map Prod.fst) h1
    rw [List.map_map, List.map_map] at this
    exact this
  have hkey : ∀ x ∈ es.toList, ∃ k : Int, x.key = .int .i64 k ∧ keyOf Tryz.prog 3 x.key = some (.int .i64 k) := fun x hx => by
    have : x.key ∈ es.toList.map (·.key) := List.mem_map_of_mem hx
    rw [hk] at this
    obtain ⟨p, hp, e⟩ := List.mem_map.1 this
    exact ⟨p.1, e.symm, by rw [← e]; exact key3 Tryz.under3 (ho.fits p hp)⟩
  have hrd : ∀ x ∈ es.toList, ∃ k : Int, x.key = .int .i64 k ∧ WideElems.rd Tryz.prog 3 (fun _ => some ((.nil : DataW Unit), [])) x = some (.int .i64 k, .nil) := fun x hx => by
    obtain ⟨k, e1, e2⟩ := hkey x hx
    exact ⟨k, e1, by unfold WideElems.rd; rw [e2]; rfl⟩
  refine ⟨.map ((es.toList.map (WideElems.rg Tryz.prog 3 (fun _ => some ((.nil : DataW Unit), [])))).foldr DataW.insert []), es.size, ⟨es, clock, hb, ⟨by rw [hsz]; unfold maxLen; omega, ⟨h3, h2, ?_⟩, fun x hx => ?_⟩, Nat.le_refl _, rfl⟩, ?_, ?_⟩
  · rw [hk]
    exact List.pairwise_map.2 ((List.pairwise_map.1 ho.keys).imp fun h e => h (by injection e))
  · obtain ⟨k, _, e⟩ := hrd x hx
    exact ⟨_, e⟩
  · show (((es.toList.map (WideElems.rg Tryz.prog 3 (fun _ => some ((.nil : DataW Unit), [])))).foldr DataW.insert []).map fun p => _root_.Go.intOf p.1).Perm _
    refine ((WideShapes.sorted_perm _).map _).trans ?_
    rw [List.map_map]
    have : es.toList.map ((fun p => _root_.Go.intOf p.1) ∘ WideElems.rg Tryz.prog 3 (fun _ => some ((.nil : DataW Unit), []))) = l.map (·.1) := by
      have e3 : es.toList.map ((fun p => _root_.Go.intOf p.1) ∘ WideElems.rg Tryz.prog 3 (fun _ => some ((.nil : DataW Unit), []))) = (es.toList.map (·.key)).map fun v => match v with | .int _ a => a | _ => 0 := by
        rw [List.map_map]
        refine List.map_congr_left fun x hx => ?_
        obtain ⟨k, e1, e2⟩ := hrd x hx
        show _root_.Go.intOf (WideElems.rg Tryz.prog 3 (fun _ => some ((.nil : DataW Unit), [])) x).1 = _
        unfold WideElems.rg
        rw [e2]
        show k = match x.key with | .int _ a => a | _ => 0
        rw [e1]
      rw [e3, hk, List.map_map]
      rfl
    rw [this]
  · show ((es.toList.map (WideElems.rg Tryz.prog 3 (fun _ => some ((.nil : DataW Unit), [])))).foldr DataW.insert []).length = _
    rw [(WideShapes.sorted_perm _).length_eq, List.length_map, Array.length_toList, hsz]
theorem Tryz.sortsA (m : Nat) : AnyZI.SortsIn Tryz.prog Tryz.sortedA_ren Fence.wide m :=
  ⟨fun blk off cap ss W hH hblk hsz => callsIn_wide.2 (AnyM.slices_Sort_int Tryz.sortA blk off cap ss W hH hblk hsz),
   fun p cap W => callsIn_wide.2 (AnyM.slices_Sort_int_none Tryz.sortA p cap W)⟩
theorem fk_keys (b : Nat) (W : World) : Calls Tryz.prog 35 #[.map (some b)] W fun e w' => e = .returned (.func (.func 51) #[] #[.pointer (some ⟨W.heap.size, 0, none⟩)]) ∧ w' = W.alloc (.cells #[.map (some b)] 46) := by
  refine (callsIn_wide (n := 5)).1 ?_
  exact AnyZI.keys_in Tryz.keysA Fence.wide 5 trivial rfl (some b) W
set_option maxHeartbeats 1000000 in
theorem fk_sorted {w : World} {b : Nat} {l : List (Int × Value)} {L : List Int} (him : Im w b l) (hl : l.length ≤ 100000) (hL : (l.map (·.1)).Perm L) (hLs : L.Pairwise (fun a b => a ≤ b)) :
    Calls Tryz.prog 34 #[.func (.func 51) #[] #[.pointer (some ⟨w.heap.size, 0, none⟩)]] (w.alloc (.cells #[.map (some b)] 46)) fun e w' => ∃ v, e = .returned v ∧ (Fk.is L).f v w' ∧ Below w.heap.size w w' := by
  obtain ⟨D0, nn, hown, hperm, hsize⟩ := im_owns him hl
  have hbl := hown.lt
  have hseq : SeqGives Fence.wide 2 Tryz.prog 51 #[.pointer (some ⟨w.heap.size, 0, none⟩)] encZ (fun ss => ss.Perm (intKeys D0)) (Maps.size D0) (w.alloc (.cells #[.map (some b)] 46)) :=
    AnyZI.keys_gives (ρ := Tryz.keysA_ren) { Tryz.keysA with } Fence.wide _ trivial rfl (by omega) w.heap.size b nn D0 _ (by simp) (by simp) (by
      obtain ⟨es, clock, hb, Ft, hs, hD⟩ := hown
      exact ⟨es, clock, (Below.heap_alloc _ _ b hbl).trans hb, Ft, hs, hD⟩)
  have cS := AnyZI.sorted_in Tryz.sortedA Fence.wide 5 trivial trivial trivial trivial rfl (by omega) (Tryz.sortsA _) (enters_of Tryz.func50 (by kernel_rfl) rfl) 51 #[.pointer (some ⟨w.heap.size, 0, none⟩)] trivial (enters_of Tryz.func51 (by kernel_rfl) rfl) _ _ (by rw [hsize]; unfold maxLen; omega) (by rw [hsize]; omega) _ hseq
  change CallsIn _ _ Tryz.prog 34 _ _ _ at cS
  refine ((callsIn_wide (n := 5)).1 cS).mono ?_
  rintro e w' ⟨v, ss, rfl, hS, hrow, _, hb⟩
  have he : ss.mergeSort (fun x y => decide (x ≤ y)) = L := by
    have h1 := mergeSort_of_perm_i ((hS.trans hperm).trans hL)
    have h2 : L.mergeSort leI = L := List.mergeSort_of_pairwise (hLs.imp fun h => by simpa [leI] using h)
    exact h1.trans h2
  rw [he] at hrow
  have hlen : ss.length = L.length := ((hS.trans hperm).trans hL).length_eq
  rw [hlen] at hrow
  exact ⟨v, rfl, oi_is (base := (w.alloc (.cells #[.map (some b)] 46)).heap.size) hrow, ((Below.refl _ w).alloc (Nat.le_refl _) _).trans (hb.mono (by simp))⟩
theorem clp_sorted (c : List (List (BitVec 8))) (k : Nat) : (clp c k).Pairwise (fun a b => a < b) := by
  unfold clp
  refine List.Pairwise.filterMap _ (fun i j hij a ha b hb => ?_) List.pairwise_lt_range
  split at ha
  · cases ha
  · split at hb
    · cases hb
    · cases ha
      cases hb
      exact Int.ofNat_lt.2 hij
theorem Dk.keys {w : World} {g sb cb C : Nat} {pl : Int} {vs : Array Value} {l : List (Int × Value)} {M D : Nat → Prop} {s : Dst} (r : Dk w g sb cb C pl vs l M D s) : (l.map (·.1)).Perm (clp s.cch s.has.length) := by
  refine (List.perm_ext_iff_of_nodup r.im.ok.keys ((clp_sorted _ _).imp fun h e => by omega)).2 fun z => ?_
  constructor
  · intro h
    obtain ⟨p, hp, rfl⟩ := List.mem_map.1 h
    obtain ⟨i, bs, e, hi, h3, h4, _⟩ := r.key p.1 p.2 (mget_of_mem r.im.ok.keys hp)
    unfold clp
    refine List.mem_filterMap.2 ⟨i, List.mem_range.2 hi, ?_⟩
    rw [List.getD_eq_getElem?_getD, h3, e]
    rw [if_neg]
    intro e2
    replace e2 : bs = [] := e2
    rw [e2] at h4
    have := r.pos
    simp at h4
    omega
  · intro h
    unfold clp at h
    obtain ⟨i, hi, e⟩ := List.mem_filterMap.1 h
    have hi2 := List.mem_range.1 hi
    split at e
    · cases e
    · rename_i hne
      cases e
      obtain ⟨yc, hyc⟩ : ∃ y, s.cch[i]? = some y := ⟨_, List.getElem?_eq_getElem (by rw [r.cl]; exact hi2)⟩
      rw [List.getD_eq_getElem?_getD, hyc] at hne
      obtain ⟨v, hv⟩ := r.cch i yc hyc hne
      exact List.mem_map.2 ⟨_, mget_mem hv, rfl⟩
theorem fk_dcached {w : World} {gd : Nat} {M D : Nat → Prop} {s : Dst} (hd : HD w gd M D s) :
    Calls Tryz.prog 14 #[.pointer (some ⟨gd, 0, none⟩)] w fun e w' => ∃ v, e = .returned v ∧ (Fk.is (clp s.cch s.has.length)).f v w' ∧ Below w.heap.size w w' := by
  obtain ⟨sb, cb, C, pl, vs, l, r⟩ := hd
  have m0 := r.ob
  have hnm := r.nmax
  go_enter Tryz.func14, Tryz.ntmps14
  refine code_both (fun f w1 => f.tmps.size = 9 ∧ f.defers = [] ∧ f.eval (.tmp 0) = .pointer (some ⟨gd, 0, none⟩) ∧ Below w.heap.size w (w1)) ⟨rfl, rfl, rfl, Below.refl _ _⟩ ?_
  rintro f0 w0 ⟨sz, df, x0, bl⟩
  have sd := And.intro sz df
  clear sz df
  have bl0 := bl
  refine wp_seq ?_
  refine wr_a [.eq (.slice none 0 0)] (by rw [sd.1]; kernel_rfl) ⟨fun hw ac u K => ?_, trivial⟩ ?_
  · exact st_assign (.const (.slice none 0 0)) rfl rfl
  intro f1 w1 A hb
  replace x0 := A.t x0 rfl
  replace bl := bgo bl hb
  replace sd := A.sd sd
  clear A hb
  show Code.wp _ _ _ _ _
  refine wp_seq ?_
  refine wr_s [.eq (.pointer (some ⟨gd, 0, none⟩)), .eq (.pointer (some ⟨gd, 0, none⟩)), .eq (.pointer (some ⟨gd, 2, none⟩)), .eq (.map (some cb))] (by rw [sd.1]; kernel_rfl) ⟨fun hw ac u K => ?_, fun hw ac u K => ?_, fun hw ac u K => ?_, fun hw ac u K => ?_, trivial⟩ ?_
  · exact st_move (.tmp 0) rfl (K.t x0 rfl)
  · exact st_nil (.tmp 3) rfl (K.dep 0 3 rfl)
  · exact st_field 51 2 (.tmp 4) rfl (K.dep 1 4 rfl) (by kernel_rfl)
  · exact st_loadc 46 (.tmp 5) rfl (by kernel_rfl) (K.dep 2 5 rfl) (Ob.cell (Ob.below m0 (bgo bl K.grow)) 2 rfl)
  intro f2 w2 A hb
  replace x0 := A.t x0 rfl
  have x6 := A.e 3 6 rfl rfl
  replace bl := bgo bl hb
  replace sd := A.sd sd
  clear A hb
  clear x0
  refine wl_call 35 (.func 35) _ _ #[.map (some cb)] rfl 7 rfl (by rw [sd.1]; decide) rfl rfl (one_arg x6) Tryz.enter35 (fun u W' => u = .func (.func 51) #[] #[.pointer (some ⟨w2.heap.size, 0, none⟩)] ∧ W' = w2.alloc (.cells #[.map (some cb)] 46)) ((fk_keys cb w2).mono (by rintro e w' ⟨rfl, q⟩; exact ⟨_, rfl, rfl, q⟩)) ?_
  rintro f3 w3 df2 sz2 old2 ⟨x7, hw2⟩
  subst hw2
  replace x6 := tr old2 x6 rfl
  replace sd := sd2 sz2 df2 sd
  clear df2 sz2 old2
  clear x6
  refine wl_call 34 (.func 34) _ _ #[.func (.func 51) #[] #[.pointer (some ⟨w2.heap.size, 0, none⟩)]] rfl 8 rfl (by rw [sd.1]; decide) rfl rfl (one_arg x7) Tryz.enter34 (fun u W' => (Fk.is (clp s.cch s.has.length)).f u W' ∧ Below w2.heap.size w2 W') ((fk_sorted (Im.below r.im bl) (by have := r.keys.length_eq; rw [List.length_map] at this; have := clp_le s.cch s.has.length; omega) r.keys ((clp_sorted _ _).imp fun h => by omega)).mono (by rintro e w' ⟨v, rfl, q⟩; exact ⟨_, rfl, q⟩)) ?_
  rintro f4 w4 df2 sz2 old2 ⟨x8, hb⟩
  clear x7
  replace bl := bgo bl hb
  replace bl0 := bl
  replace sd := sd2 sz2 df2 sd
  clear df2 sz2 old2 hb
  refine wl_one (.is (clp s.cch s.has.length)) rfl 2 rfl (by rw [sd.1]; decide) (st_assign (.tmp 8) rfl x8) ?_
  intro f5 w5 df2 sz2 old2 new2 hb
  replace x8 := f_at (old2 8 rfl) (Fk.mono _ _ _ _ x8 hb)
  have x2 : Fk.f (.is (clp s.cch s.has.length)) (f5.eval (.tmp 2)) w5 := new2
  replace bl := bgo bl hb
  replace sd := sd2 sz2 df2 sd
  clear df2 sz2 old2 new2 hb
  refine wpList_nil ?_
  clear x8
  show Code.wp _ _ _ _ _
  refine wp_ret ?_
  repeat (first | with_reducible refine then_ret ?_ | with_reducible refine block_ret ?_)
  exact bodyPost_ret (v := f5.eval (.tmp 2)) (ret_slot rfl f5 _ rfl _ _) sd.2 ⟨_, rfl, x2, bl⟩
end Go.Proofs.YtakdpkoigijonaaGreat
namespace Go.Proofs.YtakdpkoigijonaaGreat
set_option maxRecDepth 100000
open Go.RowKit
theorem str_dec (xs ys : List (BitVec 8)) : decide (xs = ys) = decide (str xs = str ys) := by
  by_cases h : xs = ys
  · rw [h]
    simp
  · rw [decide_eq_false h, eq_comm, decide_eq_false_iff_not]
    exact fun e => h (str_inj e)
theorem fk_beq {w : World} {xa xb : List (BitVec 8)} {va vb : Value} (ha : (Fk.sl xa).f va w) (hb : (Fk.sl xb).f vb w) :
    Calls Tryz.prog 76 #[va, vb] w fun e w' => ∃ v, e = .returned v ∧ (Fk.eq (.bool (decide (xa = xb)))).f v w' ∧ Below w.heap.size w w' := by
  go_enter Tryz.func76, Tryz.ntmps76
  refine code_both (fun f w1 => f.tmps.size = 10 ∧ f.defers = [] ∧ f.eval (.tmp 0) = va ∧ f.eval (.tmp 1) = vb ∧ Below w.heap.size w (w1)) ⟨rfl, rfl, rfl, rfl, Below.refl _ _⟩ ?_
  rintro f0 w0 ⟨sz, df, x0, x1, bl⟩
  have sd := And.intro sz df
  clear sz df
  have bl0 := bl
  refine wp_seq ?_
  refine wr_a [.eq (.bool false)] (by rw [sd.1]; kernel_rfl) ⟨fun hw ac u K => ?_, trivial⟩ ?_
  · exact st_assign (.const (.bool false)) rfl rfl
  intro f1 w1 A hb
  replace x0 := A.t x0 rfl
  replace x1 := A.t x1 rfl
  replace bl := bgo bl hb
  replace sd := A.sd sd
  clear A hb
  show Code.wp _ _ _ _ _
  refine wp_seq ?_
  refine wr_a [.eq (va), .eq (.string (str (xa))), .eq (vb), .eq (.string (str (xb))), .eq (.bool (decide (xa = xb))), .eq (.bool (decide (xa = xb)))] (by rw [sd.1]; kernel_rfl) ⟨fun hw ac u K => ?_, fun hw ac u K => ?_, fun hw ac u K => ?_, fun hw ac u K => ?_, fun hw ac u K => ?_, fun hw ac u K => ?_, trivial⟩ ?_
  · exact st_move (.tmp 0) rfl (K.t x0 rfl)
  · exact st_stra (.tmp 5) rfl (fk_val (K.dep 0 5 rfl) (Fk.mono _ _ _ _ ha (bgo bl K.grow)))
  · exact st_move (.tmp 1) rfl (K.t x1 rfl)
  · exact st_stra (.tmp 7) rfl (fk_val (K.dep 2 7 rfl) (Fk.mono _ _ _ _ hb (bgo bl K.grow)))
  · exact st_eqs (.tmp 6) (.tmp 8) rfl (str (xa)) (str (xb)) (K.dep 1 6 rfl) (K.dep 3 8 rfl) _ (str_dec _ _)
  · exact st_assign (.tmp 9) rfl (K.dep 4 9 rfl)
  intro f2 w2 A hb
  replace x0 := A.t x0 rfl
  replace x1 := A.t x1 rfl
  have x4 := A.e 5 4 rfl rfl
  replace bl := bgo bl hb
  replace sd := A.sd sd
  clear A hb
  clear x0
  clear x1
  show Code.wp _ _ _ _ _
  refine wp_ret ?_
  repeat (first | with_reducible refine then_ret ?_ | with_reducible refine block_ret ?_)
  exact bodyPost_ret (v := .bool (decide (xa = xb))) (ret_slot rfl f2 _ x4 _ _) sd.2 ⟨_, rfl, rfl, bl⟩
theorem Dk.one {w : World} {g sb cb C : Nat} {pl : Int} {vs : Array Value} {l : List (Int × Value)} {M D : Nat → Prop} {s : Dst} (r : Dk w g sb cb C pl vs l M D s) : ∀ i v, i < s.has.length → vs[i]? = some v → v.oneCell' = true := fun i v hi hv => by
  obtain ⟨_, u, h2, h3⟩ := r.sec i _ (List.getElem?_eq_getElem hi)
  rw [hv] at h2
  cases h2
  exact h3.one
end Go.Proofs.YtakdpkoigijonaaGreat
namespace Go.Proofs.YtakdpkoigijonaaGreat
set_option maxRecDepth 100000
open Go.RowKit
end Go.Proofs.YtakdpkoigijonaaGreat
namespace Go.Proofs.YtakdpkoigijonaaGreat
set_option maxRecDepth 100000
open Go.RowKit
abbrev Byt := List (BitVec 8)
def stO (s : Dst) (i : Nat) : Byt := s.has.getD i []
def caO (s : Dst) (i : Nat) : Byt := s.cch.getD i []
/-- A disk of n sectors of z bytes (cached: z bytes, or nothing). -/
structure Gw (s : Dst) (n z : Nat) : Prop where
  has : s.has.length = n
  cch : s.cch.length = n
  size : s.size = z
  pos : 0 < z
  hl : ∀ i, i < n → (stO s i).length = z
  cl : ∀ i, i < n → caO s i = [] ∨ (caO s i).length = z
/-- Up (armed: a), and down. -/
def Up (s : Dst) (n z : Nat) (a : Bool) : Prop := Gw s n z ∧ s.armed = a ∧ s.down = false
def Dn (s : Dst) (n z : Nat) (a : Bool) : Prop := Gw s n z ∧ a = true ∧ s.armed = true ∧ s.down = true
/-- A command's answer: done (A), or it met the end of the power (B). -/
def Res (r : Int × Dst) (A B : Dst → Prop) : Prop := (r.1 = 0 ∧ A r.2) ∨ (r.1 = 30 ∧ B r.2)
def thn (r : Int × Dst) (f : Dst → Int × Dst) : Int × Dst := if r.1 = 0 then f r.2 else r
theorem Res.thn {r : Int × Dst} {f : Dst → Int × Dst} {A A2 B B2 : Dst → Prop} (h : Res r A B) (hB : ∀ s, B s → B2 s) (hf : ∀ s, A s → Res (f s) A2 B2) : Res (thn r f) A2 B2 := by
  unfold Go.Proofs.YtakdpkoigijonaaGreat.thn
  rcases h with ⟨h1, h2⟩ | ⟨h1, h2⟩
  · rw [if_pos h1]
    exact hf _ h2
  · rw [if_neg (by rw [h1]; decide)]
    exact .inr ⟨h1, hB _ h2⟩
theorem Res.mono {r : Int × Dst} {A A2 B B2 : Dst → Prop} (h : Res r A B) (hA : ∀ s, A s → A2 s) (hB : ∀ s, B s → B2 s) : Res r A2 B2 := h.imp (fun q => ⟨q.1, hA _ q.2⟩) (fun q => ⟨q.1, hB _ q.2⟩)
theorem getD_set {l : List Byt} {i j : Nat} {b : Byt} (hi : i < l.length) : (l.set i b).getD j [] = if j = i then b else l.getD j [] := by
  by_cases e : j = i
  · subst e
    rw [if_pos rfl, List.getD_eq_getElem?_getD, List.getElem?_set_self hi]
    rfl
  · rw [if_neg e, List.getD_eq_getElem?_getD, List.getElem?_set_ne (fun q => e q.symm), ← List.getD_eq_getElem?_getD]
theorem getD_nil {l : List Byt} (j : Nat) : (l.map fun _ => ([] : Byt)).getD j [] = [] := by
  rw [List.getD_eq_getElem?_getD, List.getElem?_map]
  cases l[j]? <;> rfl
theorem getD_pick {a b : List Byt} {n j : Nat} (ha : a.length = n) (hb : b.length = n) (hj : j < n) : (List.zipWith pickc a b).getD j [] = pickc (a.getD j []) (b.getD j []) := by
  rw [List.getD_eq_getElem?_getD, List.getElem?_zipWith, List.getD_eq_getElem?_getD, List.getD_eq_getElem?_getD, List.getElem?_eq_getElem (show j < a.length by omega), List.getElem?_eq_getElem (show j < b.length by omega)]
  rfl
/-- A write, of an up disk. -/
theorem wrt_res {s : Dst} {n z : Nat} {a : Bool} (h : Up s n z a) {i : Nat} (hi : i < n) {b : Byt} (hb : b.length = z) :
    Res (wrt s (i : Int) b) (fun t => Up t n z a ∧ (∀ j, stO t j = stO s j) ∧ ∀ j, caO t j = if j = i then b else caO s j) (fun t => Dn t n z a ∧ (∀ j, stO t j = stO s j) ∧ ∀ j, caO t j = if j = i then b else caO s j) := by
  obtain ⟨g, h1, h2⟩ := h
  have hc : ∀ j, (s.cch.set i b).getD j [] = if j = i then b else caO s j := fun j => getD_set (by rw [g.cch]; exact hi)
  have e1 : wrt s (i : Int) b = cmd { s with cch := s.cch.set i b } := by
    unfold wrt
    rw [if_neg (by rw [h2]; simp), if_neg (by rw [g.has]; omega), if_neg (by rw [g.size, hb]; simp)]
    rfl
  have g2 : ∀ (l d : _) (q : Bool), Gw { s with cch := s.cch.set i b, left := l, done := d, down := q } n z := fun l d q => ⟨g.has, by show (s.cch.set i b).length = n; rw [List.length_set, g.cch], g.size, g.pos, g.hl, fun j hj => by
    show (s.cch.set i b).getD j [] = [] ∨ ((s.cch.set i b).getD j []).length = z
    rw [hc j]
    split
    · exact .inr hb
    · exact g.cl j hj⟩
  rw [e1]
  unfold cmd
  by_cases e : s.armed = true ∧ s.left = 0
  · rw [if_pos (show (({ s with cch := s.cch.set i b } : Dst).armed = true ∧ ({ s with cch := s.cch.set i b } : Dst).left = 0) from e)]
    exact .inr ⟨rfl, ⟨g2 s.left s.done true, by rw [← h1]; exact e.1, e.1, rfl⟩, fun j => rfl, hc⟩
  · rw [if_neg (show ¬ (({ s with cch := s.cch.set i b } : Dst).armed = true ∧ ({ s with cch := s.cch.set i b } : Dst).left = 0) from e)]
    exact .inl ⟨rfl, ⟨g2 _ _ s.down, h1, h2⟩, fun j => rfl, hc⟩
/-- What is told of a sector. -/
def nowO (s : Dst) (i : Nat) : Byt := if caO s i = [] then stO s i else caO s i
theorem Gw.now {s : Dst} {n z : Nat} (g : Gw s n z) {i : Nat} (hi : i < n) : (nowO s i).length = z := by
  unfold nowO
  split
  · exact g.hl i hi
  · exact (g.cl i hi).resolve_left (by assumption)
theorem stl_gw {s : Dst} {n z : Nat} (g : Gw s n z) (l : Int) (d : Nat) (a q : Bool) : Gw { stl s with left := l, done := d, armed := a, down := q } n z ∧ (∀ j, j < n → (stl s).has.getD j [] = nowO s j) ∧ ∀ j, (stl s).cch.getD j [] = [] := by
  have h1 : ∀ j, j < n → (stl s).has.getD j [] = nowO s j := fun j hj => by
    show (List.zipWith pickc s.has s.cch).getD j [] = _
    rw [getD_pick g.has g.cch hj]
    rfl
  have h2 : ∀ j, (stl s).cch.getD j [] = [] := fun j => getD_nil j
  refine ⟨⟨?_, ?_, g.size, g.pos, fun i hi => ?_, fun i hi => .inl (h2 i)⟩, h1, h2⟩
  · show (List.zipWith pickc s.has s.cch).length = n
    rw [List.length_zipWith, g.has, g.cch, Nat.min_self]
  · show (s.cch.map fun _ => ([] : Byt)).length = n
    rw [List.length_map, g.cch]
  · show ((stl s).has.getD i []).length = z
    rw [h1 i hi]
    exact g.now hi
/-- A flush, of an up disk. -/
theorem flu_res {s : Dst} {n z : Nat} {a : Bool} (h : Up s n z a) :
    Res (flu s) (fun t => Up t n z a ∧ (∀ j, j < n → stO t j = nowO s j) ∧ ∀ j, caO t j = []) (fun t => Dn t n z a ∧ (∀ j, stO t j = stO s j) ∧ ∀ j, caO t j = caO s j) := by
  obtain ⟨g, h1, h2⟩ := h
  unfold flu
  rw [if_neg (by rw [h2]; simp)]
  unfold cmd
  by_cases e : s.armed = true ∧ s.left = 0
  · rw [if_pos e, if_neg (show ¬ (30 : Int) = 0 by decide)]
    exact .inr ⟨rfl, ⟨⟨g.has, g.cch, g.size, g.pos, g.hl, g.cl⟩, by rw [← h1]; exact e.1, e.1, rfl⟩, fun j => rfl, fun j => rfl⟩
  · rw [if_neg e, if_pos rfl]
    obtain ⟨q1, q2, q3⟩ := stl_gw g (if s.armed = true then s.left - 1 else s.left) (s.done + 1) s.armed s.down
    exact .inl ⟨rfl, ⟨q1, h1, h2⟩, q2, q3⟩
/-- Sector i may have y behind a crash. -/
def May (s : Dst) (i : Nat) (y : Byt) : Prop := y = stO s i ∨ (caO s i ≠ [] ∧ y = caO s i)
theorem May.settled {s : Dst} {i : Nat} {y : Byt} (h : May s i y) (hc : caO s i = []) : y = stO s i := h.resolve_right (fun q => q.1 hc)
theorem lose_or (l : List Int) : ∀ (c : List Byt) (i : Nat), (lose c l).getD i [] = c.getD i [] ∨ (lose c l).getD i [] = [] := by
  induction l with
  | nil => exact fun c i => .inl rfl
  | cons k l ih =>
    intro c i
    show (lose (if 0 ≤ k ∧ k < (c.length : Int) then c.set k.toNat [] else c) l).getD i [] = _ ∨ (lose (if 0 ≤ k ∧ k < (c.length : Int) then c.set k.toNat [] else c) l).getD i [] = []
    rcases ih (if 0 ≤ k ∧ k < (c.length : Int) then c.set k.toNat [] else c) i with h | h
    · rw [h]
      split
      · rename_i hk
        rw [getD_set (by omega)]
        split
        · exact .inr rfl
        · exact .inl rfl
      · exact .inl rfl
    · exact .inr h
theorem lose_length (l : List Int) : ∀ c : List Byt, (lose c l).length = c.length := by
  induction l with
  | nil => exact fun c => rfl
  | cons k l ih =>
    intro c
    show (lose (if 0 ≤ k ∧ k < (c.length : Int) then c.set k.toNat [] else c) l).length = _
    rw [ih]
    split
    · rw [List.length_set]
    · rfl
/-- A crash: up, nothing cached, each sector has what it may have. -/
theorem crs_res {s : Dst} {n z : Nat} (g : Gw s n z) (l : List Int) : Up (crs s l) n z false ∧ (∀ j, caO (crs s l) j = []) ∧ ∀ j, j < n → May s j (stO (crs s l) j) := by
  have g2 : Gw { s with cch := lose s.cch l } n z := ⟨g.has, by show (lose s.cch l).length = n; rw [lose_length, g.cch], g.size, g.pos, g.hl, fun i hi => by
    show (lose s.cch l).getD i [] = [] ∨ ((lose s.cch l).getD i []).length = z
    rcases lose_or l s.cch i with h | h
    · rw [h]
      exact g.cl i hi
    · exact .inl h⟩
  obtain ⟨q1, q2, q3⟩ := stl_gw g2 s.left s.done false false
  refine ⟨⟨q1, rfl, rfl⟩, q3, fun j hj => ?_⟩
  show May s j ((stl { s with cch := lose s.cch l }).has.getD j [])
  rw [q2 j hj]
  unfold nowO
  by_cases e : (lose s.cch l).getD j [] = []
  · rw [if_pos (show caO { s with cch := lose s.cch l } j = [] from e)]
    exact .inl rfl
  · rw [if_neg (show ¬ caO { s with cch := lose s.cch l } j = [] from e)]
    rcases lose_or l s.cch j with h | h
    · exact .inr ⟨fun q => e (h.trans q), h⟩
    · exact absurd h e
end Go.Proofs.YtakdpkoigijonaaGreat
namespace Go.Proofs.YtakdpkoigijonaaGreat
set_option maxRecDepth 100000
open Go.RowKit
/-- Writes, one behind the other (of sectors; of home sectors). -/
def mv : List (Nat × Byt) → (Nat → Byt) → Nat → Byt
  | [], g => g
  | c :: l, g => mv l (fun k => if k = c.1 then c.2 else g k)
theorem mv_out (l : List (Nat × Byt)) : ∀ (g : Nat → Byt) (k : Nat), (∀ c ∈ l, c.1 ≠ k) → mv l g k = g k := by
  induction l with
  | nil => exact fun g k _ => rfl
  | cons c l ih =>
    intro g k h
    show mv l _ k = _
    rw [ih _ k (fun d hd => h d (List.mem_cons_of_mem _ hd)), if_neg (fun e => h c List.mem_cons_self e.symm)]
theorem mv_hit (l : List (Nat × Byt)) (k : Nat) : (∃ c ∈ l, c.1 = k) → ∃ c ∈ l, c.1 = k ∧ ∀ g, mv l g k = c.2 := by
  induction l with
  | nil => exact fun ⟨c, hc, _⟩ => by cases hc
  | cons c l ih =>
    intro h
    by_cases hl : ∃ d ∈ l, d.1 = k
    · obtain ⟨d, hd, he, hg⟩ := ih hl
      exact ⟨d, List.mem_cons_of_mem _ hd, he, fun g => hg _⟩
    · have hl2 : ∀ d ∈ l, d.1 ≠ k := fun d hd e => hl ⟨d, hd, e⟩
      obtain ⟨d, hd, he⟩ := h
      rcases List.mem_cons.1 hd with rfl | hd
      · exact ⟨d, List.mem_cons_self, he, fun g => by show mv l _ k = _; rw [mv_out l _ k hl2, if_pos he.symm]⟩
      · exact absurd he (hl2 d hd)
theorem mv_at (l : List (Nat × Byt)) {g g' : Nat → Byt} {k : Nat} (h : g k = g' k ∨ ∃ c ∈ l, c.1 = k) : mv l g k = mv l g' k := by
  by_cases e : ∃ c ∈ l, c.1 = k
  · obtain ⟨c, _, _, hg⟩ := mv_hit l k e
    rw [hg, hg]
  · have e2 : ∀ d ∈ l, d.1 ≠ k := fun d hd q => e ⟨d, hd, q⟩
    rw [mv_out l _ k e2, mv_out l _ k e2]
    exact h.resolve_right e
theorem mv_mv (l : List (Nat × Byt)) (g : Nat → Byt) (k : Nat) : mv l (mv l g) k = mv l g k := by
  by_cases e : ∃ c ∈ l, c.1 = k
  · exact mv_at l (.inr e)
  · rw [mv_out l _ k (fun d hd q => e ⟨d, hd, q⟩)]
theorem mv_or (l : List (Nat × Byt)) (g : Nat → Byt) (k : Nat) : mv l g k = g k ∨ ∃ c ∈ l, c.1 = k ∧ mv l g k = c.2 := by
  by_cases e : ∃ c ∈ l, c.1 = k
  · obtain ⟨c, h1, h2, h3⟩ := mv_hit l k e
    exact .inr ⟨c, h1, h2, h3 g⟩
  · exact .inl (mv_out l _ k (fun d hd q => e ⟨d, hd, q⟩))
theorem mv_pick (l : List (Nat × Byt)) (hl : ∀ c ∈ l, c.2 ≠ []) (g : Nat → Byt) (k : Nat) : (if mv l (fun _ => []) k = [] then g k else mv l (fun _ => []) k) = mv l g k := by
  by_cases e : ∃ c ∈ l, c.1 = k
  · obtain ⟨c, h1, h2, h3⟩ := mv_hit l k e
    rw [h3, h3, if_neg (hl c h1)]
  · have e2 : ∀ d ∈ l, d.1 ≠ k := fun d hd q => e ⟨d, hd, q⟩
    rw [mv_out l _ k e2, mv_out l _ k e2, if_pos rfl]
def hmo (c : Nat × Byt) : Nat × Byt := (1 + c.1, c.2)
theorem mv_hom (l : List (Nat × Byt)) : ∀ (g : Nat → Byt) (k : Nat), mv (l.map hmo) g (1 + k) = mv l (fun k => g (1 + k)) k := by
  induction l with
  | nil => exact fun g k => rfl
  | cons c l ih =>
    intro g k
    show mv (l.map hmo) _ (1 + k) = mv l _ k
    rw [ih]
    refine mv_at l (.inl ?_)
    by_cases e : k = c.1
    · rw [if_pos (show 1 + k = (hmo c).1 by rw [e]; rfl), if_pos e]
      rfl
    · rw [if_neg (show ¬ 1 + k = (hmo c).1 from fun q => e (Nat.add_left_cancel q)), if_neg e]
/-- Sectors of the journal, from p on. -/
def jnl : Nat → List Byt → List (Nat × Byt)
  | _, [] => []
  | p, b :: l => (p, b) :: jnl (p + 1) l
theorem jnl_mem (l : List Byt) : ∀ (p : Nat) (c : Nat × Byt), c ∈ jnl p l → p ≤ c.1 ∧ c.1 < p + l.length ∧ c.2 ∈ l := by
  induction l with
  | nil => exact fun p c h => by cases h
  | cons b l ih =>
    intro p c h
    rcases List.mem_cons.1 h with rfl | h
    · exact ⟨Nat.le_refl _, by show p < p + (l.length + 1); omega, List.mem_cons_self⟩
    · obtain ⟨h1, h2, h3⟩ := ih (p + 1) c h
      exact ⟨by omega, by show c.1 < p + (l.length + 1); omega, List.mem_cons_of_mem _ h3⟩
theorem mv_jnl (l : List Byt) : ∀ (p : Nat) (g : Nat → Byt) (i : Nat) (b : Byt), l[i]? = some b → mv (jnl p l) g (p + i) = b := by
  induction l with
  | nil => exact fun p g i b h => by cases h
  | cons b l ih =>
    intro p g i x h
    cases i with
    | zero =>
      obtain rfl := Option.some.inj h
      show mv (jnl (p + 1) l) _ p = _
      rw [mv_out _ _ _ (fun c hc e => by have := (jnl_mem l _ _ hc).1; omega), if_pos rfl]
    | succ i =>
      show mv (jnl (p + 1) l) _ (p + (i + 1)) = x
      rw [show p + (i + 1) = p + 1 + i by omega]
      exact ih (p + 1) _ i x h
/-- What a head's home sectors get out of the journal. -/
def jr (f : Nat → Byt) : Nat → List Nat → List (Nat × Byt)
  | _, [] => []
  | p, a :: at' => (a, f p) :: jr f (p + 1) at'
theorem jr_congr {f g : Nat → Byt} (l : List Nat) : ∀ p, (∀ i, i < l.length → f (p + i) = g (p + i)) → jr f p l = jr g p l := by
  induction l with
  | nil => exact fun p _ => rfl
  | cons a l ih =>
    intro p h
    show (a, f p) :: jr f (p + 1) l = (a, g p) :: jr g (p + 1) l
    rw [ih (p + 1) (fun i hi => by have := h (i + 1) (by show i + 1 < l.length + 1; omega); rw [show p + 1 + i = p + (i + 1) by omega]; exact this), show f p = g p from h 0 (Nat.succ_pos _)]
theorem jr_fst (f : Nat → Byt) (l : List Nat) : ∀ p, (jr f p l).map (·.1) = l := by
  induction l with
  | nil => exact fun p => rfl
  | cons a l ih => exact fun p => by show a :: (jr f (p + 1) l).map (·.1) = _; rw [ih]
theorem jr_self {f : Nat → Byt} (l : List (Nat × Byt)) : ∀ p, (∀ i c, l[i]? = some c → f (p + i) = c.2) → jr f p (l.map (·.1)) = l := by
  induction l with
  | nil => exact fun p _ => rfl
  | cons a l ih =>
    intro p h
    show (a.1, f p) :: jr f (p + 1) (l.map (·.1)) = _
    rw [ih (p + 1) (fun i c hi => by rw [show p + 1 + i = p + (i + 1) by omega]; exact h (i + 1) c hi), show f p = a.2 from h 0 a rfl]
theorem jr_mem {f : Nat → Byt} (l : List Nat) : ∀ p c, c ∈ jr f p l → c.1 ∈ l ∧ ∃ i, i < l.length ∧ c.2 = f (p + i) := by
  induction l with
  | nil => exact fun p c h => by cases h
  | cons a l ih =>
    intro p c h
    rcases List.mem_cons.1 h with rfl | h
    · exact ⟨List.mem_cons_self, 0, Nat.succ_pos _, rfl⟩
    · obtain ⟨h1, i, h2, h3⟩ := ih (p + 1) c h
      exact ⟨List.mem_cons_of_mem _ h1, i + 1, by show i + 1 < l.length + 1; omega, by rw [h3]; congr 1; omega⟩
/-- Writes, up to the first error. -/
def wrs : Dst → List (Nat × Byt) → Int × Dst
  | s, [] => (0, s)
  | s, c :: l => thn (wrt s (c.1 : Int) c.2) (fun t => wrs t l)
theorem wrs_res {n z : Nat} {a : Bool} (l : List (Nat × Byt)) : ∀ {s : Dst}, Up s n z a → (∀ c ∈ l, c.1 < n ∧ c.2.length = z) →
    Res (wrs s l) (fun t => Up t n z a ∧ (∀ j, stO t j = stO s j) ∧ ∀ j, caO t j = mv l (caO s) j) (fun t => Dn t n z a ∧ (∀ j, stO t j = stO s j) ∧ ∃ l1, l1 <+: l ∧ ∀ j, caO t j = mv l1 (caO s) j) := by
  induction l with
  | nil => exact fun {s} h _ => .inl ⟨rfl, h, fun j => rfl, fun j => rfl⟩
  | cons c l ih =>
    intro s h hl
    have hc := hl c List.mem_cons_self
    refine Res.thn (wrt_res h hc.1 hc.2) (fun t ⟨h1, h2, h3⟩ => ⟨h1, h2, [c], ⟨l, rfl⟩, fun j => h3 j⟩) (fun t ⟨h1, h2, h3⟩ => ?_)
    have hf : caO t = fun k => if k = c.1 then c.2 else caO s k := funext h3
    refine (ih h1 (fun d hd => hl d (List.mem_cons_of_mem _ hd))).mono (fun u ⟨q1, q2, q3⟩ => ⟨q1, fun j => (q2 j).trans (h2 j), fun j => by rw [q3 j, hf]; rfl⟩) (fun u ⟨q1, q2, l1, q3, q4⟩ => ⟨q1, fun j => (q2 j).trans (h2 j), c :: l1, ?_, fun j => by rw [q4 j, hf]; rfl⟩)
    obtain ⟨r, hr⟩ := q3
    exact ⟨r, by rw [← hr]; rfl⟩
/-- What the wal's words keep: n sectors of z bytes, h home sectors, room R. -/
structure Hd (n z h R : Nat) (prs : Byt → Option (List Nat)) (H : List Nat → Byt) : Prop where
  room : 1 + h + R ≤ n
  len : ∀ l, l.length ≤ R → (H l).length = z
  told : ∀ l, l.length ≤ R → (∀ a ∈ l, a < h) → prs (H l) = some l
  okl : ∀ b l, b.length = z → prs b = some l → l.length ≤ R ∧ ∀ a ∈ l, a < h
def vw (h : Nat) (l : List Nat) (f : Nat → Byt) (k : Nat) : Byt := mv (jr f (1 + h) l) (fun k => f (1 + k)) k
/-- Whatever a crash leaves, and then Open, home is as P asks. -/
def Inv (n h : Nat) (prs : Byt → Option (List Nat)) (s : Dst) (P : List Byt → Prop) : Prop := ∀ f : Nat → Byt, (∀ i, i < n → May s i (f i)) → ∃ l v, prs (f 0) = some l ∧ P v ∧ v.length = h ∧ ∀ k, k < h → v.getD k [] = vw h l f k
/-- Nothing is under way: home is so. -/
structure Quiet (n z h : Nat) (prs : Byt → Option (List Nat)) (a : Bool) (s : Dst) (now : List Byt) : Prop where
  up : Up s n z a
  head : prs (stO s 0) = some []
  head0 : caO s 0 = []
  len : now.length = h
  home : ∀ k, k < h → caO s (1 + k) = [] ∧ stO s (1 + k) = now.getD k []
def chg (now : List Byt) (l : List (Nat × Byt)) : List Byt := l.foldl (fun o c => o.set c.1 c.2) now
theorem chg_len (l : List (Nat × Byt)) : ∀ now : List Byt, (chg now l).length = now.length := by
  induction l with
  | nil => exact fun _ => rfl
  | cons c l ih => exact fun now => by show (chg (now.set c.1 c.2) l).length = _; rw [ih, List.length_set]
theorem chg_get (l : List (Nat × Byt)) : ∀ (now : List Byt), (∀ c ∈ l, c.1 < now.length) → ∀ k, (chg now l).getD k [] = mv l (fun k => now.getD k []) k := by
  induction l with
  | nil => exact fun _ _ _ => rfl
  | cons c l ih =>
    intro now h k
    show (chg (now.set c.1 c.2) l).getD k [] = mv l _ k
    rw [ih _ (fun d hd => by rw [List.length_set]; exact h d (List.mem_cons_of_mem _ hd))]
    exact mv_at l (.inl (getD_set (h c List.mem_cons_self)))
/-- Home is written, and the head without changes. -/
def whome (H : List Nat → Byt) (s : Dst) (l : List (Nat × Byt)) : Int × Dst := thn (thn (thn (wrs s (l.map hmo)) flu) (fun t => wrt t ((0 : Nat) : Int) (H []))) flu
def wcom (h : Nat) (H : List Nat → Byt) (s : Dst) (l : List (Nat × Byt)) : Int × Dst := thn (thn (thn (thn (wrs s (jnl (1 + h) (l.map (·.2)))) flu) (fun t => wrt t ((0 : Nat) : Int) (H (l.map (·.1))))) flu) (fun t => whome H t l)
theorem whome_res {n z h R : Nat} {prs : Byt → Option (List Nat)} {H : List Nat → Byt} (hd : Hd n z h R prs H) {a : Bool} {s : Dst} (hu : Up s n z a) (hc : ∀ j, caO s j = []) {l : List (Nat × Byt)} (hl : ∀ c ∈ l, c.1 < h ∧ c.2.length = z) (hR : l.length ≤ R)
    (hp : prs (stO s 0) = some (l.map (·.1))) (hj : jr (stO s) (1 + h) (l.map (·.1)) = l) {v : List Byt} (hv : v.length = h) (hvk : ∀ k, k < h → v.getD k [] = mv l (fun k => stO s (1 + k)) k) :
    Res (whome H s l) (fun t => Quiet n z h prs a t v ∧ (∀ j, caO t j = []) ∧ stO t 0 = H []) (fun t => Dn t n z a ∧ Inv n h prs t (· = v)) := by
  have hz : 0 < z := hu.1.pos
  have hroom := hd.room
  have hcs : caO s = fun _ => [] := funext hc
  have hlm : ∀ c ∈ l.map hmo, 1 ≤ c.1 ∧ c.1 < 1 + h ∧ c.2.length = z ∧ ∃ d ∈ l, c = hmo d := fun c q => by
    obtain ⟨d, hd, rfl⟩ := List.mem_map.1 q
    have := hl d hd
    exact ⟨by show 1 ≤ 1 + d.1; omega, by show 1 + d.1 < 1 + h; omega, this.2, d, hd, rfl⟩
  have hne : ∀ c ∈ l, c.2 ≠ [] := fun c q e => by have := (hl c q).2; rw [e] at this; exact absurd this (by show ¬ 0 = z; omega)
  -- a view with this head: home may be anything where it is written
  have view : ∀ f : Nat → Byt, f 0 = stO s 0 → (∀ i, 1 + h ≤ i → i < n → f i = stO s i) → (∀ k, k < h → mv l (fun k => f (1 + k)) k = v.getD k []) → ∃ l v', prs (f 0) = some l ∧ v' = v ∧ v'.length = h ∧ ∀ k, k < h → v'.getD k [] = vw h l f k := fun f h0 h1 h2 => by
    refine ⟨l.map (·.1), v, by rw [h0]; exact hp, rfl, hv, fun k hk => ?_⟩
    unfold vw
    rw [jr_congr (g := stO s) _ _ (fun i hi => h1 _ (by omega) (by rw [List.length_map] at hi; omega)), hj]
    exact (h2 k hk).symm
  have view0 : ∀ f : Nat → Byt, f 0 = H [] → (∀ k, k < h → f (1 + k) = v.getD k []) → ∃ l v', prs (f 0) = some l ∧ v' = v ∧ v'.length = h ∧ ∀ k, k < h → v'.getD k [] = vw h l f k := fun f h0 h2 => ⟨[], v, by rw [h0]; exact hd.told [] (Nat.zero_le _) (fun a q => by cases q), rfl, hv, fun k hk => (h2 k hk).symm⟩
  refine Res.thn (A := fun t => Up t n z a ∧ stO t 0 = stO s 0 ∧ (∀ i, 1 + h ≤ i → i < n → stO t i = stO s i ∧ caO t i = []) ∧ (∀ k, k < h → stO t (1 + k) = v.getD k [] ∧ caO t (1 + k) = []) ∧ caO t 0 = H []) (B := fun t => Dn t n z a ∧ Inv n h prs t (· = v)) ?_ (fun _ q => q) (fun t ⟨q1, q2, q3, q4, q5⟩ => ?_)
  · refine Res.thn (A := fun t => Up t n z a ∧ stO t 0 = stO s 0 ∧ (∀ i, 1 + h ≤ i → i < n → stO t i = stO s i) ∧ (∀ k, k < h → stO t (1 + k) = v.getD k []) ∧ ∀ j, caO t j = []) (B := fun t => Dn t n z a ∧ Inv n h prs t (· = v)) ?_ (fun _ q => q) (fun t ⟨q1, q2, q3, q4, q5⟩ => ?_)
    · have hw := wrs_res (l.map hmo) hu (fun c q => by have := hlm c q; exact ⟨by omega, this.2.2.1⟩)
      -- behind writes of home sectors alone
      have part : ∀ (l1 : List (Nat × Byt)) (t : Dst), l1 <+: l.map hmo → (∀ j, stO t j = stO s j) → (∀ j, caO t j = mv l1 (caO s) j) → Inv n h prs t (· = v) := fun l1 t hp1 h1 h2 f hf => by
        have hsub : ∀ c ∈ l1, c ∈ l.map hmo := fun c q => hp1.subset q
        have hout : ∀ j, (j = 0 ∨ 1 + h ≤ j) → caO t j = [] := fun j q => by
          rw [h2 j, mv_out _ _ _ (fun c q2 e => by have := hlm c (hsub c q2); omega)]
          exact hc j
        refine view f ?_ (fun i hi hin => ?_) (fun k hk => ?_)
        · rw [(hf 0 (by omega)).settled (hout 0 (.inl rfl))]
          exact h1 0
        · rw [(hf i hin).settled (hout i (.inr hi))]
          exact h1 i
        · rw [hvk k hk]
          refine mv_at l ?_
          rcases hf (1 + k) (by omega) with e | ⟨e1, e2⟩
          · exact .inl (e.trans (h1 _))
          · rw [h2, hcs] at e1
            rcases mv_or l1 (fun _ => []) (1 + k) with e3 | ⟨c, c1, c2, _⟩
            · exact absurd e3 e1
            · obtain ⟨_, _, _, d, hd1, rfl⟩ := hlm c (hsub c c1)
              exact .inr ⟨d, hd1, Nat.add_left_cancel c2⟩
      refine Res.thn hw (fun t ⟨q1, q2, l1, q3, q4⟩ => ⟨q1, part l1 t q3 q2 q4⟩) (fun t ⟨q1, q2, q3⟩ => ?_)
      refine (flu_res q1).mono (fun u ⟨r1, r2, r3⟩ => ⟨r1, ?_, fun i hi hin => ?_, fun k hk => ?_, r3⟩) (fun u ⟨r1, r2, r3⟩ => ⟨r1, part _ u (List.prefix_refl _) (fun j => (r2 j).trans (q2 j)) (fun j => (r3 j).trans (q3 j))⟩)
      · rw [r2 0 (by omega)]
        unfold nowO
        rw [if_pos (by rw [q3, mv_out _ _ _ (fun c q e => by have := hlm c q; omega)]; exact hc 0)]
        exact q2 0
      · rw [r2 i hin]
        unfold nowO
        rw [if_pos (by rw [q3, mv_out _ _ _ (fun c q e => by have := hlm c q; omega)]; exact hc i)]
        exact q2 i
      · rw [r2 (1 + k) (by omega), hvk k hk, ← mv_pick l hne]
        unfold nowO
        rw [q3, hcs, mv_hom, q2]
    · refine (wrt_res q1 (i := 0) (by omega) (hd.len [] (Nat.zero_le _))).mono (fun u ⟨r1, r2, r3⟩ => ⟨r1, (r2 0).trans q2, fun i hi hin => ⟨(r2 i).trans (q3 i hi hin), by rw [r3 i, if_neg (by omega)]; exact q5 i⟩, fun k hk => ⟨(r2 _).trans (q4 k hk), by rw [r3, if_neg (by omega)]; exact q5 _⟩, by rw [r3, if_pos rfl]⟩) (fun u ⟨r1, r2, r3⟩ => ⟨r1, fun f hf => ?_⟩)
      have hk1 : ∀ k, k < h → f (1 + k) = v.getD k [] := fun k hk => by
        rw [(hf (1 + k) (by omega)).settled (by rw [r3, if_neg (by omega)]; exact q5 _), r2]
        exact q4 k hk
      rcases hf 0 (by omega) with e | ⟨_, e⟩
      · refine view f (by rw [e, r2]; exact q2) (fun i hi hin => ?_) (fun k hk => ?_)
        · rw [(hf i hin).settled (by rw [r3, if_neg (by omega)]; exact q5 _), r2]
          exact q3 i hi hin
        · rw [mv_at l (g' := mv l (fun k => stO s (1 + k))) (.inl (by rw [hk1 k hk, hvk k hk])), mv_mv, ← hvk k hk]
      · exact view0 f (by rw [e, r3, if_pos rfl]) hk1
  · refine (flu_res q1).mono (fun u ⟨r1, r2, r3⟩ => (fun hS => ⟨⟨r1, by rw [hS]; exact hd.told [] (Nat.zero_le _) (fun a q => by cases q), r3 0, hv, fun k hk => ⟨r3 _, ?_⟩⟩, r3, hS⟩ : stO u 0 = H [] → _) ?_) (fun u ⟨r1, r2, r3⟩ => ⟨r1, fun f hf => ?_⟩)
    · have hH : (H []).length = z := hd.len [] (Nat.zero_le _)
      rw [r2 0 (by omega)]
      unfold nowO
      rw [q5, if_neg (fun e => by rw [e] at hH; exact absurd hH (by show ¬ 0 = z; omega))]
    · rw [r2 _ (by omega)]
      unfold nowO
      rw [if_pos (q4 k hk).2]
      exact (q4 k hk).1
    · have hk1 : ∀ k, k < h → f (1 + k) = v.getD k [] := fun k hk => by
        rw [(hf (1 + k) (by omega)).settled ((r3 _).trans (q4 k hk).2), r2]
        exact (q4 k hk).1
      rcases hf 0 (by omega) with e | ⟨_, e⟩
      · refine view f (by rw [e, r2]; exact q2) (fun i hi hin => ?_) (fun k hk => ?_)
        · rw [(hf i hin).settled ((r3 _).trans (q3 i hi hin).2), r2]
          exact (q3 i hi hin).1
        · rw [mv_at l (g' := mv l (fun k => stO s (1 + k))) (.inl (by rw [hk1 k hk, hvk k hk])), mv_mv, ← hvk k hk]
      · exact view0 f (by rw [e, r3]; exact q5) hk1
/-- A commit: done, or (where the power ended) home is as before or as behind it, whatever a crash loses. -/
theorem wcom_res {n z h R : Nat} {prs : Byt → Option (List Nat)} {H : List Nat → Byt} (hd : Hd n z h R prs H) {a : Bool} {s : Dst} {now : List Byt} (hq : Quiet n z h prs a s now) {l : List (Nat × Byt)} (hl : ∀ c ∈ l, c.1 < h ∧ c.2.length = z) (hR : l.length ≤ R) :
    Res (wcom h H s l) (fun t => Quiet n z h prs a t (chg now l) ∧ ∀ j, caO t j = []) (fun t => Dn t n z a ∧ Inv n h prs t (fun v => v = now ∨ v = chg now l)) := by
  have hz : 0 < z := hq.up.1.pos
  have hroom := hd.room
  have hlen : (chg now l).length = h := (chg_len l now).trans hq.len
  have hget : ∀ k, (chg now l).getD k [] = mv l (fun k => now.getD k []) k := chg_get l now (fun c q => by rw [hq.len]; exact (hl c q).1)
  have hll : (l.map (·.1)).length ≤ R := by rw [List.length_map]; exact hR
  have hjm : ∀ c ∈ jnl (1 + h) (l.map (·.2)), 1 + h ≤ c.1 ∧ c.1 < n ∧ c.2.length = z := fun c q => by
    obtain ⟨h1, h2, h3⟩ := jnl_mem _ _ _ q
    rw [List.length_map] at h2
    obtain ⟨d, hd1, e⟩ := List.mem_map.1 h3
    exact ⟨h1, by omega, by rw [← e]; exact (hl d hd1).2⟩
  have hout : ∀ (l1 : List (Nat × Byt)), l1 <+: jnl (1 + h) (l.map (·.2)) → ∀ g j, j < 1 + h → mv l1 g j = g j := fun l1 hp g j hj => mv_out _ _ _ (fun c q e => by have := (hjm c (hp.subset q)).1; omega)
  -- the head names nothing, home is as before
  have view0 : ∀ f : Nat → Byt, prs (f 0) = some [] → (∀ k, k < h → f (1 + k) = now.getD k []) → ∃ l' v, prs (f 0) = some l' ∧ (v = now ∨ v = chg now l) ∧ v.length = h ∧ ∀ k, k < h → v.getD k [] = vw h l' f k := fun f h0 h2 => ⟨[], now, h0, .inl rfl, hq.len, fun k hk => (h2 k hk).symm⟩
  -- the head names the changes, the journal has them, home is as before
  have hJ : ∀ f : Nat → Byt, (∀ i c, l[i]? = some c → f (1 + h + i) = c.2) → jr f (1 + h) (l.map (·.1)) = l := fun f q => jr_self l _ q
  have view1 : ∀ f : Nat → Byt, f 0 = H (l.map (·.1)) → (∀ i c, l[i]? = some c → f (1 + h + i) = c.2) → (∀ k, k < h → f (1 + k) = now.getD k []) → ∃ l' v, prs (f 0) = some l' ∧ (v = now ∨ v = chg now l) ∧ v.length = h ∧ ∀ k, k < h → v.getD k [] = vw h l' f k := fun f h0 h1 h2 => by
    refine ⟨l.map (·.1), chg now l, by rw [h0]; exact hd.told _ hll (fun x q => by obtain ⟨d, hd1, e⟩ := List.mem_map.1 q; rw [← e]; exact (hl d hd1).1), .inr rfl, hlen, fun k hk => ?_⟩
    unfold vw
    rw [hJ f h1, hget k]
    exact (mv_at l (.inl (h2 k hk))).symm
  have hne : ∀ c ∈ l, c.2 ≠ [] := fun c q e => by have := (hl c q).2; rw [e] at this; exact absurd this (by show ¬ 0 = z; omega)
  have hil : ∀ i c, l[i]? = some c → i < l.length := fun i c q => (List.getElem?_eq_some_iff.1 q).1
  refine Res.thn (A := fun t => Up t n z a ∧ stO t 0 = H (l.map (·.1)) ∧ (∀ i c, l[i]? = some c → stO t (1 + h + i) = c.2) ∧ (∀ k, k < h → stO t (1 + k) = now.getD k []) ∧ ∀ j, caO t j = []) (B := fun t => Dn t n z a ∧ Inv n h prs t (fun v => v = now ∨ v = chg now l)) ?_ (fun _ q => q) (fun t ⟨q1, q2, q3, q4, q5⟩ => ?_)
  · refine Res.thn (A := fun t => Up t n z a ∧ prs (stO t 0) = some [] ∧ caO t 0 = H (l.map (·.1)) ∧ (∀ i c, l[i]? = some c → stO t (1 + h + i) = c.2 ∧ caO t (1 + h + i) = []) ∧ ∀ k, k < h → stO t (1 + k) = now.getD k [] ∧ caO t (1 + k) = []) (B := fun t => Dn t n z a ∧ Inv n h prs t (fun v => v = now ∨ v = chg now l)) ?_ (fun _ q => q) (fun t ⟨q1, q2, q3, q4, q5⟩ => ?_)
    · refine Res.thn (A := fun t => Up t n z a ∧ prs (stO t 0) = some [] ∧ (∀ i c, l[i]? = some c → stO t (1 + h + i) = c.2) ∧ (∀ k, k < h → stO t (1 + k) = now.getD k []) ∧ ∀ j, caO t j = []) (B := fun t => Dn t n z a ∧ Inv n h prs t (fun v => v = now ∨ v = chg now l)) ?_ (fun _ q => q) (fun t ⟨q1, q2, q3, q4, q5⟩ => ?_)
      · have part : ∀ (l1 : List (Nat × Byt)) (t : Dst), l1 <+: jnl (1 + h) (l.map (·.2)) → (∀ j, stO t j = stO s j) → (∀ j, caO t j = mv l1 (caO s) j) → Inv n h prs t (fun v => v = now ∨ v = chg now l) := fun l1 t hp1 h1 h2 f hf => by
          refine view0 f ?_ (fun k hk => ?_)
          · rw [(hf 0 (by omega)).settled (by rw [h2, hout l1 hp1 _ _ (by omega)]; exact hq.head0), h1]
            exact hq.head
          · rw [(hf (1 + k) (by omega)).settled (by rw [h2, hout l1 hp1 _ _ (by omega)]; exact (hq.home k hk).1), h1]
            exact (hq.home k hk).2
        refine Res.thn (wrs_res _ hq.up (fun c q => ⟨(hjm c q).2.1, (hjm c q).2.2⟩)) (fun t ⟨q1, q2, l1, q3, q4⟩ => ⟨q1, part l1 t q3 q2 q4⟩) (fun t ⟨q1, q2, q3⟩ => ?_)
        refine (flu_res q1).mono (fun u ⟨r1, r2, r3⟩ => ⟨r1, ?_, fun i c hi => ?_, fun k hk => ?_, r3⟩) (fun u ⟨r1, r2, r3⟩ => ⟨r1, part _ u (List.prefix_refl _) (fun j => (r2 j).trans (q2 j)) (fun j => (r3 j).trans (q3 j))⟩)
        · rw [r2 0 (by omega)]
          unfold nowO
          rw [if_pos (by rw [q3, hout _ (List.prefix_refl _) _ _ (by omega)]; exact hq.head0), q2]
          exact hq.head
        · have := hil i c hi
          rw [r2 _ (by omega)]
          unfold nowO
          have e : mv (jnl (1 + h) (l.map (·.2))) (caO s) (1 + h + i) = c.2 := mv_jnl _ _ _ _ _ (by rw [List.getElem?_map, hi]; rfl)
          rw [q3, e, if_neg (hne c (List.mem_of_getElem? hi))]
        · rw [r2 _ (by omega)]
          unfold nowO
          rw [if_pos (by rw [q3, hout _ (List.prefix_refl _) _ _ (by omega)]; exact (hq.home k hk).1), q2]
          exact (hq.home k hk).2
      · refine (wrt_res q1 (i := 0) (by omega) (hd.len _ hll)).mono (fun u ⟨r1, r2, r3⟩ => ⟨r1, by rw [r2]; exact q2, by rw [r3, if_pos rfl], fun i c hi => ⟨(r2 _).trans (q3 i c hi), by rw [r3, if_neg (by omega)]; exact q5 _⟩, fun k hk => ⟨(r2 _).trans (q4 k hk), by rw [r3, if_neg (by omega)]; exact q5 _⟩⟩) (fun u ⟨r1, r2, r3⟩ => ⟨r1, fun f hf => ?_⟩)
        have hk1 : ∀ k, k < h → f (1 + k) = now.getD k [] := fun k hk => by
          rw [(hf (1 + k) (by omega)).settled (by rw [r3, if_neg (by omega)]; exact q5 _), r2]
          exact q4 k hk
        rcases hf 0 (by omega) with e | ⟨_, e⟩
        · exact view0 f (by rw [e, r2]; exact q2) hk1
        · exact view1 f (by rw [e, r3, if_pos rfl]) (fun i c hi => by
            have := hil i c hi
            rw [(hf (1 + h + i) (by omega)).settled (by rw [r3, if_neg (by omega)]; exact q5 _), r2]
            exact q3 i c hi) hk1
    · have hH : (H (l.map (·.1))).length = z := hd.len _ hll
      refine (flu_res q1).mono (fun u ⟨r1, r2, r3⟩ => ⟨r1, ?_, fun i c hi => ?_, fun k hk => ?_, r3⟩) (fun u ⟨r1, r2, r3⟩ => ⟨r1, fun f hf => ?_⟩)
      · rw [r2 0 (by omega)]
        unfold nowO
        rw [q3, if_neg (fun e => by rw [e] at hH; exact absurd hH (by show ¬ 0 = z; omega))]
      · have := hil i c hi
        rw [r2 _ (by omega)]
        unfold nowO
        rw [if_pos (q4 i c hi).2]
        exact (q4 i c hi).1
      · rw [r2 _ (by omega)]
        unfold nowO
        rw [if_pos (q5 k hk).2]
        exact (q5 k hk).1
      · have hk1 : ∀ k, k < h → f (1 + k) = now.getD k [] := fun k hk => by
          rw [(hf (1 + k) (by omega)).settled ((r3 _).trans (q5 k hk).2), r2]
          exact (q5 k hk).1
        rcases hf 0 (by omega) with e | ⟨_, e⟩
        · exact view0 f (by rw [e, r2]; exact q2) hk1
        · exact view1 f (by rw [e, r3]; exact q3) (fun i c hi => by
            have := hil i c hi
            rw [(hf (1 + h + i) (by omega)).settled ((r3 _).trans (q4 i c hi).2), r2]
            exact (q4 i c hi).1) hk1
  · refine (whome_res hd q1 q5 hl hR (by rw [q2]; exact hd.told _ hll (fun x q => by obtain ⟨d, hd1, e⟩ := List.mem_map.1 q; rw [← e]; exact (hl d hd1).1)) (hJ _ q3) hlen (fun k hk => by rw [hget k]; exact mv_at l (.inl (q4 k hk).symm))).mono (fun u q => ⟨q.1, q.2.1⟩) (fun u ⟨r1, r2⟩ => ⟨r1, fun f hf => ?_⟩)
    obtain ⟨l', v, e1, e2, e3⟩ := r2 f hf
    exact ⟨l', v, e1, .inr e2, e3⟩
/-- Open, as the document has it: the answer, and the disk behind it. -/
def wopn (h : Nat) (prs : Byt → Option (List Nat)) (H : List Nat → Byt) (s : Dst) : Int × Dst :=
  if s.has.length < 3 ∨ s.size < 32 then (11, s) else if s.down = true then (30, s) else
    match prs (nowO s 0) with
    | none => (32, s)
    | some [] => (0, s)
    | some l => whome H s (jr (nowO s) (1 + h) l)
/-- Opened behind a crash: home is what the head tells, and stays so, wherever the power ends. -/
theorem wopn_res {n z h R : Nat} {prs : Byt → Option (List Nat)} {H : List Nat → Byt} (hd : Hd n z h R prs H) (h3 : 3 ≤ n) (h32 : 32 ≤ z) {a : Bool} {s : Dst} (hu : Up s n z a) (hc : ∀ j, caO s j = []) {l : List Nat} (hp : prs (stO s 0) = some l) {v : List Byt} (hv : v.length = h) (hvk : ∀ k, k < h → v.getD k [] = vw h l (stO s) k) :
    Res (wopn h prs H s) (fun t => Quiet n z h prs a t v ∧ (∀ j, caO t j = []) ∧ ((l = [] ∧ t = s) ∨ stO t 0 = H [])) (fun t => Dn t n z a ∧ Inv n h prs t (· = v)) := by
  have hnow : nowO s = stO s := funext fun j => by unfold nowO; rw [if_pos (hc j)]
  have hokl := hd.okl _ l (hu.1.hl 0 (by omega)) hp
  have hroom := hd.room
  unfold wopn
  rw [if_neg (by rw [hu.1.has, hu.1.size]; omega), if_neg (by rw [hu.2.2]; simp), hnow, hp]
  cases l with
  | nil => exact .inl ⟨rfl, ⟨hu, hp, hc 0, hv, fun k hk => ⟨hc _, (hvk k hk).symm⟩⟩, hc, .inl ⟨rfl, rfl⟩⟩
  | cons x l =>
    have hfst := jr_fst (stO s) (x :: l) (1 + h)
    have hlen : (jr (stO s) (1 + h) (x :: l)).length ≤ R := by
      have := congrArg List.length hfst
      rw [List.length_map] at this
      rw [this]
      exact hokl.1
    have hmem : ∀ c ∈ jr (stO s) (1 + h) (x :: l), c.1 < h ∧ c.2.length = z := fun c q => by
      obtain ⟨h1, i, h2, h3⟩ := jr_mem _ _ _ q
      have := hokl.1
      exact ⟨hokl.2 _ h1, by rw [h3]; exact hu.1.hl _ (by omega)⟩
    have hw := whome_res hd hu hc hmem hlen (by rw [hfst]; exact hp) (by rw [hfst]) hv hvk
    rcases hw with ⟨w1, w2⟩ | ⟨w1, w2⟩
    · exact .inl ⟨w1, w2.1, w2.2.1, .inr w2.2.2⟩
    · exact .inr ⟨w1, w2⟩
end Go.Proofs.YtakdpkoigijonaaGreat
namespace Go.Proofs.YtakdpkoigijonaaGreat
set_option maxRecDepth 100000
open Go.RowKit
/-- How many home sectors; how many changes there is room for. -/
def homN (n : Nat) : Nat := (n - 1) / 2 + (n - 1) % 2
def jouN (n : Nat) : Nat := n - 1 - homN n
def roomN (n z : Nat) : Nat := min (jouN n) ((z - 16) / 8)
section
variable {P : Program} {Q : Exit → Act → World → Prop} {o : Oper} {a : Act} {w : World}
theorem st_quo2w (x y : Operand) (ho : o.op = .binOp .quo 3 x y 3) (m : Nat) (hm : m ≤ 1000000) (hx : a.eval x = .int .i64 (m : Int)) (hy : a.eval y = .int .i64 2) : o.wp Tryz.prog a w (Ends a o.dst w (Fk.eq (.int .i64 ((m / 2 : Nat) : Int))).f) Q := by
  refine st_bin .quo 3 3 x y ho hx hy ?_
  have h1 : Int.tdiv (m : Int) 2 = ((m / 2 : Nat) : Int) := by
    rw [Int.tdiv_eq_ediv_of_nonneg (by omega)]
    omega
  simp only [eqGuard, binOp, Op.intDiv]
  simp [h1]
  rw [IntKind.wrap_i64]
  omega
theorem st_rem2w (x y : Operand) (ho : o.op = .binOp .rem 3 x y 3) (m : Nat) (hm : m ≤ 1000000) (hx : a.eval x = .int .i64 (m : Int)) (hy : a.eval y = .int .i64 2) : o.wp Tryz.prog a w (Ends a o.dst w (Fk.eq (.int .i64 ((m % 2 : Nat) : Int))).f) Q := by
  refine st_bin .rem 3 3 x y ho hx hy ?_
  have h1 : Int.tmod (m : Int) 2 = ((m % 2 : Nat) : Int) := by
    rw [Int.tmod_eq_emod_of_nonneg (by omega)]
    omega
  simp only [eqGuard, binOp, Op.intDiv]
  simp [h1]
end
/-- Bytes, the first ones written anew. -/
def fr64 (c : BitVec 8) (k : Nat) : List (BitVec 8) := List.replicate k c ++ List.replicate (64 - k) 0
theorem fr64_len (c : BitVec 8) {k : Nat} (h : k ≤ 64) : (fr64 c k).length = 64 := by
  unfold fr64
  rw [List.length_append, List.length_replicate, List.length_replicate]
  omega
theorem fr64_zero (c : BitVec 8) : fr64 c 0 = zs 64 := rfl
theorem fr64_all (c : BitVec 8) : fr64 c 64 = List.replicate 64 c := by unfold fr64; simp
theorem fr64_set (c : BitVec 8) {k : Nat} (h : k < 64) : (fr64 c k).set k c = fr64 c (k + 1) := by
  unfold fr64
  rw [List.set_append_right _ _ (by simp), List.length_replicate, Nat.sub_self]
  obtain ⟨m, hm⟩ : ∃ m, 64 - k = m + 1 := ⟨63 - k, by omega⟩
  rw [hm, show 64 - (k + 1) = m by omega, List.replicate_succ, List.set_cons_zero, List.replicate_succ', List.append_assoc]
  rfl
theorem fk_home {n : Nat} (h1 : 1 ≤ n) (hn : n ≤ 100000) (w : World) :
    Calls Tryz.prog 25 #[.int .i64 (n : Int)] w fun e w' => ∃ u, e = .returned u ∧ (Fk.eq (.int .i64 ((homN n : Nat) : Int))).f u w' ∧ Below w.heap.size w w' := by
  go_enter Tryz.func25, Tryz.ntmps25
  refine code_both (fun f w1 => f.tmps.size = 11 ∧ f.defers = [] ∧ f.eval (.tmp 0) = .int .i64 (n : Int) ∧ Below w.heap.size w (w1)) ⟨rfl, rfl, rfl, Below.refl _ _⟩ ?_
  rintro f0 w0 ⟨sz, df, x0, bl⟩
  have sd := And.intro sz df
  clear sz df
  have bl0 := bl
  refine wp_seq ?_
  refine wr_a [.eq (.int .i64 0)] (by rw [sd.1]; kernel_rfl) ⟨fun hw ac u K => ?_, trivial⟩ ?_
  · exact st_assign (.const (.int .i64 0)) rfl rfl
  intro f1 w1 A hb
  replace x0 := A.t x0 rfl
  replace bl := bgo bl hb
  replace sd := A.sd sd
  clear A hb
  show Code.wp _ _ _ _ _
  refine wp_seq ?_
  refine wr_a [.eq (.int .i64 (n : Int)), .eq (.int .i64 ((n - 1 : Nat) : Int)), .eq (.int .i64 ((n - 1 : Nat) : Int))] (by rw [sd.1]; kernel_rfl) ⟨fun hw ac u K => ?_, fun hw ac u K => ?_, fun hw ac u K => ?_, trivial⟩ ?_
  · exact st_move (.tmp 0) rfl (K.t x0 rfl)
  · exact st_sub (.tmp 4) (.const (.int .i64 1)) rfl (n) 1 (n - 1) (K.dep 0 4 rfl) rfl (by omega) (by omega)
  · exact st_assign (.tmp 5) rfl (K.dep 1 5 rfl)
  intro f2 w2 A hb
  replace x0 := A.t x0 rfl
  have x3 := A.e 2 3 rfl rfl
  replace bl := bgo bl hb
  replace sd := A.sd sd
  clear A hb
  clear x0
  show Code.wp _ _ _ _ _
  refine wp_seq ?_
  refine wr_a [.eq (.int .i64 ((n - 1 : Nat) : Int)), .eq (.int .i64 (((n - 1) / 2 : Nat) : Int)), .eq (.int .i64 ((n - 1 : Nat) : Int)), .eq (.int .i64 (((n - 1) % 2 : Nat) : Int)), .eq (.int .i64 ((homN n : Nat) : Int)), .eq (.int .i64 ((homN n : Nat) : Int))] (by rw [sd.1]; kernel_rfl) ⟨fun hw ac u K => ?_, fun hw ac u K => ?_, fun hw ac u K => ?_, fun hw ac u K => ?_, fun hw ac u K => ?_, fun hw ac u K => ?_, trivial⟩ ?_
  · exact st_move (.tmp 3) rfl (K.t x3 rfl)
  · exact st_quo2w (.tmp 6) (.const (.int .i64 2)) rfl (n - 1) (by omega) (K.dep 0 6 rfl) rfl
  · exact st_move (.tmp 3) rfl (K.t x3 rfl)
  · exact st_rem2w (.tmp 8) (.const (.int .i64 2)) rfl (n - 1) (by omega) (K.dep 2 8 rfl) rfl
  · exact st_add (.tmp 7) (.tmp 9) rfl _ _ (homN n) (K.dep 1 7 rfl) (K.dep 3 9 rfl) rfl (by unfold homN; omega)
  · exact st_assign (.tmp 10) rfl (K.dep 4 10 rfl)
  intro f3 w3 A hb
  replace x3 := A.t x3 rfl
  have x2 := A.e 5 2 rfl rfl
  replace bl := bgo bl hb
  replace sd := A.sd sd
  clear A hb
  clear x3
  show Code.wp _ _ _ _ _
  refine wp_ret ?_
  repeat (first | with_reducible refine then_ret ?_ | with_reducible refine block_ret ?_)
  exact bodyPost_ret (v := .int .i64 ((homN n : Nat) : Int)) (ret_slot rfl f3 _ x2 _ _) sd.2 ⟨_, rfl, rfl, bl⟩
theorem fk_room {n z : Nat} (h1 : 1 ≤ n) (hn : n ≤ 100000) (w : World) :
    Calls Tryz.prog 24 #[.int .i64 (n : Int), .int .i64 (z : Int)] w fun e w' => ∃ u, e = .returned u ∧ (Fk.eq (.int .i64 ((roomN n z : Nat) : Int))).f u w' ∧ Below w.heap.size w w' := by
  have hhn : homN n ≤ n - 1 := by unfold homN; omega
  obtain ⟨j, hj⟩ : ∃ j, j = jouN n := ⟨_, rfl⟩
  have hj2 : j + homN n = n - 1 := by rw [hj]; unfold jouN; omega
  go_enter Tryz.func24, Tryz.ntmps24
  refine code_both (fun f w1 => f.tmps.size = 26 ∧ f.defers = [] ∧ f.eval (.tmp 0) = .int .i64 (n : Int) ∧ f.eval (.tmp 1) = .int .i64 (z : Int) ∧ Below w.heap.size w (w1)) ⟨rfl, rfl, rfl, rfl, Below.refl _ _⟩ ?_
  rintro f0 w0 ⟨sz, df, x0, x1, bl⟩
  have sd := And.intro sz df
  clear sz df
  have bl0 := bl
  refine wp_seq ?_
  refine wr_a [.eq (.int .i64 0)] (by rw [sd.1]; kernel_rfl) ⟨fun hw ac u K => ?_, trivial⟩ ?_
  · exact st_assign (.const (.int .i64 0)) rfl rfl
  intro f1 w1 A hb
  replace x0 := A.t x0 rfl
  replace x1 := A.t x1 rfl
  replace bl := bgo bl hb
  replace sd := A.sd sd
  clear A hb
  show Code.wp _ _ _ _ _
  refine wp_seq ?_
  refine wr_a [.eq (.int .i64 (n : Int)), .eq (.int .i64 ((n - 1 : Nat) : Int)), .eq (.int .i64 (n : Int)), .eq (.int .i64 ((homN n : Nat) : Int)), .eq (.int .i64 (j : Int)), .eq (.int .i64 (j : Int))] (by rw [sd.1]; kernel_rfl) ⟨fun hw ac u K => ?_, fun hw ac u K => ?_, fun hw ac u K => ?_, fun hw ac u K => ?_, fun hw ac u K => ?_, fun hw ac u K => ?_, trivial⟩ ?_
  · exact st_move (.tmp 0) rfl (K.t x0 rfl)
  · exact st_sub (.tmp 7) (.const (.int .i64 1)) rfl (n) 1 (n - 1) (K.dep 0 7 rfl) rfl (by omega) (by omega)
  · exact st_move (.tmp 0) rfl (K.t x0 rfl)
  · exact st_call 25 (.func 25) _ _ _ rfl rfl (one_arg (K.dep 2 9 rfl)) Tryz.enter25 (fk_home h1 hn _)
  · exact st_sub (.tmp 8) (.tmp 10) rfl (n - 1) (homN n) j (K.dep 1 8 rfl) (K.dep 3 10 rfl) (by omega) (by omega)
  · exact st_assign (.tmp 11) rfl (K.dep 4 11 rfl)
  intro f2 w2 A hb
  replace x0 := A.t x0 rfl
  replace x1 := A.t x1 rfl
  have x5 := A.e 5 5 rfl rfl
  replace bl := bgo bl hb
  replace sd := A.sd sd
  clear A hb
  clear x0
  show Code.wp _ _ _ _ _
  refine wp_seq ?_
  refine wr_a [.eq (.int .i64 0)] (by rw [sd.1]; kernel_rfl) ⟨fun hw ac u K => ?_, trivial⟩ ?_
  · exact st_assign (.const (.int .i64 0)) rfl rfl
  intro f3 w3 A hb
  replace x1 := A.t x1 rfl
  replace x5 := A.t x5 rfl
  have x6 := A.e 0 6 rfl rfl
  replace bl := bgo bl hb
  replace sd := A.sd sd
  clear A hb
  show Code.wp _ _ _ _ _
  refine wp_seq ?_
  refine wp_block ?_
  refine wp_loop (fun f v1 => ∃ k : Nat, k ≤ j ∧ (k = 0 ∨ 16 + 8 * k ≤ z) ∧ f.tmps.size = 26 ∧ f.defers = [] ∧ f.eval (.tmp 1) = .int .i64 (z : Int) ∧ f.eval (.tmp 5) = .int .i64 (j : Int) ∧ f.eval (.tmp 6) = .int .i64 (k : Int) ∧ Below w.heap.size w (v1)) (fun f _ => j - (intOf (f.eval (.tmp 6))).toNat) ⟨0, Nat.zero_le _, .inl rfl, sd.1, sd.2, x1, x5, x6, bl⟩ ?_
  intro f4 w4 hI
  clear sd bl bl0 x1 x5 x6
  obtain ⟨k, hk8, hk9, sz, df, x1, x5, x6, bl⟩ := hI
  have sd := And.intro sz df
  clear sz df
  have bl0 := bl
  have hcnt := x6
  refine wp_seq ?_
  refine wp_seq ?_
  have h3 : k = j ∨ (k < j ∧ 16 + 8 * (k + 1) ≤ z) ∨ (k < j ∧ ¬ 16 + 8 * (k + 1) ≤ z) := by omega
  rcases h3 with h3 | ⟨h3, h4⟩ | ⟨h3, h4⟩
  · skip
    have hkr : k = roomN n z := by unfold roomN; rw [← hj]; omega
    refine wr_a [.eq (.int .i64 (k : Int)), .eq (.int .i64 (j : Int)), .eq (.bool false), .eq (.bool false), .any, .any, .any, .any, .any, .any, .eq (.bool false)] (by rw [sd.1]; kernel_rfl) ⟨fun hw ac u K => ?_, fun hw ac u K => ?_, fun hw ac u K => ?_, fun hw ac u K => ?_, fun hw ac u K => ?_, fun hw ac u K => ?_, fun hw ac u K => ?_, fun hw ac u K => ?_, fun hw ac u K => ?_, fun hw ac u K => ?_, fun hw ac u K => ?_, trivial⟩ ?_
    · exact st_move (.tmp 6) rfl (K.t x6 rfl)
    · exact st_move (.tmp 5) rfl (K.t x5 rfl)
    · exact st_lss 3 (.tmp 12) (.tmp 13) rfl .i64 ((k : Int)) ((j : Int)) (K.dep 0 12 rfl) (K.dep 1 13 rfl) _ (by rw [eq_comm, decide_eq_false_iff_not]; omega)
    · exact st_move (.tmp 14) rfl (K.dep 2 14 rfl)
    · exact (Bool.false_ne_true hw).elim
    · exact (Bool.false_ne_true hw).elim
    · exact (Bool.false_ne_true hw).elim
    · exact (Bool.false_ne_true hw).elim
    · exact (Bool.false_ne_true hw).elim
    · exact (Bool.false_ne_true hw).elim
    · exact st_pick_f' (.tmp 15) (.tmp 21) (.const (.bool false)) rfl (K.dep 3 15 rfl) rfl
    intro f5 w5 A hb
    replace x1 := A.t x1 rfl
    replace x5 := A.t x5 rfl
    replace x6 := A.t x6 rfl
    have x22 := A.e 10 22 rfl rfl
    replace bl := bgo bl hb
    replace sd := A.sd sd
    clear A hb
    show Code.wp _ _ _ _ _
    refine wp_cond_false x22 ?_
    refine wp_exit ?_
    show Code.wp _ _ _ _ _
    refine wp_seq ?_
    refine wr_a [.eq (.int .i64 (k : Int)), .eq (.int .i64 (k : Int))] (by rw [sd.1]; kernel_rfl) ⟨fun hw ac u K => ?_, fun hw ac u K => ?_, trivial⟩ ?_
    · exact st_move (.tmp 6) rfl (K.t x6 rfl)
    · exact st_assign (.tmp 25) rfl (K.dep 0 25 rfl)
    intro f6 w6 A hb
    replace x1 := A.t x1 rfl
    replace x5 := A.t x5 rfl
    replace x6 := A.t x6 rfl
    replace x22 := A.t x22 rfl
    have x4 := A.e 1 4 rfl rfl
    replace bl := bgo bl hb
    replace sd := A.sd sd
    clear A hb
    clear x22
    show Code.wp _ _ _ _ _
    refine wp_ret ?_
    repeat (first | with_reducible refine then_ret ?_ | with_reducible refine block_ret ?_)
    exact bodyPost_ret (v := .int .i64 (k : Int)) (ret_slot rfl f6 _ x4 _ _) sd.2 ⟨_, rfl, by rw [← hkr]; rfl, bl⟩
  · skip
    refine wr_a [.eq (.int .i64 (k : Int)), .eq (.int .i64 (j : Int)), .eq (.bool true), .eq (.bool true), .eq (.int .i64 (k : Int)), .eq (.int .i64 ((k + 1 : Nat) : Int)), .eq (.int .i64 ((8 * (k + 1) : Nat) : Int)), .eq (.int .i64 ((16 + 8 * (k + 1) : Nat) : Int)), .eq (.int .i64 (z : Int)), .eq (.bool true), .eq (.bool true)] (by rw [sd.1]; kernel_rfl) ⟨fun hw ac u K => ?_, fun hw ac u K => ?_, fun hw ac u K => ?_, fun hw ac u K => ?_, fun hw ac u K => ?_, fun hw ac u K => ?_, fun hw ac u K => ?_, fun hw ac u K => ?_, fun hw ac u K => ?_, fun hw ac u K => ?_, fun hw ac u K => ?_, trivial⟩ ?_
    · exact st_move (.tmp 6) rfl (K.t x6 rfl)
    · exact st_move (.tmp 5) rfl (K.t x5 rfl)
    · exact st_lss 3 (.tmp 12) (.tmp 13) rfl .i64 ((k : Int)) ((j : Int)) (K.dep 0 12 rfl) (K.dep 1 13 rfl) _ (by rw [eq_comm, decide_eq_true_iff]; omega)
    · exact st_move (.tmp 14) rfl (K.dep 2 14 rfl)
    · exact st_move (.tmp 6) rfl (K.t x6 rfl)
    · exact st_add (.tmp 16) (.const (.int .i64 1)) rfl (k) 1 (k + 1) (K.dep 4 16 rfl) rfl rfl (by omega)
    · exact st_mul (.const (.int .i64 8)) (.tmp 17) rfl 8 (k + 1) (8 * (k + 1)) rfl (K.dep 5 17 rfl) rfl (by omega)
    · exact st_add (.const (.int .i64 16)) (.tmp 18) rfl 16 (8 * (k + 1)) (16 + 8 * (k + 1)) rfl (K.dep 6 18 rfl) rfl (by omega)
    · exact st_move (.tmp 1) rfl (K.t x1 rfl)
    · exact st_leq 3 (.tmp 19) (.tmp 20) rfl .i64 (((16 + 8 * (k + 1) : Nat) : Int)) ((z : Int)) (K.dep 7 19 rfl) (K.dep 8 20 rfl) _ (by rw [eq_comm, decide_eq_true_iff]; omega)
    · exact st_pick_t (.tmp 15) (.tmp 21) (.const (.bool false)) rfl (K.dep 3 15 rfl) (K.dep 9 21 rfl)
    intro f5 w5 A hb
    replace x1 := A.t x1 rfl
    replace x5 := A.t x5 rfl
    replace x6 := A.t x6 rfl
    have x22 := A.e 10 22 rfl rfl
    replace bl := bgo bl hb
    replace sd := A.sd sd
    clear A hb
    show Code.wp _ _ _ _ _
    refine wp_cond_true x22 ?_
    refine wp_skip ?_
    show Code.wp _ _ _ _ _
    refine wp_block ?_
    refine wr_s [.eq (.int .i64 (k : Int)), .eq (.int .i64 ((k + 1 : Nat) : Int))] (by rw [sd.1]; kernel_rfl) ⟨fun hw ac u K => ?_, fun hw ac u K => ?_, trivial⟩ ?_
    · exact st_move (.tmp 6) rfl (K.t x6 rfl)
    · exact st_add (.tmp 23) (.const (.int .i64 1)) rfl (k) 1 (k + 1) (K.dep 0 23 rfl) rfl rfl (by omega)
    intro f6 w6 A hb
    replace x1 := A.t x1 rfl
    replace x5 := A.t x5 rfl
    replace x6 := A.t x6 rfl
    replace x22 := A.t x22 rfl
    have x24 := A.e 1 24 rfl rfl
    replace bl := bgo bl hb
    replace sd := A.sd sd
    clear A hb
    clear x22
    refine wl_one (.eq (.int .i64 ((k + 1 : Nat) : Int))) rfl 6 rfl (by rw [sd.1]; decide) (st_assign (.tmp 24) rfl x24) ?_
    intro f7 w7 df2 sz2 old2 new2 hb
    replace x1 := tr old2 x1 rfl
    replace x5 := tr old2 x5 rfl
    clear x6
    replace x24 := tr old2 x24 rfl
    have x6 := Fk.e new2
    replace bl := bgo bl hb
    replace sd := sd2 sz2 df2 sd
    clear df2 sz2 old2 new2 hb
    refine wpList_nil ?_
    clear x24
    show (∃ _, _) ∧ _
    refine ⟨⟨k + 1, by omega, .inr (by omega), sd.1, sd.2, x1, x5, x6, bl⟩, ?_⟩
    rw [show f7.eval (.tmp 6) = _ from x6, show _ = _ from hcnt]
    first | (simp [intOf]; done) | (simp [intOf]; omega)
  have hkr : k = roomN n z := by unfold roomN; rw [← hj]; omega
  refine wr_a [.eq (.int .i64 (k : Int)), .eq (.int .i64 (j : Int)), .eq (.bool true), .eq (.bool true), .eq (.int .i64 (k : Int)), .eq (.int .i64 ((k + 1 : Nat) : Int)), .eq (.int .i64 ((8 * (k + 1) : Nat) : Int)), .eq (.int .i64 ((16 + 8 * (k + 1) : Nat) : Int)), .eq (.int .i64 (z : Int)), .eq (.bool false), .eq (.bool false)] (by rw [sd.1]; kernel_rfl) ⟨fun hw ac u K => ?_, fun hw ac u K => ?_, fun hw ac u K => ?_, fun hw ac u K => ?_, fun hw ac u K => ?_, fun hw ac u K => ?_, fun hw ac u K => ?_, fun hw ac u K => ?_, fun hw ac u K => ?_, fun hw ac u K => ?_, fun hw ac u K => ?_, trivial⟩ ?_
  · exact st_move (.tmp 6) rfl (K.t x6 rfl)
  · exact st_move (.tmp 5) rfl (K.t x5 rfl)
  · exact st_lss 3 (.tmp 12) (.tmp 13) rfl .i64 ((k : Int)) ((j : Int)) (K.dep 0 12 rfl) (K.dep 1 13 rfl) _ (by rw [eq_comm, decide_eq_true_iff]; omega)
  · exact st_move (.tmp 14) rfl (K.dep 2 14 rfl)
  · exact st_move (.tmp 6) rfl (K.t x6 rfl)
  · exact st_add (.tmp 16) (.const (.int .i64 1)) rfl (k) 1 (k + 1) (K.dep 4 16 rfl) rfl rfl (by omega)
  · exact st_mul (.const (.int .i64 8)) (.tmp 17) rfl 8 (k + 1) (8 * (k + 1)) rfl (K.dep 5 17 rfl) rfl (by omega)
  · exact st_add (.const (.int .i64 16)) (.tmp 18) rfl 16 (8 * (k + 1)) (16 + 8 * (k + 1)) rfl (K.dep 6 18 rfl) rfl (by omega)
  · exact st_move (.tmp 1) rfl (K.t x1 rfl)
  · exact st_leq 3 (.tmp 19) (.tmp 20) rfl .i64 (((16 + 8 * (k + 1) : Nat) : Int)) ((z : Int)) (K.dep 7 19 rfl) (K.dep 8 20 rfl) _ (by rw [eq_comm, decide_eq_false_iff_not]; omega)
  · exact st_pick_t (.tmp 15) (.tmp 21) (.const (.bool false)) rfl (K.dep 3 15 rfl) (K.dep 9 21 rfl)
  intro f5 w5 A hb
  replace x1 := A.t x1 rfl
  replace x5 := A.t x5 rfl
  replace x6 := A.t x6 rfl
  have x22 := A.e 10 22 rfl rfl
  replace bl := bgo bl hb
  replace sd := A.sd sd
  clear A hb
  show Code.wp _ _ _ _ _
  refine wp_cond_false x22 ?_
  refine wp_exit ?_
  show Code.wp _ _ _ _ _
  refine wp_seq ?_
  refine wr_a [.eq (.int .i64 (k : Int)), .eq (.int .i64 (k : Int))] (by rw [sd.1]; kernel_rfl) ⟨fun hw ac u K => ?_, fun hw ac u K => ?_, trivial⟩ ?_
  · exact st_move (.tmp 6) rfl (K.t x6 rfl)
  · exact st_assign (.tmp 25) rfl (K.dep 0 25 rfl)
  intro f6 w6 A hb
  replace x1 := A.t x1 rfl
  replace x5 := A.t x5 rfl
  replace x6 := A.t x6 rfl
  replace x22 := A.t x22 rfl
  have x4 := A.e 1 4 rfl rfl
  replace bl := bgo bl hb
  replace sd := A.sd sd
  clear A hb
  clear x22
  show Code.wp _ _ _ _ _
  refine wp_ret ?_
  repeat (first | with_reducible refine then_ret ?_ | with_reducible refine block_ret ?_)
  exact bodyPost_ret (v := .int .i64 (k : Int)) (ret_slot rfl f6 _ x4 _ _) sd.2 ⟨_, rfl, by rw [← hkr]; rfl, bl⟩
theorem fk_full64 (c : BitVec 8) (w : World) :
    Calls Tryz.prog 7 #[V c] w fun e w' => ∃ g, e = .returned (.slice (some ⟨g, 0, none⟩) 64 64) ∧ w.heap.size ≤ g ∧ Ob w' g 5 ((List.replicate 64 c).map V) ∧ Below w.heap.size w w' := by
  go_enter Tryz.func7, Tryz.ntmps7
  refine code_both (fun f w1 => f.tmps.size = 17 ∧ f.defers = [] ∧ f.eval (.tmp 0) = V c ∧ Below w.heap.size w (w1)) ⟨rfl, rfl, rfl, Below.refl _ _⟩ ?_
  rintro f0 w0 ⟨sz, df, x0, bl⟩
  have sd := And.intro sz df
  clear sz df
  have bl0 := bl
  refine wp_seq ?_
  refine wr_a [.eq (.slice none 0 0)] (by rw [sd.1]; kernel_rfl) ⟨fun hw ac u K => ?_, trivial⟩ ?_
  · exact st_assign (.const (.slice none 0 0)) rfl rfl
  intro f1 w1 A hb
  replace x0 := A.t x0 rfl
  replace bl := bgo bl hb
  replace sd := A.sd sd
  clear A hb
  show Code.wp _ _ _ _ _
  refine wp_seq ?_
  refine wr_s [] (by rw [sd.1]; kernel_rfl) trivial ?_
  intro f2 w2 A hb
  replace x0 := A.t x0 rfl
  replace bl := bgo bl hb
  replace sd := A.sd sd
  clear A hb
  refine wl_makeB rfl _ _ rfl 5 rfl (by rw [sd.1]; decide) 64 (by omega) rfl rfl ?_
  intro f3 w3 g df2 sz2 old2 x5 hgg mg hb
  replace x0 := tr old2 x0 rfl
  have hwg : w.heap.size ≤ g := Nat.le_trans bl.size hgg
  replace bl := bgo bl hb
  replace bl0 := bl
  replace sd := sd2 sz2 df2 sd
  clear df2 sz2 old2 hb
  refine wl_one (.eq (.slice (some ⟨g, 0, none⟩) 64 64)) rfl 3 rfl (by rw [sd.1]; decide) (st_assign (.tmp 5) rfl x5) ?_
  intro f4 w4 df2 sz2 old2 new2 hb
  replace x0 := tr old2 x0 rfl
  replace x5 := tr old2 x5 rfl
  have x3 := Fk.e new2
  replace mg := Ob.below mg hb
  replace bl := bgo bl hb
  replace sd := sd2 sz2 df2 sd
  clear df2 sz2 old2 new2 hb
  refine wpList_nil ?_
  clear x5
  show Code.wp _ _ _ _ _
  refine wp_seq ?_
  refine wp_seq ?_
  refine wr_a [.eq (.slice (some ⟨g, 0, none⟩) 64 64), .eq (.int .i64 ((64 : Nat) : Int)), .eq (.int .i64 0)] (by rw [sd.1]; kernel_rfl) ⟨fun hw ac u K => ?_, fun hw ac u K => ?_, fun hw ac u K => ?_, trivial⟩ ?_
  · exact st_move (.tmp 3) rfl (K.t x3 rfl)
  · exact st_lenB (.tmp 6) rfl (K.dep 0 6 rfl)
  · exact st_move (.const (.int .i64 0)) rfl rfl
  intro f5 w5 A hb
  replace x0 := A.t x0 rfl
  replace x3 := A.t x3 rfl
  have x7 := A.e 1 7 rfl rfl
  have x8 := A.e 2 8 rfl rfl
  replace mg := Ob.below mg hb
  replace bl := bgo bl hb
  replace sd := A.sd sd
  clear A hb
  show Code.wp _ _ _ _ _
  refine wp_block ?_
  refine wp_loop (fun f v1 => ∃ k : Nat, k ≤ 64 ∧ f.tmps.size = 17 ∧ f.defers = [] ∧ f.eval (.tmp 0) = V c ∧ f.eval (.tmp 3) = .slice (some ⟨g, 0, none⟩) 64 64 ∧ f.eval (.tmp 7) = .int .i64 ((64 : Nat) : Int) ∧ f.eval (.tmp 8) = .int .i64 (k : Int) ∧ Ob v1 g 5 ((fr64 c k).map V) ∧ Below w.heap.size w (v1)) (fun f _ => 64 - (intOf (f.eval (.tmp 8))).toNat) ⟨0, Nat.zero_le _, sd.1, sd.2, x0, x3, x7, x8, (by rw [fr64_zero]; exact mg), bl⟩ ?_
  intro f6 w6 hI
  clear sd bl bl0 x0 x3 x7 x8 mg
  obtain ⟨k, hk8, sz, df, x0, x3, x7, x8, mg, bl⟩ := hI
  have sd := And.intro sz df
  clear sz df
  have bl0 := bl
  have hcnt := x8
  refine wp_seq ?_
  by_cases hlt : k < 64
  rotate_left
  · skip
    refine wr_a [.eq (.bool false)] (by rw [sd.1]; kernel_rfl) ⟨fun hw ac u K => ?_, trivial⟩ ?_
    · exact st_lss 3 (.tmp 8) (.tmp 7) rfl .i64 ((k : Int)) (((64 : Nat) : Int)) (K.t x8 rfl) (K.t x7 rfl) _ (by rw [eq_comm, decide_eq_false_iff_not]; omega)
    intro f7 w7 A hb
    replace x0 := A.t x0 rfl
    replace x3 := A.t x3 rfl
    replace x7 := A.t x7 rfl
    replace x8 := A.t x8 rfl
    have x9 := A.e 0 9 rfl rfl
    replace mg := Ob.below mg hb
    replace bl := bgo bl hb
    replace sd := A.sd sd
    clear A hb
    show Code.wp _ _ _ _ _
    refine wp_seq ?_
    refine wp_cond_false x9 ?_
    refine wp_exit ?_
    show Code.wp _ _ _ _ _
    refine wp_seq ?_
    refine wr_a [.eq (.slice (some ⟨g, 0, none⟩) 64 64), .eq (.slice (some ⟨g, 0, none⟩) 64 64)] (by rw [sd.1]; kernel_rfl) ⟨fun hw ac u K => ?_, fun hw ac u K => ?_, trivial⟩ ?_
    · exact st_move (.tmp 3) rfl (K.t x3 rfl)
    · exact st_assign (.tmp 16) rfl (K.dep 0 16 rfl)
    intro f8 w8 A hb
    replace x0 := A.t x0 rfl
    replace x3 := A.t x3 rfl
    replace x7 := A.t x7 rfl
    replace x8 := A.t x8 rfl
    replace x9 := A.t x9 rfl
    have x2 := A.e 1 2 rfl rfl
    replace mg := Ob.below mg hb
    replace bl := bgo bl hb
    replace sd := A.sd sd
    clear A hb
    clear x9
    show Code.wp _ _ _ _ _
    refine wp_ret ?_
    repeat (first | with_reducible refine then_ret ?_ | with_reducible refine block_ret ?_)
    obtain rfl : k = 64 := by omega
    rw [fr64_all] at mg
    exact bodyPost_ret (v := .slice (some ⟨g, 0, none⟩) 64 64) (ret_slot rfl f8 _ x2 _ _) sd.2 ⟨g, rfl, hwg, mg, bl⟩
  refine wr_a [.eq (.bool true)] (by rw [sd.1]; kernel_rfl) ⟨fun hw ac u K => ?_, trivial⟩ ?_
  · exact st_lss 3 (.tmp 8) (.tmp 7) rfl .i64 ((k : Int)) (((64 : Nat) : Int)) (K.t x8 rfl) (K.t x7 rfl) _ (by rw [eq_comm, decide_eq_true_iff]; omega)
  intro f7 w7 A hb
  replace x0 := A.t x0 rfl
  replace x3 := A.t x3 rfl
  replace x7 := A.t x7 rfl
  replace x8 := A.t x8 rfl
  have x9 := A.e 0 9 rfl rfl
  replace mg := Ob.below mg hb
  replace bl := bgo bl hb
  replace sd := A.sd sd
  clear A hb
  show Code.wp _ _ _ _ _
  refine wp_seq ?_
  refine wp_cond_true x9 ?_
  refine wp_skip ?_
  show Code.wp _ _ _ _ _
  refine wp_seq ?_
  refine wp_block ?_
  refine wp_seq ?_
  refine wr_a [.eq (.int .i64 (k : Int)), .eq (.int .i64 (k : Int))] (by rw [sd.1]; kernel_rfl) ⟨fun hw ac u K => ?_, fun hw ac u K => ?_, trivial⟩ ?_
  · exact st_move (.tmp 8) rfl (K.t x8 rfl)
  · exact st_assign (.tmp 10) rfl (K.dep 0 10 rfl)
  intro f8 w8 A hb
  replace x0 := A.t x0 rfl
  replace x3 := A.t x3 rfl
  replace x7 := A.t x7 rfl
  replace x8 := A.t x8 rfl
  replace x9 := A.t x9 rfl
  have x4 := A.e 1 4 rfl rfl
  replace mg := Ob.below mg hb
  replace bl := bgo bl hb
  replace sd := A.sd sd
  clear A hb
  clear x9
  show Code.wp _ _ _ _ _
  refine wr_s [.eq (.slice (some ⟨g, 0, none⟩) 64 64), .eq (.int .i64 (k : Int)), .eq (V c), .eq (.pointer (some ⟨g, k, none⟩))] (by rw [sd.1]; kernel_rfl) ⟨fun hw ac u K => ?_, fun hw ac u K => ?_, fun hw ac u K => ?_, fun hw ac u K => ?_, trivial⟩ ?_
  · exact st_move (.tmp 3) rfl (K.t x3 rfl)
  · exact st_move (.tmp 4) rfl (K.t x4 rfl)
  · exact st_move (.tmp 0) rfl (K.t x0 rfl)
  · exact st_idxB (.tmp 11) (.tmp 12) rfl (K.dep 0 11 rfl) (k) (K.dep 1 12 rfl) (by omega)
  intro f9 w9 A hb
  replace x0 := A.t x0 rfl
  replace x3 := A.t x3 rfl
  replace x7 := A.t x7 rfl
  replace x8 := A.t x8 rfl
  replace x4 := A.t x4 rfl
  have x13 := A.e 2 13 rfl rfl
  have x14 := A.e 3 14 rfl rfl
  replace mg := Ob.below mg hb
  replace bl := bgo bl hb
  replace sd := A.sd sd
  clear A hb
  clear x4
  refine wl_stc 5 rfl (.tmp 14) (.tmp 13) rfl rfl (by kernel_rfl) g (k) (V (c)) x14 x13 rfl rfl (Ob.there mg (k) (by rw [List.length_map, fr64_len c hk8]; omega)) ?_
  replace mg : Ob (w9.setCell ⟨g, k, none⟩ (V (c))) g 5 ((fr64 c (k + 1)).map V) := by
    have := Ob.set mg (k) (V (c))
    rw [map_setV, fr64_set c hlt] at this
    exact this
  replace bl : Below w.heap.size w (w9.setCell ⟨g, k, none⟩ (V (c))) := bl.trans (below_setCell _ _ _ _ _ hwg)
  generalize w9.setCell ⟨g, k, none⟩ (V (c)) = w10b at bl mg ⊢
  replace bl0 := bl
  refine wpList_nil ?_
  clear x13
  clear x14
  show Code.wp _ _ _ _ _
  refine wr_s [.eq (.int .i64 ((k + 1 : Nat) : Int))] (by rw [sd.1]; kernel_rfl) ⟨fun hw ac u K => ?_, trivial⟩ ?_
  · exact st_add (.tmp 8) (.const (.int .i64 1)) rfl (k) (1) (k + 1) (K.t x8 rfl) rfl (by omega) (by omega)
  intro f11 w11 A hb
  replace x0 := A.t x0 rfl
  replace x3 := A.t x3 rfl
  replace x7 := A.t x7 rfl
  replace x8 := A.t x8 rfl
  have x15 := A.e 0 15 rfl rfl
  replace mg := Ob.below mg hb
  replace bl := bgo bl hb
  replace sd := A.sd sd
  clear A hb
  refine wl_one (.eq (.int .i64 ((k + 1 : Nat) : Int))) rfl 8 rfl (by rw [sd.1]; decide) (st_move (.tmp 15) rfl x15) ?_
  intro f12 w12 df2 sz2 old2 new2 hb
  replace x0 := tr old2 x0 rfl
  replace x3 := tr old2 x3 rfl
  replace x7 := tr old2 x7 rfl
  clear x8
  replace x15 := tr old2 x15 rfl
  have x8 := Fk.e new2
  replace mg := Ob.below mg hb
  replace bl := bgo bl hb
  replace sd := sd2 sz2 df2 sd
  clear df2 sz2 old2 new2 hb
  refine wpList_nil ?_
  clear x15
  show (∃ _, _) ∧ _
  refine ⟨⟨k + 1, by omega, sd.1, sd.2, x0, x3, x7, x8, mg, bl⟩, ?_⟩
  rw [show f12.eval (.tmp 8) = _ from x8, show _ = _ from hcnt]
  first | (simp [intOf]; done) | (simp [intOf]; omega)
end Go.Proofs.YtakdpkoigijonaaGreat
namespace Go.Proofs.YtakdpkoigijonaaGreat
set_option maxRecDepth 100000
open Go.RowKit
open Go.ChangeShapes Go.WideShapes Go.ChangeAt
theorem take_one12 {α : Type} {l : List α} {k : Nat} {x : α} (h : l[k]? = some x) : l.take (k + 1) = l.take k ++ [x] := by rw [List.take_add_one, h]; rfl
/-- A kind of struct: its cells, and what holds of what they name. -/
structure Rec (α : Type) where
  n : Nat
  pos : 0 < n
  cells : α → List Value
  len : ∀ o, (cells o).length = n
  ok : α → World → Prop
  below : ∀ o w w', ok o w → Below w.heap.size w w' → ok o w'
/-- A slice that holds these structs. -/
def Fk.sr {α : Type} (R : Rec α) (l : List α) : Fk := .inr (.inl ⟨fun v w => ∃ A C lb lo, v = .slice A l.length C ∧ l.length ≤ C ∧ (0 < l.length → A = some ⟨lb, lo, none⟩) ∧ ∀ (i : Nat) (o : α), l[i]? = some o → R.ok o w ∧ ∀ (j : Nat) (u : Value), (R.cells o)[j]? = some u → w.cell? ⟨lb, lo + i * R.n + j, none⟩ = some u, by
  rintro v w w' ⟨A, C, lb, lo, e, hC, h1, h2⟩ hb
  exact ⟨A, C, lb, lo, e, hC, h1, fun i o hi => ⟨R.below _ _ _ (h2 i o hi).1 hb, fun j u hj => by have := (h2 i o hi).2 j u hj; rw [hb.cell (block_lt_of_cell this)]; exact this⟩⟩⟩)
/-- Where a struct lies. -/
def Fk.sq {α : Type} (R : Rec α) (o : α) : Fk := .inr (.inl ⟨fun v w => ∃ b i, v = .pointer (some ⟨b, i, none⟩) ∧ ∀ (j : Nat) (u : Value), (R.cells o)[j]? = some u → w.cell? ⟨b, i + j, none⟩ = some u, by
  rintro v w w' ⟨b, i, e, h⟩ hb
  exact ⟨b, i, e, fun j u hj => by have := h j u hj; rw [hb.cell (block_lt_of_cell this)]; exact this⟩⟩)
theorem sr_ok {α : Type} {R : Rec α} {l : List α} {v : Value} {w : World} (h : (Fk.sr R l).f v w) {i : Nat} {o : α} (hi : l[i]? = some o) : R.ok o w := by
  obtain ⟨_, _, _, _, _, _, _, h2⟩ := h
  exact (h2 i o hi).1
theorem sr_nil {α : Type} (R : Rec α) (w : World) : (Fk.sr R []).f (.slice none 0 0) w := ⟨none, 0, 0, 0, rfl, Nat.le_refl _, fun h => absurd h (by simp), fun i o hi => by simp at hi⟩
section
variable {H : Type} {enc : TypeId × Value → H} {W : World}
end
/-- A change that came in. -/
structure Cng where
  p : Int
  bs : List (BitVec 8)
  ab : Option Addr
  nb : Nat
  cb : Nat
def Cng.vb (o : Cng) : Value := .slice o.ab o.nb o.cb
def Cng.cells (o : Cng) : List Value := [.int .i64 o.p, o.vb]
def RC : Rec Cng := ⟨2, by decide, Cng.cells, fun _ => rfl, fun o W => (Fk.sl o.bs).f o.vb W ∧ -9223372036854775808 ≤ o.p ∧ o.p ≤ 9223372036854775807, fun o w w' h hb => ⟨Fk.mono _ _ _ _ h.1 hb, h.2⟩⟩
/-- A call that came in. -/
structure Op12 where
  k : Int
  n : Int
  cs : List Cng
  ls : List Int
  ac : Option Addr
  cc : Nat
  al : Option Addr
  cl : Nat
def Op12.vc (o : Op12) : Value := .slice o.ac o.cs.length o.cc
def Op12.vl (o : Op12) : Value := .slice o.al o.ls.length o.cl
def Op12.cells (o : Op12) : List Value := [.int .i64 o.k, .int .i64 o.n, o.vc, o.vl]
theorem underCL12 : Tryz.prog.underlying 74 = some (.slice 55) := by kernel_rfl
section
variable {H : Type} {enc : TypeId × Value → H} {W : World}
end
section
variable {Q : Exit → Act → World → Prop} {o : Oper} {a : Act} {w : World}
theorem st_lensc (x : Operand) (ho : o.op = .call { callee := .builtin .len, args := #[x], argTypes := #[74] }) {l : List Cng} (h : (Fk.sr RC l).f (a.eval x) w) : o.wp Tryz.prog a w (Ends a o.dst w (Fk.eq (.int .i64 (l.length : Int))).f) Q := by
  obtain ⟨A, C, lb, lo, e, _, _⟩ := h
  refine st_pure (v := .int .i64 (l.length : Int)) ?_ rfl
  have h1 := run_len_slice (P := Tryz.prog) (w := w) 74 o.type A l.length C (by rw [show Tryz.prog.elem 74 = 55 by kernel_rfl]; kernel_rfl)
  unfold execOp
  simp [ho, resolve, invoke, builtin, e, h1, goInt]
theorem st_idxsc (x y : Operand) (ho : o.op = .indexAddr 74 x y) {l : List Cng} (h : (Fk.sr RC l).f (a.eval x) w) (i : Nat) (q : Cng) (hy : a.eval y = .int .i64 (i : Int)) (hq : l[i]? = some q) : o.wp Tryz.prog a w (Ends a o.dst w (Fk.sq RC q).f) Q := by
  obtain ⟨A, C, lb, lo, e, _, hp, h2⟩ := h
  have hi := (List.getElem?_eq_some_iff.1 hq).1
  obtain rfl := hp (by omega)
  refine st_pure (v := .pointer (some ⟨lb, lo + i * 2, none⟩)) ?_ ⟨lb, lo + i * 2, rfl, (h2 i q hq).2⟩
  have h1 := run_indexAt_slice (P := Tryz.prog) (w := w) 74 ⟨lb, lo, none⟩ l.length C .i64 (i : Int) (by rw [show Tryz.prog.elem 74 = 55 by kernel_rfl]; kernel_rfl)
  rw [if_pos (by omega), show Tryz.prog.elem 74 = 55 by kernel_rfl, show (sizeOf 55).run Tryz.prog w = .ok 2 w by kernel_rfl] at h1
  simp only [Result.andThen_ok, Int.toNat_natCast, Addr.add_mid] at h1
  unfold execOp
  rw [ho]
  simp [e, hy, h1]
theorem st_loadsc (x : Operand) (ho : o.op = .load 55 x) {q : Cng} (h : (Fk.sq RC q).f (a.eval x) w) : o.wp Tryz.prog a w (Ends a o.dst w (Fk.eq (.agg (Cng.cells q).toArray)).f) Q := by
  obtain ⟨b, i, e, h⟩ := h
  exact st_loadz 55 x ho b i (Cng.cells q) (by kernel_rfl) (by kernel_rfl) e (fun j v hj => h j v hj)
end
end Go.Proofs.YtakdpkoigijonaaGreat
namespace Go.Proofs.YtakdpkoigijonaaGreat
set_option maxRecDepth 100000
open Go.RowKit
/-- A list of calls that the laws go through. -/
def smallW (l : List Op12) (n : Int) : Prop := (∀ o ∈ l, (o.cs.length ≤ 20 ∧ o.ls.length ≤ 40) ∧ ∀ c ∈ o.cs, c.bs.length ≤ 200) ∧ (l.length : Int) ≤ n
instance (l : List Op12) (n : Int) : Decidable (smallW l n) := by unfold smallW; infer_instance
end Go.Proofs.YtakdpkoigijonaaGreat
