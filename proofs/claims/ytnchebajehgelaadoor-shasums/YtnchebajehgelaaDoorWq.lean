/- What the law on copies of digests answers at values in memory: true. -/
import Derived.Test.YtnchebajehgelaaDoorWp
import Derived.Test.YtnchebajehgelaaDoorPp
namespace Go.Proofs.YtnchebajehgelaaDoor
open Go.RowKit
set_option maxHeartbeats 400000 in
theorem copies_big (s1 s2 s3 : Option Addr) (n1 c1 n2 c2 n3 c3 : Nat) (w : World) (h : 500 < n1 ∨ 500 < n2 ∨ 500 < n3) (hK : HasK w 0) (h0 : 0 < w.heap.size) (hm1 : n1 ≤ maxLen) (hm2 : n2 ≤ maxLen) (hm3 : n3 ≤ maxLen) :
    Calls Tryd.prog 5 #[.slice s1 n1 c1, .slice s2 n2 c2, .slice s3 n3 c3] w fun e w' => e = .returned (.bool true) ∧ Below w.heap.size w w' := by
  unfold maxLen at hm1 hm2 hm3
  have ha := awake_any w hK h0
  have ha' := hide ha
  clear ha
  by_cases h1 : 500 < n1
  · clear h
    go_enter Tryd.func5, Tryd.ntmps5
    go_wp2_with fail
    refine ha'.out.mono ?_
    rintro e w6 ⟨rfl, hb8⟩
    go_wp2
    go_ret
    exact ⟨rfl, hb8⟩
  · by_cases h2 : 500 < n2
    · clear h
      go_enter Tryd.func5, Tryd.ntmps5
      go_wp2_with fail
      refine ha'.out.mono ?_
      rintro e w6 ⟨rfl, hb8⟩
      go_wp2
      go_ret
      exact ⟨rfl, hb8⟩
    · have h3 : 500 < n3 := by omega
      clear h
      go_enter Tryd.func5, Tryd.ntmps5
      go_wp2_with fail
      refine ha'.out.mono ?_
      rintro e w6 ⟨rfl, hb8⟩
      go_wp2
      go_ret
      exact ⟨rfl, hb8⟩
theorem cp_own {w : World} {base n : Nat} {v : Value} {xs : List (BitVec 8)} (h : w.ownsRow base 5 1 v (0 + n) (([] ++ xs).map V)) : Box (w.ownsRow base 5 1 v n (xs.map V)) := ⟨by
  rw [Nat.zero_add, List.nil_append] at h; exact h⟩
theorem cp_belA {w w' : World} {n c : Nat} {o : Obj} (h : (w.alloc o).grownBy w' (Value.ownBlock (.slice (some ⟨w.heap.size, 0, none⟩) n c))) : Below w.heap.size w w' :=
  ((Below.refl w.heap.size w).alloc (Nat.le_refl _) o).grown h (by simp) (fun k e => by simp only [Value.ownBlock, Option.some.injEq] at e; omega)
theorem cp_belB {B : Nat} {a w w' : World} {base n : Nat} {v : Value} {xs : List Value} (hb : Below B a w) (ho : w.ownsRow base 5 1 v n xs) (h : w.grownBy w' v.ownBlock) (hB : B ≤ base := by first | exact Nat.le_refl _ | omega) (hz : B ≤ w.heap.size := by first | exact hb.size | omega) : Below B a w' :=
  hb.grown h hz (fun k e => by have := ho.lt k e; omega)
theorem cp_kept {w w' : World} {base n : Nat} {v : Value} {xs : List Value} {m c : Nat} {o : Obj} (ho : w.ownsRow base 5 1 v n xs) (h : (w.alloc o).grownBy w' (Value.ownBlock (.slice (some ⟨w.heap.size, 0, none⟩) m c))) : Box (w'.ownsRow base 5 1 v n xs) :=
  ⟨(ho.alloc o).kept h (.inr (fun e => by
    have := ho.lt w.heap.size (by rw [e]; rfl)
    omega))⟩
theorem cp_kept2 {w w' : World} {base base2 n n2 : Nat} {v v3 : Value} {xs xs2 : List Value} (ho : w.ownsRow base 5 1 v n xs) (hlt : ∀ k, v.ownBlock = some k → base ≤ k ∧ k < base2) (h3 : w.ownsRow base2 5 1 v3 n2 xs2) (h : w.grownBy w' v3.ownBlock) : Box (w'.ownsRow base 5 1 v n xs) :=
  ⟨ho.kept h (by
    cases hv : v.ownBlock with
    | none => exact .inl rfl
    | some k =>
      refine .inr (fun e => ?_)
      have h1 := hlt k hv
      have h2 := h3.lt k e.symm
      omega)⟩
set_option maxHeartbeats 400000 in
theorem copies_any (s1 s2 s3 : Option Addr) (n1 c1 n2 c2 n3 c3 : Nat) (xs ys zs : List (BitVec 8)) (b1 o1 b2 o2 b3 o3 : Nat) (w : World) (hs1 : Sl w s1 n1 c1 xs b1 o1) (hs2 : Sl w s2 n2 c2 ys b2 o2) (hs3 : Sl w s3 n3 c3 zs b3 o3) (h1 : n1 ≤ 500) (h2 : n2 ≤ 500) (h3 : n3 ≤ 500) (hK : HasK w 0) (h0 : 0 < w.heap.size) :
    Calls Tryd.prog 5 #[.slice s1 n1 c1, .slice s2 n2 c2, .slice s3 n3 c3] w fun e w' => e = .returned (.bool true) ∧ Below w.heap.size w w' := by
  have S1 : Box (Sl w s1 n1 c1 xs b1 o1) := ⟨hs1⟩
  have S2 : Box (Sl w s2 n2 c2 ys b2 o2) := ⟨hs2⟩
  have S3 : Box (Sl w s3 n3 c3 zs b3 o3) := ⟨hs3⟩
  have L1 : Box (n1 = xs.length) := ⟨hs1.len⟩
  have L2 : Box (n2 = ys.length) := ⟨hs2.len⟩
  have L3 : Box (n3 = zs.length) := ⟨hs3.len⟩
  have B1 : Box (0 < n1 → b1 < w.heap.size) := ⟨fun h => (hs1.src h).2.1⟩
  have B2 : Box (0 < n2 → b2 < w.heap.size) := ⟨fun h => (hs2.src h).2.1⟩
  have B3 : Box (0 < n3 → b3 < w.heap.size) := ⟨fun h => (hs3.src h).2.1⟩
  clear hs1 hs2 hs3
  go_enter Tryd.func5, Tryd.ntmps5
  go_wp2_with fail
  refine (new_m w).mono ?_
  rintro e w1 ⟨db, rfl, hdb, hM1, hb1⟩
  have z1 := hM1.lt
  have K1 : HasK w1 0 := hK.below hb1 h0
  have T1 : Box (Sl w1 s1 n1 c1 xs b1 o1) := ⟨S1.out.below hb1 B1.out⟩
  have T2 : Box (Sl w1 s2 n2 c2 ys b2 o2) := ⟨S2.out.below hb1 B2.out⟩
  have T3 : Box (Sl w1 s3 n3 c3 zs b3 o3) := ⟨S3.out.below hb1 B3.out⟩
  clear S1 S2 S3 hK
  go_wp2_with fail
  refine (write_m db b1 o1 s1 n1 c1 xs [] w1 hM1 (T1.out.toSrc (fun h => by have := B1.out h; omega)) (by simp; omega) K1 (by omega) (by omega)).mono ?_
  rintro e w2 ⟨rfl, hM2, hO2⟩
  rw [List.nil_append] at hM2
  have z2 := hO2.size
  have K2 : HasK w2 0 := K1.only hO2 (by omega) (by omega)
  have U1 : Box (Sl w2 s1 n1 c1 xs b1 o1) := ⟨T1.out.only hO2 (fun h => by have := B1.out h; omega)⟩
  have U2 : Box (Sl w2 s2 n2 c2 ys b2 o2) := ⟨T2.out.only hO2 (fun h => by have := B2.out h; omega)⟩
  have U3 : Box (Sl w2 s3 n3 c3 zs b3 o3) := ⟨T3.out.only hO2 (fun h => by have := B3.out h; omega)⟩
  have hb2 : Below w.heap.size w w2 := hb1.trans (hO2.below _ hdb hb1.size)
  clear T1 T2 T3 K1 hM1 hO2 hb1
  go_wp2_with fail
  refine (copy_m db xs w2 hM2).mono ?_
  rintro e w3 ⟨rfl, hN3, hb3⟩
  have z3 := hN3.lt
  have M3 : HasM w3 db xs := hM2.below hb3
  have K3 : HasK w3 0 := K2.below hb3 (by omega)
  have T1 : Box (Sl w3 s1 n1 c1 xs b1 o1) := ⟨U1.out.below hb3 (fun h => by have := B1.out h; omega)⟩
  have T2 : Box (Sl w3 s2 n2 c2 ys b2 o2) := ⟨U2.out.below hb3 (fun h => by have := B2.out h; omega)⟩
  have T3 : Box (Sl w3 s3 n3 c3 zs b3 o3) := ⟨U3.out.below hb3 (fun h => by have := B3.out h; omega)⟩
  have hb4 : Below w.heap.size w w3 := hb2.trans (hb3.mono hb2.size)
  have zz : db < w2.heap.size := hM2.lt
  clear U1 U2 U3 K2 hM2 hb3 hb2
  generalize w2.heap.size = ob at hN3 z3 zz z2 ⊢
  go_wp2_with fail
  refine (write_m db b2 o2 s2 n2 c2 ys xs w3 M3 (T2.out.toSrc (fun h => by have := B2.out h; omega)) (by rw [← L1.out]; omega) K3 (by omega) (by omega)).mono ?_
  rintro e w4 ⟨rfl, hM4, hO4⟩
  have z4 := hO4.size
  have N4 : HasM w4 ob xs := hN3.only hO4 (by omega)
  have K4 : HasK w4 0 := K3.only hO4 (by omega) (by omega)
  have U1 : Box (Sl w4 s1 n1 c1 xs b1 o1) := ⟨T1.out.only hO4 (fun h => by have := B1.out h; omega)⟩
  have U2 : Box (Sl w4 s2 n2 c2 ys b2 o2) := ⟨T2.out.only hO4 (fun h => by have := B2.out h; omega)⟩
  have U3 : Box (Sl w4 s3 n3 c3 zs b3 o3) := ⟨T3.out.only hO4 (fun h => by have := B3.out h; omega)⟩
  have hb5 : Below w.heap.size w w4 := hb4.trans (hO4.below _ hdb hb4.size)
  clear T1 T2 T3 K3 M3 hN3 hO4 hb4
  go_wp2_with fail
  refine (write_m ob b3 o3 s3 n3 c3 zs xs w4 N4 (U3.out.toSrc (fun h => by have := B3.out h; omega)) (by rw [← L1.out]; omega) K4 (by omega) (by omega)).mono ?_
  rintro e w5 ⟨rfl, hN5, hO5⟩
  have z5 := hO5.size
  have M5 : HasM w5 db (xs ++ ys) := hM4.only hO5 (by omega)
  have K5 : HasK w5 0 := K4.only hO5 (by omega) (by omega)
  have T1 : Box (Sl w5 s1 n1 c1 xs b1 o1) := ⟨U1.out.only hO5 (fun h => by have := B1.out h; omega)⟩
  have T2 : Box (Sl w5 s2 n2 c2 ys b2 o2) := ⟨U2.out.only hO5 (fun h => by have := B2.out h; omega)⟩
  have T3 : Box (Sl w5 s3 n3 c3 zs b3 o3) := ⟨U3.out.only hO5 (fun h => by have := B3.out h; omega)⟩
  have hb6 : Below w.heap.size w w5 := hb5.trans (hO5.below _ (by omega) hb5.size)
  clear U1 U2 U3 K4 N4 hM4 hO5 hb5
  go_upto_region 12 with fail
  have TA : Box (∀ o, Sl (w5.alloc o) s1 n1 c1 xs b1 o1) := ⟨fun o => T1.out.below ((Below.refl w5.heap.size w5).alloc (Nat.le_refl _) o) (fun h => by have := B1.out h; omega)⟩
  have hy : w.heap.size ≤ w5.heap.size := hb6.size
  go_wp2_with (first
    | (at_builtin; refine append22 rfl (.tmp 41) (.tmp 42) rfl w5.heap.size _ 0 [] rfl (own_empty w5 _ (Nat.le_refl _)) s1 n1 c1 xs b1 o1 rfl (TA.out _) (by omega) (by simp) ?_; intro v1 wA ownA grA; have ownA' := cp_own ownA; have bA := cp_belA grA; have TB : Box (Sl wA s2 n2 c2 ys b2 o2) := ⟨T2.out.below bA (fun h => by have := B2.out h; omega)⟩; have hzA := bA.size; clear ownA grA)
    | (at_builtin; refine append22 rfl (.tmp 43) (.tmp 44) rfl w5.heap.size v1 n1 xs rfl ownA'.out s2 n2 c2 ys b2 o2 rfl TB.out (by omega) hzA ?_; intro v2 wB ownB grB; have bB := cp_belB bA ownA'.out grB; have ownB' : Box (wB.ownsRow w5.heap.size 5 1 v2 (n1 + n2) ((xs ++ ys).map V)) := ⟨ownB⟩; have hzB := bB.size; have TC : Box (∀ o, Sl (wB.alloc o) s1 n1 c1 xs b1 o1) := ⟨fun o => T1.out.below (bB.alloc hzB o) (fun h => by have := B1.out h; omega)⟩; clear ownB grB bA ownA' TB)
    | (at_builtin; refine append22 rfl (.tmp 46) (.tmp 47) rfl wB.heap.size _ 0 [] rfl (own_empty wB _ (Nat.le_refl _)) s1 n1 c1 xs b1 o1 rfl (TC.out _) (by omega) (by simp) ?_; intro v3 wC ownC grC; have ownC' := cp_own ownC; have bC := cp_belA grC; have ownB2 := cp_kept ownB'.out grC; have hzC := bC.size; have TD : Box (Sl wC s3 n3 c3 zs b3 o3) := ⟨T3.out.below (bB.trans (bC.mono hzB)) (fun h => by have := B3.out h; omega)⟩; clear ownC grC TC)
    | (at_builtin; refine append22 rfl (.tmp 48) (.tmp 49) rfl wB.heap.size v3 n1 xs rfl ownC'.out s3 n3 c3 zs b3 o3 rfl TD.out (by omega) hzC ?_; intro v4 wD ownD grD; have bD := cp_belB bC ownC'.out grD; have ownD' : Box (wD.ownsRow wB.heap.size 5 1 v4 (n1 + n3) ((xs ++ zs).map V)) := ⟨ownD⟩; have ownB3 := cp_kept2 ownB2.out (ownB'.out.lt) ownC'.out grD; clear ownD grD ownC' TD ownB2))
  have bW : Below w5.heap.size w5 wD := bB.trans (bD.mono hzB)
  have M6 : HasM wD db (xs ++ ys) := M5.belowB bW M5.lt
  have N6 : HasM wD ob (xs ++ zs) := hN5.belowB bW hN5.lt
  have K6 : HasK wD 0 := K5.below bW (by omega)
  have hbD : Below w.heap.size w wD := hb6.trans (bW.mono hb6.size)
  have zD : 0 < wD.heap.size := by have := hbD.size; omega
  obtain ⟨g2, sp2, cc2, ev2, S2, -⟩ := own_slice ownB3.out
  obtain ⟨g4, sp4, cc4, ev4, S4, -⟩ := own_slice ownD'.out
  rw [ev2, ev4]
  have S2' : Box (Sl wD sp2 (n1 + n2) cc2 (xs ++ ys) g2 0) := ⟨S2⟩
  have S4' : Box (Sl wD sp4 (n1 + n3) cc4 (xs ++ zs) g4 0) := ⟨S4⟩
  have l2 : Box ((xs ++ ys).length = n1 + n2) := ⟨S2.len.symm⟩
  have l4 : Box ((xs ++ zs).length = n1 + n3) := ⟨S4.len.symm⟩
  clear ev2 ev4 S2 S4 ownB3 ownD' bD bB bC ownB' M5 hN5 K5 hb6 bW T1 T2 T3 TA L1 L2 L3
  generalize xs ++ ys = ms at M6 S2' l2
  generalize xs ++ zs = ns at N6 S4' l4
  refine (dsum_m db ms wD M6 (by rw [l2.out]; omega) K6 zD).mono ?_
  rintro e w6 ⟨rfl, hb7⟩
  have N7 : HasM w6 ob ns := N6.below hb7
  have K7 : HasK w6 0 := K6.below hb7 zD
  have z7 := hb7.size
  have hbE : Below w.heap.size w w6 := hbD.trans (hb7.mono hbD.size)
  have Q2 : Box (Sl w6 sp2 (n1 + n2) cc2 ms g2 0) := ⟨S2'.out.below hb7 (fun h => (S2'.out.src h).2.1)⟩
  have Q4 : Box (Sl w6 sp4 (n1 + n3) cc4 ns g4 0) := ⟨S4'.out.below hb7 (fun h => (S4'.out.src h).2.1)⟩
  clear M6 N6 K6 S2' S4' hb7 hbD
  go_wp2_with fail
  refine (sum_any g2 0 sp2 (n1 + n2) cc2 ms w6 l2.out.symm Q2.out.cap Q2.out.src (by omega) K7 (by omega)).mono ?_
  rintro e w7 ⟨rfl, hb8⟩
  have N8 : HasM w7 ob ns := N7.below hb8
  have K8 : HasK w7 0 := K7.below hb8 (by omega)
  have z8 := hb8.size
  have hbF : Below w.heap.size w w7 := hbE.trans (hb8.mono hbE.size)
  have R4 : Box (Sl w7 sp4 (n1 + n3) cc4 ns g4 0) := ⟨Q4.out.below hb8 (fun h => (Q4.out.src h).2.1)⟩
  have heq := fun w => run_equal25_same w (shaOf ms) (shaOf_len ms)
  clear N7 K7 Q2 Q4 hb8 hbE
  generalize shaOf ms = hm at heq
  go_wp2_with fail
  refine (dsum_m ob ns w7 N8 (by rw [l4.out]; omega) K8 (by omega)).mono ?_
  rintro e w8 ⟨rfl, hb9⟩
  have N9 : HasM w8 ob ns := N8.below hb9
  have K9 : HasK w8 0 := K8.below hb9 (by omega)
  have z9 := hb9.size
  have hbG : Below w.heap.size w w8 := hbF.trans (hb9.mono hbF.size)
  have P4 : Box (Sl w8 sp4 (n1 + n3) cc4 ns g4 0) := ⟨R4.out.below hb9 (fun h => (R4.out.src h).2.1)⟩
  clear N8 K8 R4 hb9 hbF heq
  go_wp2_with fail
  refine (sum_any g4 0 sp4 (n1 + n3) cc4 ns w8 l4.out.symm P4.out.cap P4.out.src (by omega) K9 (by omega)).mono ?_
  rintro e w9 ⟨rfl, hb10⟩
  have NA : HasM w9 ob ns := N9.below hb10
  have KA : HasK w9 0 := K9.below hb10 (by omega)
  have z10 := hb10.size
  have hbH : Below w.heap.size w w9 := hbG.trans (hb10.mono hbG.size)
  have heq2 := fun w => run_equal25_same w (shaOf ns) (shaOf_len ns)
  clear N9 K9 P4 hb10 hbG
  generalize shaOf ns = hn at heq2
  go_wp2_with fail
  refine (len_m ob ns w9 NA).mono ?_
  rintro e w10 ⟨rfl, rfl⟩
  rw [l4.out]
  clear heq2
  go_wp2_with fail
  refine (awake_any w10 KA (by omega)).mono ?_
  rintro e w11 ⟨rfl, hb11⟩
  have hbI : Below w.heap.size w w11 := hbH.trans (hb11.mono hbH.size)
  clear hb11 hbH NA KA
  go_wp2
  go_ret
  exact ⟨rfl, hbI⟩
theorem copies_all (s1 s2 s3 : Option Addr) (n1 c1 n2 c2 n3 c3 : Nat) (xs ys zs : List (BitVec 8)) (b1 o1 b2 o2 b3 o3 : Nat) (w : World) (hs1 : Sl w s1 n1 c1 xs b1 o1) (hs2 : Sl w s2 n2 c2 ys b2 o2) (hs3 : Sl w s3 n3 c3 zs b3 o3) (hK : HasK w 0) (h0 : 0 < w.heap.size) (hm1 : n1 ≤ maxLen) (hm2 : n2 ≤ maxLen) (hm3 : n3 ≤ maxLen) :
    Calls Tryd.prog 5 #[.slice s1 n1 c1, .slice s2 n2 c2, .slice s3 n3 c3] w fun e w' => e = .returned (.bool true) ∧ Below w.heap.size w w' := by
  by_cases h : 500 < n1 ∨ 500 < n2 ∨ 500 < n3
  · exact copies_big s1 s2 s3 n1 c1 n2 c2 n3 c3 w h hK h0 hm1 hm2 hm3
  · exact copies_any s1 s2 s3 n1 c1 n2 c2 n3 c3 xs ys zs b1 o1 b2 o2 b3 o3 w hs1 hs2 hs3 (by omega) (by omega) (by omega) hK h0
end Go.Proofs.YtnchebajehgelaaDoor
