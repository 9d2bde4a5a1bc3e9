/- What Write makes of a digest in memory: just what the plain function on digests says; no other block turns. -/
import Derived.Test.YtfhhlkbcoofemaaDoorWd
import Derived.Deep.DeepCutAuto
import Derived.Deep.RegionWith
namespace Go.Proofs.YtfhhlkbcoofemaaDoor
open Go.RowKit
theorem Tryd.under47 : Tryd.prog.underlying 47 = some (.slice 5) := by kernel_rfl
theorem Tryd.size5 : (Tryd.prog.info? 5).map (·.size) = some 1 := by kernel_rfl
/-- A slice value that holds the bytes bs (where there are any). -/
def Src (w : World) (db : Nat) (ab ao : Nat) (a : Option Addr) (n c : Nat) (bs : List (BitVec 8)) : Prop :=
  n = bs.length ∧ n ≤ c ∧ (0 < n → a = some ⟨ab, ao, none⟩ ∧ ab < w.heap.size ∧ ab ≠ db ∧ HasB w ab ao bs)
theorem Tryd.under61 : Tryd.prog.underlying 61 = some (.array 64 5) := by kernel_rfl
theorem Tryd.len61 : Tryd.prog.arrayLen 61 = 64 := by kernel_rfl
theorem Tryd.elem61 : Tryd.prog.elem 61 = 5 := by kernel_rfl
theorem Tryd.sizeOf5 (w : World) : (sizeOf 5).run Tryd.prog w = .ok 1 w := by kernel_rfl
theorem Tryd.slice61 (db len : Nat) (w : World) : (Instr.sliceAt 61 (.pointer (some ⟨db, 8, none⟩)) (some (.int .i64 ((len : Int) % 64))) none none).run Tryd.prog w = .ok (.slice (some ⟨db, 8 + len % 64, none⟩) (64 - len % 64) (64 - len % 64)) w := by
  rw [run_sliceAt_array_l w 61 ⟨db, 8, none⟩ (by rw [Tryd.len61, Tryd.elem61]; exact Tryd.under61) .i64 _ (by omega) (by rw [Tryd.len61]; omega), Tryd.elem61, Tryd.sizeOf5, Tryd.len61]
  have e : ((len : Int) % 64).toNat = len % 64 := by omega
  simp only [Result.andThen, slicedAt, e]
  rw [if_neg (by omega)]
  have hadd : (⟨db, 8, none⟩ : Addr).add (len % 64 * 1) = ⟨db, 8 + len % 64, none⟩ := by rw [Nat.mul_one]; unfold Addr.add; split <;> simp_all
  rw [hadd]
/-- The length of a slice value. -/
def lenOf' : Value → Nat | .slice _ n _ => n | _ => 0
/-- What holds behind the first part of a write. -/
def Mid (w : World) (db ab : Nat) (st : St) (blk : List (BitVec 8)) (len : Nat) (b : List (BitVec 8)) (v : Value) (wc : World) : Prop :=
  ∃ ao a c, v = .slice a b.length c ∧ b.length ≤ c ∧ (0 < b.length → a = some ⟨ab, ao, none⟩ ∧ ab < w.heap.size ∧ ab ≠ db ∧ HasB w ab ao b) ∧ HasD wc db 63 ⟨st, blk, len⟩ ∧ Only db w wc
set_option maxHeartbeats 400000 in
theorem write_any (db ab ao : Nat) (a : Option Addr) (n c : Nat) (bs : List (BitVec 8)) (d : Dg) (w : World) (hd : HasD w db 63 d) (hs : Src w db ab ao a n c bs) (hlen : d.len + n ≤ 1152921504606846976) (hK : HasK w 0) (h0 : 0 < w.heap.size) (hdb : db ≠ 0) :
    Calls Tryd.prog 27 #[.pointer (some ⟨db, 0, none⟩), .slice a n c] w fun e w' => e = .returned (.tuple #[]) ∧ HasD w' db 63 (d.write bs) ∧ Only db w w' := by
  obtain ⟨hn0, hnc, hsrc⟩ := hs
  have hn' : Box (n = bs.length) := ⟨hn0⟩
  clear hn0
  have hnum := hd.num
  have hfr := hd.frozen 72
  have HD := hd.setLen (d.len + n)
  have HO : Only db w (w.setCell ⟨db, 72, none⟩ (.int .i64 ((d.len + n : Nat) : Int))) := (Only.refl _ _).setCell _ _
  obtain ⟨st, blk, len⟩ := d
  simp only at hnum hlen HD HO
  go_enter Tryd.func27, Tryd.ntmps27
  go_upto_if 21 with fail
  go_cut [1] (fun v wc => ∃ st1 blk1 b1, Box (Dg.rest st1 blk1 (len + n) b1 = Dg.write ⟨st, blk, len⟩ bs) ∧ Mid w db ab st1 blk1 (len + n) b1 v wc)
  case first =>
    refine code_any (fun w1 => HasD w1 db 63 ⟨st, blk, len + n⟩ ∧ Only db w w1) ⟨by rw [Int.natCast_add] at HD; exact HD, by rw [Int.natCast_add] at HO; exact HO⟩ ?_
    rintro w1 ⟨hD1, hO1⟩
    clear HD HO hd hnum hfr
    by_cases hu : len % 64 = 0
    · have hD1' : Box (HasD w1 db 63 ⟨st, blk, len + n⟩) := ⟨hD1⟩
      clear hD1
      go_wp2
      go_meet
      case rel =>
        refine ⟨st, blk, bs, ⟨?_⟩, ao, a, c, ?_, ?_, ?_, hD1'.out, hO1⟩
        · rw [Dg.write, if_pos hu, hn'.out]
        · rw [hn'.out]
        · rw [← hn'.out]; exact hnc
        · rw [← hn'.out]; exact hsrc
    · have hsl := Tryd.slice61 db len
      have g0 := hD1.s0
      have hne : Box (Dg.write ⟨st, blk, len⟩ bs = if bs.length < 64 - len % 64 then ⟨st, splice blk (len % 64) bs, len + bs.length⟩ else Dg.rest (mix st (splice blk (len % 64) (bs.take (64 - len % 64)))) (splice blk (len % 64) (bs.take (64 - len % 64))) (len + bs.length) (bs.drop (64 - len % 64))) := ⟨by rw [Dg.write, if_neg hu]⟩
      clear g0
      by_cases hlt : n < 64 - len % 64
      · have hl := hn'.out
        have hrun := run_copy_exact (P := Tryd.prog) w1 47 47 3 5 Tryd.under47 Tryd.size5 (some ⟨db, 8 + len % 64, none⟩) a (64 - len % 64) (64 - len % 64) n c db (8 + len % 64) _ 63 hD1.2 (bs.map V) (by rw [List.length_map, ← hl, show Nat.min n (64 - len % 64) = n from Nat.min_eq_left (by omega)]) (by
          intro h
          have h' : 0 < n := by rw [hl]; simpa using h
          obtain ⟨e, hab, hne, hB⟩ := hsrc h'
          refine ⟨rfl, _, e, ?_⟩
          have := (hB.only hO1 hab hne).src bs.length
          rw [List.take_of_length_le (Nat.le_refl _)] at this
          exact this) (by rw [Dg.size _ hD1.1, List.length_map, ← hl]; omega) (V_one _)
        rw [List.length_map, ← hl] at hrun
        have hD3 : Box (HasD _ db 63 _) := ⟨hD1.setBlk (len % 64) bs (by rw [← hl]; omega)⟩
        have hO3 : Box (Only db w _) := ⟨hO1.setRow (splice (Dg.mk st blk (len + n)).cells (8 + len % 64) (bs.map V)).toArray⟩
        generalize w1.setRow db (splice (Dg.mk st blk (len + n)).cells (8 + len % 64) (bs.map V)).toArray = w5 at hrun hD3 hO3
        clear hD1 hO1 hl hsrc
        go_wp2
        first | go_end0 | refine bodyPost_ret (results_none rfl _ _ _) rfl ?_
        refine ⟨rfl, ?_, hO3.out⟩
        have e := hn'.out
        rw [hne.out, if_pos (by omega), ← e]
        exact hD3.out
      · have hl := hn'.out
        have hcl : ((bs.take (64 - len % 64)).map V).length = 64 - len % 64 := by simp; omega
        have hrun := run_copy_exact (P := Tryd.prog) w1 47 47 3 5 Tryd.under47 Tryd.size5 (some ⟨db, 8 + len % 64, none⟩) a (64 - len % 64) (64 - len % 64) n c db (8 + len % 64) _ 63 hD1.2 ((bs.take (64 - len % 64)).map V) (by rw [hcl, show Nat.min n (64 - len % 64) = 64 - len % 64 from Nat.min_eq_right (by omega)]) (by
          intro h
          obtain ⟨e, hab, hne, hB⟩ := hsrc (by omega)
          exact ⟨rfl, _, e, (hB.only hO1 hab hne).src _⟩) (by rw [Dg.size _ hD1.1, hcl]; omega) (V_one _)
        rw [hcl] at hrun
        have hD3 : HasD _ db 63 _ := hD1.setBlk (len % 64) (bs.take (64 - len % 64)) (by simp; omega)
        have hO3 : Only db w _ := hO1.setRow (splice (Dg.mk st blk (len + n)).cells (8 + len % 64) ((bs.take (64 - len % 64)).map V)).toArray
        generalize w1.setRow db (splice (Dg.mk st blk (len + n)).cells (8 + len % 64) ((bs.take (64 - len % 64)).map V)).toArray = w5 at hrun hD3 hO3
        clear hD1 hO1 hl hcl
        obtain ⟨rfl, hab, hne', hB⟩ := hsrc (by omega)
        clear hsrc
        simp only at hD3
        generalize splice blk (len % 64) (bs.take (64 - len % 64)) = bk at hD3 hne
        have hB2 := hD3.bytes
        have hl2 : Box (bk.length = 64) := ⟨hD3.1⟩
        have hK2 : HasK w5 0 := hK.only hO3 h0 (by omega)
        have hdb2 := hD3.lt
        have h02 : 0 < w5.heap.size := by have := hO3.size; omega
        have g0 := hD3.s0
        have g1 := hD3.s1
        have g2 := hD3.s2
        have g3 := hD3.s3
        have g4 := hD3.s4
        have g5 := hD3.s5
        have g6 := hD3.s6
        have g7 := hD3.s7
        simp only at g0 g1 g2 g3 g4 g5 g6 g7 hB2
        have hD3' : Box (HasD w5 db 63 ⟨st, bk, len + n⟩) := ⟨hD3⟩
        clear hD3
        go_wp2
        go_region_with (go_at_call 30; refine (mixed_lit _ _ _ _ _ _ _ _ db 8 _ bk _ (by exact hdb2) hl2.out (by exact hB2) (by exact hK2) (by exact h02)).mono ?_; rintro o w6 ⟨⟨s', hs', rfl⟩, hb1⟩; have hD4 : HasD w6 db 63 ⟨st, bk, len + n⟩ := HasD.below (w := w5.drew) hD3'.out hb1; have k0 := hD4.s0; have k1 := hD4.s1; have k2 := hD4.s2; have k3 := hD4.s3; have k4 := hD4.s4; have k5 := hD4.s5; have k6 := hD4.s6; have k7 := hD4.s7; have f0 := hD4.frozen 0; have f1 := hD4.frozen 1; have f2 := hD4.frozen 2; have f3 := hD4.frozen 3; have f4 := hD4.frozen 4; have f5 := hD4.frozen 5; have f6 := hD4.frozen 6; have f7 := hD4.frozen 7; clear hD4)
        all_goals
          have hD4 : Box (HasD w6 db 63 ⟨st, bk, len + n⟩) := ⟨HasD.below (w := w5.drew) hD3'.out hb1⟩
          have HD4 : Box (HasD _ db 63 ⟨s', bk, len + n⟩) := ⟨hD4.out.setSt s'⟩
          have HO4 : Box (Only db w _) := ⟨((((((((hO3.drew.trans (Only.of_below (a := w5.drew) hb1)).setCell 0 (.int .u32 (vl s'.a))).setCell 1 (.int .u32 (vl s'.b))).setCell 2 (.int .u32 (vl s'.c))).setCell 3 (.int .u32 (vl s'.d))).setCell 4 (.int .u32 (vl s'.e))).setCell 5 (.int .u32 (vl s'.f))).setCell 6 (.int .u32 (vl s'.g))).setCell 7 (.int .u32 (vl s'.h))⟩
          clear g0 g1 g2 g3 g4 g5 g6 g7 k0 k1 k2 k3 k4 k5 k6 k7 f0 f1 f2 f3 f4 f5 f6 f7
          go_wp2
          all_goals
            go_meet
            case rel =>
              have e := hn'.out
              have el : (bs.drop (64 - len % 64)).length = n - (64 - len % 64) := by rw [List.length_drop, ← e]
              refine ⟨s', bk, bs.drop (64 - len % 64), ⟨?_⟩, ao + (64 - len % 64), _, _, (by rw [el]), (by rw [el]; omega), ?_, HD4.out, HO4.out⟩
              · rw [hne.out, if_neg (by omega), ← e, hs'.out]
              · intro hp
                rw [el] at hp
                first
                  | (exfalso; omega)
                  | exact ⟨rfl, hab, hne', hB.drop _⟩
  case rest =>
    obtain ⟨st1, blk1, b1, hres, ao1, a1, c1, rfl, hc1, hs1, hD1, hO1⟩ := hcut
    clear hd hsrc hnum hfr HD HO hn' hnc hlen
    go_wp2
    go_loopw [1] (fun v wr => ∃ k : Nat, k * 64 ≤ b1.length ∧ ∃ a2 c2, v = .slice a2 (b1.length - k * 64) c2 ∧ b1.length - k * 64 ≤ c2 ∧ (0 < b1.length - k * 64 → a2 = some ⟨ab, ao1 + k * 64, none⟩) ∧ HasD wr db 63 ⟨mixs st1 b1 k, blk1, len + n⟩ ∧ Only db w wr) (fun v _ => lenOf' v)
    case atStart => exact ⟨0, by omega, a1, c1, by simp, by omega, fun h => (hs1 (by omega)).1, hD1, hO1⟩
    case round =>
      obtain ⟨k, hk, a2, c2, rfl, hc2, ha2, hD2, hO2⟩ := hrel
      by_cases hlt : 64 ≤ b1.length - k * 64
      · obtain rfl := ha2 (by omega)
        obtain ⟨-, hab, hne, hB⟩ := hs1 (by omega)
        have hB2 : HasB wr ab (ao1 + k * 64) ((b1.drop (64 * k)).take 64) := by
          have := ((hB.only hO2 hab hne).drop (k * 64)).take 64
          rw [Nat.mul_comm k 64] at this ⊢
          exact this
        have hl2 : ((b1.drop (64 * k)).take 64).length = 64 := by simp; omega
        have hK2 : HasK wr 0 := hK.only hO2 h0 (by omega)
        have hab2 : ab < wr.heap.size := by have := hO2.size; omega
        have h02 : 0 < wr.heap.size := by have := hO2.size; omega
        have g0 := hD2.s0
        have g1 := hD2.s1
        have g2 := hD2.s2
        have g3 := hD2.s3
        have g4 := hD2.s4
        have g5 := hD2.s5
        have g6 := hD2.s6
        have g7 := hD2.s7
        simp only at g0 g1 g2 g3 g4 g5 g6 g7
        have HN : Box (mixs st1 b1 (k + 1) = mix (mixs st1 b1 k) ((b1.drop (64 * k)).take 64)) := ⟨rfl⟩
        generalize (b1.drop (64 * k)).take 64 = bk at hB2 hl2 HN
        generalize mixs st1 b1 k = sk at g0 g1 g2 g3 g4 g5 g6 g7 HN hD2
        have hD2' : Box (HasD wr db 63 ⟨sk, blk1, len + n⟩) := ⟨hD2⟩
        clear hD2
        go_wp2
        go_region_with (go_at_call 30; refine (mixed_lit _ _ _ _ _ _ _ _ ab (ao1 + k * 64) _ bk _ (by exact hab2) hl2 (by exact hB2) (by exact hK2) (by exact h02)).mono ?_; rintro o w1 ⟨⟨s', hs', rfl⟩, hb1⟩; have hD3 : HasD w1 db 63 ⟨sk, blk1, len + n⟩ := HasD.below (w := wr.drew) hD2'.out hb1; have k0 := hD3.s0; have k1 := hD3.s1; have k2 := hD3.s2; have k3 := hD3.s3; have k4 := hD3.s4; have k5 := hD3.s5; have k6 := hD3.s6; have k7 := hD3.s7; have f0 := hD3.frozen 0; have f1 := hD3.frozen 1; have f2 := hD3.frozen 2; have f3 := hD3.frozen 3; have f4 := hD3.frozen 4; have f5 := hD3.frozen 5; have f6 := hD3.frozen 6; have f7 := hD3.frozen 7; clear hD3)
        all_goals
          have hD3 : Box (HasD w1 db 63 ⟨sk, blk1, len + n⟩) := ⟨HasD.below (w := wr.drew) hD2'.out hb1⟩
          have HD4 : Box (HasD _ db 63 ⟨s', blk1, len + n⟩) := ⟨hD3.out.setSt s'⟩
          have HO4 : Box (Only db w _) := ⟨((((((((hO2.drew.trans (Only.of_below (a := wr.drew) hb1)).setCell 0 (.int .u32 (vl s'.a))).setCell 1 (.int .u32 (vl s'.b))).setCell 2 (.int .u32 (vl s'.c))).setCell 3 (.int .u32 (vl s'.d))).setCell 4 (.int .u32 (vl s'.e))).setCell 5 (.int .u32 (vl s'.f))).setCell 6 (.int .u32 (vl s'.g))).setCell 7 (.int .u32 (vl s'.h))⟩
          clear g0 g1 g2 g3 g4 g5 g6 g7 k0 k1 k2 k3 k4 k5 k6 k7 f0 f1 f2 f3 f4 f5 f6 f7
          go_wp2
          go_roundw
          case rel =>
            have e : mixs st1 b1 (k + 1) = s' := HN.out.trans hs'.out.symm
            refine ⟨k + 1, by omega, _, _, (by rw [show b1.length - (k + 1) * 64 = b1.length - k * 64 - 64 by omega]), by omega, ?_, ?_, HO4.out⟩
            · intro h
              rw [if_neg (by omega), show ao1 + (k + 1) * 64 = ao1 + k * 64 + 64 by omega]
            · rw [e]; exact HD4.out
          case measure => simp only [lenOf']; omega
      · have hk64 : Box (b1.length / 64 = k) := ⟨by omega⟩
        have hcs : ((b1.drop (64 * k)).map V).length = Nat.min (b1.length - k * 64) 64 := by
          have : Nat.min (b1.length - k * 64) 64 = b1.length - k * 64 := Nat.min_eq_left (by omega)
          rw [this]; simp; omega
        have hpos : 0 < ((b1.drop (64 * k)).map V).length → some (⟨db, 8, none⟩ : Addr) = some ⟨db, 8 + 0, none⟩ ∧ ∃ ad, a2 = some ad ∧ ∀ j v, ((b1.drop (64 * k)).map V)[j]? = some v → wr.cell? (ad.add j) = some v := by
          intro h
          have h' : 0 < b1.length - k * 64 := by simpa [Nat.mul_comm] using h
          obtain ⟨-, hab, hne, hB⟩ := hs1 (by omega)
          refine ⟨rfl, _, ha2 h', ?_⟩
          have := ((hB.only hO2 hab hne).drop (k * 64)).src b1.length
          rw [List.take_of_length_le (by simp)] at this
          rw [Nat.mul_comm k 64] at this ⊢
          exact this
        have hfit : 8 + 0 + ((b1.drop (64 * k)).map V).length ≤ (Dg.mk (mixs st1 b1 k) blk1 (len + n)).cells.length := by
          rw [Dg.size _ hD2.1]; simp; omega
        have hD3 : Box (HasD _ db 63 _) := ⟨hD2.setBlk 0 (b1.drop (64 * k)) (by simp; omega)⟩
        have hrun := run_copy_exact (P := Tryd.prog) wr 47 47 3 5 Tryd.under47 Tryd.size5 (some ⟨db, 8, none⟩) a2 64 64 (b1.length - k * 64) c2 db (8 + 0) _ 63 hD2.2 _ hcs hpos hfit (V_one _)
        have hO3 : Box (Only db w _) := ⟨hO2.setRow (splice (Dg.mk (mixs st1 b1 k) blk1 (len + n)).cells (8 + 0) ((b1.drop (64 * k)).map V)).toArray⟩
        generalize wr.setRow db (splice (Dg.mk (mixs st1 b1 k) blk1 (len + n)).cells (8 + 0) ((b1.drop (64 * k)).map V)).toArray = w5 at hrun hD3 hO3
        generalize ((b1.drop (64 * k)).map V).length = cl at hrun
        clear hD2 hcs hpos hfit hO2
        go_wp2
        go_end0
        refine ⟨rfl, ?_, hO3.out⟩
        rw [← hres.out, Dg.rest, hk64.out]
        exact hD3.out
end Go.Proofs.YtfhhlkbcoofemaaDoor
