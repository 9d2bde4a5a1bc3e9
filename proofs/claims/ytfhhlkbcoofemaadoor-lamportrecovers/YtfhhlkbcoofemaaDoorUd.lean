/- Steps of chains: what the laws' walked and wots.Walk hand back. -/
import Derived.Test.YtfhhlkbcoofemaaDoorTj
import Derived.Test.YtfhhlkbcoofemaaDoorUa
namespace Go.Proofs.YtfhhlkbcoofemaaDoor
open Go.RowKit
/-- One step of chain c, from step s. -/
def chn (c s : Int) (x : List (BitVec 8)) : List (BitVec 8) := shaOf (kb 2 :: (x ++ (two c ++ two s)))
theorem chn_len (c s : Int) (x : List (BitVec 8)) : (chn c s x).length = 32 := shaOf_len _
/-- n steps of chain c, from step f on. -/
def wk (c : Int) (f : Nat) (x : List (BitVec 8)) : Nat → List (BitVec 8)
  | 0 => x
  | n + 1 => chn c ((f + n : Nat) : Int) (wk c f x n)
theorem wk_len (c : Int) (f : Nat) (x : List (BitVec 8)) (n : Nat) (h : x.length = 32) : (wk c f x n).length = 32 := by
  cases n with
  | zero => exact h
  | succ n => exact chn_len _ _ _
theorem wk_add (c : Int) (f : Nat) (x : List (BitVec 8)) (m n : Nat) : wk c f x (m + n) = wk c (f + m) (wk c f x m) n := by
  induction n with
  | zero => rfl
  | succ n ih => rw [← Nat.add_assoc, wk, ih, wk, Nat.add_assoc]
/-- The secret of chain c. -/
def sec (seed : List (BitVec 8)) (key c : Int) : List (BitVec 8) := shaOf (kb 3 :: (seed ++ (four key ++ four c)))
theorem sec_len (seed : List (BitVec 8)) (key c : Int) : (sec seed key c).length = 32 := shaOf_len _
/-- A public key. -/
def pub (hs : List (List (BitVec 8))) : List (BitVec 8) := shaOf (kb 4 :: hs.flatten)
theorem pub_len (hs : List (List (BitVec 8))) : (pub hs).length = 32 := shaOf_len _
theorem chn_any (xs : List (BitVec 8)) (m n : Int) (w : World) (hx : xs.length = 32) (hK : Tab w) :
    Calls Tryd.prog 14 #[.agg (xs.map V).toArray, .int .i64 m, .int .i64 n] w fun e w' => e = .returned (.agg ((chn m n xs).map V).toArray) ∧ Below w.heap.size w w' := chain_any xs m n w hx hK
theorem HasV.setRow {w : World} {g : Nat} {T : TypeId} {xs ys : List (BitVec 8)} (h : HasV w g T xs) : HasV (w.setRow g (ys.map V).toArray) g T ys := setRow_heap _ _ _ _ T (0, 0) h
theorem HasV.setRow_other {w : World} {g b : Nat} {T : TypeId} {xs : List (BitVec 8)} {cs : Array Value} (h : HasV w b T xs) (hne : b ≠ g) : HasV (w.setRow g cs) b T xs := by
  have := Go.setRow_other w g b cs hne
  unfold HasV at *
  rw [this]; exact h
/-- What wots.Walk has behind k looks. -/
def lk (c f t : Int) (x : List (BitVec 8)) : Nat → List (BitVec 8)
  | 0 => x
  | k + 1 => if f ≤ (k : Int) ∧ (k : Int) < t then chn c k (lk c f t x k) else lk c f t x k
theorem lk_len (c f t : Int) (x : List (BitVec 8)) (k : Nat) (h : x.length = 32) : (lk c f t x k).length = 32 := by
  induction k with
  | zero => exact h
  | succ k ih =>
    simp only [lk]
    split
    · exact chn_len _ _ _
    · exact ih
theorem lk_wk (c : Int) (f t : Nat) (x : List (BitVec 8)) (k : Nat) : lk c f t x k = wk c f x (min k t - f) := by
  induction k with
  | zero => simp [lk, wk]
  | succ k ih =>
    simp only [lk]
    split
    · rename_i h
      have e : min (k + 1) t - f = (min k t - f) + 1 := by omega
      rw [ih, e, wk, show f + (min k t - f) = k by omega]
    · rename_i h
      rw [ih]
      congr 1
      omega
end Go.Proofs.YtfhhlkbcoofemaaDoor
