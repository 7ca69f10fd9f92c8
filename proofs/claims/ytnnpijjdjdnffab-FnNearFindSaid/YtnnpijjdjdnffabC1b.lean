import Derived.Test.YtnnpijjdjdnffabMem
import Derived.Test.YtnnpijjdjdnffabNum
import Derived.Test.YtnnpijjdjdnffabC1a
import Derived.Outline
import Derived.BigQuiet
import Derived.Deep.QuietTactic
namespace Go.Proofs.Ytnnpijjdjdnffab
open Go.ChangeShapes Go.WideShapes Go.ChangeAt Go.RowKit

def pairVal (xs : List UInt8) (k : Nat) : Int := 256 * ((xs.getD k 0).toNat : Int) + ((xs.getD (k + 1) 0).toNat : Int)
theorem pairVal_bd (xs : List UInt8) (k : Nat) : 0 ≤ pairVal xs k ∧ pairVal xs k ≤ 65535 := by
  have h1 := (xs.getD k 0).toNat_lt; have h2 := (xs.getD (k + 1) 0).toNat_lt; unfold pairVal; omega

theorem pk_over (xs : List UInt8) (k : Nat) (h : xs.length ≤ k) : pk xs k = pk xs xs.length := by
  induction k with
  | zero =>
    have : xs.length = 0 := by omega
    rw [this]
  | succ k ih =>
    by_cases hk : xs.length ≤ k
    · rw [← ih hk]
      show pk xs k + wt k (xs.getD k 0) = _
      have : xs.getD k 0 = 0 := by simp [List.getD, List.getElem?_eq_none hk]
      rw [this]
      simp [wt]
    · have : xs.length = k + 1 := by omega
      rw [this]
theorem can_pair (xs : List UInt8) (k : Nat) (h : k % 2 = 0) : sAdd (can (pk xs k)) (pairVal xs k) = can (pk xs (k + 2)) := by
  have h1 := (xs.getD k 0).toNat_lt; have h2 := (xs.getD (k + 1) 0).toNat_lt
  have e : pairVal xs k = ((256 * (xs.getD k 0).toNat + (xs.getD (k + 1) 0).toNat : Nat) : Int) := by simp [pairVal]
  rw [e, can_add _ _ (by omega)]
  show _ = can (pk xs k + wt k (xs.getD k 0) + wt (k + 1) (xs.getD (k + 1) 0))
  rw [wt_even h, wt_odd (by omega)]
  congr 1
  omega

end Go.Proofs.Ytnnpijjdjdnffab
