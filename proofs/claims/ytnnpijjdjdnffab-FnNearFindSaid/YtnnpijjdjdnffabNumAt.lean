import Derived.Test.YtnnpijjdjdnffabNum
namespace Go.Proofs.Ytnnpijjdjdnffab
/-- the number of the k bytes from place a on -/
def numV (xs : List UInt8) (a : Nat) : Nat → Int
  | 0 => 0
  | k + 1 => numV xs a k * 256 + ((xs.getD (a + k) 0).toNat : Int)
theorem numV_bd (xs : List UInt8) (a k : Nat) : 0 ≤ numV xs a k ∧ numV xs a k < (256 : Int) ^ k := by
  induction k with
  | zero => simp [numV]
  | succ k ih =>
    have h := (xs.getD (a + k) 0).toNat_lt
    have e : (256 : Int) ^ (k + 1) = 256 ^ k * 256 := by rw [Int.pow_succ]
    simp only [numV]
    rw [e]
    omega
theorem numV_small (xs : List UInt8) (a k : Nat) (hk : k ≤ 3) : 0 ≤ numV xs a k ∧ numV xs a k ≤ 16777215 := by
  have h := numV_bd xs a k
  have : k = 0 ∨ k = 1 ∨ k = 2 ∨ k = 3 := by omega
  rcases this with rfl | rfl | rfl | rfl <;> omega
/-- NumberAt as the document has it -/
def numAt (xs : List UInt8) (a n : Int) : Int :=
  if 1 ≤ n ∧ n ≤ 4 ∧ 0 ≤ a ∧ a ≤ (xs.length : Int) - n then numV xs a.toNat n.toNat else -1
end Go.Proofs.Ytnnpijjdjdnffab
