import Derived.Test.YtnnpijjdjdnffabNumAt
namespace Go.Proofs.Ytnnpijjdjdnffab
/-- the k last bytes of a number, the greatest first -/
def beB (v : Nat) : Nat → List UInt8
  | 0 => []
  | k + 1 => beB (v / 256) k ++ [UInt8.ofNat (v % 256)]
theorem beB_len (v k : Nat) : (beB v k).length = k := by
  induction k generalizing v with
  | zero => rfl
  | succ k ih => simp [beB, ih]
def bytesOf (v n : Int) : List UInt8 :=
  if 1 ≤ n ∧ n ≤ 4 ∧ 0 ≤ v ∧ v < (256 : Int) ^ n.toNat then beB v.toNat n.toNat else []
theorem bytesOf_len (v n : Int) : (bytesOf v n).length ≤ 4 := by
  unfold bytesOf
  split
  · rw [beB_len]; omega
  · simp

/-- what is left of a number after k bytes -/
theorem beB_snoc (v k j : Nat) : beB v (k + j) = beB (v / 256 ^ j) k ++ beB v j := by
  induction j generalizing v k with
  | zero => simp [beB]
  | succ j ih =>
    show beB (v / 256) (k + j) ++ [UInt8.ofNat (v % 256)] = _
    rw [ih]
    simp only [beB, List.append_assoc]
    rw [Nat.div_div_eq_div_mul, ← Nat.pow_succ']
end Go.Proofs.Ytnnpijjdjdnffab
