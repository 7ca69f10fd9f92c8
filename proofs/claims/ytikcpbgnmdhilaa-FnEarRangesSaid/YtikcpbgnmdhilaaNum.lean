import Init
namespace Go.Proofs.Ytikcpbgnmdhilaa
def wt (k : Nat) (x : UInt8) : Nat := if k % 2 = 0 then 256 * x.toNat else x.toNat
def pk (xs : List UInt8) : Nat → Nat
  | 0 => 0
  | k + 1 => pk xs k + wt k (xs.getD k 0)
def can (n : Nat) : Int := if n = 0 then 0 else ((n - 1) % 65535 + 1 : Nat)
def sumOf (xs : List UInt8) : Int := 65535 - can (pk xs xs.length)
end Go.Proofs.Ytikcpbgnmdhilaa
namespace Go.Proofs.Ytikcpbgnmdhilaa
end Go.Proofs.Ytikcpbgnmdhilaa
namespace Go.Proofs.Ytikcpbgnmdhilaa
def beB (v : Nat) : Nat → List UInt8
  | 0 => []
  | k + 1 => beB (v / 256) k ++ [UInt8.ofNat (v % 256)]
def bytesOf (v n : Int) : List UInt8 :=
  if 1 ≤ n ∧ n ≤ 4 ∧ 0 ≤ v ∧ v < (256 : Int) ^ n.toNat then beB v.toNat n.toNat else []
theorem beB_snoc (v k j : Nat) : beB v (k + j) = beB (v / 256 ^ j) k ++ beB v j := by
  induction j generalizing v k with
  | zero => simp [beB]
  | succ j ih =>
    show beB (v / 256) (k + j) ++ [UInt8.ofNat (v % 256)] = _
    rw [ih]
    simp only [beB, List.append_assoc]
    rw [Nat.div_div_eq_div_mul, ← Nat.pow_succ']
end Go.Proofs.Ytikcpbgnmdhilaa
namespace Go.Proofs.Ytikcpbgnmdhilaa
end Go.Proofs.Ytikcpbgnmdhilaa
