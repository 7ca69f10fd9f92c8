import Init
namespace Go.Proofs.Ytdeldmagmljacaa

/-- what the sum of two pairs is, its overflow added again -/
def sAdd (a b : Int) : Int := if 65535 < a + b then a + b - 65535 else a + b
/-- the weight of the byte at place k -/
def wt (k : Nat) (x : UInt8) : Nat := if k % 2 = 0 then 256 * x.toNat else x.toNat
/-- the plain sum of the first k bytes, each with its weight -/
def pk (xs : List UInt8) : Nat → Nat
  | 0 => 0
  | k + 1 => pk xs k + wt k (xs.getD k 0)

/-- the number in 1..65535 (or 0) that stands for a plain sum -/
def can (n : Nat) : Int := if n = 0 then 0 else ((n - 1) % 65535 + 1 : Nat)
/-- the sum of bytes -/
def sumOf (xs : List UInt8) : Int := 65535 - can (pk xs xs.length)
end Go.Proofs.Ytdeldmagmljacaa

namespace Go.Proofs.Ytdeldmagmljacaa
/-- the number of the k bytes from place a on -/
def numV (xs : List UInt8) (a : Nat) : Nat → Int
  | 0 => 0
  | k + 1 => numV xs a k * 256 + ((xs.getD (a + k) 0).toNat : Int)
/-- NumberAt as the document has it -/
def numAt (xs : List UInt8) (a n : Int) : Int :=
  if 1 ≤ n ∧ n ≤ 4 ∧ 0 ≤ a ∧ a ≤ (xs.length : Int) - n then numV xs a.toNat n.toNat else -1
end Go.Proofs.Ytdeldmagmljacaa

namespace Go.Proofs.Ytdeldmagmljacaa
/-- the k last bytes of a number, the greatest first -/
def beB (v : Nat) : Nat → List UInt8
  | 0 => []
  | k + 1 => beB (v / 256) k ++ [UInt8.ofNat (v % 256)]
def bytesOf (v n : Int) : List UInt8 :=
  if 1 ≤ n ∧ n ≤ 4 ∧ 0 ≤ v ∧ v < (256 : Int) ^ n.toNat then beB v.toNat n.toNat else []
/-- what is left of a number after k bytes -/
theorem beB_snoc (v k j : Nat) : beB v (k + j) = beB (v / 256 ^ j) k ++ beB v j := by
  induction j generalizing v k with
  | zero => simp [beB]
  | succ j ih =>
    show beB (v / 256) (k + j) ++ [UInt8.ofNat (v % 256)] = _
    rw [ih]
    simp only [beB, List.append_assoc]
    rw [Nat.div_div_eq_div_mul, ← Nat.pow_succ']
end Go.Proofs.Ytdeldmagmljacaa

namespace Go.Proofs.Ytdeldmagmljacaa
end Go.Proofs.Ytdeldmagmljacaa
