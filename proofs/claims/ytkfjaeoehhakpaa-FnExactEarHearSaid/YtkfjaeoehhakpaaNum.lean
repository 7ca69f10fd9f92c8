import Init
namespace Go.Proofs.Ytkfjaeoehhakpaa
def wt (k : Nat) (x : UInt8) : Nat := if k % 2 = 0 then 256 * x.toNat else x.toNat
def pk (xs : List UInt8) : Nat → Nat
  | 0 => 0
  | k + 1 => pk xs k + wt k (xs.getD k 0)
def can (n : Nat) : Int := if n = 0 then 0 else ((n - 1) % 65535 + 1 : Nat)
def sumOf (xs : List UInt8) : Int := 65535 - can (pk xs xs.length)
end Go.Proofs.Ytkfjaeoehhakpaa
namespace Go.Proofs.Ytkfjaeoehhakpaa
end Go.Proofs.Ytkfjaeoehhakpaa
namespace Go.Proofs.Ytkfjaeoehhakpaa
def beB (v : Nat) : Nat → List UInt8
  | 0 => []
  | k + 1 => beB (v / 256) k ++ [UInt8.ofNat (v % 256)]
def bytesOf (v n : Int) : List UInt8 :=
  if 1 ≤ n ∧ n ≤ 4 ∧ 0 ≤ v ∧ v < (256 : Int) ^ n.toNat then beB v.toNat n.toNat else []
end Go.Proofs.Ytkfjaeoehhakpaa
namespace Go.Proofs.Ytkfjaeoehhakpaa
end Go.Proofs.Ytkfjaeoehhakpaa
