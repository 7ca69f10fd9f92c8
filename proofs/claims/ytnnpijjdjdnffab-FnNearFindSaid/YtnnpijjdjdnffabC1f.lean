import Derived.Test.YtnnpijjdjdnffabC1d
import Derived.Test.YtnnpijjdjdnffabBytes
import Derived.Test.YtnnpijjdjdnffabMem2
import Derived.Outline
namespace Go.Proofs.Ytnnpijjdjdnffab
open Go.ChangeShapes Go.WideShapes Go.ChangeAt Go.RowKit

/-- one more byte of a number -/
theorem beB_one (u q j : Nat) : beB (u / 256 ^ (q + 1)) j ++ [UInt8.ofNat (u / 256 ^ q % 256)] = beB (u / 256 ^ q) (j + 1) := by
  simp only [beB]
  rw [Nat.div_div_eq_div_mul, ← Nat.pow_succ]

end Go.Proofs.Ytnnpijjdjdnffab
