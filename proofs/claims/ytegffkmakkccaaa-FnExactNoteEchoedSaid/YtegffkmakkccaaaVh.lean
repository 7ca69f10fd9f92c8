import Derived.Test.YtegffkmakkccaaaVc
import Derived.Test.YtegffkmakkccaaaNum
namespace Go.Proofs.Ytegffkmakkccaaa
open Go.RowKit
set_option linter.unusedSimpArgs false
theorem toU8_byte {v : Int} (h0 : 0 ≤ v) (h1 : v ≤ 255) : (((toU8 v).toNat : Nat) : Int) = v := by
  rw [toU8_val, IntKind.wrap_u8]; omega
end Go.Proofs.Ytegffkmakkccaaa
