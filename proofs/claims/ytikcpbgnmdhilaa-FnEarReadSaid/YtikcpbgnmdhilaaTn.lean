import Derived.Test.YtikcpbgnmdhilaaSg
import Derived.Test.YtikcpbgnmdhilaaC1a
import Derived.Test.YtikcpbgnmdhilaaSh
namespace Go.Proofs.Ytikcpbgnmdhilaa
open Go.RowKit
set_option linter.unusedSimpArgs false
structure KE where
  a : Int
  l : Int
  u : Int
structure HE where
  a : Int
  d : List UInt8
def hOk (h : HE) : Bool := decide ((0 ≤ h.a ∧ h.a ≤ 65535) ∧ h.d.length ≤ 64)
end Go.Proofs.Ytikcpbgnmdhilaa
namespace Go.Proofs.Ytikcpbgnmdhilaa
open Go.RowKit
set_option linter.unusedSimpArgs false
end Go.Proofs.Ytikcpbgnmdhilaa
