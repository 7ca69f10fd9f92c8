import Derived.Test.YtikcpbgnmdhilaaVf
import Derived.Test.YtikcpbgnmdhilaaVa
import Derived.Test.YtikcpbgnmdhilaaNum
namespace Go.Proofs.Ytikcpbgnmdhilaa
open Go.RowKit
set_option linter.unusedSimpArgs false
structure Pk where
  f : Int
  t : Int
  p : Int
  h : Int
  i : Int
  a : Int
  m : Bool
  u : Bool
  d : List UInt8
def Pk.ok (x : Pk) : Bool := pkB x.f x.t x.p x.h x.i x.a x.m x.u x.d.length
end Go.Proofs.Ytikcpbgnmdhilaa
