import Derived.Test.YtkfjaeoehhakpaaVf
import Derived.Test.YtkfjaeoehhakpaaVa
import Derived.Test.YtkfjaeoehhakpaaNum
namespace Go.Proofs.Ytkfjaeoehhakpaa
open Go.RowKit
set_option linter.unusedSimpArgs false
structure Pk where
  f : Int
  t : Int
  p : Int
  h : Int
  i : Int
  a : Int
  m : Bool
  u : Bool
  d : List UInt8
def Pk.ok (x : Pk) : Bool := pkB x.f x.t x.p x.h x.i x.a x.m x.u x.d.length
end Go.Proofs.Ytkfjaeoehhakpaa
