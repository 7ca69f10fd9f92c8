import Derived.Test.YtkfjaeoehhakpaaTt
import Derived.Test.YtkfjaeoehhakpaaR6
namespace Go.Proofs.Ytkfjaeoehhakpaa
open Go.RowKit
set_option linter.unusedSimpArgs false
inductive NF where
  | nil
  | oo
  | os
  | so
deriving DecidableEq
structure NS where
  f : NF
  km : List KE
  hm : List HE
  p : Int
def NS.ks (v : NS) : List KE := if v.f = .so then v.km.drop 1 else v.km
def NS.hs (v : NS) : List HE := if v.f = .os then v.hm.drop 1 else v.hm
structure NInv (v : NS) : Prop where
  k : v.km.length ≤ 5
  h : v.hm.length ≤ 5
  so : v.f = .so → v.km.length = 5
  os : v.f = .os → v.hm.length = 5
  no : v.f = .nil → v.km = [] ∧ v.hm = []
  d : ∀ e ∈ v.hm, e.d.length ≤ 64
structure NearV where
  s1 : Nat
  s2 : Nat
  ks : List KE
  hs : List HE
  p : Int
end Go.Proofs.Ytkfjaeoehhakpaa
