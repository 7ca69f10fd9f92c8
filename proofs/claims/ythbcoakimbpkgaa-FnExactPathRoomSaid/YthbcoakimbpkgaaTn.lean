import Derived.Test.YthbcoakimbpkgaaTa
import Derived.Test.YthbcoakimbpkgaaSc
import Derived.Test.YthbcoakimbpkgaaC1a
import Derived.Test.YthbcoakimbpkgaaC2f
namespace Go.Proofs.Ythbcoakimbpkgaa
open Go.RowKit
set_option linter.unusedSimpArgs false
structure KE where
  a : Int
  l : Int
  u : Int
structure HE where
  a : Int
  d : List UInt8
theorem drop_at {α : Type} (l : List α) (k : Nat) (h : k < l.length) : l.drop k = l[k] :: l.drop (k + 1) := List.drop_eq_getElem_cons h
end Go.Proofs.Ythbcoakimbpkgaa
namespace Go.Proofs.Ythbcoakimbpkgaa
open Go.RowKit
set_option linter.unusedSimpArgs false
end Go.Proofs.Ythbcoakimbpkgaa
