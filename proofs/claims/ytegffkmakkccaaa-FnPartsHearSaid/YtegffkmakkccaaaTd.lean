import Derived.Test.YtegffkmakkccaaaTb
import Derived.Test.YtegffkmakkccaaaSh
import Derived.Test.YtegffkmakkccaaaSc
namespace Go.Proofs.Ytegffkmakkccaaa
open Go.RowKit
set_option linter.unusedSimpArgs false
structure QueryV where
  k : Int
  l : Int
  a : Int
  w : Int
  p : Int
end Go.Proofs.Ytegffkmakkccaaa
