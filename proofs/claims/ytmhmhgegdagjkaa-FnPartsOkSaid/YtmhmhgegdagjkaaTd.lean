import Derived.Test.YtmhmhgegdagjkaaTa
import Derived.Test.YtmhmhgegdagjkaaSc
import Derived.Test.YtmhmhgegdagjkaaC1a
import Derived.Test.YtmhmhgegdagjkaaC2f
import Derived.Test.YtmhmhgegdagjkaaLw
namespace Go.Proofs.Ytmhmhgegdagjkaa
open Go.RowKit
set_option linter.unusedSimpArgs false
structure QueryV where
  k : Int
  l : Int
  a : Int
  w : Int
  p : Int
end Go.Proofs.Ytmhmhgegdagjkaa
