import Derived.Test.YtmhmhgegdagjkaaTa
import Derived.Test.YtmhmhgegdagjkaaSh
import Derived.Test.YtmhmhgegdagjkaaTb
import Derived.Test.YtmhmhgegdagjkaaSc
import Derived.Test.YtmhmhgegdagjkaaR6
namespace Go.Proofs.Ytmhmhgegdagjkaa
open Go.RowKit
set_option linter.unusedSimpArgs false
structure KE where
  a : Int
  l : Int
  u : Int
structure HE where
  a : Int
  d : List UInt8
end Go.Proofs.Ytmhmhgegdagjkaa
namespace Go.Proofs.Ytmhmhgegdagjkaa
open Go.RowKit
set_option linter.unusedSimpArgs false
end Go.Proofs.Ytmhmhgegdagjkaa
namespace Go.Proofs.Ytmhmhgegdagjkaa
open Go.RowKit
set_option linter.unusedSimpArgs false
structure QueryV where
  k : Int
  l : Int
  a : Int
  w : Int
  p : Int
end Go.Proofs.Ytmhmhgegdagjkaa
namespace Go.Proofs.Ytmhmhgegdagjkaa
open Go.RowKit
set_option linter.unusedSimpArgs false
abbrev nilA : AV := .v (.slice none 0 0)
end Go.Proofs.Ytmhmhgegdagjkaa
namespace Go.Proofs.Ytmhmhgegdagjkaa
open Go.RowKit
set_option linter.unusedSimpArgs false
end Go.Proofs.Ytmhmhgegdagjkaa
