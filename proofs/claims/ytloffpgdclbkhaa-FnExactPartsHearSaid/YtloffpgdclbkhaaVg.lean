import Derived.Test.YtloffpgdclbkhaaVf
set_option linter.unusedVariables false
set_option linter.unusedSimpArgs false
namespace Go.Proofs.Ytloffpgdclbkhaa
open Go.RowKit
set_option linter.unusedSimpArgs false

/-! the draws of packets and of their bytes -/
def pvB (v : PkV) : Bool := pkB v.f v.t v.pr v.h v.i v.a v.m v.u v.d.length
def pvV (v : PkV) : List UInt8 := pkV v.f v.t v.pr v.h v.i v.a v.m v.u v.d
def pbB (xs : List UInt8) (p : Int) : List UInt8 := pvV (pktV xs p 0)
def pbV (xs : List UInt8) (p : Int) : List UInt8 :=
  if pickV xs (pktV xs p 0).q 6 = 0 then (pbB xs p).set (pickV xs ((pktV xs p 0).q + 1) (pbB xs p).length).toNat (toU8 (pickV xs ((pktV xs p 0).q + 1 + 1) 256))
  else if pickV xs (pktV xs p 0).q 6 = 1 then (pbB xs p).take (pickV xs ((pktV xs p 0).q + 1) (pbB xs p).length).toNat
  else if pickV xs (pktV xs p 0).q 6 = 2 then pbB xs p ++ [0]
  else pbB xs p
def pbP (xs : List UInt8) (p : Int) : Int :=
  if pickV xs (pktV xs p 0).q 6 = 0 then (pktV xs p 0).q + 1 + 1 + 1
  else if pickV xs (pktV xs p 0).q 6 = 1 then (pktV xs p 0).q + 1 + 1
  else (pktV xs p 0).q + 1
def g_drawPk (n : Int) : PC := fun args => match args with
  | [.l _ rows] => some (∃ xs, rows = rowsOfBytes xs, .agg [.v (.int .i64 (pktV ((bytesOfRows rows).take 2000) 0 n).f), .v (.int .i64 (pktV ((bytesOfRows rows).take 2000) 0 n).t), .v (.int .i64 (pktV ((bytesOfRows rows).take 2000) 0 n).pr), .v (.int .i64 (pktV ((bytesOfRows rows).take 2000) 0 n).h), .v (.int .i64 (pktV ((bytesOfRows rows).take 2000) 0 n).i), .v (.int .i64 (pktV ((bytesOfRows rows).take 2000) 0 n).a), .v (.bool (pktV ((bytesOfRows rows).take 2000) 0 n).m), .v (.bool (pktV ((bytesOfRows rows).take 2000) 0 n).u), .l 1 (rowsOfBytes (pktV ((bytesOfRows rows).take 2000) 0 n).d)], [])
  | _ => none
def g_drawPb : PC := fun args => match args with
  | [.l _ rows] => some (∃ xs, rows = rowsOfBytes xs, .l 1 (rowsOfBytes (pbV ((bytesOfRows rows).take 2000) 0)), [])
  | _ => none
end Go.Proofs.Ytloffpgdclbkhaa
