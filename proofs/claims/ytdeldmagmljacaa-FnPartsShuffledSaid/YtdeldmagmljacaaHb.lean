import Derived.Test.YtdeldmagmljacaaHa
import Derived.Test.YtdeldmagmljacaaHm
namespace Go.Proofs.Ytdeldmagmljacaa
open Go.RowKit
set_option linter.unusedSimpArgs false
set_option linter.unusedVariables false

/-! PacketCut: what is drawn, the law -/
def pcW (xs : List UInt8) : PkV := if pickV xs (pktV xs 0 12).q 3 = 0 then lnV xs ((pktV xs 0 12).q + 1) else { pktV xs 0 12 with q := (pktV xs 0 12).q + 1 }
def g_drawPc : PC := fun args => match args with
  | [.l _ rows] => some (∃ xs, rows = rowsOfBytes xs, .tup [.agg [.v (.int .i64 (pcW ((bytesOfRows rows).take 2000)).f), .v (.int .i64 (pcW ((bytesOfRows rows).take 2000)).t), .v (.int .i64 (pcW ((bytesOfRows rows).take 2000)).pr), .v (.int .i64 (pcW ((bytesOfRows rows).take 2000)).h), .v (.int .i64 (pcW ((bytesOfRows rows).take 2000)).i), .v (.int .i64 (pcW ((bytesOfRows rows).take 2000)).a), .v (.bool (pcW ((bytesOfRows rows).take 2000)).m), .v (.bool (pcW ((bytesOfRows rows).take 2000)).u), .l 1 (rowsOfBytes (pcW ((bytesOfRows rows).take 2000)).d)], .v (.int .i64 (pickV ((bytesOfRows rows).take 2000) (pcW ((bytesOfRows rows).take 2000)).q 10))], [])
  | _ => none
def dpc : List (FuncId × Abs) := [(38, ownAbs g_open), (39, ownAbs g_packet), (41, ownAbs g_long), (40, ownAbs g_pick)]
def lpc : List (FuncId × Abs) := [(15, pureAbs g_alive), (17, pureAbs g_sameBytes), (14, pureAbs g_samePackets), (16, pureAbs g_packetOk), (12, ownAbs (ocOf g_sPacketCut)), (13, ownAbs (ocOf g_sPacketCut)), (11, ownAbs (ocOf g_drawPc))]
end Go.Proofs.Ytdeldmagmljacaa
