import Derived.Test.YtdeldmagmljacaaTv
namespace Go.Proofs.Ytdeldmagmljacaa
open Go.RowKit
set_option linter.unusedSimpArgs false

/-! a station is drawn, whole or not; the laws of it -/
def nearA (v : NearV) : AV := .agg [.l v.s1 (kRows v.ks), .l v.s2 (hRows v.hs)]
def g_drawNO : PC := fun args => match args with
  | [.l _ rows] => some (∃ xs, rows = rowsOfBytes xs, .agg [.l (nearV ((bytesOfRows rows).take 2000) 0 2).s1 (kRows (nearV ((bytesOfRows rows).take 2000) 0 2).ks), .l (nearV ((bytesOfRows rows).take 2000) 0 2).s2 (hRows (nearV ((bytesOfRows rows).take 2000) 0 2).hs)], [])
  | _ => none
def g_drawNF : PC := fun args => match args with
  | [.l _ rows] => some (∃ xs, rows = rowsOfBytes xs, .tup [.agg [.l (nearV ((bytesOfRows rows).take 2000) 0 15).s1 (kRows (nearV ((bytesOfRows rows).take 2000) 0 15).ks), .l (nearV ((bytesOfRows rows).take 2000) 0 15).s2 (hRows (nearV ((bytesOfRows rows).take 2000) 0 15).hs)],
      .v (.int .i64 (pickV ((bytesOfRows rows).take 2000) (nearV ((bytesOfRows rows).take 2000) 0 15).p 6)), .v (.int .i64 (pickV ((bytesOfRows rows).take 2000) ((nearV ((bytesOfRows rows).take 2000) 0 15).p + 1) 50))], [])
  | _ => none
end Go.Proofs.Ytdeldmagmljacaa
