import Derived.Test.YtdeldmagmljacaaXh
namespace Go.Proofs.Ytdeldmagmljacaa
open Go.RowKit
set_option linter.unusedSimpArgs false
set_option linter.unusedVariables false

structure HS where
  d : Bool
  w : Pk
  b : Bool
  F : List Pt
def hStep (al : Bool) (q : Pk) (s : HS) (x : Pt) : HS :=
  if (!al && of1 x q) = true then ⟨true, wholeV (putL x.ps x.u q) (putU x.ps x.u q), wholeB (putL x.ps x.u q) (putU x.ps x.u q), if ((putO x.ps x.u q).isSome && !wholeB (putL x.ps x.u q) (putU x.ps x.u q)) = true then s.F ++ [⟨putL x.ps x.u q, putU x.ps x.u q⟩] else s.F⟩
  else ⟨s.d, s.w, s.b, s.F ++ [x]⟩
def hRun (al : Bool) (q : Pk) (s : HS) (L : List Pt) : HS := L.foldl (hStep al q) s
def hs0 : HS := ⟨false, pk0, false, []⟩
def g_partWholeT : PC := fun args => match args with
  | [.agg [.l _ rows, .v (.int .i64 u)]] => some (∃ ps, rows = pRows ps ∧ pMid ps, .tup [.agg [.v (.int .i64 (wholeV (psOf rows) u).f), .v (.int .i64 (wholeV (psOf rows) u).t), .v (.int .i64 (wholeV (psOf rows) u).p), .v (.int .i64 (wholeV (psOf rows) u).h), .v (.int .i64 (wholeV (psOf rows) u).i), .v (.int .i64 (wholeV (psOf rows) u).a), .v (.bool (wholeV (psOf rows) u).m), .v (.bool (wholeV (psOf rows) u).u), .own 0], .v (.bool (wholeB (psOf rows) u))], [.tr .whole 5 1 [.cell] (rowsOfBytes (wholeV (psOf rows) u).d)])
  | _ => none
def g_sPartsHear : PC := fun args => match args with
  | [.l _ rows', .agg [.v (.int .i64 f), .v (.int .i64 t), .v (.int .i64 p), .v (.int .i64 h), .v (.int .i64 i), .v (.int .i64 a), .v (.bool m), .v (.bool u), .l _ rows], .v (.int .i64 n)] => some ((∃ l, rows' = ptRows l ∧ ptMid l) ∧ (∃ xs, rows = rowsOfBytes xs ∧ xs.length ≤ 1048576),
      .tup [(if phS (ptsOf rows') ⟨f, t, p, h, i, a, m, u, bytesOfRows rows⟩ n = true then .sub 0 1 4 else .own 0), .agg [.v (.int .i64 (phP (ptsOf rows') ⟨f, t, p, h, i, a, m, u, bytesOfRows rows⟩ n).f), .v (.int .i64 (phP (ptsOf rows') ⟨f, t, p, h, i, a, m, u, bytesOfRows rows⟩ n).t), .v (.int .i64 (phP (ptsOf rows') ⟨f, t, p, h, i, a, m, u, bytesOfRows rows⟩ n).p), .v (.int .i64 (phP (ptsOf rows') ⟨f, t, p, h, i, a, m, u, bytesOfRows rows⟩ n).h), .v (.int .i64 (phP (ptsOf rows') ⟨f, t, p, h, i, a, m, u, bytesOfRows rows⟩ n).i), .v (.int .i64 (phP (ptsOf rows') ⟨f, t, p, h, i, a, m, u, bytesOfRows rows⟩ n).a), .v (.bool (phP (ptsOf rows') ⟨f, t, p, h, i, a, m, u, bytesOfRows rows⟩ n).m), .v (.bool (phP (ptsOf rows') ⟨f, t, p, h, i, a, m, u, bytesOfRows rows⟩ n).u), .own 1], .v (.bool (phB (ptsOf rows') ⟨f, t, p, h, i, a, m, u, bytesOfRows rows⟩ n))],
      [.tr .whole 36 2 [.sl 24 9 [.cell, .cell, .cell, .cell, .cell, .cell, .cell, .cell, .sl 5 1 [.cell]], .cell] (ptRows (phF (ptsOf rows') ⟨f, t, p, h, i, a, m, u, bytesOfRows rows⟩ n)), .tr .whole 5 1 [.cell] (rowsOfBytes (phP (ptsOf rows') ⟨f, t, p, h, i, a, m, u, bytesOfRows rows⟩ n).d)])
  | _ => none
def sph : List (FuncId × Abs) := [(31, pureAbs g_partsOk), (45, pureAbs g_packetOk), (46, pureAbs g_l1In), (53, pureAbs g_ofOne), (27, pureAbs g_partPut), (23, pureAbs g_partWholeT), (68, pureAbs g_partCopied), (61, pureAbs g_packetCopied)]
end Go.Proofs.Ytdeldmagmljacaa
