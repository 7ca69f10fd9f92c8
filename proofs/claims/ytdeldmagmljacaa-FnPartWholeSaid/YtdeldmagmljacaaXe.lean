import Derived.Test.YtdeldmagmljacaaXd
namespace Go.Proofs.Ytdeldmagmljacaa
open Go.RowKit
set_option linter.unusedSimpArgs false
set_option linter.unusedVariables false

/-! parts in a list -/
structure Pt where
  ps : List Pk
  u : Int
def pt0 : Pt := ⟨[], 0⟩
def ptRow (x : Pt) : List D := [.l 9 (pRows x.ps), .v (.int .i64 x.u)]
def ptRows (l : List Pt) : List (List D) := l.map ptRow
def ptOf (r : List D) : Pt := ⟨psOf (r.getD 0 (.v undef)).toL, (r.getD 1 (.v undef)).toI⟩
def ptsOf (rows : List (List D)) : List Pt := rows.map ptOf
def ptMid (l : List Pt) : Prop := l.length ≤ 1048576 ∧ ∀ x ∈ l, pMid x.ps
def of1 (x : Pt) (q : Pk) : Bool := same4 (x.ps.getD 0 pk0) q
def findP : List Pt → Pk → Nat
  | [], _ => 0
  | x :: r, q => if of1 x q = true then 0 else findP r q + 1
def atP (l : List Pt) (q : Pk) : Int := if findP l q = l.length then -1 else (findP l q : Int)
def liveP (l : List Pt) (now : Int) : List Pt := l.filter fun x => decide (now < x.u)
def outP (l : List Pt) (k : Nat) : List Pt := l.take k ++ l.drop (k + 1)
def ptStep (l : List Pt) (k : Nat) : Bool := partB (l.getD k pt0).ps (l.getD k pt0).u && decide (findP (l.take k) ((l.getD k pt0).ps.getD 0 pk0) = k)
def ptsK (l : List Pt) (k : Nat) : Bool := (List.range k).all (ptStep l)
def ptsB (l : List Pt) : Bool := decide (l.length ≤ 3) && ptsK l l.length
def g_partsCopied : PC := fun args => match args with
  | [.l _ rows] => some (∃ l, rows = ptRows l ∧ ptMid l, .own 0, [.tr .whole 36 2 [.sl 24 9 [.cell, .cell, .cell, .cell, .cell, .cell, .cell, .cell, .sl 5 1 [.cell]], .cell] rows])
  | _ => none
def g_partsLive : PC := fun args => match args with
  | [.l _ rows, .v (.int .i64 n)] => some (∃ l, rows = ptRows l ∧ ptMid l, .own 0, [.tr .whole 36 2 [.sl 24 9 [.cell, .cell, .cell, .cell, .cell, .cell, .cell, .cell, .sl 5 1 [.cell]], .cell] (ptRows (liveP (ptsOf rows) n))])
  | _ => none
def g_partAt : PC := fun args => match args with
  | [.l _ rows', .agg [.v (.int .i64 f), .v (.int .i64 t), .v (.int .i64 p), .v (.int .i64 h), .v (.int .i64 i), .v (.int .i64 a), .v (.bool m), .v (.bool u), .l _ rows]] => some (∃ l, rows' = ptRows l ∧ l.length ≤ 1048576 ∧ ∀ x ∈ l, 0 < x.ps.length, .v (.int .i64 (atP (ptsOf rows') ⟨f, t, p, h, i, a, m, u, bytesOfRows rows⟩)), [])
  | _ => none
def g_partsWithout : PC := fun args => match args with
  | [.l _ rows, .v (.int .i64 n)] => some ((∃ l, rows = ptRows l ∧ ptMid l) ∧ 0 ≤ n ∧ n < (rows.length : Int), .own 0, [.tr .whole 36 2 [.sl 24 9 [.cell, .cell, .cell, .cell, .cell, .cell, .cell, .cell, .sl 5 1 [.cell]], .cell] (ptRows (outP (ptsOf rows) n.toNat))])
  | _ => none
def g_partsOk : PC := fun args => match args with
  | [.l _ rows] => some (∃ l, rows = ptRows l ∧ ptMid l, .v (.bool (ptsB (ptsOf rows))), [])
  | _ => none
def g_isPartTime : PC := fun args => match args with
  | [.v (.int .i64 v)] => some (True, .v (.bool (inZ v 0 999985)), [])
  | _ => none
def qcc : List (FuncId × Abs) := [(59, pureAbs g_partCopied)]
def qat : List (FuncId × Abs) := [(57, pureAbs g_ofOne)]
def qwo : List (FuncId × Abs) := [(77, pureAbs g_partsCopied)]
def qok : List (FuncId × Abs) := [(19, pureAbs g_partOk), (63, pureAbs g_partAt)]
def g_packetCopiedS : PC := fun args => match args with
  | [.agg [.v (.int .i64 f), .v (.int .i64 t), .v (.int .i64 p), .v (.int .i64 h), .v (.int .i64 i), .v (.int .i64 a), .v (.bool m), .v (.bool u), .l _ rows]] => some (∃ xs, rows = rowsOfBytes xs ∧ xs.length ≤ 1048576, .agg [.v (.int .i64 f), .v (.int .i64 t), .v (.int .i64 p), .v (.int .i64 h), .v (.int .i64 i), .v (.int .i64 a), .v (.bool m), .v (.bool u), .own 0], [.sl 5 1 rows])
  | _ => none
def pcS : List (FuncId × Abs) := [(70, pureAbs g_bytesCopied)]
def withF (l : List Pt) (q : Pk) (now : Int) : List Pt := l ++ [⟨[q], now + 15⟩]
def g_partsWith : PC := fun args => match args with
  | [.l _ rows', .agg [.v (.int .i64 f), .v (.int .i64 t), .v (.int .i64 p), .v (.int .i64 h), .v (.int .i64 i), .v (.int .i64 a), .v (.bool m), .v (.bool u), .l _ rows], .v (.int .i64 n)] => some ((∃ l, rows' = ptRows l ∧ ptMid l ∧ l.length ≤ 1000) ∧ (∃ xs, rows = rowsOfBytes xs ∧ xs.length ≤ 1048576) ∧ 0 ≤ n ∧ n ≤ 1000000,
      (if rows'.length ≤ 2 then .own 0 else .sub 0 1 (rows'.length + 1)), [.tr .whole 36 2 [.sl 24 9 [.cell, .cell, .cell, .cell, .cell, .cell, .cell, .cell, .sl 5 1 [.cell]], .cell] (ptRows (withF (ptsOf rows') ⟨f, t, p, h, i, a, m, u, bytesOfRows rows⟩ n))])
  | _ => none
def qwi : List (FuncId × Abs) := [(42, pureAbs g_packetCopied), (77, pureAbs g_partsCopied)]
def hitL (l : List Pt) (k : Nat) (q : Pk) : List Pt := match putO (l.getD k pt0).ps (l.getD k pt0).u q with
  | none => outP l k
  | some r => if wholeB r (l.getD k pt0).u = true then outP l k else l.set k ⟨r, (l.getD k pt0).u⟩
def hitP (l : List Pt) (k : Nat) (q : Pk) : Pk := match putO (l.getD k pt0).ps (l.getD k pt0).u q with
  | none => pk0
  | some r => wholeV r (l.getD k pt0).u
def hitB (l : List Pt) (k : Nat) (q : Pk) : Bool := match putO (l.getD k pt0).ps (l.getD k pt0).u q with
  | none => false
  | some r => wholeB r (l.getD k pt0).u
def g_partsPut : PC := fun args => match args with
  | [.l _ rows', .v (.int .i64 n), .agg [.v (.int .i64 f), .v (.int .i64 t), .v (.int .i64 p), .v (.int .i64 h), .v (.int .i64 i), .v (.int .i64 a), .v (.bool m), .v (.bool u), .l _ rows]] => some ((∃ l, rows' = ptRows l ∧ ptMid l ∧ l.length ≤ 1000) ∧ (∃ xs, rows = rowsOfBytes xs ∧ xs.length ≤ 1048576) ∧ 0 ≤ n ∧ n < (rows'.length : Int),
      .tup [.own 0, .agg [.v (.int .i64 (hitP (ptsOf rows') n.toNat ⟨f, t, p, h, i, a, m, u, bytesOfRows rows⟩).f), .v (.int .i64 (hitP (ptsOf rows') n.toNat ⟨f, t, p, h, i, a, m, u, bytesOfRows rows⟩).t), .v (.int .i64 (hitP (ptsOf rows') n.toNat ⟨f, t, p, h, i, a, m, u, bytesOfRows rows⟩).p), .v (.int .i64 (hitP (ptsOf rows') n.toNat ⟨f, t, p, h, i, a, m, u, bytesOfRows rows⟩).h), .v (.int .i64 (hitP (ptsOf rows') n.toNat ⟨f, t, p, h, i, a, m, u, bytesOfRows rows⟩).i), .v (.int .i64 (hitP (ptsOf rows') n.toNat ⟨f, t, p, h, i, a, m, u, bytesOfRows rows⟩).a), .v (.bool (hitP (ptsOf rows') n.toNat ⟨f, t, p, h, i, a, m, u, bytesOfRows rows⟩).m), .v (.bool (hitP (ptsOf rows') n.toNat ⟨f, t, p, h, i, a, m, u, bytesOfRows rows⟩).u), .own 1], .v (.bool (hitB (ptsOf rows') n.toNat ⟨f, t, p, h, i, a, m, u, bytesOfRows rows⟩))],
      [.tr .whole 36 2 [.sl 24 9 [.cell, .cell, .cell, .cell, .cell, .cell, .cell, .cell, .sl 5 1 [.cell]], .cell] (ptRows (hitL (ptsOf rows') n.toNat ⟨f, t, p, h, i, a, m, u, bytesOfRows rows⟩)), .sl 5 1 (rowsOfBytes (hitP (ptsOf rows') n.toNat ⟨f, t, p, h, i, a, m, u, bytesOfRows rows⟩).d)])
  | _ => none
def qpp : List (FuncId × Abs) := [(26, pureAbs g_partPut), (78, pureAbs g_partsWithout), (22, pureAbs g_partWhole), (77, pureAbs g_partsCopied)]
def phOk (l : List Pt) (q : Pk) (n : Int) : Bool := ptsB l && q.ok && inZ n 0 999985
def alone (q : Pk) : Bool := decide (q.a = 0) && !q.m
def phF (l : List Pt) (q : Pk) (n : Int) : List Pt := if phOk l q n = true then (if alone q = true then liveP l n else if findP (liveP l n) q = (liveP l n).length then withF (liveP l n) q n else hitL (liveP l n) (findP (liveP l n) q) q) else []
def phP (l : List Pt) (q : Pk) (n : Int) : Pk := if phOk l q n = true then (if alone q = true then q else if findP (liveP l n) q = (liveP l n).length then pk0 else hitP (liveP l n) (findP (liveP l n) q) q) else pk0
def phB (l : List Pt) (q : Pk) (n : Int) : Bool := phOk l q n && (alone q || (!decide (findP (liveP l n) q = (liveP l n).length) && hitB (liveP l n) (findP (liveP l n) q) q))
def phS (l : List Pt) (q : Pk) (n : Int) : Bool := phOk l q n && (!alone q && decide (findP (liveP l n) q = (liveP l n).length) && !decide ((liveP l n).length ≤ 2))
def g_partsHear : PC := fun args => match args with
  | [.l _ rows', .agg [.v (.int .i64 f), .v (.int .i64 t), .v (.int .i64 p), .v (.int .i64 h), .v (.int .i64 i), .v (.int .i64 a), .v (.bool m), .v (.bool u), .l _ rows], .v (.int .i64 n)] => some ((∃ l, rows' = ptRows l ∧ ptMid l) ∧ (∃ xs, rows = rowsOfBytes xs ∧ xs.length ≤ 1048576),
      .tup [(if phS (ptsOf rows') ⟨f, t, p, h, i, a, m, u, bytesOfRows rows⟩ n = true then .sub 0 1 4 else .own 0), .agg [.v (.int .i64 (phP (ptsOf rows') ⟨f, t, p, h, i, a, m, u, bytesOfRows rows⟩ n).f), .v (.int .i64 (phP (ptsOf rows') ⟨f, t, p, h, i, a, m, u, bytesOfRows rows⟩ n).t), .v (.int .i64 (phP (ptsOf rows') ⟨f, t, p, h, i, a, m, u, bytesOfRows rows⟩ n).p), .v (.int .i64 (phP (ptsOf rows') ⟨f, t, p, h, i, a, m, u, bytesOfRows rows⟩ n).h), .v (.int .i64 (phP (ptsOf rows') ⟨f, t, p, h, i, a, m, u, bytesOfRows rows⟩ n).i), .v (.int .i64 (phP (ptsOf rows') ⟨f, t, p, h, i, a, m, u, bytesOfRows rows⟩ n).a), .v (.bool (phP (ptsOf rows') ⟨f, t, p, h, i, a, m, u, bytesOfRows rows⟩ n).m), .v (.bool (phP (ptsOf rows') ⟨f, t, p, h, i, a, m, u, bytesOfRows rows⟩ n).u), .own 1], .v (.bool (phB (ptsOf rows') ⟨f, t, p, h, i, a, m, u, bytesOfRows rows⟩ n))],
      [.tr .whole 36 2 [.sl 24 9 [.cell, .cell, .cell, .cell, .cell, .cell, .cell, .cell, .sl 5 1 [.cell]], .cell] (ptRows (phF (ptsOf rows') ⟨f, t, p, h, i, a, m, u, bytesOfRows rows⟩ n)), .sl 5 1 (rowsOfBytes (phP (ptsOf rows') ⟨f, t, p, h, i, a, m, u, bytesOfRows rows⟩ n).d)])
  | _ => none
def qhe : List (FuncId × Abs) := [(30, pureAbs g_partsOk), (16, pureAbs g_packetOk), (64, pureAbs g_isPartTime), (65, pureAbs g_partsLive), (42, pureAbs g_packetCopiedS), (63, pureAbs g_partAt), (66, pureAbs g_partsWith), (67, pureAbs g_partsPut)]
end Go.Proofs.Ytdeldmagmljacaa
