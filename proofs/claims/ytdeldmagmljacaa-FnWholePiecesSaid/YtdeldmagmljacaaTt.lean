import Derived.Test.YtdeldmagmljacaaTn
import Derived.Test.YtdeldmagmljacaaTd
import Derived.Test.YtdeldmagmljacaaR6
namespace Go.Proofs.Ytdeldmagmljacaa
open Go.RowKit
set_option linter.unusedSimpArgs false

/-! what a station knows and keeps, copied and changed -/
def hMid (hs : List HE) : Prop := hs.length ≤ 1048576 ∧ ∀ h ∈ hs, h.d.length ≤ 1048576
/-! bytes are to be sent -/
def sOk (ks : List KE) (hs : List HE) (a : Int) (n : Nat) (now : Int) : Bool := nOkB ks hs && decide ((0 ≤ a ∧ a ≤ 65535) ∧ n ≤ 64 ∧ 0 ≤ now ∧ now ≤ 999980)
abbrev nilA : AV := .v (.slice none 0 0)
def sendR (ok : Bool) (link : Int) (n : Nat) : AV :=
  if ok = true then (if 0 ≤ link then .tup [.agg [.own 0, .own 1], .v (.int .i64 link)] else if n < 4 then .tup [.agg [.own 0, .own 1], .v (.int .i64 (-1))] else .tup [.agg [.own 0, .sub 1 1 5], .v (.int .i64 (-1))])
  else .tup [.agg [nilA, nilA], .v (.int .i64 (-1))]
end Go.Proofs.Ytdeldmagmljacaa

namespace Go.Proofs.Ytdeldmagmljacaa
open Go.RowKit
set_option linter.unusedSimpArgs false

/-! a query is heard -/
def sRows (ds : List (List UInt8)) : List (List D) := ds.map fun d => [.l 1 (rowsOfBytes d)]
def kOut (ks : List KE) (a : Int) : List KE := ks.filter fun e => e.a != a
def hOut (hs : List HE) (a : Int) : List HE := hs.filter fun h => h.a != a
def sentOf (hs : List HE) (a : Int) : List (List UInt8) := (hs.filter fun h => h.a == a).map HE.d
def wantB (ks : List KE) (hs : List HE) (own qa qw : Int) : Bool := (qw == own || ks.any fun e => e.a == qa) || hs.any fun h => h.a == qa
def rOk (ks : List KE) (hs : List HE) (qk ql qa qw now : Int) : Bool := nOkB ks hs && (qB qk ql qa qw && decide (0 ≤ now ∧ now ≤ 999980))
def hearR (ok want : Bool) (n : Nat) : AV :=
  if ok = true then (if want = true then (if n < 4 then .tup [.agg [.own 0, .own 1], .own 2] else .tup [.agg [.sub 0 1 5, .own 1], .own 2]) else .tup [.agg [.own 0, .own 1], .own 2])
  else .tup [.agg [nilA, nilA], .own 0]
end Go.Proofs.Ytdeldmagmljacaa
