import Derived.Test.YtmhmhgegdagjkaaVc
import Derived.Test.YtmhmhgegdagjkaaR6
set_option linter.unusedVariables false
set_option linter.unusedSimpArgs false
namespace Go.Proofs.Ytmhmhgegdagjkaa
open Go.RowKit
set_option linter.unusedSimpArgs false
structure PkV where
  f : Int
  t : Int
  pr : Int
  h : Int
  i : Int
  a : Int
  m : Bool
  u : Bool
  d : List UInt8
  q : Int
def pkN (xs : List UInt8) (p : Int) : Nat := (pickV xs (p + 1 + 1 + 1 + 1 + 1) 12).toNat
def pkQ (xs : List UInt8) (p : Int) : Int := p + 1 + 1 + 1 + 1 + 1 + 1 + 2 * (pkN xs p : Int)
def pkS (xs : List UInt8) (p : Int) (a : Int) (m u : Bool) (q : Int) : PkV := ⟨pickV xs p 5, pickV xs (p + 1) 5, pickV xs (p + 1 + 1) 4, pickV xs (p + 1 + 1 + 1) 6, pickV xs (p + 1 + 1 + 1 + 1) 4, a, m, u, bytesV xs (p + 1 + 1 + 1 + 1 + 1 + 1) (pkN xs p), q⟩
def pkBase (xs : List UInt8) (p : Int) : PkV :=
  if pickV xs (pkQ xs p) 4 = 0 then pkS xs p 0 false true (pkQ xs p + 1)
  else if pickV xs (pkQ xs p) 4 = 1 then
    if 0 < pkN xs p then pkS xs p (pickV xs (pkQ xs p + 1) 20) (pickV xs (pkQ xs p + 1 + 1) 2 == 0) false (pkQ xs p + 1 + 1 + 1)
    else pkS xs p (pickV xs (pkQ xs p + 1) 20) false false (pkQ xs p + 1 + 1)
  else pkS xs p 0 false false (pkQ xs p + 1)
def pktE (xs : List UInt8) (b : PkV) (x : Int) : PkV :=
  if pickV xs x 5 = 0 then { b with t := IntKind.i64.wrap (65536 - IntKind.i64.wrap (pickV xs (x + 1) 2 * 65540)), q := x + 1 + 1 }
  else if pickV xs x 5 = 1 then { b with h := IntKind.i64.wrap (256 - IntKind.i64.wrap (pickV xs (x + 1) 2 * 300)), q := x + 1 + 1 }
  else if pickV xs x 5 = 2 then { b with d := List.replicate 49 0, q := x + 1 }
  else if pickV xs x 5 = 3 then { b with m := true, d := [], q := x + 1 }
  else { b with u := true, a := 3, q := x + 1 }
def pktO (xs : List UInt8) (b : PkV) (n : Int) : PkV :=
  if (decide (0 < n) && pickV xs b.q n == n - 1) = true then pktE xs b (b.q + oneIf n) else { b with q := b.q + oneIf n }
def pktV (xs : List UInt8) (p n : Int) : PkV := pktO xs (pkBase xs p) n
def g_packet : OC := fun args B0 => match args, B0 with
  | [.ptr r o, .v (.int .i64 n)], [.var T [.l 1 rows, .v (.int .i64 p)]] => some (T = 107 ∧ r = 0 ∧ o = 0 ∧ (∃ xs, rows = rowsOfBytes xs ∧ xs.length ≤ 2000) ∧ 0 ≤ p ∧ p < 100000000000 ∧ 0 ≤ n ∧ n ≤ 1000000,
      .agg [.v (.int .i64 (pktV (bytesOfRows rows) p n).f), .v (.int .i64 (pktV (bytesOfRows rows) p n).t), .v (.int .i64 (pktV (bytesOfRows rows) p n).pr), .v (.int .i64 (pktV (bytesOfRows rows) p n).h), .v (.int .i64 (pktV (bytesOfRows rows) p n).i), .v (.int .i64 (pktV (bytesOfRows rows) p n).a), .v (.bool (pktV (bytesOfRows rows) p n).m), .v (.bool (pktV (bytesOfRows rows) p n).u), .l 1 (rowsOfBytes (pktV (bytesOfRows rows) p n).d)], [.var T [.l 1 rows, .v (.int .i64 (pktV (bytesOfRows rows) p n).q)]], [])
  | _, _ => none
end Go.Proofs.Ytmhmhgegdagjkaa
