import Derived.Test.YtdeldmagmljacaaTt
import Derived.Test.YtdeldmagmljacaaR6
namespace Go.Proofs.Ytdeldmagmljacaa
open Go.RowKit
set_option linter.unusedSimpArgs false

/-! a station is drawn -/
inductive NF where
  | nil
  | oo
  | os
  | so
deriving DecidableEq
structure NS where
  f : NF
  km : List KE
  hm : List HE
  p : Int
def NS.ks (v : NS) : List KE := if v.f = .so then v.km.drop 1 else v.km
def NS.hs (v : NS) : List HE := if v.f = .os then v.hm.drop 1 else v.hm
def sendS (ks : List KE) (hs : List HE) (a : Int) (d : List UInt8) (now p : Int) : NS :=
  if sOk ks hs a d.length now = true then
    if 0 ≤ nfV ks hs a now then ⟨.oo, ks, hs, p⟩ else if hs.length < 4 then ⟨.oo, ks, hs ++ [⟨a, d⟩], p⟩ else ⟨.os, ks, hs ++ [⟨a, d⟩], p⟩
  else ⟨.nil, [], [], p⟩
def hearS (ks : List KE) (hs : List HE) (own : Int) (q : QueryV) (now p : Int) : NS :=
  if rOk ks hs q.k q.l q.a q.w now = true then
    if wantB ks hs own q.a q.w = true then (if (kOut ks q.a).length < 4 then ⟨.oo, kOut ks q.a ++ [⟨q.a, q.l, now + 20⟩], hOut hs q.a, p⟩ else ⟨.so, kOut ks q.a ++ [⟨q.a, q.l, now + 20⟩], hOut hs q.a, p⟩)
    else ⟨.oo, ks, hs, p⟩
  else ⟨.nil, [], [], p⟩
def byteP (xs : List UInt8) (p : Int) : Int := p + 1 + 1 + 1 + 2 * ((pickV xs (p + 1 + 1) 3).toNat : Int)
def nStep (xs : List UInt8) (v : NS) : NS :=
  if pickV xs v.p 2 = 0 then sendS v.ks v.hs (pickV xs (v.p + 1) 6) (bytesV xs (v.p + 1 + 1 + 1) (pickV xs (v.p + 1 + 1) 3).toNat) (pickV xs (byteP xs v.p) 30) (byteP xs v.p + 1)
  else hearS v.ks v.hs (pickV xs (v.p + 1) 6) (queryV xs (v.p + 1 + 1) 0) (pickV xs (queryV xs (v.p + 1 + 1) 0).p 30) ((queryV xs (v.p + 1 + 1) 0).p + 1)
def nRun (xs : List UInt8) (p : Int) : Nat → NS
  | 0 => ⟨.nil, [], [], p + 1⟩
  | k + 1 => nStep xs (nRun xs p k)
structure NInv (v : NS) : Prop where
  k : v.km.length ≤ 5
  h : v.hm.length ≤ 5
  so : v.f = .so → v.km.length = 5
  os : v.f = .os → v.hm.length = 5
  no : v.f = .nil → v.km = [] ∧ v.hm = []
  d : ∀ e ∈ v.hm, e.d.length ≤ 64
structure NearV where
  s1 : Nat
  s2 : Nat
  ks : List KE
  hs : List HE
  p : Int
def finS (xs : List UInt8) (v : NS) (n : Int) : NearV :=
  if (decide (0 < n) && pickV xs v.p n == n - 1) = true then
    if pickV xs (v.p + oneIf n) 3 = 0 then ⟨3, if v.f = .nil then 1 else 2, v.ks ++ [⟨pickV xs (v.p + oneIf n + 1) 6, pickV xs (v.p + oneIf n + 1 + 1) 300, pickV xs (v.p + oneIf n + 1 + 1 + 1) 9⟩], v.hs, v.p + oneIf n + 1 + 1 + 1 + 1⟩
    else if pickV xs (v.p + oneIf n) 3 = 1 then ⟨if v.f = .nil then 1 else 3, 2, v.ks, v.hs ++ [⟨pickV xs (v.p + oneIf n + 1) 6, []⟩, ⟨65536, []⟩], v.p + oneIf n + 1 + 1⟩
    else ⟨3, if v.f = .nil then 1 else 2, v.ks ++ v.ks, v.hs, v.p + oneIf n + 1⟩
  else ⟨if v.f = .nil then 1 else 3, if v.f = .nil then 1 else 2, v.ks, v.hs, v.p + oneIf n⟩
def nearV (xs : List UInt8) (p n : Int) : NearV := finS xs (nRun xs p (pickV xs p 10).toNat) n
def cellsN : NF → List AV
  | .nil => [nilA, nilA]
  | .oo => [.own 3, .own 4]
  | .os => [.own 3, .sub 4 1 5]
  | .so => [.sub 3 1 5, .own 4]
def g_near : OC := fun args B0 => match args, B0 with
  | [.ptr r o, .v (.int .i64 n)], [.var T [.l 1 rows, .v (.int .i64 p)]] => some (T = 84 ∧ r = 0 ∧ o = 0 ∧ (∃ xs, rows = rowsOfBytes xs ∧ xs.length ≤ 2000) ∧ 0 ≤ p ∧ p < 1000000000 ∧ 0 ≤ n ∧ n ≤ 1000000,
      .agg [.l (nearV (bytesOfRows rows) p n).s1 (kRows (nearV (bytesOfRows rows) p n).ks), .l (nearV (bytesOfRows rows) p n).s2 (hRows (nearV (bytesOfRows rows) p n).hs)], [.var T [.l 1 rows, .v (.int .i64 (nearV (bytesOfRows rows) p n).p)]], [])
  | _, _ => none
end Go.Proofs.Ytdeldmagmljacaa
