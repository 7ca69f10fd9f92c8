import Derived.Test.YtfdgdffljaccdaaTx
namespace Go.Proofs.Ytfdgdffljaccdaa
open Go.RowKit
set_option linter.unusedSimpArgs false

/-! the program's NearSend -/
def heldWithR (n : Nat) : AV := if n < 4 then .own 0 else .sub 0 1 5
theorem heldWithR_ids {n m : Nat} (h : 0 < m) : ∀ k ∈ (heldWithR n).ids, k < m := by
  intro k hk
  unfold heldWithR at hk
  split at hk <;> simp [AV.ids] at hk <;> omega
def g_heldWith : PC := fun args => match args with
  | [.l _ rows, .v (.int .i64 a), .l _ rows2] => some ((∃ hs, rows = hRows hs ∧ hMid hs ∧ hs.length ≤ 4) ∧ (∃ xs, rows2 = rowsOfBytes xs ∧ xs.length ≤ 1048576), heldWithR rows.length, [.sl 40 2 (rows ++ [[.v (.int .i64 a), .l 1 rows2]])])
  | _ => none
def helds : List (FuncId × Abs) := [(78, pureAbs g_bytesCopied), (77, frzAbs g_heldCopied)]
def isends : List (FuncId × Abs) := [(12, pureAbs g_nearOk), (50, pureAbs g_isPair), (51, pureAbs g_isNearTime), (16, pureAbs g_nearFind), (52, frzAbs g_copyM), (53, frzAbs g_knownCopied), (54, frzAbs g_heldWith)]
end Go.Proofs.Ytfdgdffljaccdaa

namespace Go.Proofs.Ytfdgdffljaccdaa
open Go.RowKit
set_option linter.unusedSimpArgs false

/-! the program's knownWith -/
def g_knownWith : PC := fun args => match args with
  | [.l _ rows, .agg [.v (.int .i64 a), .v (.int .i64 l), .v (.int .i64 u)]] => some (∃ ks, rows = kRows ks ∧ ks.length ≤ 4, heldWithR (kOut (ksOf rows) a).length, [.sl 74 3 (kRows (kOut (ksOf rows) a ++ [⟨a, l, u⟩]))])
  | _ => none
end Go.Proofs.Ytfdgdffljaccdaa

namespace Go.Proofs.Ytfdgdffljaccdaa
open Go.RowKit
set_option linter.unusedSimpArgs false

/-! the program's NearHear -/
def hearRI (ok want : Bool) (n : Nat) : AV :=
  if ok = true then (if want = true then (if n < 4 then .tup [.agg [.own 0, .own 1], .own 2] else .tup [.agg [.sub 0 1 5, .own 1], .own 2]) else .tup [.agg [.own 0, .own 1], nilA])
  else .tup [.agg [nilA, nilA], nilA]
def hearBI (ok want : Bool) (ks : List KE) (hs : List HE) (e : KE) : List Blk :=
  if ok = true then (if want = true then [.sl 74 3 (kRows (kOut ks e.a ++ [e])), .sl 40 2 (hRows (hOut hs e.a)), .sl 22 1 (sRows (sentOf hs e.a))] else [.sl 74 3 (kRows ks), .sl 40 2 (hRows hs)])
  else []
def g_hearI : PC := fun args => match args with
  | [.agg [.l _ rows, .l _ rows'], .v (.int .i64 own), .agg [.v (.int .i64 qk), .v (.int .i64 ql), .v (.int .i64 qa), .v (.int .i64 qw)], .v (.int .i64 now)] => some ((∃ ks, rows = kRows ks ∧ ks.length ≤ 1048576) ∧ (∃ hs, rows' = hRows hs ∧ hMid hs),
      hearRI (rOk (ksOf rows) (hsOf rows') qk ql qa qw now) (wantB (ksOf rows) (hsOf rows') own qa qw) (kOut (ksOf rows) qa).length,
      hearBI (rOk (ksOf rows) (hsOf rows') qk ql qa qw now) (wantB (ksOf rows) (hsOf rows') own qa qw) (ksOf rows) (hsOf rows') ⟨qa, ql, now + 20⟩)
  | _ => none
def ihears : List (FuncId × Abs) := [(12, pureAbs g_nearOk), (27, pureAbs g_queryOk), (51, pureAbs g_isNearTime), (48, pureAbs g_knownAt), (52, frzAbs g_copyM), (57, frzAbs g_heldFor), (59, frzAbs g_heldWithout), (58, frzAbs g_knownWith)]
end Go.Proofs.Ytfdgdffljaccdaa

namespace Go.Proofs.Ytfdgdffljaccdaa
open Go.RowKit
set_option linter.unusedSimpArgs false

/-! the draws of the laws of NearSend and NearHear -/
def nsAddr (X : List UInt8) (p : Int) : Int := IntKind.i64.wrap (pickV X p 6 + IntKind.i64.wrap (IntKind.i64.wrap ((pickV X (p + 1) 15).tdiv 14) * 65536))
def nsLong (X : List UInt8) (p : Int) : Nat := (pickV X (p + 1 + 1) 4).toNat
def nsP (X : List UInt8) (p : Int) : Int := p + 1 + 1 + 1 + 2 * (nsLong X p : Int)
def nsNow (X : List UInt8) (p : Int) : Int := IntKind.i64.wrap (pickV X p 50 - IntKind.i64.wrap (IntKind.i64.wrap ((pickV X (p + 1) 15).tdiv 14) * 60))
def g_drawNS : PC := fun args => match args with
  | [.l _ rows] => some (∃ xs, rows = rowsOfBytes xs, .tup [.agg [.l (nearV ((bytesOfRows rows).take 2000) 0 15).s1 (kRows (nearV ((bytesOfRows rows).take 2000) 0 15).ks), .l (nearV ((bytesOfRows rows).take 2000) 0 15).s2 (hRows (nearV ((bytesOfRows rows).take 2000) 0 15).hs)], .v (.int .i64 (nsAddr ((bytesOfRows rows).take 2000) (nearV ((bytesOfRows rows).take 2000) 0 15).p)), .l 1 (rowsOfBytes (bytesV ((bytesOfRows rows).take 2000) ((nearV ((bytesOfRows rows).take 2000) 0 15).p + 1 + 1 + 1) (nsLong ((bytesOfRows rows).take 2000) (nearV ((bytesOfRows rows).take 2000) 0 15).p))), .v (.int .i64 (nsNow ((bytesOfRows rows).take 2000) (nsP ((bytesOfRows rows).take 2000) (nearV ((bytesOfRows rows).take 2000) 0 15).p)))], [])
  | _ => none
def g_drawNH : PC := fun args => match args with
  | [.l _ rows] => some (∃ xs, rows = rowsOfBytes xs, .tup [.agg [.l (nearV ((bytesOfRows rows).take 2000) 0 15).s1 (kRows (nearV ((bytesOfRows rows).take 2000) 0 15).ks), .l (nearV ((bytesOfRows rows).take 2000) 0 15).s2 (hRows (nearV ((bytesOfRows rows).take 2000) 0 15).hs)], .v (.int .i64 (pickV ((bytesOfRows rows).take 2000) (nearV ((bytesOfRows rows).take 2000) 0 15).p 6)), .agg [.v (.int .i64 (queryV ((bytesOfRows rows).take 2000) ((nearV ((bytesOfRows rows).take 2000) 0 15).p + 1) 15).k), .v (.int .i64 (queryV ((bytesOfRows rows).take 2000) ((nearV ((bytesOfRows rows).take 2000) 0 15).p + 1) 15).l), .v (.int .i64 (queryV ((bytesOfRows rows).take 2000) ((nearV ((bytesOfRows rows).take 2000) 0 15).p + 1) 15).a), .v (.int .i64 (queryV ((bytesOfRows rows).take 2000) ((nearV ((bytesOfRows rows).take 2000) 0 15).p + 1) 15).w)], .v (.int .i64 (pickV ((bytesOfRows rows).take 2000) (queryV ((bytesOfRows rows).take 2000) ((nearV ((bytesOfRows rows).take 2000) 0 15).p + 1) 15).p 50))], [])
  | _ => none
def draws6 : List (FuncId × Abs) := [(42, ownAbs g_open), (41, ownAbs g_near), (47, ownAbs g_pick), (49, ownAbs g_bytes), (56, ownAbs g_query)]
end Go.Proofs.Ytfdgdffljaccdaa
