import Derived.Test.YtheikjkfffepnaaTx
namespace Go.Proofs.Ytheikjkfffepnaa
open Go.RowKit
set_option linter.unusedSimpArgs false

/-! the program's NearSend -/
def heldWithR (n : Nat) : AV := if n < 4 then .own 0 else .sub 0 1 5
theorem heldWithR_ids {n m : Nat} (h : 0 < m) : ∀ k ∈ (heldWithR n).ids, k < m := by
  intro k hk
  unfold heldWithR at hk
  split at hk <;> simp [AV.ids] at hk <;> omega
def g_heldWith : PC := fun args => match args with
  | [.l _ rows, .v (.int .i64 a), .l _ rows2] => some ((∃ hs, rows = hRows hs ∧ hMid hs ∧ hs.length ≤ 4) ∧ (∃ xs, rows2 = rowsOfBytes xs ∧ xs.length ≤ 1048576), heldWithR rows.length, [.sl 53 2 (rows ++ [[.v (.int .i64 a), .l 1 rows2]])])
  | _ => none
def helds : List (FuncId × Abs) := [(47, pureAbs g_bytesCopied), (49, frzAbs g_heldCopied)]
end Go.Proofs.Ytheikjkfffepnaa

namespace Go.Proofs.Ytheikjkfffepnaa
open Go.RowKit
set_option linter.unusedSimpArgs false

/-! the program's knownWith -/
def g_knownWith : PC := fun args => match args with
  | [.l _ rows, .agg [.v (.int .i64 a), .v (.int .i64 l), .v (.int .i64 u)]] => some (∃ ks, rows = kRows ks ∧ ks.length ≤ 4, heldWithR (kOut (ksOf rows) a).length, [.sl 50 3 (kRows (kOut (ksOf rows) a ++ [⟨a, l, u⟩]))])
  | _ => none
end Go.Proofs.Ytheikjkfffepnaa

namespace Go.Proofs.Ytheikjkfffepnaa
open Go.RowKit
set_option linter.unusedSimpArgs false

/-! the program's NearHear -/
def hearRI (ok want : Bool) (n : Nat) : AV :=
  if ok = true then (if want = true then (if n < 4 then .tup [.agg [.own 0, .own 1], .own 2] else .tup [.agg [.sub 0 1 5, .own 1], .own 2]) else .tup [.agg [.own 0, .own 1], nilA])
  else .tup [.agg [nilA, nilA], nilA]
def hearBI (ok want : Bool) (ks : List KE) (hs : List HE) (e : KE) : List Blk :=
  if ok = true then (if want = true then [.sl 50 3 (kRows (kOut ks e.a ++ [e])), .sl 53 2 (hRows (hOut hs e.a)), .sl 51 1 (sRows (sentOf hs e.a))] else [.sl 50 3 (kRows ks), .sl 53 2 (hRows hs)])
  else []
def g_hearI : PC := fun args => match args with
  | [.agg [.l _ rows, .l _ rows'], .v (.int .i64 own), .agg [.v (.int .i64 qk), .v (.int .i64 ql), .v (.int .i64 qa), .v (.int .i64 qw)], .v (.int .i64 now)] => some ((∃ ks, rows = kRows ks ∧ ks.length ≤ 1048576) ∧ (∃ hs, rows' = hRows hs ∧ hMid hs),
      hearRI (rOk (ksOf rows) (hsOf rows') qk ql qa qw now) (wantB (ksOf rows) (hsOf rows') own qa qw) (kOut (ksOf rows) qa).length,
      hearBI (rOk (ksOf rows) (hsOf rows') qk ql qa qw now) (wantB (ksOf rows) (hsOf rows') own qa qw) (ksOf rows) (hsOf rows') ⟨qa, ql, now + 20⟩)
  | _ => none
theorem kAny_iff (ks : List KE) (a : Int) : (ks.any fun e => e.a == a) = true ↔ ¬ kAt ks a < 0 := by
  rcases kAt_spec ks a with ⟨e, h⟩ | ⟨j, hj, e, h, _⟩
  · rw [e, List.any_eq_true]
    refine ⟨fun ⟨x, hx, hxa⟩ => ?_, fun h => by omega⟩
    obtain ⟨i, hi, rfl⟩ := List.getElem_of_mem hx
    exact absurd (by simpa using hxa) (h i hi)
  · rw [e, List.any_eq_true]
    exact ⟨fun _ => by omega, fun _ => ⟨_, List.getElem_mem hj, by simpa using h⟩⟩
theorem hAny_iff (hs : List HE) (a : Int) : (hs.any fun h => h.a == a) = true ↔ (sentOf hs a).length ≠ 0 := by
  rw [List.any_eq_true, sentOf, List.length_map]
  constructor
  · rintro ⟨x, hx, hxa⟩ h
    have := List.eq_nil_of_length_eq_zero h
    have hm : x ∈ hs.filter fun h => h.a == a := List.mem_filter.2 ⟨hx, hxa⟩
    rw [this] at hm
    cases hm
  · intro h
    cases hf : hs.filter fun h => h.a == a with
    | nil => rw [hf] at h; exact absurd rfl h
    | cons x t =>
      have hm : x ∈ hs.filter fun h => h.a == a := by rw [hf]; simp
      exact ⟨x, (List.mem_filter.1 hm).1, (List.mem_filter.1 hm).2⟩
def ihears : List (FuncId × Abs) := [(23, pureAbs g_nearOk), (24, pureAbs g_queryOk), (25, pureAbs g_isNearTime), (27, pureAbs g_knownAt), (28, frzAbs g_copyM), (26, frzAbs g_heldFor), (30, frzAbs g_heldWithout), (29, frzAbs g_knownWith)]
end Go.Proofs.Ytheikjkfffepnaa

namespace Go.Proofs.Ytheikjkfffepnaa
open Go.RowKit
set_option linter.unusedSimpArgs false

/-! the draws of the laws of NearSend and NearHear -/
def nsAddr (X : List UInt8) (p : Int) : Int := IntKind.i64.wrap (pickV X p 6 + IntKind.i64.wrap (IntKind.i64.wrap ((pickV X (p + 1) 15).tdiv 14) * 65536))
def nsLong (X : List UInt8) (p : Int) : Nat := (pickV X (p + 1 + 1) 4).toNat
def nsP (X : List UInt8) (p : Int) : Int := p + 1 + 1 + 1 + 2 * (nsLong X p : Int)
def nsNow (X : List UInt8) (p : Int) : Int := IntKind.i64.wrap (pickV X p 50 - IntKind.i64.wrap (IntKind.i64.wrap ((pickV X (p + 1) 15).tdiv 14) * 60))
def g_drawNS : PC := fun args => match args with
  | [.l _ rows] => some (∃ xs, rows = rowsOfBytes xs, .tup [.agg [.l (nearV ((bytesOfRows rows).take 2000) 0 15).s1 (kRows (nearV ((bytesOfRows rows).take 2000) 0 15).ks), .l (nearV ((bytesOfRows rows).take 2000) 0 15).s2 (hRows (nearV ((bytesOfRows rows).take 2000) 0 15).hs)], .v (.int .i64 (nsAddr ((bytesOfRows rows).take 2000) (nearV ((bytesOfRows rows).take 2000) 0 15).p)), .l 1 (rowsOfBytes (bytesV ((bytesOfRows rows).take 2000) ((nearV ((bytesOfRows rows).take 2000) 0 15).p + 1 + 1 + 1) (nsLong ((bytesOfRows rows).take 2000) (nearV ((bytesOfRows rows).take 2000) 0 15).p))), .v (.int .i64 (nsNow ((bytesOfRows rows).take 2000) (nsP ((bytesOfRows rows).take 2000) (nearV ((bytesOfRows rows).take 2000) 0 15).p)))], [])
  | _ => none
def g_drawNH : PC := fun args => match args with
  | [.l _ rows] => some (∃ xs, rows = rowsOfBytes xs, .tup [.agg [.l (nearV ((bytesOfRows rows).take 2000) 0 15).s1 (kRows (nearV ((bytesOfRows rows).take 2000) 0 15).ks), .l (nearV ((bytesOfRows rows).take 2000) 0 15).s2 (hRows (nearV ((bytesOfRows rows).take 2000) 0 15).hs)], .v (.int .i64 (pickV ((bytesOfRows rows).take 2000) (nearV ((bytesOfRows rows).take 2000) 0 15).p 6)), .agg [.v (.int .i64 (queryV ((bytesOfRows rows).take 2000) ((nearV ((bytesOfRows rows).take 2000) 0 15).p + 1) 15).k), .v (.int .i64 (queryV ((bytesOfRows rows).take 2000) ((nearV ((bytesOfRows rows).take 2000) 0 15).p + 1) 15).l), .v (.int .i64 (queryV ((bytesOfRows rows).take 2000) ((nearV ((bytesOfRows rows).take 2000) 0 15).p + 1) 15).a), .v (.int .i64 (queryV ((bytesOfRows rows).take 2000) ((nearV ((bytesOfRows rows).take 2000) 0 15).p + 1) 15).w)], .v (.int .i64 (pickV ((bytesOfRows rows).take 2000) (queryV ((bytesOfRows rows).take 2000) ((nearV ((bytesOfRows rows).take 2000) 0 15).p + 1) 15).p 50))], [])
  | _ => none
end Go.Proofs.Ytheikjkfffepnaa
