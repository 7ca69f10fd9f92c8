import Derived.Test.YtheikjkfffepnaaTz
import Derived.Test.YtheikjkfffepnaaTo
namespace Go.Proofs.Ytheikjkfffepnaa
open Go.RowKit
set_option linter.unusedSimpArgs false
set_option linter.unusedVariables false

/-! NearSend and NearHear with data for answers; the laws' comparing functions -/
theorem OwnOk.sub {P : Program} {f : FuncId} {g g' : OC} (C : OwnOk P f g) (h : ∀ args B0 c r B1 bs, g' args B0 = some (c, r, B1, bs) → c → ∃ c0, g args B0 = some (c0, r, B1, bs) ∧ c0) : OwnOk P f g' :=
  ⟨C.there, fun w F Z0 s0 args vs B0 c r B1 bs hH hargs hlive hg hc => by
    obtain ⟨c0, h1, h2⟩ := h args B0 c r B1 bs hg hc
    exact C.does w F Z0 s0 args vs B0 c0 r B1 bs hH hargs hlive h1 h2⟩
def szA (ok : Bool) (n : Nat) : Nat := if ok = true then n else 1
def sendK (ok : Bool) (ks : List KE) : List KE := if ok = true then ks else []
def sendH (ok : Bool) (link : Int) (hs : List HE) (e : HE) : List HE := if ok = true then (if 0 ≤ link then hs else if hs.length < 4 then hs ++ [e] else ((hs ++ [e]).take 5).drop 1) else []
def sendL (ok : Bool) (link : Int) : Int := if ok = true then (if 0 ≤ link then link else -1) else -1
def g_sendD : PC := fun args => match args with
  | [.agg [.l _ rows, .l _ rows'], .v (.int .i64 a), .l _ rows2, .v (.int .i64 now)] => some ((∃ ks, rows = kRows ks ∧ ks.length ≤ 1048576) ∧ (∃ hs, rows' = hRows hs ∧ hMid hs) ∧ (∃ xs, rows2 = rowsOfBytes xs ∧ xs.length ≤ 1048576),
      .tup [.agg [.l (szA (sOk (ksOf rows) (hsOf rows') a rows2.length now) 3) (kRows (sendK (sOk (ksOf rows) (hsOf rows') a rows2.length now) (ksOf rows))),
        .l (szA (sOk (ksOf rows) (hsOf rows') a rows2.length now) 2) (hRows (sendH (sOk (ksOf rows) (hsOf rows') a rows2.length now) (nfV (ksOf rows) (hsOf rows') a now) (hsOf rows') ⟨a, bytesOfRows rows2⟩))],
        .v (.int .i64 (sendL (sOk (ksOf rows) (hsOf rows') a rows2.length now) (nfV (ksOf rows) (hsOf rows') a now)))], [])
  | _ => none
def hearK (ok want : Bool) (ks : List KE) (e : KE) : List KE := if ok = true then (if want = true then (if (kOut ks e.a).length < 4 then kOut ks e.a ++ [e] else ((kOut ks e.a ++ [e]).take 5).drop 1) else ks) else []
def hearH (ok want : Bool) (hs : List HE) (a : Int) : List HE := if ok = true then (if want = true then hOut hs a else hs) else []
def hearL (ok want : Bool) (hs : List HE) (a : Int) : List (List UInt8) := if ok = true then (if want = true then sentOf hs a else []) else []
def g_hearD : PC := fun args => match args with
  | [.agg [.l _ rows, .l _ rows'], .v (.int .i64 own), .agg [.v (.int .i64 qk), .v (.int .i64 ql), .v (.int .i64 qa), .v (.int .i64 qw)], .v (.int .i64 now)] => some ((∃ ks, rows = kRows ks ∧ ks.length ≤ 1048576) ∧ (∃ hs, rows' = hRows hs ∧ hMid hs),
      .tup [.agg [.l (szA (rOk (ksOf rows) (hsOf rows') qk ql qa qw now) 3) (kRows (hearK (rOk (ksOf rows) (hsOf rows') qk ql qa qw now) (wantB (ksOf rows) (hsOf rows') own qa qw) (ksOf rows) ⟨qa, ql, now + 20⟩)),
        .l (szA (rOk (ksOf rows) (hsOf rows') qk ql qa qw now) 2) (hRows (hearH (rOk (ksOf rows) (hsOf rows') qk ql qa qw now) (wantB (ksOf rows) (hsOf rows') own qa qw) (hsOf rows') qa))],
        .l 1 (sRows (hearL (rOk (ksOf rows) (hsOf rows') qk ql qa qw now) (wantB (ksOf rows) (hsOf rows') own qa qw) (hsOf rows') qa))], [])
  | _ => none
theorem hearD_ofM {f : FuncId} (C : OwnOk Try.prog f (ocOf g_hearM)) : OwnOk Try.prog f (ocOf g_hearD) := by
  refine C.toData.sub fun args B0 c r B1 bs hg hc => ?_
  unfold ocOf g_hearD at hg
  split at hg
  · split at hg
    · rename_i c' r' bs' hg'
      cases hg
      split at hg'
      · rename_i sz rows sz' rows' own qk ql qa qw now
        cases hg'
        obtain ⟨⟨ks, rfl, hk⟩, hs, rfl, hh⟩ := hc
        refine ⟨(∃ k, kRows ks = kRows k ∧ k.length ≤ 1048576) ∧ (∃ h, hRows hs = hRows h ∧ hMid h), ?_, ⟨ks, rfl, hk⟩, hs, rfl, hh⟩
        simp only [ocOf, dataOf, g_hearM, ksOf_rows, hsOf_rows, rowsOf_len, hRows_len, bytesOf_rows]
        generalize rOk ks hs qk ql qa qw now = ok
        generalize wantB ks hs own qa qw = want
        refine congrArg some (Prod.ext rfl (Prod.ext ?_ rfl))
        dsimp only
        cases ok
        · simp only [hearR, hearB, szA, hearK, hearH, hearL, Bool.false_eq_true, ↓reduceIte]
          rfl
        · cases want
          · simp only [hearR, hearB, szA, hearK, hearH, hearL, Bool.false_eq_true, ↓reduceIte]
            rfl
          · by_cases h4 : (kOut ks qa).length < 4
            · simp only [hearR, hearB, szA, hearK, hearH, hearL, h4, ↓reduceIte]
              rfl
            · simp only [hearR, hearB, szA, hearK, hearH, hearL, h4, ↓reduceIte]
              rw [← kRows_drop, ← kRows_take]
              rfl
      · cases hg'
    · cases hg
  · cases hg
theorem specNearHearD_ok : OwnOk Try.prog 5 (ocOf g_hearD) := hearD_ofM specNearHearM_ok
def dsOf (rows : List (List D)) : List (List UInt8) := rows.map fun r => bytesOfRows (r.getD 0 (.v undef)).toL
def dEq : List (List UInt8) → List (List UInt8) → Bool
  | [], [] => true
  | e :: t, e' :: t' => (e == e') && dEq t t'
  | _, _ => false
def g_sameL : PC := fun args => match args with
  | [.l _ rows, .l _ rows'] => some ((∃ ds, rows = sRows ds ∧ ds.length ≤ 1048576) ∧ ∃ ds, rows' = sRows ds ∧ ds.length ≤ 1048576, .v (.bool (dEq (dsOf rows) (dsOf rows'))), [])
  | _ => none
def g_sameN : PC := fun args => match args with
  | [.agg [.l _ rows, .l _ rows'], .agg [.l _ rows2, .l _ rows2']] => some ((∃ ks, rows = kRows ks ∧ ks.length ≤ 1048576) ∧ (∃ hs, rows' = hRows hs ∧ hMid hs) ∧ (∃ ks, rows2 = kRows ks ∧ ks.length ≤ 1048576) ∧ ∃ hs, rows2' = hRows hs ∧ hMid hs, .v (.bool (kEq (ksOf rows) (ksOf rows2) && hEq (hsOf rows') (hsOf rows2'))), [])
  | _ => none
def g_hfD : PC := fun args => match args with
  | [.agg [.l _ rows, .l _ rows'], .v (.int .i64 a)] => some (∃ hs, rows' = hRows hs ∧ hMid hs, .l 1 (sRows (sentOf (hsOf rows') a)), [])
  | _ => none
end Go.Proofs.Ytheikjkfffepnaa
