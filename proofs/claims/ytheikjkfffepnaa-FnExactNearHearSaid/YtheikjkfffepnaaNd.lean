import Derived.Test.YtheikjkfffepnaaNc
import Derived.Test.YtheikjkfffepnaaUd
namespace Go.Proofs.Ytheikjkfffepnaa
open Go.RowKit
set_option linter.unusedSimpArgs false
set_option linter.unusedVariables false

/-! NearSend with memory of its own, and its exact law -/
def sendKs (ok : Bool) (ks : List KE) : List KE := if ok = true then ks else []
def sendHs (ok : Bool) (link : Int) (hs : List HE) (a : Int) (xs : List UInt8) : List HE := if ok = true then (if 0 ≤ link then hs else hs ++ [⟨a, xs⟩]) else []
def sendLk (ok : Bool) (link : Int) : Int := if ok = true then (if 0 ≤ link then link else -1) else -1
def sendSl (ok : Bool) (link : Int) (n : Nat) : AV := if ok = true then (if 0 ≤ link then .own 1 else if n < 4 then .own 1 else .sub 1 1 5) else .own 1
def g_sendT : PC := fun args => match args with
  | [.agg [.l _ rows, .l _ rows'], .v (.int .i64 a), .l _ rows2, .v (.int .i64 now)] => some ((∃ ks, rows = kRows ks ∧ ks.length ≤ 1048576) ∧ (∃ hs, rows' = hRows hs ∧ hMid hs) ∧ (∃ xs, rows2 = rowsOfBytes xs ∧ xs.length ≤ 1048576),
      .tup [.agg [.own 0, sendSl (sOk (ksOf rows) (hsOf rows') a rows2.length now) (nfV (ksOf rows) (hsOf rows') a now) rows'.length], .v (.int .i64 (sendLk (sOk (ksOf rows) (hsOf rows') a rows2.length now) (nfV (ksOf rows) (hsOf rows') a now)))],
      [.sl 50 3 (kRows (sendKs (sOk (ksOf rows) (hsOf rows') a rows2.length now) (ksOf rows))), .tr .whole 53 2 [.cell, .sl 5 1 [.cell]] (hRows (sendHs (sOk (ksOf rows) (hsOf rows') a rows2.length now) (nfV (ksOf rows) (hsOf rows') a now) (hsOf rows') a (bytesOfRows rows2)))])
  | _ => none
theorem szHF_sum : ∀ (hs : List HE) (l : Int), 0 ≤ szHF hs l → ((sumH hs : Nat) : Int) ≤ l
  | [], l, h => by simp only [szHF] at h; simpa [sumH] using h
  | x :: t, l, h => by
    simp only [szHF] at h
    split at h
    · omega
    · rename_i hx
      have := szHF_sum t _ h
      simp only [szLeft] at hx this
      rw [sumH, List.map_cons, List.sum_cons, ← sumH]
      split at this <;> omega
theorem szN_sum {ks : List KE} {hs : List HE} {l : Int} (hl : 0 ≤ l ∧ l ≤ 1048576) (h : ¬ szN ks hs l < 0) : sumH hs ≤ 1048576 := by
  have hb := szLeft_bd (n := ks.length) hl
  unfold szN szHS at h
  split at h
  · omega
  · split at h
    · omega
    · rename_i h1 h2
      have hb2 := szLeft_bd (l := szLeft l ks.length) (n := hs.length) (by omega)
      have := szHF_sum hs (szLeft (szLeft l ks.length) hs.length) (by omega)
      omega
def g_xns : PC := fun args => match args with
  | [.agg [.l _ rows, .l _ rows'], .v (.int .i64 a), .l _ rows2, .v (.int .i64 now)] => some ((∃ ks, rows = kRows ks ∧ ks.length ≤ 9223372036854775807) ∧ (∃ hs, rows' = hRows hs ∧ hFin hs) ∧ ∃ xs, rows2 = rowsOfBytes xs, .v (.bool true), [])
  | _ => none
end Go.Proofs.Ytheikjkfffepnaa
