import Derived.Test.YtloffpgdclbkhaaTo
import Derived.Test.YtloffpgdclbkhaaTq
namespace Go.Proofs.Ytloffpgdclbkhaa
open Go.RowKit
set_option linter.unusedSimpArgs false
set_option linter.unusedVariables false
set_option linter.unusedVariables false

/-! the helpers of the exact laws, over what a station knows and keeps -/
def g_szNearHeld : PC := fun args => match args with
  | [.agg [.v (.int .i64 a), .l _ rows], .v (.int .i64 l)] => some ((0 ≤ l ∧ l ≤ 1048576) ∧ rows.length ≤ 9223372036854775807 ∧ ∃ xs, rows = rowsOfBytes xs, .v (.int .i64 (szLeft l rows.length)), [])
  | _ => none
/-- what is left behind packets that are kept -/
def szHF : List HE → Int → Int
  | [], l => l
  | h :: t, l => if szLeft l h.d.length < 0 then -1 else szHF t (szLeft l h.d.length)
def szHS (hs : List HE) (l : Int) : Int := if szLeft l hs.length < 0 then -1 else szHF hs (szLeft l hs.length)
def hFin (hs : List HE) : Prop := hs.length ≤ 9223372036854775807 ∧ ∀ h ∈ hs, h.d.length ≤ 9223372036854775807
def g_szNearHeldS : PC := fun args => match args with
  | [.l _ rows, .v (.int .i64 l)] => some ((0 ≤ l ∧ l ≤ 1048576) ∧ ∃ hs, rows = hRows hs ∧ hFin hs, .v (.int .i64 (szHS (hsOf rows) l)), [])
  | _ => none
/-- what is left behind a station -/
def szN (ks : List KE) (hs : List HE) (l : Int) : Int := if szLeft l ks.length < 0 then -1 else szHS hs (szLeft l ks.length)
def g_szNear : PC := fun args => match args with
  | [.agg [.l _ rows, .l _ rows'], .v (.int .i64 l)] => some ((0 ≤ l ∧ l ≤ 1048576) ∧ (∃ ks, rows = kRows ks ∧ ks.length ≤ 9223372036854775807) ∧ (∃ hs, rows' = hRows hs ∧ hFin hs), .v (.int .i64 (szN (ksOf rows) (hsOf rows') l)), [])
  | _ => none
end Go.Proofs.Ytloffpgdclbkhaa

namespace Go.Proofs.Ytloffpgdclbkhaa
open Go.RowKit
set_option linter.unusedSimpArgs false
set_option linter.unusedVariables false

/-! the copies and the comparisons of the exact laws -/
def g_toE : PC := fun args => match args with
  | [.agg [.v (.int .i64 a), .v (.int .i64 l), .v (.int .i64 u)]] => some (True, .agg [.v (.int .i64 a), .v (.int .i64 l), .v (.int .i64 u)], [])
  | _ => none
def g_toH : PC := fun args => match args with
  | [.agg [.v (.int .i64 a), .l _ rows]] => some (∃ xs, rows = rowsOfBytes xs ∧ xs.length ≤ 140737488355328, .agg [.v (.int .i64 a), .l 1 rows], [])
  | _ => none
def tos : List (FuncId × Abs) := [(42, pureAbs g_toByteS)]
def g_toES : PC := fun args => match args with
  | [.l _ rows] => some (∃ ks, rows = kRows ks ∧ ks.length ≤ 1048576, .l 3 rows, [])
  | _ => none
def g_toHS : PC := fun args => match args with
  | [.l _ rows] => some (∃ hs, rows = hRows hs ∧ hs.length ≤ 1048576 ∧ ∀ h ∈ hs, h.d.length ≤ 1048576, .l 2 rows, [])
  | _ => none
/-- rows that are written one by one -/
theorem fill_row {α : Type} {xs : List α} {n k : Nat} (hn : n = xs.length) {x : α} (hx : xs[k]? = some x) (z : α) : (xs.take k ++ List.replicate (n - k) z).set k x = xs.take (k + 1) ++ List.replicate (n - (k + 1)) z := by
  have hk := (List.getElem?_eq_some_iff.1 hx).1
  have hl : (xs.take k).length = k := by rw [List.length_take]; omega
  have hm : n - k = (n - (k + 1)) + 1 := by omega
  rw [hm, List.replicate_succ, List.set_append_right _ _ (by omega), hl, Nat.sub_self, List.set_cons_zero, List.take_add_one, hx]
  simp
def g_toN : PC := fun args => match args with
  | [.agg [.l _ rows, .l _ rows']] => some ((∃ ks, rows = kRows ks ∧ ks.length ≤ 1048576) ∧ ∃ hs, rows' = hRows hs ∧ hs.length ≤ 1048576 ∧ ∀ h ∈ hs, h.d.length ≤ 1048576, .agg [.l 3 rows, .l 2 rows'], [])
  | _ => none
/-- are they the same -/
def g_eqE : PC := fun args => match args with
  | [.agg [.v (.int .i64 a), .v (.int .i64 l), .v (.int .i64 u)], .agg [.v (.int .i64 a'), .v (.int .i64 l'), .v (.int .i64 u')]] => some (True, .v (.bool (a == a' && l == l' && u == u')), [])
  | _ => none
def g_eqH : PC := fun args => match args with
  | [.agg [.v (.int .i64 a), .l _ rows], .agg [.v (.int .i64 a'), .l _ rows']] => some ((∃ xs, rows = rowsOfBytes xs ∧ xs.length ≤ 140737488355328) ∧ ∃ ys, rows' = rowsOfBytes ys ∧ ys.length ≤ 140737488355328, .v (.bool (a == a' && bytesOfRows rows == bytesOfRows rows')), [])
  | _ => none
def eqs : List (FuncId × Abs) := [(47, pureAbs g_eqByteS)]
end Go.Proofs.Ytloffpgdclbkhaa

namespace Go.Proofs.Ytloffpgdclbkhaa
open Go.RowKit
set_option linter.unusedSimpArgs false
set_option linter.unusedVariables false

def g_eqES : PC := fun args => match args with
  | [.l _ rows, .l _ rows'] => some ((∃ ks, rows = kRows ks ∧ ks.length ≤ 1099511627776) ∧ ∃ ks, rows' = kRows ks ∧ ks.length ≤ 1099511627776, .v (.bool (kEq (ksOf rows) (ksOf rows'))), [])
  | _ => none
def hLow (hs : List HE) : Prop := hs.length ≤ 1099511627776 ∧ ∀ h ∈ hs, h.d.length ≤ 140737488355328
def g_eqHS : PC := fun args => match args with
  | [.l _ rows, .l _ rows'] => some ((∃ ks, rows = hRows ks ∧ hLow ks) ∧ ∃ ks, rows' = hRows ks ∧ hLow ks, .v (.bool (hEq (hsOf rows) (hsOf rows'))), [])
  | _ => none
def g_eqN : PC := fun args => match args with
  | [.agg [.l _ rows, .l _ rows'], .agg [.l _ rows2, .l _ rows2']] => some ((∃ ks, rows = kRows ks ∧ ks.length ≤ 1099511627776) ∧ (∃ hs, rows' = hRows hs ∧ hLow hs) ∧ (∃ ks, rows2 = kRows ks ∧ ks.length ≤ 1099511627776) ∧ ∃ hs, rows2' = hRows hs ∧ hLow hs, .v (.bool (kEq (ksOf rows) (ksOf rows2) && hEq (hsOf rows') (hsOf rows2'))), [])
  | _ => none
/-! the exact laws of NearOk and NearFind -/
def g_lawN : PC := fun args => match args with
  | [.agg [.l _ rows, .l _ rows']] => some ((∃ ks, rows = kRows ks ∧ ks.length ≤ 9223372036854775807) ∧ ∃ hs, rows' = hRows hs ∧ hFin hs, .v (.bool true), [])
  | _ => none
def g_lawN2 : PC := fun args => match args with
  | [.agg [.l _ rows, .l _ rows'], .v (.int .i64 a), .v (.int .i64 b)] => some ((∃ ks, rows = kRows ks ∧ ks.length ≤ 9223372036854775807) ∧ ∃ hs, rows' = hRows hs ∧ hFin hs, .v (.bool true), [])
  | _ => none
/-! what is handed in as a station -/
def nearKinds : List KD := [.sl [.int .i64, .int .i64, .int .i64], .sl [.int .i64, .sl [.int .u8]]]
end Go.Proofs.Ytloffpgdclbkhaa
