import Derived.Test.YtlhgbpgikgkecaaYe
import Derived.Test.YtlhgbpgikgkecaaTq
namespace Go.Proofs.Ytlhgbpgikgkecaa
open Go.RowKit
set_option linter.unusedSimpArgs false
set_option linter.unusedVariables false

/-! the helpers of the exact laws, for Route -/
def rtEq (e e' : RE) : Bool := e.a == e'.a && e.b == e'.b && e.v == e'.v && e.m == e'.m
def rtEqs : List RE → List RE → Bool
  | [], [] => true
  | x :: t, y :: u => rtEq x y && rtEqs t u
  | _, _ => false
theorem rtEq_iff {e e' : RE} : rtEq e e' = true ↔ e = e' := by
  cases e; cases e'
  simp [rtEq, and_assoc]
theorem rtEqs_iff : ∀ {l l' : List RE}, rtEqs l l' = true ↔ l = l'
  | [], [] => by simp [rtEqs]
  | [], _ :: _ => by simp [rtEqs]
  | _ :: _, [] => by simp [rtEqs]
  | x :: t, y :: u => by rw [rtEqs, Bool.and_eq_true, rtEq_iff, rtEqs_iff, List.cons.injEq]
theorem rtEqs_refl (l : List RE) : rtEqs l l = true := rtEqs_iff.2 rfl
theorem rtEq_refl (e : RE) : rtEq e e = true := rtEq_iff.2 rfl
theorem rtEqs_len {l l' : List RE} (h : l.length ≠ l'.length) : rtEqs l l' = false := by
  rw [Bool.eq_false_iff]
  intro hn
  rw [rtEqs_iff.1 hn] at h
  exact h rfl
def rtMk (c : Int) (i : Nat) : RE := ⟨c + 4 * (i : Int), c + 4 * (i : Int) + 1, c + 4 * (i : Int) + 2, c + 4 * (i : Int) + 3⟩
def rtMks (c : Int) (n : Nat) : List RE := (List.range n).map (rtMk c)
def g_rtTo : PC := fun args => match args with
  | [.agg [.v (.int .i64 a), .v (.int .i64 b), .v (.int .i64 v), .v (.int .i64 m)]] => some (True, .agg [.v (.int .i64 a), .v (.int .i64 b), .v (.int .i64 v), .v (.int .i64 m)], [])
  | _ => none
def g_rtToS : PC := fun args => match args with
  | [.l _ rows] => some (∃ l, rows = rtRows l ∧ l.length ≤ 1048577, .own 0, [.sl 24 4 rows])
  | _ => none
def g_rtEq : PC := fun args => match args with
  | [.agg [.v (.int .i64 a), .v (.int .i64 b), .v (.int .i64 v), .v (.int .i64 m)], .agg [.v (.int .i64 a'), .v (.int .i64 b'), .v (.int .i64 v'), .v (.int .i64 m')]] => some (True, .v (.bool (rtEq ⟨a, b, v, m⟩ ⟨a', b', v', m'⟩)), [])
  | _ => none
def g_rtEqS : PC := fun args => match args with
  | [.l _ rows, .l _ rows'] => some ((∃ l, rows = rtRows l ∧ l.length ≤ 1048577) ∧ ∃ l, rows' = rtRows l ∧ l.length ≤ 1048577, .v (.bool (rtEqs (rtsOf rows) (rtsOf rows'))), [])
  | _ => none
def g_rtMarkS : OC := fun args B0 => match args, B0 with
  | [.own r, .v (.int .i64 c)], [.sl T sz rows] => some (r = 0 ∧ T = 24 ∧ sz = 4 ∧ (∃ l, rows = rtRows l ∧ l.length ≤ 1048577) ∧ 0 ≤ c ∧ c ≤ 1099511627776, .v (.int .i64 (c + 4 * (rows.length : Int))), [.sl T sz (rtRows (rtMks c rows.length))], [])
  | _, _ => none
def g_rtHeldS : PC := fun args => match args with
  | [.l _ rows, .v (.int .i64 c)] => some ((∃ m, rows = rtRows (rtMks c m) ∧ m ≤ 1048577) ∧ 0 ≤ c ∧ c ≤ 1099511627776, .v (.int .i64 (c + 4 * (rows.length : Int))), [])
  | _ => none
end Go.Proofs.Ytlhgbpgikgkecaa
