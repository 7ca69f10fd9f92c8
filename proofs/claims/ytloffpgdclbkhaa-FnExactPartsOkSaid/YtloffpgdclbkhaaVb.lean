import Derived.Test.YtloffpgdclbkhaaVa
set_option linter.unusedVariables false
set_option linter.unusedSimpArgs false
namespace Go.Proofs.Ytloffpgdclbkhaa
open Go.RowKit
set_option linter.unusedSimpArgs false

def pkH (f t p h i a : Int) (m u : Bool) (n : Nat) : List UInt8 := bytesOf f 2 ++ (bytesOf t 2 ++ [toU8 p, toU8 h, toU8 i, toU8 a, toU8 (pkK m u), toU8 n])
def pkV (f t p h i a : Int) (m u : Bool) (xs : List UInt8) : List UInt8 :=
  if pkB f t p h i a m u xs.length = true then pkH f t p h i a m u xs.length ++ (bytesOf (sumOf (pkH f t p h i a m u xs.length)) 2 ++ xs) else []
theorem pkK_wrap (m u : Bool) : IntKind.u8.wrap (pkK m u) = pkK m u := by cases m <;> cases u <;> kernel_rfl
theorem pkH_len (f t p h i a : Int) (m u : Bool) (n : Nat) : (pkH f t p h i a m u n).length ≤ 14 := by
  have h1 := bytesOf_len f 2
  have h2 := bytesOf_len t 2
  simp only [pkH, List.length_append, List.length_cons, List.length_nil]
  omega
theorem pkH_rows (f t p h i a : Int) (m u : Bool) (n : Nat) : rowsOfBytes (bytesOf f 2) ++ (rowsOfBytes (bytesOf t 2) ++ [[D.v (Value.int IntKind.u8 (IntKind.u8.wrap p))], [D.v (Value.int IntKind.u8 (IntKind.u8.wrap h))], [D.v (Value.int IntKind.u8 (IntKind.u8.wrap i))], [D.v (Value.int IntKind.u8 (IntKind.u8.wrap a))], [D.v (Value.int IntKind.u8 (pkK m u))], [D.v (Value.int IntKind.u8 (IntKind.u8.wrap (n : Int)))]]) = rowsOfBytes (pkH f t p h i a m u n) := by
  rw [pkH, ← rowsOf_app, ← rowsOf_app]
  simp [rowsOfBytes, toU8_val, pkK_wrap]
theorem pkR_of {f t p h i a : Int} {m u : Bool} {n : Nat} (h0 : pkB f t p h i a m u n = true) : (((0 ≤ f ∧ f ≤ 65535) ∧ (0 ≤ t ∧ t ≤ 65535)) ∧ (0 ≤ p ∧ p ≤ 255) ∧ (0 ≤ h ∧ h ≤ 255) ∧ (0 ≤ i ∧ i ≤ 255) ∧ (0 ≤ a ∧ a ≤ 255) ∧ n ≤ 48) := by
  rw [pkB, Bool.and_eq_true, pkR, decide_eq_true_eq] at h0
  exact h0.1
def g_l4Head : PC := fun args => match args with
  | [.agg [.v (.int .i64 f), .v (.int .i64 t), .v (.int .i64 p), .v (.int .i64 h), .v (.int .i64 i), .v (.int .i64 a), .v (.bool m), .v (.bool u), .l _ rows]] => some (pkB f t p h i a m u rows.length = true ∧ ∃ xs, rows = rowsOfBytes xs, .own 0, [.sl 5 1 (rowsOfBytes (pkH f t p h i a m u rows.length))])
  | _ => none
def g_packetBytes : PC := fun args => match args with
  | [.agg [.v (.int .i64 f), .v (.int .i64 t), .v (.int .i64 p), .v (.int .i64 h), .v (.int .i64 i), .v (.int .i64 a), .v (.bool m), .v (.bool u), .l _ rows]] => some (∃ xs, rows = rowsOfBytes xs, .own 0, [.sl 5 1 (rowsOfBytes (pkV f t p h i a m u (bytesOfRows rows)))])
  | _ => none
end Go.Proofs.Ytloffpgdclbkhaa
