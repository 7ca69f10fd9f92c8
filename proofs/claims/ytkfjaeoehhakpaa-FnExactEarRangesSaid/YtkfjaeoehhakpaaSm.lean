import Derived.Test.YtkfjaeoehhakpaaSh
import Derived.Test.YtkfjaeoehhakpaaSc
namespace Go.Proofs.Ytkfjaeoehhakpaa
open Go.RowKit
set_option linter.unusedSimpArgs false
theorem rows_set (xs : List UInt8) (k : Nat) (v : Int) : (rowsOfBytes xs).set k (D.v (Value.int IntKind.u8 (IntKind.u8.wrap v)) :: List.drop 1 ((rowsOfBytes xs).getD k [])) = rowsOfBytes (xs.set k (toU8 v)) := by
  by_cases h : k < xs.length
  · rw [rowsOf_get _ _ h, ← toU8_val]
    simp only [rowsOfBytes, List.map_set, List.drop_succ_cons, List.drop_zero]
  · rw [List.set_eq_of_length_le (by rw [rowsOf_len]; omega), List.set_eq_of_length_le (by omega)]
end Go.Proofs.Ytkfjaeoehhakpaa
