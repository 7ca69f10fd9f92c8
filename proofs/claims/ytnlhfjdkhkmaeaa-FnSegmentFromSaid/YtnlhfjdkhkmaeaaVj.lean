import Derived.Test.YtnlhfjdkhkmaeaaVf
import Derived.Test.YtnlhfjdkhkmaeaaVc
import Derived.Test.YtnlhfjdkhkmaeaaNum
set_option linter.unusedVariables false
set_option linter.unusedSimpArgs false
namespace Go.Proofs.Ytnlhfjdkhkmaeaa
open Go.RowKit
set_option linter.unusedSimpArgs false
theorem xor1_bits (x : UInt8) : bits BinOp.xor IntKind.u8 (x.toNat : Int) 1 = ((x ^^^ 1).toNat : Int) := by
  have : ∀ x : Fin 256, bits BinOp.xor IntKind.u8 (x.val : Int) 1 = (((UInt8.ofNat x.val) ^^^ 1).toNat : Int) := by decide +kernel
  have h := this ⟨x.toNat, x.toNat_lt⟩
  simpa using h
theorem rows_set1 (xs : List UInt8) (k : Nat) (h : k < xs.length) : (rowsOfBytes xs).set k (D.v (Value.int IntKind.u8 (bits BinOp.xor IntKind.u8 ((xs.getD k 0).toNat : Int) 1)) :: List.drop 1 ((rowsOfBytes xs).getD k [])) = rowsOfBytes (xs.set k (xs.getD k 0 ^^^ 1)) := by
  rw [rowsOf_get _ _ h, xor1_bits]
  simp only [rowsOfBytes, List.map_set, List.drop_succ_cons, List.drop_zero]
end Go.Proofs.Ytnlhfjdkhkmaeaa
