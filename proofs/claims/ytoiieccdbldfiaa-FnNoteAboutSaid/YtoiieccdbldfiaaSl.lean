import Derived.Test.YtoiieccdbldfiaaSk
import Derived.Test.YtoiieccdbldfiaaFm
namespace Go.Proofs.Ytoiieccdbldfiaa
open Go.RowKit
set_option linter.unusedSimpArgs false

/-- all that a frame's bytes are -/
theorem fb_all (t f k : Int) (xs : List UInt8) : (frB t f k xs.length = true ∧ frFine (fbV t f k xs) = true ∧ ffT (fbV t f k xs) = t ∧ ffF (fbV t f k xs) = f ∧ ffK (fbV t f k xs) = k ∧ ffD (fbV t f k xs) = xs ∧ (fbV t f k xs).length ≤ 70) ∨
    (frB t f k xs.length = false ∧ fbV t f k xs = []) := by
  by_cases h : frOk t f k xs.length = true
  · obtain ⟨h1, h2, h3, h4, h5⟩ := frBytes_back h
    left
    rw [frB_ok, fbV_fr]
    refine ⟨h, h1, ?_, ?_, ?_, ?_, (fine_parts h1).2.1⟩
    · rw [ffT, if_pos h1, h2]
    · rw [ffF, if_pos h1, h3]
    · rw [ffK, if_pos h1, h4]
    · rw [ffD, if_pos h1, h5]
  · right
    have h : frOk t f k xs.length = false := by simpa using h
    exact ⟨by rw [frB_ok, h], by rw [fbV_fr, frBytes_no h]⟩
theorem xor4_bits (x : UInt8) : bits BinOp.xor IntKind.u8 (x.toNat : Int) 4 = ((x ^^^ 4).toNat : Int) := by
  have : ∀ x : Fin 256, bits BinOp.xor IntKind.u8 (x.val : Int) 4 = (((UInt8.ofNat x.val) ^^^ 4).toNat : Int) := by decide +kernel
  have h := this ⟨x.toNat, x.toNat_lt⟩
  simpa using h
theorem rows_set4 (xs : List UInt8) (k : Nat) (h : k < xs.length) : (rowsOfBytes xs).set k (D.v (Value.int IntKind.u8 (bits BinOp.xor IntKind.u8 ((xs.getD k 0).toNat : Int) 4)) :: List.drop 1 ((rowsOfBytes xs).getD k [])) = rowsOfBytes (xs.set k (xs.getD k 0 ^^^ 4)) := by
  rw [rowsOf_get _ _ h, xor4_bits]
  simp only [rowsOfBytes, List.map_set, List.drop_succ_cons, List.drop_zero]
end Go.Proofs.Ytoiieccdbldfiaa
