import Derived.Test.YtoiieccdbldfiaaSl
import Derived.Test.YtoiieccdbldfiaaSf
namespace Go.Proofs.Ytoiieccdbldfiaa
open Go.RowKit
set_option linter.unusedSimpArgs false

/-! the draw of bytes of a frame, whole or not -/
def ffB (xs : List UInt8) : List UInt8 := fbV (frameV xs 0 0).to (frameV xs 0 0).frm (frameV xs 0 0).kind (frameV xs 0 0).data
def ffP (xs : List UInt8) : Int := (frameV xs 0 0).p
def g_drawFrameFrom : OC := fun args B0 => match args, B0 with
  | [.l _ rows], [] => if pickV ((bytesOfRows rows).take 2000) (ffP ((bytesOfRows rows).take 2000)) 5 = 1 then
        some (∃ xs, rows = rowsOfBytes xs, .sub 0 0 (pickV ((bytesOfRows rows).take 2000) (ffP ((bytesOfRows rows).take 2000) + 1) (ffB ((bytesOfRows rows).take 2000)).length).toNat, [], [.sl 5 1 (rowsOfBytes (ffB ((bytesOfRows rows).take 2000)))])
      else some (∃ xs, rows = rowsOfBytes xs, .own 0, [], [.sl 5 1 (rowsOfBytes (
        if pickV ((bytesOfRows rows).take 2000) (ffP ((bytesOfRows rows).take 2000)) 5 = 0 then (ffB ((bytesOfRows rows).take 2000)).set (pickV ((bytesOfRows rows).take 2000) (ffP ((bytesOfRows rows).take 2000) + 1) (ffB ((bytesOfRows rows).take 2000)).length).toNat (toU8 (pickV ((bytesOfRows rows).take 2000) (ffP ((bytesOfRows rows).take 2000) + 1 + 1) 256))
        else if pickV ((bytesOfRows rows).take 2000) (ffP ((bytesOfRows rows).take 2000)) 5 = 2 then ffB ((bytesOfRows rows).take 2000) ++ [0]
        else ffB ((bytesOfRows rows).take 2000)))])
  | _, _ => none
theorem frameV_zero (xs : List UInt8) (p : Int) (h0 : 0 ≤ p) (h : p < 100000000000) : frB (frameV xs p 0).to (frameV xs p 0).frm (frameV xs p 0).kind (frameV xs p 0).data.length = true := by
  have a1 := pickV_nonneg xs p 4 (by omega)
  have a2 := pickV_lt xs p 4 (by omega)
  have a3 := pickV_nonneg xs (p + 1) 4 (by omega)
  have a4 := pickV_lt xs (p + 1) 4 (by omega)
  have a5 := pickV_nonneg xs (p + 1 + 1) 5 (by omega)
  have a6 := pickV_lt xs (p + 1 + 1) 5 (by omega)
  have a7 := pickV_nonneg xs (p + 1 + 1 + 1) 9 (by omega)
  have a8 := pickV_lt xs (p + 1 + 1 + 1) 9 (by omega)
  unfold frameV
  rw [if_neg (by simp)]
  dsimp only
  simp only [frB, decide_eq_true_eq, bytesV_len]
  split <;> omega
theorem ffB_len (xs : List UInt8) : 6 ≤ (ffB xs).length ∧ (ffB xs).length ≤ 70 ∧ frFine (ffB xs) = true := by
  have h := frameV_zero xs 0 (by omega) (by omega)
  rcases fb_all (frameV xs 0 0).to (frameV xs 0 0).frm (frameV xs 0 0).kind (frameV xs 0 0).data with ⟨_, h2, _⟩ | ⟨h2, _⟩
  · have := fine_parts h2
    exact ⟨this.1, this.2.1, h2⟩
  · rw [h] at h2; cases h2
theorem rows_set (xs : List UInt8) (k : Nat) (v : Int) : (rowsOfBytes xs).set k (D.v (Value.int IntKind.u8 (IntKind.u8.wrap v)) :: List.drop 1 ((rowsOfBytes xs).getD k [])) = rowsOfBytes (xs.set k (toU8 v)) := by
  by_cases h : k < xs.length
  · rw [rowsOf_get _ _ h, ← toU8_val]
    simp only [rowsOfBytes, List.map_set, List.drop_succ_cons, List.drop_zero]
  · rw [List.set_eq_of_length_le (by rw [rowsOf_len]; omega), List.set_eq_of_length_le (by omega)]
/-! the law -/
theorem fine_cut {ys : List UInt8} (h : frFine ys = true) (k : Nat) (hk : k < ys.length) : frFine (ys.take k) = false := by
  rw [← Bool.not_eq_true]
  intro hc
  obtain ⟨h6, h70, _⟩ := fine_parts h
  obtain ⟨k6, k70, _⟩ := fine_parts hc
  have e1 := fine_third h
  have e2 := fine_third hc
  rw [List.length_take] at e2 k6 k70
  have e3 : (ys.take k).getD 3 0 = ys.getD 3 0 := by
    simp only [List.getD]
    rw [List.getElem?_take_of_lt (by omega)]
  rw [e3, e1] at e2
  have := u8_sub (by omega) (by omega) e2
  omega
end Go.Proofs.Ytoiieccdbldfiaa
