import Derived.Test.YtegffkmakkccaaaVf
set_option linter.unusedVariables false
set_option linter.unusedSimpArgs false
namespace Go.Proofs.Ytegffkmakkccaaa
open Go.RowKit
set_option linter.unusedSimpArgs false
def pvB (v : PkV) : Bool := pkB v.f v.t v.pr v.h v.i v.a v.m v.u v.d.length
theorem pvB_zero (xs : List UInt8) (p : Int) (hp : p < 100000000000) : pvB (pktV xs p 0) = true := by
  have e : pktV xs p 0 = { pkBase xs p with q := (pkBase xs p).q + oneIf 0 } := pktV_n rfl (by simp)
  have hN := pkN_le xs p
  have hq := pkQ xs p
  have hQ : pkQ xs p = p + 1 + 1 + 1 + 1 + 1 + 1 + 2 * (pkN xs p : Int) := rfl
  have a1 := pickV_nonneg xs p 5 (by omega)
  have b1 := pickV_lt xs p 5 (by omega)
  have a2 := pickV_nonneg xs (p + 1) 5 (by omega)
  have b2 := pickV_lt xs (p + 1) 5 (by omega)
  have a3 := pickV_nonneg xs (p + 1 + 1) 4 (by omega)
  have b3 := pickV_lt xs (p + 1 + 1) 4 (by omega)
  have a4 := pickV_nonneg xs (p + 1 + 1 + 1) 6 (by omega)
  have b4 := pickV_lt xs (p + 1 + 1 + 1) 6 (by omega)
  have a5 := pickV_nonneg xs (p + 1 + 1 + 1 + 1) 4 (by omega)
  have b5 := pickV_lt xs (p + 1 + 1 + 1 + 1) 4 (by omega)
  have a6 := pickV_nonneg xs (pkQ xs p + 1) 20 (by omega)
  have b6 := pickV_lt xs (pkQ xs p + 1) 20 (by omega)
  have key : ∀ (a : Int) (m u : Bool) (q : Int), 0 ≤ a → a < 20 → pkM a m u (pkN xs p) = true → pvB (pkS xs p a m u q) = true := by
    intro a m u q h1 h2 h3
    unfold pvB pkB pkS
    dsimp only
    rw [bytesV_len, h3, Bool.and_true, pkR, decide_eq_true_eq]
    omega
  rw [e]
  show pvB (pkBase xs p) = true
  unfold pkBase
  split
  · exact key _ _ _ _ (by omega) (by omega) (by simp [pkM])
  · split
    · split
      · rename_i h0
        exact key _ _ _ _ a6 b6 (by simp [pkM, h0])
      · exact key _ _ _ _ a6 b6 (by simp [pkM])
    · exact key _ _ _ _ (by omega) (by omega) (by simp [pkM])
end Go.Proofs.Ytegffkmakkccaaa
