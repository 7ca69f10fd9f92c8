import Derived.Test.YtdeldmagmljacaaVf
set_option linter.unusedVariables false
set_option linter.unusedSimpArgs false
namespace Go.Proofs.Ytdeldmagmljacaa
open Go.RowKit
set_option linter.unusedSimpArgs false

/-! the draws of packets and of their bytes -/
def pvB (v : PkV) : Bool := pkB v.f v.t v.pr v.h v.i v.a v.m v.u v.d.length
def pvV (v : PkV) : List UInt8 := pkV v.f v.t v.pr v.h v.i v.a v.m v.u v.d
theorem pvB_zero (xs : List UInt8) (p : Int) (hp : p < 100000000000) : pvB (pktV xs p 0) = true := by
  have e : pktV xs p 0 = { pkBase xs p with q := (pkBase xs p).q + oneIf 0 } := pktV_n rfl (by simp)
  have hN := pkN_le xs p
  have hq := pkQ xs p
  have hQ : pkQ xs p = p + 1 + 1 + 1 + 1 + 1 + 1 + 2 * (pkN xs p : Int) := rfl
  have a1 := pickV_nonneg xs p 5 (by omega)
  have b1 := pickV_lt xs p 5 (by omega)
  have a2 := pickV_nonneg xs (p + 1) 5 (by omega)
  have b2 := pickV_lt xs (p + 1) 5 (by omega)
  have a3 := pickV_nonneg xs (p + 1 + 1) 4 (by omega)
  have b3 := pickV_lt xs (p + 1 + 1) 4 (by omega)
  have a4 := pickV_nonneg xs (p + 1 + 1 + 1) 6 (by omega)
  have b4 := pickV_lt xs (p + 1 + 1 + 1) 6 (by omega)
  have a5 := pickV_nonneg xs (p + 1 + 1 + 1 + 1) 4 (by omega)
  have b5 := pickV_lt xs (p + 1 + 1 + 1 + 1) 4 (by omega)
  have a6 := pickV_nonneg xs (pkQ xs p + 1) 20 (by omega)
  have b6 := pickV_lt xs (pkQ xs p + 1) 20 (by omega)
  have key : ∀ (a : Int) (m u : Bool) (q : Int), 0 ≤ a → a < 20 → pkM a m u (pkN xs p) = true → pvB (pkS xs p a m u q) = true := by
    intro a m u q h1 h2 h3
    unfold pvB pkB pkS
    dsimp only
    rw [bytesV_len, h3, Bool.and_true, pkR, decide_eq_true_eq]
    omega
  rw [e]
  show pvB (pkBase xs p) = true
  unfold pkBase
  split
  · exact key _ _ _ _ (by omega) (by omega) (by simp [pkM])
  · split
    · split
      · rename_i h0
        exact key _ _ _ _ a6 b6 (by simp [pkM, h0])
      · exact key _ _ _ _ a6 b6 (by simp [pkM])
    · exact key _ _ _ _ (by omega) (by omega) (by simp [pkM])
def pbB (xs : List UInt8) (p : Int) : List UInt8 := pvV (pktV xs p 0)
def pbV (xs : List UInt8) (p : Int) : List UInt8 :=
  if pickV xs (pktV xs p 0).q 6 = 0 then (pbB xs p).set (pickV xs ((pktV xs p 0).q + 1) (pbB xs p).length).toNat (toU8 (pickV xs ((pktV xs p 0).q + 1 + 1) 256))
  else if pickV xs (pktV xs p 0).q 6 = 1 then (pbB xs p).take (pickV xs ((pktV xs p 0).q + 1) (pbB xs p).length).toNat
  else if pickV xs (pktV xs p 0).q 6 = 2 then pbB xs p ++ [0]
  else pbB xs p
def pbP (xs : List UInt8) (p : Int) : Int :=
  if pickV xs (pktV xs p 0).q 6 = 0 then (pktV xs p 0).q + 1 + 1 + 1
  else if pickV xs (pktV xs p 0).q 6 = 1 then (pktV xs p 0).q + 1 + 1
  else (pktV xs p 0).q + 1
def g_pktBytes : OC := fun args B0 => match args, B0 with
  | [.ptr r o], [.var T [.l 1 rows, .v (.int .i64 p)]] => some (T = 84 ∧ r = 0 ∧ o = 0 ∧ (∃ xs, rows = rowsOfBytes xs ∧ xs.length ≤ 2000) ∧ 0 ≤ p ∧ p < 10000000000,
      .l 1 (rowsOfBytes (pbV (bytesOfRows rows) p)), [.var T [.l 1 rows, .v (.int .i64 (pbP (bytesOfRows rows) p))]], [])
  | _, _ => none
def g_drawPk (n : Int) : PC := fun args => match args with
  | [.l _ rows] => some (∃ xs, rows = rowsOfBytes xs, .agg [.v (.int .i64 (pktV ((bytesOfRows rows).take 2000) 0 n).f), .v (.int .i64 (pktV ((bytesOfRows rows).take 2000) 0 n).t), .v (.int .i64 (pktV ((bytesOfRows rows).take 2000) 0 n).pr), .v (.int .i64 (pktV ((bytesOfRows rows).take 2000) 0 n).h), .v (.int .i64 (pktV ((bytesOfRows rows).take 2000) 0 n).i), .v (.int .i64 (pktV ((bytesOfRows rows).take 2000) 0 n).a), .v (.bool (pktV ((bytesOfRows rows).take 2000) 0 n).m), .v (.bool (pktV ((bytesOfRows rows).take 2000) 0 n).u), .l 1 (rowsOfBytes (pktV ((bytesOfRows rows).take 2000) 0 n).d)], [])
  | _ => none
def g_drawPb : PC := fun args => match args with
  | [.l _ rows] => some (∃ xs, rows = rowsOfBytes xs, .l 1 (rowsOfBytes (pbV ((bytesOfRows rows).take 2000) 0)), [])
  | _ => none
end Go.Proofs.Ytdeldmagmljacaa
