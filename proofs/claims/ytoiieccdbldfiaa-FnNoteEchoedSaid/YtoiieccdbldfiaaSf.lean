import Derived.Test.YtoiieccdbldfiaaSc
namespace Go.Proofs.Ytoiieccdbldfiaa
open Go.RowKit
set_option linter.unusedSimpArgs false

def forB (t f k : Int) (n : Nat) (l : Int) : Bool := decide ((((0 ≤ t ∧ t ≤ 255) ∧ (0 ≤ f ∧ f ≤ 254)) ∧ (0 ≤ k ∧ k ≤ 255) ∧ n ≤ 64) ∧ (0 ≤ l ∧ l ≤ 254) ∧ (t = l ∨ (t = 255 ∧ f ≠ l)))
def g_frameFor : PC := fun args => match args with
  | [.agg [.v (.int .i64 t), .v (.int .i64 f), .v (.int .i64 k), .l _ rows], .v (.int .i64 l)] => some (∀ r ∈ rows, r.length = 1, .v (.bool (forB t f k rows.length l)), [])
  | _ => none
/-! the draw -/
def forL (xs : List UInt8) : Int := IntKind.i64.wrap (pickV xs (frameV xs 0 8).p 5 + IntKind.i64.wrap (IntKind.i64.wrap ((pickV xs ((frameV xs 0 8).p + 1) 12).tdiv 11) * 252))
theorem frameV_p (xs : List UInt8) (p n : Int) (h0 : 0 ≤ p) (h : p < 100000000000) : p ≤ (frameV xs p n).p ∧ (frameV xs p n).p < p + 40 := by
  have k9 := pickV_nonneg xs (p + 1 + 1 + 1) 9 (by omega)
  have k9' := pickV_lt xs (p + 1 + 1 + 1) 9 (by omega)
  have be := oneIf_le n
  have hq : frameP xs p = p + 1 + 1 + 1 + 1 + 2 * ((pickV xs (p + 1 + 1 + 1) 9).toNat : Int) := rfl
  unfold frameV
  split
  · split
    · dsimp only; omega
    · split
      · dsimp only; omega
      · split <;> (dsimp only; omega)
  · dsimp only; omega
def g_drawFrameFor : PC := fun args => match args with
  | [.l _ rows] => some (∃ xs, rows = rowsOfBytes xs, .tup [.agg [.v (.int .i64 (frameV ((bytesOfRows rows).take 2000) 0 8).to), .v (.int .i64 (frameV ((bytesOfRows rows).take 2000) 0 8).frm), .v (.int .i64 (frameV ((bytesOfRows rows).take 2000) 0 8).kind), .own 0], .v (.int .i64 (forL ((bytesOfRows rows).take 2000)))], [.sl 5 1 (rowsOfBytes (frameV ((bytesOfRows rows).take 2000) 0 8).data)])
  | _ => none
/-- for how many stations a frame is -/
def cntF (t f k : Int) (n : Nat) : Nat → Int
  | 0 => 0
  | m + 1 => cntF t f k n m + if forB t f k n m = true then 1 else 0
theorem cntF_eq (t f k : Int) (n : Nat) : ∀ m : Nat, m ≤ 255 → cntF t f k n m = if frB t f k n = true then (if t = 255 then (if f < m then (m : Int) - 1 else m) else (if t < m then 1 else 0)) else 0
  | 0, _ => by
    simp only [cntF, frB, decide_eq_true_eq]
    split
    · split <;> split <;> omega
    · rfl
  | m + 1, hm => by
    rw [cntF, cntF_eq t f k n m (by omega)]
    simp only [frB, forB, decide_eq_true_eq]
    split
    · split
      · split <;> split <;> split <;> omega
      · split <;> split <;> split <;> omega
    · rw [if_neg (by omega)]
      omega
theorem cntF_le (t f k : Int) (n : Nat) (m : Nat) : 0 ≤ cntF t f k n m ∧ cntF t f k n m ≤ m := by
  induction m with
  | zero => simp [cntF]
  | succ m ih => rw [cntF]; split <;> omega
end Go.Proofs.Ytoiieccdbldfiaa
