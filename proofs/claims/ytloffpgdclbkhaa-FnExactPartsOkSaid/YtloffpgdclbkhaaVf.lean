import Derived.Test.YtloffpgdclbkhaaVc
import Derived.Test.YtloffpgdclbkhaaR6
set_option linter.unusedVariables false
set_option linter.unusedSimpArgs false
namespace Go.Proofs.Ytloffpgdclbkhaa
open Go.RowKit
set_option linter.unusedSimpArgs false

/-! a packet is drawn -/
structure PkV where
  f : Int
  t : Int
  pr : Int
  h : Int
  i : Int
  a : Int
  m : Bool
  u : Bool
  d : List UInt8
  q : Int
def pkN (xs : List UInt8) (p : Int) : Nat := (pickV xs (p + 1 + 1 + 1 + 1 + 1) 12).toNat
def pkQ (xs : List UInt8) (p : Int) : Int := p + 1 + 1 + 1 + 1 + 1 + 1 + 2 * (pkN xs p : Int)
def pkS (xs : List UInt8) (p : Int) (a : Int) (m u : Bool) (q : Int) : PkV := ⟨pickV xs p 5, pickV xs (p + 1) 5, pickV xs (p + 1 + 1) 4, pickV xs (p + 1 + 1 + 1) 6, pickV xs (p + 1 + 1 + 1 + 1) 4, a, m, u, bytesV xs (p + 1 + 1 + 1 + 1 + 1 + 1) (pkN xs p), q⟩
def pkBase (xs : List UInt8) (p : Int) : PkV :=
  if pickV xs (pkQ xs p) 4 = 0 then pkS xs p 0 false true (pkQ xs p + 1)
  else if pickV xs (pkQ xs p) 4 = 1 then
    if 0 < pkN xs p then pkS xs p (pickV xs (pkQ xs p + 1) 20) (pickV xs (pkQ xs p + 1 + 1) 2 == 0) false (pkQ xs p + 1 + 1 + 1)
    else pkS xs p (pickV xs (pkQ xs p + 1) 20) false false (pkQ xs p + 1 + 1)
  else pkS xs p 0 false false (pkQ xs p + 1)
def pktE (xs : List UInt8) (b : PkV) (x : Int) : PkV :=
  if pickV xs x 5 = 0 then { b with t := IntKind.i64.wrap (65536 - IntKind.i64.wrap (pickV xs (x + 1) 2 * 65540)), q := x + 1 + 1 }
  else if pickV xs x 5 = 1 then { b with h := IntKind.i64.wrap (256 - IntKind.i64.wrap (pickV xs (x + 1) 2 * 300)), q := x + 1 + 1 }
  else if pickV xs x 5 = 2 then { b with d := List.replicate 49 0, q := x + 1 }
  else if pickV xs x 5 = 3 then { b with m := true, d := [], q := x + 1 }
  else { b with u := true, a := 3, q := x + 1 }
def pktO (xs : List UInt8) (b : PkV) (n : Int) : PkV :=
  if (decide (0 < n) && pickV xs b.q n == n - 1) = true then pktE xs b (b.q + oneIf n) else { b with q := b.q + oneIf n }
def pktV (xs : List UInt8) (p n : Int) : PkV := pktO xs (pkBase xs p) n
theorem pkN_le (xs : List UInt8) (p : Int) : pkN xs p ≤ 11 := by
  have := pickV_lt xs (p + 1 + 1 + 1 + 1 + 1) 12 (by omega)
  unfold pkN; omega
theorem pkBase_q (xs : List UInt8) (p : Int) : p ≤ (pkBase xs p).q ∧ (pkBase xs p).q < p + 40 ∧ (pkBase xs p).d.length ≤ 11 := by
  have h := pkN_le xs p
  have hq : pkQ xs p = p + 1 + 1 + 1 + 1 + 1 + 1 + 2 * (pkN xs p : Int) := rfl
  unfold pkBase pkS
  split
  · dsimp only; rw [bytesV_len]; omega
  · split
    · split <;> (dsimp only; rw [bytesV_len]; omega)
    · dsimp only; rw [bytesV_len]; omega
theorem pktV_q (xs : List UInt8) (p n : Int) : p ≤ (pktV xs p n).q ∧ (pktV xs p n).q < p + 50 ∧ (pktV xs p n).d.length ≤ 49 := by
  have h := pkBase_q xs p
  have := oneIf_le n
  unfold pktV pktO
  split
  · unfold pktE
    repeat' split
    all_goals (dsimp only; first | omega | (rw [List.length_replicate]; omega) | (rw [List.length_nil]; omega))
  · dsimp only; omega
theorem pktV_n {xs : List UInt8} {p n : Int} {b : PkV} (hB : pkBase xs p = b) (ho : ¬ (decide (0 < n) && pickV xs b.q n == n - 1) = true) : pktV xs p n = { b with q := b.q + oneIf n } := by
  rw [pktV, hB, pktO, if_neg ho]
theorem pktV_0 {xs : List UInt8} {p n : Int} {b : PkV} (hB : pkBase xs p = b) (ho : (decide (0 < n) && pickV xs b.q n == n - 1) = true) (h0 : pickV xs (b.q + oneIf n) 5 = 0) : pktV xs p n = { b with t := IntKind.i64.wrap (65536 - IntKind.i64.wrap (pickV xs (b.q + oneIf n + 1) 2 * 65540)), q := b.q + oneIf n + 1 + 1 } := by
  rw [pktV, hB, pktO, if_pos ho, pktE, if_pos h0]
theorem pktV_1 {xs : List UInt8} {p n : Int} {b : PkV} (hB : pkBase xs p = b) (ho : (decide (0 < n) && pickV xs b.q n == n - 1) = true) (h0 : ¬ pickV xs (b.q + oneIf n) 5 = 0) (h1 : pickV xs (b.q + oneIf n) 5 = 1) : pktV xs p n = { b with h := IntKind.i64.wrap (256 - IntKind.i64.wrap (pickV xs (b.q + oneIf n + 1) 2 * 300)), q := b.q + oneIf n + 1 + 1 } := by
  rw [pktV, hB, pktO, if_pos ho, pktE, if_neg h0, if_pos h1]
theorem pktV_2 {xs : List UInt8} {p n : Int} {b : PkV} (hB : pkBase xs p = b) (ho : (decide (0 < n) && pickV xs b.q n == n - 1) = true) (h0 : ¬ pickV xs (b.q + oneIf n) 5 = 0) (h1 : ¬ pickV xs (b.q + oneIf n) 5 = 1) (h2 : pickV xs (b.q + oneIf n) 5 = 2) : pktV xs p n = { b with d := List.replicate 49 0, q := b.q + oneIf n + 1 } := by
  rw [pktV, hB, pktO, if_pos ho, pktE, if_neg h0, if_neg h1, if_pos h2]
theorem pktV_3 {xs : List UInt8} {p n : Int} {b : PkV} (hB : pkBase xs p = b) (ho : (decide (0 < n) && pickV xs b.q n == n - 1) = true) (h0 : ¬ pickV xs (b.q + oneIf n) 5 = 0) (h1 : ¬ pickV xs (b.q + oneIf n) 5 = 1) (h2 : ¬ pickV xs (b.q + oneIf n) 5 = 2) (h3 : pickV xs (b.q + oneIf n) 5 = 3) : pktV xs p n = { b with m := true, d := [], q := b.q + oneIf n + 1 } := by
  rw [pktV, hB, pktO, if_pos ho, pktE, if_neg h0, if_neg h1, if_neg h2, if_pos h3]
theorem pktV_4 {xs : List UInt8} {p n : Int} {b : PkV} (hB : pkBase xs p = b) (ho : (decide (0 < n) && pickV xs b.q n == n - 1) = true) (h0 : ¬ pickV xs (b.q + oneIf n) 5 = 0) (h1 : ¬ pickV xs (b.q + oneIf n) 5 = 1) (h2 : ¬ pickV xs (b.q + oneIf n) 5 = 2) (h3 : ¬ pickV xs (b.q + oneIf n) 5 = 3) : pktV xs p n = { b with u := true, a := 3, q := b.q + oneIf n + 1 } := by
  rw [pktV, hB, pktO, if_pos ho, pktE, if_neg h0, if_neg h1, if_neg h2, if_neg h3]
end Go.Proofs.Ytloffpgdclbkhaa
