import Derived.Test.YtoiieccdbldfiaaVb
set_option linter.unusedVariables false
set_option linter.unusedSimpArgs false
namespace Go.Proofs.Ytoiieccdbldfiaa
open Go.RowKit
set_option linter.unusedSimpArgs false

/-- the packet that bytes tell, or none -/
def pfM0 (xs : List UInt8) : Bool := decide ((xs.getD 8 0).toNat % 2 = 1)
def pfU0 (xs : List UInt8) : Bool := decide (2 ≤ (xs.getD 8 0).toNat)
def pfHead (xs : List UInt8) : Bool := decide (12 ≤ xs.length ∧ xs.length ≤ 60 ∧ (xs.getD 9 0).toNat + 12 = xs.length ∧ (xs.getD 8 0).toNat ≤ 3) && fits (xs.take 10) (numAt xs 10 2)
def pfB (xs : List UInt8) : Bool := pkB (numAt xs 0 2) (numAt xs 2 2) ((xs.getD 4 0).toNat : Int) ((xs.getD 5 0).toNat : Int) ((xs.getD 6 0).toNat : Int) ((xs.getD 7 0).toNat : Int) (pfM0 xs) (pfU0 xs) (xs.drop 12).length
def pfOk (xs : List UInt8) : Bool := pfHead xs && pfB xs
def pfF (xs : List UInt8) : Int := if pfOk xs = true then numAt xs 0 2 else 0
def pfT (xs : List UInt8) : Int := if pfOk xs = true then numAt xs 2 2 else 0
def pfP (xs : List UInt8) : Int := if pfOk xs = true then ((xs.getD 4 0).toNat : Int) else 0
def pfH (xs : List UInt8) : Int := if pfOk xs = true then ((xs.getD 5 0).toNat : Int) else 0
def pfI (xs : List UInt8) : Int := if pfOk xs = true then ((xs.getD 6 0).toNat : Int) else 0
def pfA (xs : List UInt8) : Int := if pfOk xs = true then ((xs.getD 7 0).toNat : Int) else 0
def pfM (xs : List UInt8) : Bool := if pfOk xs = true then pfM0 xs else false
def pfU (xs : List UInt8) : Bool := if pfOk xs = true then pfU0 xs else false
def pfD (xs : List UInt8) : List UInt8 := if pfOk xs = true then xs.drop 12 else []
theorem numAt_two (xs : List UInt8) (a : Int) (k : Nat) (e : a = (k : Int)) (h : k + 2 ≤ xs.length) : numAt xs a 2 = ((256 * (xs.getD k 0).toNat + (xs.getD (k + 1) 0).toNat : Nat) : Int) := by
  subst e
  unfold numAt
  rw [if_pos (by omega)]
  have e2 : (2 : Int).toNat = 2 := rfl
  rw [Int.toNat_natCast, e2]
  simp only [numV, Nat.add_zero]
  omega
theorem numAt_two_bd (xs : List UInt8) (a : Int) (k : Nat) (e : a = (k : Int)) (h : k + 2 ≤ xs.length) : 0 ≤ numAt xs a 2 ∧ numAt xs a 2 ≤ 65535 := by
  rw [numAt_two xs a k e h]
  have h1 := (xs.getD k 0).toNat_lt
  have h2 := (xs.getD (k + 1) 0).toNat_lt
  omega
theorem sTurn_bd {s a b : Int} (hs : 0 ≤ s ∧ s ≤ 65535) (ha : 0 ≤ a ∧ a ≤ 65535) (hb : 0 ≤ b ∧ b ≤ 65535) : 0 ≤ sTurn s a b ∧ sTurn s a b ≤ 65535 := by
  unfold sTurn
  rw [inB_iff.2 hs, inB_iff.2 ha, inB_iff.2 hb]
  exact sAdd_bd (sAdd_bd hs ha) ⟨by omega, by omega⟩
theorem pf_m (xs : List UInt8) : ((((xs.getD 8 0).toNat : Nat) : Int).tmod 2 == 1) = pfM0 xs := by
  rw [pfM0, Bool.eq_iff_iff, beq_iff_eq, decide_eq_true_eq, Int.tmod_eq_emod_of_nonneg (by omega)]
  omega
theorem pf_u (xs : List UInt8) : decide ((((xs.getD 8 0).toNat : Nat) : Int) ≥ 2) = pfU0 xs := by
  rw [pfU0, Bool.eq_iff_iff, decide_eq_true_eq, decide_eq_true_eq]
  omega
theorem pf_u1 {xs : List UInt8} (h : (xs.getD 8 0).toNat ≤ 3) : (IntKind.u8.wrap ((((xs.getD 8 0).toNat : Nat) : Int).tdiv 2) == 1) = pfU0 xs := by
  rw [pfU0, Bool.eq_iff_iff, beq_iff_eq, decide_eq_true_eq, Int.tdiv_eq_ediv_of_nonneg (by omega), IntKind.wrap_u8]
  omega
theorem pf_no {xs : List UInt8} (h : ¬ (12 ≤ xs.length ∧ (xs.getD 9 0).toNat + 12 = xs.length ∧ (xs.getD 8 0).toNat ≤ 3)) : pfOk xs = false := by
  rw [pfOk, pfHead, decide_eq_false (fun k => h ⟨k.1, k.2.2.1, k.2.2.2⟩), Bool.false_and, Bool.false_and]
def g_headFits : PC := fun args => match args with
  | [.l _ rows] => some (∃ xs, rows = rowsOfBytes xs ∧ xs.length ≤ 1048576, .v (.bool (pfHead (bytesOfRows rows))), [])
  | _ => none
def g_packetRead : PC := fun args => match args with
  | [.l _ rows] => some (∃ xs, rows = rowsOfBytes xs ∧ pfHead xs = true, .agg [.v (.int .i64 (numAt (bytesOfRows rows) 0 2)), .v (.int .i64 (numAt (bytesOfRows rows) 2 2)), .v (.int .i64 (((bytesOfRows rows).getD 4 0).toNat : Int)), .v (.int .i64 (((bytesOfRows rows).getD 5 0).toNat : Int)), .v (.int .i64 (((bytesOfRows rows).getD 6 0).toNat : Int)), .v (.int .i64 (((bytesOfRows rows).getD 7 0).toNat : Int)), .v (.bool (pfM0 (bytesOfRows rows))), .v (.bool (pfU0 (bytesOfRows rows))), .own 0], [.sl 5 1 (rowsOfBytes ((bytesOfRows rows).drop 12))])
  | _ => none
def g_packetFrom : PC := fun args => match args with
  | [.l _ rows] => some (∃ xs, rows = rowsOfBytes xs ∧ xs.length ≤ 1048576, .tup [.agg [.v (.int .i64 (pfF (bytesOfRows rows))), .v (.int .i64 (pfT (bytesOfRows rows))), .v (.int .i64 (pfP (bytesOfRows rows))), .v (.int .i64 (pfH (bytesOfRows rows))), .v (.int .i64 (pfI (bytesOfRows rows))), .v (.int .i64 (pfA (bytesOfRows rows))), .v (.bool (pfM (bytesOfRows rows))), .v (.bool (pfU (bytesOfRows rows))), .own 0], .v (.bool (pfOk (bytesOfRows rows)))], [.sl 5 1 (rowsOfBytes (pfD (bytesOfRows rows)))])
  | _ => none
def ppOk (xs : List UInt8) : Bool := pfOk xs && decide (2 ≤ (xs.getD 5 0).toNat)
/-- with one hop less -/
def ppO (xs : List UInt8) : List UInt8 := xs.set 5 (toU8 (((xs.getD 5 0).toNat : Int) - 1))
def ppS (xs : List UInt8) : Int := sTurn (numAt xs 10 2) (numAt xs 4 2) (numAt (ppO xs) 4 2)
def ppV (xs : List UInt8) : List UInt8 := if ppOk xs = true then (ppO xs).take 10 ++ (bytesOf (ppS xs) 2 ++ xs.drop 12) else []
theorem pf_len {xs : List UInt8} (h : pfOk xs = true) : 12 ≤ xs.length ∧ xs.length ≤ 60 := by
  rw [pfOk, pfHead, Bool.and_eq_true, Bool.and_eq_true, decide_eq_true_eq] at h
  exact ⟨h.1.1.1, h.1.1.2.1⟩
theorem ppO_len (xs : List UInt8) : (ppO xs).length = xs.length := by rw [ppO, List.length_set]
theorem ppS_bd {xs : List UInt8} (h : 12 ≤ xs.length) : 0 ≤ ppS xs ∧ ppS xs ≤ 65535 :=
  sTurn_bd (numAt_two_bd xs 10 10 rfl (by omega)) (numAt_two_bd xs 4 4 rfl (by omega)) (numAt_two_bd _ 4 4 rfl (by rw [ppO_len]; omega))
theorem ppO_drop (xs : List UInt8) : (ppO xs).drop 12 = xs.drop 12 := by
  rw [ppO, List.drop_set_of_lt (by omega)]
def g_packetPassed : PC := fun args => match args with
  | [.l _ rows] => some (∃ xs, rows = rowsOfBytes xs ∧ xs.length ≤ 1048576, .tup [.own 0, .v (.bool (ppOk (bytesOfRows rows)))], [.sl 5 1 (rowsOfBytes (ppV (bytesOfRows rows)))])
  | _ => none
end Go.Proofs.Ytoiieccdbldfiaa
