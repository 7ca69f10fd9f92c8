import Derived.Test.YtegffkmakkccaaaLd
import Derived.Test.YtegffkmakkccaaaPr
set_option linter.unusedVariables false
set_option linter.unusedSimpArgs false
namespace Go.Proofs.Ytegffkmakkccaaa
open Go.RowKit
set_option linter.unusedSimpArgs false
def g_portListen : PC := fun args => match args with
  | [.l _ rows, .v (.int .i64 x)] => some (∃ l, rows = poRows l ∧ poMid l, .tup [.own 0, .v (.bool (plB (posOf rows) x))], [.tr .whole 60 2 [.cell, .sl 53 4 [.cell, .cell, .cell, .sl 5 1 [.cell]]] (poRows (plV (posOf rows) x))])
  | _ => none
theorem poI_none {l : List Po} {x : Int} (h : poAt l x = none) : poI l x = -1 := by rw [poI, h]
theorem poI_some {l : List Po} {x : Int} {n : Nat} (h : poAt l x = some n) : poI l x = (n : Int) := by rw [poI, h]
def miOk (f t p h i a : Int) (m u : Bool) (xs : List UInt8) (o : Int) : Bool := prB f t p h i a m u xs.length o && decide (p = 2) && mfOk f o xs
def g_portHear : PC := fun args => match args with
  | [.l _ rows', .v (.int .i64 o), .agg [.v (.int .i64 f), .v (.int .i64 t), .v (.int .i64 p), .v (.int .i64 h), .v (.int .i64 i), .v (.int .i64 a), .v (.bool m), .v (.bool u), .l _ rows]] => some ((∃ l, rows' = poRows l ∧ poMid l) ∧ ∃ xs, rows = rowsOfBytes xs ∧ xs.length ≤ 1048576, .tup [.own 0, .v (.int .i64 (pHearN (posOf rows') o ⟨f, t, p, h, i, a, m, u, bytesOfRows rows⟩))], [.tr .whole 60 2 [.cell, .sl 53 4 [.cell, .cell, .cell, .sl 5 1 [.cell]]] (poRows (pHearV (posOf rows') o ⟨f, t, p, h, i, a, m, u, bytesOfRows rows⟩))])
  | _ => none
theorem ph_ok {l : List Po} {f t p h i a o : Int} {m u : Bool} {xs : List UInt8} (hb : posB l = true) : phOkP l o ⟨f, t, p, h, i, a, m, u, xs⟩ = miOk f t p h i a m u xs o := by
  rw [phOkP, miOk, prB, hb, Bool.true_and, Bool.eq_iff_iff]
  simp only [Pk.ok, Bool.and_eq_true, decide_eq_true_eq]
  constructor
  · rintro ⟨⟨⟨⟨⟨h1, h2⟩, h3⟩, h4⟩, h5⟩, h6⟩
    have h7 : 0 ≤ a := by
      simp only [pkB, pkR, Bool.and_eq_true, decide_eq_true_eq] at h1
      omega
    subst h3
    exact ⟨⟨⟨⟨⟨h1, rfl⟩, by omega⟩, h5⟩, h2⟩, h6⟩
  · rintro ⟨⟨⟨⟨⟨h1, h2⟩, h3⟩, h4⟩, h5⟩, h6⟩
    subst h2
    exact ⟨⟨⟨⟨⟨h1, h5⟩, rfl⟩, by omega⟩, h4⟩, h6⟩
theorem hearN_of {l : List Po} {o : Int} {x : Pk} (h : phOkP l o x = true) : pHearN l o x = (match poAt l (mfM x.f x.d).t with | none => 3 | some n => if (l.getD n po0).row.length = 3 then 0 else 1) := if_pos h
theorem hearN_no {l : List Po} {o : Int} {x : Pk} (h : phOkP l o x = false) : pHearN l o x = 0 := if_neg (by rw [h]; decide)
end Go.Proofs.Ytegffkmakkccaaa
