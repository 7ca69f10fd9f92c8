import Derived.Test.YtmhmhgegdagjkaaXc
namespace Go.Proofs.Ytmhmhgegdagjkaa
open Go.RowKit
set_option linter.unusedSimpArgs false
set_option linter.unusedVariables false
def wAt : List Pk → Int → Nat
  | [], _ => 0
  | x :: r, a => if x.a ≤ a then wAt r a + 1 else 0
def insK (ps : List Pk) (q : Pk) : List Pk := ps.take (wAt ps q.a) ++ [q] ++ ps.drop (wAt ps q.a)
def putO (ps : List Pk) (u : Int) (q : Pk) : Option (List Pk) :=
  if (partB ps u && q.ok && same4 (ps.getD 0 pk0) q) = true then (if haveB ps q = true then some ps else if partB (insK ps q) u = true then some (insK ps q) else none) else none
def putL (ps : List Pk) (u : Int) (q : Pk) : List Pk := (putO ps u q).getD []
def putU (ps : List Pk) (u : Int) (q : Pk) : Int := if (putO ps u q).isSome = true then u else 0
theorem wAt_le : ∀ (ps : List Pk) (a : Int), wAt ps a ≤ ps.length
  | [], _ => Nat.le_refl _
  | x :: r, a => by
    have := wAt_le r a
    simp only [wAt]
    split <;> simp <;> omega
theorem sum_ge {ps : List Pk} (h : oksK ps ps.length = true) : ∀ k, k < ps.length → k ≤ sumN (ps.take k)
  | 0, _ => Nat.zero_le _
  | k + 1, hk => by
    have ih := sum_ge h k (by omega)
    have hs := oksK_at h hk
    rw [step_succ hk, Bool.and_eq_true, follows, Bool.and_eq_true, Bool.and_eq_true] at hs
    have hm := hs.2.1.2
    have ho := step_ok (oksK_at h (show k < ps.length by omega)) (show k < ps.length by omega)
    simp only [Pk.ok, pkB, pkM, hm, Bool.and_eq_true, Bool.not_true, Bool.false_or, decide_eq_true_eq] at ho
    rw [sumN_take (show k < ps.length by omega)]
    omega
theorem partB_len {ps : List Pk} {u : Int} (h : partB ps u = true) : ps.length ≤ 49 := by
  have h2 := (partB_all h).2.1
  simp only [partB, piecesB, Bool.and_eq_true] at h
  rcases Nat.lt_or_ge (ps.length - 1) ps.length with h3 | h3
  · have := sum_ge h.1.1.1 _ h3
    have := sumN_le ps (ps.length - 1)
    omega
  · omega
theorem insK_len (ps : List Pk) (q : Pk) : (insK ps q).length = ps.length + 1 := by
  have := wAt_le ps q.a
  simp only [insK, List.length_append, List.length_take, List.length_drop, List.length_cons, List.length_nil]
  omega
theorem insK_mid {ps : List Pk} {q : Pk} (h : pMid ps) (hl : ps.length ≤ 49) (hq : q.d.length ≤ 1048576) : pMid (insK ps q) := by
  refine ⟨by rw [insK_len]; omega, fun x hx => ?_⟩
  simp only [insK, List.mem_append, List.mem_singleton] at hx
  rcases hx with (hx | rfl) | hx
  · exact h.2 x (List.mem_of_mem_take hx)
  · exact hq
  · exact h.2 x (List.mem_of_mem_drop hx)
def g_partWhole : PC := fun args => match args with
  | [.agg [.l _ rows, .v (.int .i64 u)]] => some (∃ ps, rows = pRows ps ∧ pMid ps, .tup [.agg [.v (.int .i64 (wholeV (psOf rows) u).f), .v (.int .i64 (wholeV (psOf rows) u).t), .v (.int .i64 (wholeV (psOf rows) u).p), .v (.int .i64 (wholeV (psOf rows) u).h), .v (.int .i64 (wholeV (psOf rows) u).i), .v (.int .i64 (wholeV (psOf rows) u).a), .v (.bool (wholeV (psOf rows) u).m), .v (.bool (wholeV (psOf rows) u).u), .own 0], .v (.bool (wholeB (psOf rows) u))], [.sl 5 1 (rowsOfBytes (wholeV (psOf rows) u).d)])
  | _ => none
def g_partCopied : PC := fun args => match args with
  | [.agg [.l _ rows, .v (.int .i64 u)]] => some (∃ ps, rows = pRows ps ∧ pMid ps, .agg [.own 0, .v (.int .i64 u)], [.tr .whole 31 9 [.cell, .cell, .cell, .cell, .cell, .cell, .cell, .cell, .sl 5 1 [.cell]] rows])
  | _ => none
def g_partPut : PC := fun args => match args with
  | [.agg [.l _ rows', .v (.int .i64 un)], .agg [.v (.int .i64 f), .v (.int .i64 t), .v (.int .i64 p), .v (.int .i64 h), .v (.int .i64 i), .v (.int .i64 a), .v (.bool m), .v (.bool u), .l _ rows]] => some ((∃ ps, rows' = pRows ps ∧ pMid ps) ∧ ∃ xs, rows = rowsOfBytes xs ∧ xs.length ≤ 1048576,
      .tup [.agg [.own 0, .v (.int .i64 (putU (psOf rows') un ⟨f, t, p, h, i, a, m, u, bytesOfRows rows⟩))], .v (.bool (putO (psOf rows') un ⟨f, t, p, h, i, a, m, u, bytesOfRows rows⟩).isSome)], [.tr .whole 31 9 [.cell, .cell, .cell, .cell, .cell, .cell, .cell, .cell, .sl 5 1 [.cell]] (pRows (putL (psOf rows') un ⟨f, t, p, h, i, a, m, u, bytesOfRows rows⟩))])
  | _ => none
end Go.Proofs.Ytmhmhgegdagjkaa
