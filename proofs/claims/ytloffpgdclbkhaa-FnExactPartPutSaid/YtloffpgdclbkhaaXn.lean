import Derived.Test.YtloffpgdclbkhaaXm
namespace Go.Proofs.Ytloffpgdclbkhaa
open Go.RowKit
set_option linter.unusedSimpArgs false
set_option linter.unusedVariables false

/-! the exact laws of PartOk and PartsOk -/
def g_part1 : PC := fun args => match args with
  | [.agg [.l _ rows, .v (.int .i64 u)]] => some (∃ ps, rows = pRows ps ∧ pFin ps, .v (.bool true), [])
  | _ => none
def g_parts1 : PC := fun args => match args with
  | [.l _ rows] => some (∃ l, rows = ptRows l ∧ ptFin l, .v (.bool true), [])
  | _ => none
def xpo : List (FuncId × Abs) := [(18, pureAbs g_szPart), (20, pureAbs g_toPart), (22, pureAbs g_eqPart), (19, pureAbs g_partOk), (21, pureAbs g_partOk)]
def xps : List (FuncId × Abs) := [(30, pureAbs g_szPartS), (32, pureAbs g_toPartS), (34, pureAbs g_eqPartS), (31, pureAbs g_partsOk), (33, pureAbs g_partsOk)]
/-! what is handed in as parts -/
theorem wt_pk {d : D} (h : WT (.sl packetKinds) d) : ∃ ps, d = .l 9 (pRows ps) ∧ pFin ps := by
  obtain ⟨rows, rfl, hn, hr⟩ := wt_row h
  obtain ⟨ps, h1, h2⟩ := map_of pRow (fun x => x.d.length ≤ 9223372036854775807) rows fun r hm => by
    obtain ⟨h1, h2⟩ := hr r hm
    match r, h1 with
    | [x0, x1, x2, x3, x4, x5, x6, x7, x8], _ =>
      obtain ⟨f, rfl, _⟩ := wt_int (h2 0 _ x0 rfl rfl)
      obtain ⟨t, rfl, _⟩ := wt_int (h2 1 _ x1 rfl rfl)
      obtain ⟨p, rfl, _⟩ := wt_int (h2 2 _ x2 rfl rfl)
      obtain ⟨h, rfl, _⟩ := wt_int (h2 3 _ x3 rfl rfl)
      obtain ⟨i, rfl, _⟩ := wt_int (h2 4 _ x4 rfl rfl)
      obtain ⟨a, rfl, _⟩ := wt_int (h2 5 _ x5 rfl rfl)
      obtain ⟨m, rfl⟩ := wt_bool (h2 6 _ x6 rfl rfl)
      obtain ⟨u, rfl⟩ := wt_bool (h2 7 _ x7 rfl rfl)
      obtain ⟨xs, rfl, hx⟩ := wt_bytes (h2 8 _ x8 rfl rfl)
      exact ⟨⟨f, t, p, h, i, a, m, u, xs⟩, rfl, Nat.le_trans hx (by decide)⟩
  refine ⟨ps, by rw [h1]; rfl, ?_, h2⟩
  rw [h1, List.length_map] at hn
  exact Nat.le_trans hn (by decide)
def partKinds : List KD := [.sl packetKinds, .int .i64]
theorem part_in {w : World} {ds : List D} {cs : Array Value} (H : Reads w partKinds ds cs.toList) : ∃ ps u, AVR w (Zold w) (fun _ => .none) (fun _ => nilS) (.agg [.l 9 (pRows ps), .v (.int .i64 u)]) (.agg cs) ∧ pFin ps := by
  obtain ⟨h1, h2, h3, h4⟩ := H
  obtain ⟨cs⟩ := cs
  match ds, h1, cs, h2 with
  | [x, y], _, [u, v], _ =>
    obtain ⟨ps, rfl, hp⟩ := wt_pk (h3 0 _ x rfl rfl)
    obtain ⟨n, rfl, _⟩ := wt_int (h3 1 _ y rfl rfl)
    exact ⟨ps, n, avr_agg (xs := [u, v]) (arel_cons (.l _ _ _ (h4 0 _ u rfl rfl)) (arel_cons (avr_rep (h4 1 _ v rfl rfl)) arel_nil)), hp⟩
def partSKinds : List KD := [.sl partKinds]
end Go.Proofs.Ytloffpgdclbkhaa
