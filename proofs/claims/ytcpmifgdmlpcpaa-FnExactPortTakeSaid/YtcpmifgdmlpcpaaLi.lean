import Derived.Test.YtcpmifgdmlpcpaaLh
set_option linter.unusedVariables false
set_option linter.unusedSimpArgs false
namespace Go.Proofs.Ytcpmifgdmlpcpaa
open Go.RowKit
set_option linter.unusedSimpArgs false
theorem sumM_bd {b : Nat} : ∀ {ms : List Ml}, (∀ m ∈ ms, m.d.length ≤ b) → sumM ms ≤ ms.length * b
  | [], _ => by simp [sumM]
  | x :: t, h => by
    have h1 := h x (List.mem_cons_self ..)
    have h2 := sumM_bd (ms := t) fun y hy => h y (List.mem_cons_of_mem _ hy)
    rw [sumM, List.map_cons, List.sum_cons, ← sumM, List.length_cons, Nat.succ_mul]
    omega
theorem posB_row {l : List Po} (h : posB l = true) {x : Po} (hx : x ∈ l) : x.row.length ≤ 3 ∧ sumM x.row ≤ 120 := by
  obtain ⟨_, h2, _⟩ := posB_iff.1 h
  obtain ⟨_, b2, b3⟩ := poB_iff.1 (h2 x hx)
  have := sumM_bd (b := 40) (ms := x.row) fun m hm => (mlB_iff.1 (b3 m hm).1).2.2.2
  exact ⟨b2, by omega⟩
theorem posB_sum {l : List Po} (h : posB l = true) : l.length ≤ 4 ∧ sumO l ≤ 516 := by
  have h1 := (posB_iff.1 h).1
  have := sumO_le (l := l) (b := 129) fun x hx => by have := posB_row h hx; omega
  exact ⟨h1, by omega⟩
theorem posB_good {l : List Po} (h : posB l = true) : poGood l := by
  obtain ⟨h1, h2⟩ := posB_sum h
  exact ⟨by omega, by omega, fun x hx => by have := posB_row h hx; omega⟩
def g_xl5 : PC := fun args => match args with
  | [.l _ rows, .v (.int .i64 x)] => some (∃ l, rows = poRows l ∧ poFin l, .v (.bool true), [])
  | _ => none
def mailKinds : List KD := [.int .i64, .int .i64, .int .i64, .sl [.int .u8]]
theorem wt_ml {d : D} (h : WT (.sl mailKinds) d) : ∃ ps, d = .l 4 (mRows ps) ∧ mFin ps := by
  obtain ⟨rows, rfl, hn, hr⟩ := wt_row h
  obtain ⟨ps, h1, h2⟩ := map_of mlRow (fun x => x.d.length ≤ 9223372036854775807) rows fun r hm => by
    obtain ⟨h1, h2⟩ := hr r hm
    match r, h1 with
    | [x0, x1, x2, x3], _ =>
      obtain ⟨a, rfl, _⟩ := wt_int (h2 0 _ x0 rfl rfl)
      obtain ⟨f, rfl, _⟩ := wt_int (h2 1 _ x1 rfl rfl)
      obtain ⟨t, rfl, _⟩ := wt_int (h2 2 _ x2 rfl rfl)
      obtain ⟨xs, rfl, hx⟩ := wt_bytes (h2 3 _ x3 rfl rfl)
      exact ⟨⟨a, f, t, xs⟩, rfl, Nat.le_trans hx (by decide)⟩
  refine ⟨ps, by rw [h1]; rfl, ?_, h2⟩
  rw [h1, List.length_map] at hn
  exact Nat.le_trans hn (by decide)
def portKinds : List KD := [.int .i64, .sl mailKinds]
theorem wt_po {d : D} (h : WT (.sl portKinds) d) : ∃ l, d = .l 2 (poRows l) ∧ poFin l := by
  obtain ⟨rows, rfl, hn, hr⟩ := wt_row h
  obtain ⟨l, h1, h2⟩ := map_of poRow (fun x => mFin x.row) rows fun r hm => by
    obtain ⟨h1, h2⟩ := hr r hm
    match r, h1 with
    | [x, y], _ =>
      obtain ⟨n, rfl, _⟩ := wt_int (h2 0 _ x rfl rfl)
      obtain ⟨ps, rfl, hp⟩ := wt_ml (h2 1 _ y rfl rfl)
      exact ⟨⟨n, ps⟩, rfl, hp⟩
  refine ⟨l, by rw [h1]; rfl, ?_, h2⟩
  rw [h1, List.length_map] at hn
  exact Nat.le_trans hn (by decide)
def portSKinds : List KD := [.sl portKinds]
theorem ports_in {w : World} {ds : List D} {c : Value} (H : Reads w portSKinds ds [c]) : ∃ l, AVR w (Zold w) (fun _ => .none) (fun _ => nilS) (.l 2 (poRows l)) c ∧ poFin l := by
  obtain ⟨h1, h2, h3, h4⟩ := H
  match ds, h1 with
  | [x], _ =>
    obtain ⟨l, rfl, hp⟩ := wt_po (h3 0 _ x rfl rfl)
    exact ⟨l, .l _ _ _ (h4 0 _ c rfl rfl), hp⟩
end Go.Proofs.Ytcpmifgdmlpcpaa
