import Derived.Test.YtcpmifgdmlpcpaaLa
import Derived.Test.YtcpmifgdmlpcpaaXa
set_option linter.unusedVariables false
set_option linter.unusedSimpArgs false
namespace Go.Proofs.Ytcpmifgdmlpcpaa
open Go.RowKit
structure Po where
  n : Int
  row : List Ml
def po0 : Po := ⟨0, []⟩
def poB (p : Po) : Bool := inZ p.n 1 255 && decide (p.row.length ≤ 3) && p.row.all fun m => mlB m && decide (m.t = p.n)
def posB (l : List Po) : Bool := decide (l.length ≤ 4) && l.all poB && decide ((l.map Po.n).Pairwise (· < ·))
def poAt (l : List Po) (x : Int) : Option Nat := l.findIdx? fun p => decide (p.n = x)
def poI (l : List Po) (x : Int) : Int := match poAt l x with | some n => (n : Int) | none => -1
theorem posB_iff {l : List Po} : posB l = true ↔ l.length ≤ 4 ∧ (∀ p ∈ l, poB p = true) ∧ (l.map Po.n).Pairwise (· < ·) := by
  simp only [posB, Bool.and_eq_true, decide_eq_true_eq, List.all_eq_true, and_assoc]
theorem poB_iff {p : Po} : poB p = true ↔ (1 ≤ p.n ∧ p.n ≤ 255) ∧ p.row.length ≤ 3 ∧ ∀ m ∈ p.row, mlB m = true ∧ m.t = p.n := by
  simp only [poB, inZ, Bool.and_eq_true, decide_eq_true_eq, List.all_eq_true, and_assoc]
theorem poAt_some {l : List Po} {x : Int} {n : Nat} (h : poAt l x = some n) : ∃ hn : n < l.length, l[n].n = x := by
  obtain ⟨hn, h1, _⟩ := List.findIdx?_eq_some_iff_getElem.1 h
  exact ⟨hn, by simpa using h1⟩
theorem poAt_none {l : List Po} {x : Int} : poAt l x = none ↔ ∀ p ∈ l, p.n ≠ x := by
  rw [poAt, List.findIdx?_eq_none_iff]
  simp
theorem po_get {l : List Po} {k : Nat} (h : k < l.length) : l.getD k po0 = l[k] := by simp [List.getD, h]
def ptB (l : List Po) (x : Int) : Bool := posB l && (match poAt l x with | none => false | some n => decide (0 < (l.getD n po0).row.length))
def ptN (l : List Po) (x : Int) : Nat := (poAt l x).getD 0
def ptV (l : List Po) (x : Int) : List Po := if ptB l x = true then l.set (ptN l x) ⟨(l.getD (ptN l x) po0).n, (l.getD (ptN l x) po0).row.drop 1⟩ else if posB l = true then l else []
def ptM (l : List Po) (x : Int) : Ml := if ptB l x = true then (l.getD (ptN l x) po0).row.getD 0 ml0 else ml0
theorem pt_parts {l : List Po} {x : Int} (h : ptB l x = true) : posB l = true ∧ ∃ hn : ptN l x < l.length, l[ptN l x].n = x ∧ 0 < l[ptN l x].row.length ∧ poAt l x = some (ptN l x) := by
  simp only [ptB, Bool.and_eq_true] at h
  obtain ⟨h1, h2⟩ := h
  cases ha : poAt l x with
  | none => rw [ha] at h2; cases h2
  | some n =>
    rw [ha] at h2
    obtain ⟨hn, hn2⟩ := poAt_some ha
    have e : ptN l x = n := by rw [ptN, ha]; rfl
    rw [e]
    dsimp only at h2
    rw [po_get hn] at h2
    exact ⟨h1, hn, hn2, by simpa using h2, rfl⟩
theorem pt_take {l : List Po} {x : Int} (h : ptB l x = true) : ∃ n, ∃ hn : n < l.length, l[n].n = x ∧ ∃ m r, l[n].row = m :: r ∧ ptM l x = m ∧ ptV l x = l.set n ⟨x, r⟩ ∧ posB (ptV l x) = true := by
  obtain ⟨h1, hn, hn2, h0, ha⟩ := pt_parts h
  obtain ⟨a1, a2, a3⟩ := posB_iff.1 h1
  obtain ⟨b1, b2, b3⟩ := poB_iff.1 (a2 _ (List.getElem_mem hn))
  cases hr : l[ptN l x].row with
  | nil => rw [hr] at h0; cases h0
  | cons m r =>
    have e : ptV l x = l.set (ptN l x) ⟨x, r⟩ := by
      rw [ptV, if_pos h, po_get hn, hr, hn2]; rfl
    refine ⟨ptN l x, hn, hn2, m, r, hr, by rw [ptM, if_pos h, po_get hn, hr]; rfl, e, ?_⟩
    rw [e]
    refine posB_iff.2 ⟨by rw [List.length_set]; exact a1, fun p hp => ?_, ?_⟩
    · rcases List.mem_or_eq_of_mem_set hp with hp | rfl
      · exact a2 p hp
      · rw [hr] at b2 b3
        rw [hn2] at b1 b3
        exact poB_iff.2 ⟨b1, by simp only [List.length_cons] at b2; show r.length ≤ 3; omega, fun m' hm' => b3 m' (List.mem_cons_of_mem _ hm')⟩
    · have : (l.set (ptN l x) ⟨x, r⟩).map Po.n = l.map Po.n := by
        rw [List.map_set]
        apply List.ext_getElem
        · simp
        · intro i h3 h4
          rw [List.getElem_set]
          split
          · rename_i e; subst e; simp [hn2]
          · rfl
      rw [this]; exact a3
end Go.Proofs.Ytcpmifgdmlpcpaa
