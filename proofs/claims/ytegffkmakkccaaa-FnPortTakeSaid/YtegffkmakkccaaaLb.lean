import Derived.Test.YtegffkmakkccaaaLa
import Derived.Test.YtegffkmakkccaaaXa
set_option linter.unusedVariables false
set_option linter.unusedSimpArgs false
namespace Go.Proofs.Ytegffkmakkccaaa
open Go.RowKit
structure Po where
  n : Int
  row : List Ml
def po0 : Po := ⟨0, []⟩
def poB (p : Po) : Bool := inZ p.n 1 255 && decide (p.row.length ≤ 3) && p.row.all fun m => mlB m && decide (m.t = p.n)
def posB (l : List Po) : Bool := decide (l.length ≤ 4) && l.all poB && decide ((l.map Po.n).Pairwise (· < ·))
def poAt (l : List Po) (x : Int) : Option Nat := l.findIdx? fun p => decide (p.n = x)
def poI (l : List Po) (x : Int) : Int := match poAt l x with | some n => (n : Int) | none => -1
def insP : List Po → Int → List Po
  | [], x => [⟨x, []⟩]
  | p :: t, x => if x < p.n then ⟨x, []⟩ :: p :: t else p :: insP t x
def plB (l : List Po) (x : Int) : Bool := posB l && inZ x 1 255 && (poAt l x).isNone && decide (l.length < 4)
def plV (l : List Po) (x : Int) : List Po := if (posB l && inZ x 1 255) = true then (if plB l x = true then insP l x else l) else []
theorem posB_iff {l : List Po} : posB l = true ↔ l.length ≤ 4 ∧ (∀ p ∈ l, poB p = true) ∧ (l.map Po.n).Pairwise (· < ·) := by
  simp only [posB, Bool.and_eq_true, decide_eq_true_eq, List.all_eq_true, and_assoc]
theorem poB_iff {p : Po} : poB p = true ↔ (1 ≤ p.n ∧ p.n ≤ 255) ∧ p.row.length ≤ 3 ∧ ∀ m ∈ p.row, mlB m = true ∧ m.t = p.n := by
  simp only [poB, inZ, Bool.and_eq_true, decide_eq_true_eq, List.all_eq_true, and_assoc]
theorem poAt_some {l : List Po} {x : Int} {n : Nat} (h : poAt l x = some n) : ∃ hn : n < l.length, l[n].n = x := by
  obtain ⟨hn, h1, _⟩ := List.findIdx?_eq_some_iff_getElem.1 h
  exact ⟨hn, by simpa using h1⟩
theorem poAt_none {l : List Po} {x : Int} : poAt l x = none ↔ ∀ p ∈ l, p.n ≠ x := by
  rw [poAt, List.findIdx?_eq_none_iff]
  simp
theorem insP_len : ∀ (l : List Po) (x : Int), (insP l x).length = l.length + 1
  | [], _ => rfl
  | p :: t, x => by
    rw [insP]
    split
    · rfl
    · rw [List.length_cons, insP_len t x, List.length_cons]
theorem insP_mem : ∀ {l : List Po} {x : Int} {p : Po}, p ∈ insP l x → p = ⟨x, []⟩ ∨ p ∈ l
  | [], x, p, h => .inl (by simpa [insP] using h)
  | q :: t, x, p, h => by
    rw [insP] at h
    split at h
    · rcases List.mem_cons.1 h with h | h
      · exact .inl h
      · exact .inr h
    · rcases List.mem_cons.1 h with h | h
      · exact .inr (by rw [h]; exact List.mem_cons_self ..)
      · rcases insP_mem h with h | h
        · exact .inl h
        · exact .inr (List.mem_cons_of_mem _ h)
theorem insP_has : ∀ (l : List Po) (x : Int), (⟨x, []⟩ : Po) ∈ insP l x
  | [], _ => List.mem_singleton_self _
  | p :: t, x => by
    rw [insP]
    split
    · exact List.mem_cons_self ..
    · exact List.mem_cons_of_mem _ (insP_has t x)
theorem insP_order : ∀ {l : List Po} {x : Int}, (l.map Po.n).Pairwise (· < ·) → (∀ p ∈ l, p.n ≠ x) → ((insP l x).map Po.n).Pairwise (· < ·)
  | [], x, _, _ => List.pairwise_singleton _ _
  | p :: t, x, h, hx => by
    rw [List.map_cons, List.pairwise_cons] at h
    rw [insP]
    split
    · rename_i hlt
      rw [List.map_cons, List.map_cons, List.pairwise_cons]
      refine ⟨fun y hy => ?_, List.pairwise_cons.2 h⟩
      rcases List.mem_cons.1 hy with rfl | hy
      · exact hlt
      · exact Int.lt_trans hlt (h.1 y hy)
    · rename_i hlt
      have hne := hx p (List.mem_cons_self ..)
      rw [List.map_cons, List.pairwise_cons]
      refine ⟨fun y hy => ?_, insP_order h.2 fun q hq => hx q (List.mem_cons_of_mem _ hq)⟩
      obtain ⟨q, hq, rfl⟩ := List.mem_map.1 hy
      rcases insP_mem hq with rfl | hq
      · show p.n < x
        omega
      · exact h.1 _ (List.mem_map_of_mem hq)
theorem pl_yes {l : List Po} {x : Int} (h : plB l x = true) : posB (plV l x) = true ∧ (plV l x).length = l.length + 1 ∧ plB (plV l x) x = false ∧ plV (plV l x) x = plV l x := by
  have hb := h
  simp only [plB, Bool.and_eq_true, decide_eq_true_eq, Option.isNone_iff_eq_none] at hb
  obtain ⟨⟨⟨h1, h2⟩, h3⟩, h4⟩ := hb
  obtain ⟨a1, a2, a3⟩ := posB_iff.1 h1
  have hx := inZ_iff.1 h2
  have e : plV l x = insP l x := by rw [plV, if_pos (by rw [h1, h2]; rfl), if_pos h]
  have hok : posB (insP l x) = true := posB_iff.2 ⟨by rw [insP_len]; omega, fun p hp => by
    rcases insP_mem hp with rfl | hp
    · exact poB_iff.2 ⟨hx, by simp, fun m hm => by cases hm⟩
    · exact a2 p hp, insP_order a3 (poAt_none.1 h3)⟩
  have hno : plB (insP l x) x = false := by
    rw [Bool.eq_false_iff]
    intro hc
    simp only [plB, Bool.and_eq_true, Option.isNone_iff_eq_none] at hc
    exact poAt_none.1 hc.1.2 _ (insP_has l x) rfl
  rw [e]
  exact ⟨hok, insP_len l x, hno, by rw [plV, if_pos (by rw [hok, h2]; rfl), if_neg (by rw [hno]; decide)]⟩
def phOkP (l : List Po) (own : Int) (x : Pk) : Bool := posB l && (x.ok && decide (x.p = 2) && decide (x.t = own) && decide (x.a ≤ 0) && !x.m && mfOk x.f x.t x.d)
def putM (l : List Po) (n : Nat) (m : Ml) : List Po := l.set n ⟨(l.getD n po0).n, (l.getD n po0).row ++ [m]⟩
def pHearN (l : List Po) (own : Int) (x : Pk) : Int := if phOkP l own x = true then (match poAt l (mfM x.f x.d).t with | none => 3 | some n => if (l.getD n po0).row.length = 3 then 0 else 1) else 0
def pHearV (l : List Po) (own : Int) (x : Pk) : List Po := if posB l = true then (if pHearN l own x = 1 then (match poAt l (mfM x.f x.d).t with | none => l | some n => putM l n (mfM x.f x.d)) else l) else []
theorem po_get {l : List Po} {k : Nat} (h : k < l.length) : l.getD k po0 = l[k] := by simp [List.getD, h]
theorem putM_map {l : List Po} {n : Nat} (h : n < l.length) (m : Ml) : (putM l n m).map Po.n = l.map Po.n := by
  rw [putM, List.map_set, po_get h]
  apply List.ext_getElem
  · simp
  · intro i h1 h2
    rw [List.getElem_set]
    split
    · rename_i e; subst e; simp
    · rfl
theorem hear_here {l : List Po} {own : Int} {x : Pk} (h : pHearN l own x = 1) : mfOk x.f x.t x.d = true ∧ posB (pHearV l own x) = true ∧ ∃ n, ∃ hn : n < l.length, l[n].n = (mfM x.f x.d).t ∧ pHearV l own x = l.set n ⟨l[n].n, l[n].row ++ [mfM x.f x.d]⟩ := by
  have hp : phOkP l own x = true := by
    cases hc : phOkP l own x with
    | true => rfl
    | false => rw [pHearN, if_neg (by rw [hc]; decide)] at h; cases h
  have hp2 := hp
  simp only [phOkP, Bool.and_eq_true] at hp2
  obtain ⟨h1, _, hm⟩ := hp2
  rw [pHearN, if_pos hp] at h
  cases ha : poAt l (mfM x.f x.d).t with
  | none => rw [ha] at h; cases h
  | some n =>
    rw [ha] at h
    dsimp only at h
    obtain ⟨hn, hn2⟩ := poAt_some ha
    have hr : ¬ (l.getD n po0).row.length = 3 := fun e => by rw [if_pos e] at h; cases h
    have e : pHearV l own x = putM l n (mfM x.f x.d) := by
      rw [pHearV, if_pos h1, if_pos (by rw [pHearN, if_pos hp, ha]; exact if_neg hr), ha]
    have e2 : putM l n (mfM x.f x.d) = l.set n ⟨l[n].n, l[n].row ++ [mfM x.f x.d]⟩ := by rw [putM, po_get hn]
    refine ⟨hm, ?_, n, hn, hn2, by rw [e, e2]⟩
    obtain ⟨a1, a2, a3⟩ := posB_iff.1 h1
    rw [e]
    refine posB_iff.2 ⟨by rw [putM, List.length_set]; exact a1, fun p hpm => ?_, by rw [putM_map hn]; exact a3⟩
    rw [e2] at hpm
    rcases List.mem_or_eq_of_mem_set hpm with hpm | rfl
    · exact a2 p hpm
    · obtain ⟨b1, b2, b3⟩ := poB_iff.1 (a2 _ (List.getElem_mem hn))
      rw [po_get hn] at hr
      refine poB_iff.2 ⟨b1, by simp only [List.length_append, List.length_singleton]; omega, fun m hm' => ?_⟩
      rcases List.mem_append.1 hm' with hm' | hm'
      · exact b3 m hm'
      · rw [List.mem_singleton.1 hm']
        simp only [mfOk, Bool.and_eq_true] at hm
        exact ⟨hm.1.1.2, hn2.symm⟩
theorem hear_else {l : List Po} {own : Int} {x : Pk} (hl : posB l = true) (h : pHearN l own x ≠ 1) : pHearV l own x = l := by
  rw [pHearV, if_pos hl, if_neg h]
def ptB (l : List Po) (x : Int) : Bool := posB l && (match poAt l x with | none => false | some n => decide (0 < (l.getD n po0).row.length))
def ptN (l : List Po) (x : Int) : Nat := (poAt l x).getD 0
def ptV (l : List Po) (x : Int) : List Po := if ptB l x = true then l.set (ptN l x) ⟨(l.getD (ptN l x) po0).n, (l.getD (ptN l x) po0).row.drop 1⟩ else if posB l = true then l else []
def ptM (l : List Po) (x : Int) : Ml := if ptB l x = true then (l.getD (ptN l x) po0).row.getD 0 ml0 else ml0
theorem pt_parts {l : List Po} {x : Int} (h : ptB l x = true) : posB l = true ∧ ∃ hn : ptN l x < l.length, l[ptN l x].n = x ∧ 0 < l[ptN l x].row.length ∧ poAt l x = some (ptN l x) := by
  simp only [ptB, Bool.and_eq_true] at h
  obtain ⟨h1, h2⟩ := h
  cases ha : poAt l x with
  | none => rw [ha] at h2; cases h2
  | some n =>
    rw [ha] at h2
    obtain ⟨hn, hn2⟩ := poAt_some ha
    have e : ptN l x = n := by rw [ptN, ha]; rfl
    rw [e]
    dsimp only at h2
    rw [po_get hn] at h2
    exact ⟨h1, hn, hn2, by simpa using h2, rfl⟩
end Go.Proofs.Ytegffkmakkccaaa
