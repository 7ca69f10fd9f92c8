import Derived.Test.YtegffkmakkccaaaHm
import Derived.Test.YtegffkmakkccaaaQb
import Derived.Test.YtegffkmakkccaaaVf
import Derived.Test.YtegffkmakkccaaaKa
import Derived.Test.YtegffkmakkccaaaQf
import Derived.Test.YtegffkmakkccaaaVa
import Derived.Test.YtegffkmakkccaaaVi
namespace Go.Proofs.Ytegffkmakkccaaa
open Go.RowKit
set_option linter.unusedSimpArgs false
set_option linter.unusedVariables false
structure Pt where
  ps : List Pk
  u : Int
def of1 (x : Pt) (q : Pk) : Bool := same4 (x.ps.getD 0 pk0) q
end Go.Proofs.Ytegffkmakkccaaa
namespace Go.Proofs.Ytegffkmakkccaaa
open Go.RowKit
set_option linter.unusedSimpArgs false
set_option linter.unusedVariables false
abbrev Ch (ps : List Pk) : Prop := ps.Pairwise fun x y => follows x y = true
end Go.Proofs.Ytegffkmakkccaaa
set_option linter.unusedVariables false
set_option linter.unusedSimpArgs false
namespace Go.Proofs.Ytegffkmakkccaaa
open Go.RowKit
set_option linter.unusedSimpArgs false
structure NtW where
  k : Int
  n : Int
  d : List UInt8
  q : Int
end Go.Proofs.Ytegffkmakkccaaa
set_option linter.unusedVariables false
set_option linter.unusedSimpArgs false
namespace Go.Proofs.Ytegffkmakkccaaa
open Go.RowKit
structure Dn where
  k : Int
  v : Int
  ps : List Pk
def dn0 : Dn := ⟨0, 0, []⟩
def sayB (s : St) (p : Pk) (k n : Int) : Bool := naOk p.f p.t p.p p.h p.i p.a p.m p.u p.d s.a k n
def sayP (s : St) (p : Pk) (k n : Int) : Pk := ⟨s.a, p.f, 1, 64, p.i, 0, false, false, naD p.f p.t p.p p.h p.i p.a p.m p.u p.d k n⟩
def sayD (s : St) (p : Pk) (k n : Int) : Dn := if sayB s p k n = true then ⟨3, 0, [sayP s p k n]⟩ else dn0
def lessH (p : Pk) : Pk := { p with h := p.h - 1 }
def onD (p : Pk) (r : RE) : Dn := if cutB (lessH p) r.m = true then ⟨2, r.v, cutL (lessH p) r.m⟩ else dn0
def wayD (s : St) (p : Pk) (r : RE) : Dn := if (decide (r.m < (p.d.length : Int)) && p.u) = true then sayD s p 6 r.m else onD p r
def fwD (s : St) (p : Pk) : Dn :=
  if p.t = s.a then ⟨1, 0, [p]⟩ else if p.h < 2 then sayD s p 4 0 else
    match lastFit s.rs p.t with
    | none => sayD s p 3 0
    | some r => wayD s p r
def fwV (s : St) (p : Pk) : Dn := if (stB s && p.ok) = true then fwD s p else dn0
theorem sayD_cases (s : St) (p : Pk) (k n : Int) : sayD s p k n = dn0 ∨ (sayB s p k n = true ∧ sayD s p k n = ⟨3, 0, [sayP s p k n]⟩) := by
  by_cases h : sayB s p k n = true
  · exact .inr ⟨h, if_pos h⟩
  · exact .inl (if_neg h)
theorem fw_cases (s : St) (p : Pk) : fwV s p = dn0 ∨ ((stB s = true ∧ p.ok = true) ∧ ((p.t = s.a ∧ fwV s p = ⟨1, 0, [p]⟩) ∨ (∃ k n, sayB s p k n = true ∧ fwV s p = ⟨3, 0, [sayP s p k n]⟩) ∨
    ∃ r, p.t ≠ s.a ∧ 2 ≤ p.h ∧ lastFit s.rs p.t = some r ∧ cutB (lessH p) r.m = true ∧ fwV s p = ⟨2, r.v, cutL (lessH p) r.m⟩)) := by
  by_cases h0 : (stB s && p.ok) = true
  · have e : fwV s p = fwD s p := if_pos h0
    rw [e]
    rw [Bool.and_eq_true] at h0
    have nt : ∀ k n, fwD s p = sayD s p k n → fwD s p = dn0 ∨ ((stB s = true ∧ p.ok = true) ∧ ((p.t = s.a ∧ fwD s p = ⟨1, 0, [p]⟩) ∨ (∃ k n, sayB s p k n = true ∧ fwD s p = ⟨3, 0, [sayP s p k n]⟩) ∨
        ∃ r, p.t ≠ s.a ∧ 2 ≤ p.h ∧ lastFit s.rs p.t = some r ∧ cutB (lessH p) r.m = true ∧ fwD s p = ⟨2, r.v, cutL (lessH p) r.m⟩)) := by
      intro k n h
      rcases sayD_cases s p k n with h1 | ⟨h1, h2⟩
      · exact .inl (h.trans h1)
      · exact .inr ⟨h0, .inr (.inl ⟨k, n, h1, h.trans h2⟩)⟩
    by_cases ht : p.t = s.a
    · exact .inr ⟨h0, .inl ⟨ht, by rw [fwD, if_pos ht]⟩⟩
    · by_cases hh : p.h < 2
      · exact nt 4 0 (by rw [fwD, if_neg ht, if_pos hh])
      · obtain hl | ⟨r, hl⟩ : lastFit s.rs p.t = none ∨ ∃ r, lastFit s.rs p.t = some r := by cases lastFit s.rs p.t <;> simp
        · exact nt 3 0 (by rw [fwD, if_neg ht, if_neg hh, hl])
        · have e2 : fwD s p = wayD s p r := by rw [fwD, if_neg ht, if_neg hh, hl]
          by_cases hw : (decide (r.m < (p.d.length : Int)) && p.u) = true
          · exact nt 6 r.m (by rw [e2, wayD, if_pos hw])
          · by_cases hc : cutB (lessH p) r.m = true
            · exact .inr ⟨h0, .inr (.inr ⟨r, ht, by omega, hl, hc, by rw [e2, wayD, if_neg hw, onD, if_pos hc]⟩)⟩
            · exact .inl (by rw [e2, wayD, if_neg hw, onD, if_neg hc])
  · exact .inl (if_neg h0)
theorem cut_same {x y : Pk} {l : Int} (h : y ∈ cutL x l) : y.f = x.f ∧ y.t = x.t ∧ y.p = x.p ∧ y.h = x.h ∧ y.i = x.i ∧ y.u = x.u := by
  rw [cutL] at h
  split at h
  · split at h
    · rw [List.mem_singleton.1 h]; exact ⟨rfl, rfl, rfl, rfl, rfl, rfl⟩
    · obtain ⟨j, _, rfl⟩ := List.mem_map.1 h
      exact ⟨rfl, rfl, rfl, rfl, rfl, rfl⟩
  · cases h
theorem cut_mem {x y : Pk} {l : Int} (hb : cutB x l = true) (h : y ∈ cutL x l) : (y.d.length : Int) ≤ l ∧ y.ok = true := by
  obtain ⟨k, hk, rfl⟩ := List.getElem_of_mem h
  exact ⟨(cut_facts hb k hk).1, (cut_facts hb k hk).2.1⟩
structure TrS where
  row : List (Nat × Pk)
  arr : List Pk
  nts : List Pk
def tvOne (net : List St) (S : TrS) (d : Dn) : TrS :=
  if d.k = 1 then { S with arr := S.arr ++ d.ps } else if d.k = 3 then { S with nts := S.nts ++ d.ps } else
    match seek net d.v with
    | none => S
    | some n => { S with row := S.row ++ d.ps.map fun q => (n, q) }
def tvK (net : List St) (S : TrS) : Nat → TrS
  | 0 => S
  | k + 1 => match (tvK net S k).row[k]? with
    | none => tvK net S k
    | some (i, p) => tvOne net (tvK net S k) (fwV (net.getD i st0) p)
def todoOf (p : Pk) : Nat := max 1 p.d.length * (p.h.toNat + 1)
def todo (l : List Pk) : Nat := (l.map todoOf).sum
def sndL (l : List (Nat × Pk)) : List Pk := l.map Prod.snd
theorem tv_row (net : List St) (S : TrS) (d : Dn) : ∃ l, (tvOne net S d).row = S.row ++ l := by
  rw [tvOne]
  split
  · exact ⟨[], (List.append_nil _).symm⟩
  · split
    · exact ⟨[], (List.append_nil _).symm⟩
    · split
      · exact ⟨[], (List.append_nil _).symm⟩
      · exact ⟨_, rfl⟩
theorem tvK_row (net : List St) (S : TrS) (k : Nat) : ∃ l, (tvK net S (k + 1)).row = (tvK net S k).row ++ l := by
  rw [tvK]
  split
  · exact ⟨[], (List.append_nil _).symm⟩
  · exact tv_row _ _ _
theorem tvK_mono (net : List St) (S : TrS) (k : Nat) : ∀ j, ∃ l, (tvK net S (k + j)).row = (tvK net S k).row ++ l
  | 0 => ⟨[], (List.append_nil _).symm⟩
  | j + 1 => by
    obtain ⟨l, h⟩ := tvK_mono net S k j
    obtain ⟨l', h'⟩ := tvK_row net S (k + j)
    exact ⟨l ++ l', by rw [← Nat.add_assoc, h', h, List.append_assoc]⟩
theorem tvK_end {net : List St} {S : TrS} {k : Nat} (h : (tvK net S k).row.length ≤ k) : ∀ j, tvK net S (k + j) = tvK net S k
  | 0 => rfl
  | j + 1 => by
    have ih := tvK_end h j
    rw [← Nat.add_assoc, tvK, ih, List.getElem?_eq_none (by omega)]
theorem todoOf_pos (p : Pk) : 1 ≤ todoOf p := Nat.one_le_iff_ne_zero.2 (Nat.mul_ne_zero (by omega) (by omega))
theorem sum_len {ps : List Pk} {h : Int} (hh : ∀ q ∈ ps, q.h = h) (hd : ∀ q ∈ ps, 1 ≤ q.d.length) : todo ps = (joinD ps).length * (h.toNat + 1) := by
  induction ps with
  | nil => simp [todo, joinD]
  | cons x t ih =>
    have e1 : todo (x :: t) = todoOf x + todo t := by simp [todo]
    have e2 : (joinD (x :: t)).length = x.d.length + (joinD t).length := by simp [joinD]
    rw [e1, e2, Nat.add_mul, ih (fun q hq => hh q (List.mem_cons_of_mem _ hq)) (fun q hq => hd q (List.mem_cons_of_mem _ hq)), todoOf, hh x (List.mem_cons_self ..), Nat.max_eq_right (hd x (List.mem_cons_self ..))]
theorem todo_app (a b : List Pk) : todo (a ++ b) = todo a + todo b := by simp [todo]
theorem cut_todo {x : Pk} {l : Int} (hb : cutB x l = true) : todo (cutL x l) = todoOf x := by
  obtain ⟨h1, h2, ⟨h3, e⟩ | ⟨h3, h4, h5, e⟩⟩ := cut_cases hb
  · rw [e]; simp [todo]
  · have hj := cut_join hb
    have hd : ∀ q ∈ cutL x l, 1 ≤ q.d.length := by
      intro q hq
      rw [e] at hq
      obtain ⟨j, hj, rfl⟩ := List.mem_map.1 hq
      have := (pieceN_lt (n := x.d.length) (l := l.toNat) (k := j) (by omega)).2 (List.mem_range.1 hj)
      simp only [pieceAt, List.length_take, List.length_drop]
      omega
    rw [sum_len (h := x.h) (fun q hq => (cut_same hq).2.2.2.1) hd, hj, todoOf, Nat.max_eq_right (by omega)]
theorem tv_cases (net : List St) (S : TrS) (s : St) (p : Pk) : tvOne net S (fwV s p) = S ∨ (p.ok = true ∧ ((p.t = s.a ∧ tvOne net S (fwV s p) = { S with arr := S.arr ++ [p] }) ∨
    (∃ k n, sayB s p k n = true ∧ tvOne net S (fwV s p) = { S with nts := S.nts ++ [sayP s p k n] }) ∨
    ∃ r n, p.t ≠ s.a ∧ 2 ≤ p.h ∧ lastFit s.rs p.t = some r ∧ cutB (lessH p) r.m = true ∧ seek net r.v = some n ∧ tvOne net S (fwV s p) = { S with row := S.row ++ (cutL (lessH p) r.m).map fun q => (n, q) })) := by
  rcases fw_cases s p with e | ⟨hok, ⟨ht, e⟩ | ⟨k, n, hb, e⟩ | ⟨r, ht, hh, hl, hc, e⟩⟩
  · left
    rw [e, tvOne, if_neg (by decide), if_neg (by decide)]
    split
    · rfl
    · show ({ S with row := S.row ++ [] } : TrS) = S
      rw [List.append_nil]
  · exact .inr ⟨hok.2, .inl ⟨ht, by rw [e]; rfl⟩⟩
  · exact .inr ⟨hok.2, .inr (.inl ⟨k, n, hb, by rw [e]; rfl⟩)⟩
  · obtain hs | ⟨n, hs⟩ : seek net r.v = none ∨ ∃ n, seek net r.v = some n := by cases seek net r.v <;> simp
    · left
      rw [e, tvOne, if_neg (by show ¬ (2 : Int) = 1; decide), if_neg (by show ¬ (2 : Int) = 3; decide)]
      show (match seek net r.v with | none => S | some n => _) = S
      rw [hs]
    · refine .inr ⟨hok.2, .inr (.inr ⟨r, n, ht, hh, hl, hc, hs, ?_⟩)⟩
      rw [e, tvOne, if_neg (by show ¬ (2 : Int) = 1; decide), if_neg (by show ¬ (2 : Int) = 3; decide)]
      show (match seek net r.v with | none => S | some n => _) = _
      rw [hs]
theorem tvK_step {net : List St} {S : TrS} {k : Nat} (h : k < (tvK net S k).row.length) :
    tvK net S (k + 1) = tvOne net (tvK net S k) (fwV (net.getD ((tvK net S k).row[k]).1 st0) ((tvK net S k).row[k]).2) := by
  rw [tvK, List.getElem?_eq_getElem h]
def restK (net : List St) (S : TrS) (k : Nat) : List (Nat × Pk) := (tvK net S k).row.drop k
theorem rest_cons {net : List St} {S : TrS} {k : Nat} (h : k < (tvK net S k).row.length) : restK net S k = (tvK net S k).row[k] :: (tvK net S k).row.drop (k + 1) := List.drop_eq_getElem_cons h
theorem rest_step {net : List St} {S : TrS} {k : Nat} (h : k < (tvK net S k).row.length) : ∃ i p tl, restK net S k = (i, p) :: tl ∧
    ((restK net S (k + 1) = tl ∧ (tvK net S (k + 1)).arr = (tvK net S k).arr ∧ ∃ l, (tvK net S (k + 1)).nts = (tvK net S k).nts ++ l) ∨
     (p.ok = true ∧ p.t = (net.getD i st0).a ∧ restK net S (k + 1) = tl ∧ (tvK net S (k + 1)).arr = (tvK net S k).arr ++ [p] ∧ (tvK net S (k + 1)).nts = (tvK net S k).nts) ∨
     ∃ r n, p.ok = true ∧ p.t ≠ (net.getD i st0).a ∧ 2 ≤ p.h ∧ lastFit (net.getD i st0).rs p.t = some r ∧ cutB (lessH p) r.m = true ∧ seek net r.v = some n ∧
       restK net S (k + 1) = tl ++ (cutL (lessH p) r.m).map (fun q => (n, q)) ∧ (tvK net S (k + 1)).arr = (tvK net S k).arr ∧ (tvK net S (k + 1)).nts = (tvK net S k).nts) := by
  refine ⟨((tvK net S k).row[k]).1, ((tvK net S k).row[k]).2, (tvK net S k).row.drop (k + 1), rest_cons h, ?_⟩
  have e := tvK_step h
  rcases tv_cases net (tvK net S k) (net.getD ((tvK net S k).row[k]).1 st0) ((tvK net S k).row[k]).2 with c | ⟨ok, ⟨ht, c⟩ | ⟨k', n, hb, c⟩ | ⟨r, n, ht, hh, hl, hc, hs, c⟩⟩
  · rw [c] at e
    exact .inl ⟨by rw [restK, e], by rw [e], [], by rw [e, List.append_nil]⟩
  · rw [c] at e
    exact .inr (.inl ⟨ok, ht, by rw [restK, e], by rw [e], by rw [e]⟩)
  · rw [c] at e
    exact .inl ⟨by rw [restK, e], by rw [e], _, by rw [e]⟩
  · rw [c] at e
    refine .inr (.inr ⟨r, n, ok, ht, hh, hl, hc, hs, ?_, by rw [e], by rw [e]⟩)
    rw [restK, e]
    exact List.drop_append_of_le_length (by omega)
theorem sndL_map (n : Nat) (l : List Pk) : sndL (l.map fun q => (n, q)) = l := by simp [sndL, Function.comp_def]
theorem sndL_app (a b : List (Nat × Pk)) : sndL (a ++ b) = sndL a ++ sndL b := by simp [sndL]
theorem rest_less {net : List St} {S : TrS} {k : Nat} (h : k < (tvK net S k).row.length) : todo (sndL (restK net S (k + 1))) + 1 ≤ todo (sndL (restK net S k)) := by
  obtain ⟨i, p, tl, e, h1⟩ := rest_step h
  have e1 : todo (sndL ((i, p) :: tl)) = todoOf p + todo (sndL tl) := by simp [todo, sndL]
  have hp := todoOf_pos p
  rw [e, e1]
  rcases h1 with ⟨h1, _⟩ | ⟨_, _, h1, _⟩ | ⟨r, n, _, _, hh, _, hc, _, h1, _⟩
  · rw [h1]; omega
  · rw [h1]; omega
  · rw [h1, sndL_app, todo_app, sndL_map, cut_todo hc]
    have : todoOf (lessH p) + 1 ≤ todoOf p := by
      show max 1 p.d.length * ((p.h - 1).toNat + 1) + 1 ≤ max 1 p.d.length * (p.h.toNat + 1)
      have e1 : p.h.toNat = (p.h - 1).toNat + 1 := by omega
      rw [e1, Nat.mul_add _ ((p.h - 1).toNat + 1) 1]
      omega
    omega
theorem rest_sum (net : List St) (S : TrS) : ∀ k, k ≤ (tvK net S k).row.length → todo (sndL (restK net S k)) + k ≤ todo (sndL S.row)
  | 0, _ => by simp [restK, tvK]
  | k + 1, h => by
    by_cases hk : k < (tvK net S k).row.length
    · have := rest_sum net S k (by omega)
      have := rest_less hk
      omega
    · have e := tvK_end (net := net) (S := S) (k := k) (by omega) 1
      rw [e] at h
      omega
def tvT (net : List St) (S : TrS) : Nat := (tvK net S (todo (sndL S.row) + 1)).row.length
theorem tvT_end (net : List St) (S : TrS) : tvT net S ≤ todo (sndL S.row) ∧ (tvK net S (tvT net S)).row.length = tvT net S ∧ ∀ k, k < tvT net S → k < (tvK net S k).row.length := by
  have h0 : tvT net S ≤ todo (sndL S.row) := by
    apply Nat.le_of_not_lt
    intro h
    have := rest_sum net S (todo (sndL S.row) + 1) h
    omega
  have hk : ∀ k, k < tvT net S → k < (tvK net S k).row.length := by
    intro k h
    apply Nat.lt_of_not_le
    intro hn
    have e := tvK_end hn (todo (sndL S.row) + 1 - k)
    rw [show k + (todo (sndL S.row) + 1 - k) = todo (sndL S.row) + 1 from by omega] at e
    rw [tvT, e] at h
    omega
  refine ⟨h0, ?_, hk⟩
  obtain ⟨l, e⟩ := tvK_mono net S (tvT net S) (todo (sndL S.row) + 1 - tvT net S)
  rw [show tvT net S + (todo (sndL S.row) + 1 - tvT net S) = todo (sndL S.row) + 1 from by omega] at e
  have hl : (tvK net S (tvT net S)).row.length + l.length = tvT net S := by
    rw [← List.length_append, ← e]; rfl
  have hle : (tvK net S (tvT net S)).row.length ≤ tvT net S := by omega
  have e2 := tvK_end hle (todo (sndL S.row) + 1 - tvT net S)
  rw [show tvT net S + (todo (sndL S.row) + 1 - tvT net S) = todo (sndL S.row) + 1 from by omega] at e2
  rw [← e2]; rfl
def PartOf (p q : Pk) : Prop := q.t = p.t ∧ q.h ≤ p.h ∧ ∃ n : Nat, q.a = p.a + (n : Int) ∧ n + q.d.length ≤ p.d.length ∧ q.d = (p.d.drop n).take q.d.length
def Apart (x y : Pk) : Prop := x.z ≤ y.a ∨ y.z ≤ x.a
theorem PartOf.refl (p : Pk) : PartOf p p := ⟨rfl, Int.le_refl _, 0, by simp, by omega, by simp⟩
theorem PartOf.trans {p q r : Pk} (h1 : PartOf p q) (h2 : PartOf q r) : PartOf p r := by
  obtain ⟨a1, a2, n, a3, a4, a5⟩ := h1
  obtain ⟨b1, b2, m, b3, b4, b5⟩ := h2
  refine ⟨b1.trans a1, by omega, n + m, by omega, by omega, ?_⟩
  have e : r.d = (p.d.drop (n + m)).take (min r.d.length (q.d.length - m)) := by
    conv => lhs; rw [b5, a5, List.drop_take, List.drop_drop, List.take_take]
  rw [Nat.min_eq_left (by omega)] at e
  exact e
theorem PartOf.ends {p q : Pk} (h : PartOf p q) : p.a ≤ q.a ∧ q.z ≤ p.z := by
  obtain ⟨_, _, n, h1, h2, _⟩ := h
  simp only [Pk.z]
  omega
theorem Apart.symm {x y : Pk} (h : Apart x y) : Apart y x := Or.symm h
theorem Apart.part {x y y' : Pk} (h : Apart x y) (hp : PartOf y y') : Apart x y' := by
  have := hp.ends
  rcases h with h | h
  · exact .inl (by omega)
  · exact .inr (by omega)
def Kept (p : Pk) (L : List Pk) : Prop := (∀ q ∈ L, PartOf p q) ∧ L.Pairwise Apart
theorem Kept.sub {p : Pk} {L L' : List Pk} (h : Kept p L) (s : L'.Sublist L) : Kept p L' := ⟨fun q hq => h.1 q (s.subset hq), h.2.sublist s⟩
theorem Kept.cut {p x : Pk} {A B C : List Pk} (h : Kept p (A ++ x :: B)) (hC : ∀ y ∈ C, PartOf x y) (hA : C.Pairwise Apart) : Kept p (A ++ (B ++ C)) := by
  have hs : (A ++ B).Sublist (A ++ x :: B) := (List.Sublist.refl A).append (List.sublist_cons_self x B)
  rw [← List.append_assoc]
  refine ⟨fun q hq => ?_, ?_⟩
  · rcases List.mem_append.1 hq with hq | hq
    · exact h.1 q (hs.subset hq)
    · exact (h.1 x (by simp)).trans (hC q hq)
  · refine List.pairwise_append.2 ⟨h.2.sublist hs, hA, fun a ha y hy => ?_⟩
    have hx : Apart a x := by
      have h2 := List.pairwise_append.1 h.2
      rcases List.mem_append.1 ha with ha | ha
      · exact h2.2.2 a ha x (List.mem_cons_self ..)
      · exact ((List.pairwise_cons.1 h2.2.1).1 a ha).symm
    exact hx.part (hC y hy)
inductive Rs where
  | arr
  | note (k v : Int)
  | gone
def Idx (z : Int) (b : Bool) (C : List Pk) : Prop := ∀ k (hk : k < C.length), C[k].a = z + ((joinD (C.take k)).length : Int) ∧ C[k].m = (b || decide (k + 1 < C.length))
theorem Idx.tail {z : Int} {b : Bool} {x : Pk} {t : List Pk} (h : Idx z b (x :: t)) : Idx (z + (x.d.length : Int)) b t := by
  intro k hk
  have h1 := h (k + 1) (by rw [List.length_cons]; omega)
  simp only [List.getElem_cons_succ, List.take_succ_cons, List.length_cons] at h1
  refine ⟨?_, ?_⟩
  · rw [h1.1]
    have : (joinD (x :: t.take k)).length = x.d.length + (joinD (t.take k)).length := by simp [joinD]
    omega
  · rw [h1.2]
    congr 1
    rw [decide_eq_decide]
    omega
end Go.Proofs.Ytegffkmakkccaaa
