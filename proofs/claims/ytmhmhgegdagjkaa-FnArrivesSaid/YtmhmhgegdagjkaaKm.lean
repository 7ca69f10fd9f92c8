import Derived.Test.YtmhmhgegdagjkaaQb
import Derived.Test.YtmhmhgegdagjkaaVf
import Derived.Test.YtmhmhgegdagjkaaHq
import Derived.Test.YtmhmhgegdagjkaaKa
import Derived.Test.YtmhmhgegdagjkaaQf
import Derived.Test.YtmhmhgegdagjkaaVb
import Derived.Test.YtmhmhgegdagjkaaNum
set_option linter.unusedVariables false
set_option linter.unusedSimpArgs false
namespace Go.Proofs.Ytmhmhgegdagjkaa
open Go.RowKit
set_option linter.unusedSimpArgs false
structure NtW where
  k : Int
  n : Int
  d : List UInt8
  q : Int
end Go.Proofs.Ytmhmhgegdagjkaa
set_option linter.unusedVariables false
set_option linter.unusedSimpArgs false
namespace Go.Proofs.Ytmhmhgegdagjkaa
open Go.RowKit
structure Dn where
  k : Int
  v : Int
  ps : List Pk
def dn0 : Dn := ⟨0, 0, []⟩
def sayB (s : St) (p : Pk) (k n : Int) : Bool := naOk p.f p.t p.p p.h p.i p.a p.m p.u p.d s.a k n
def sayP (s : St) (p : Pk) (k n : Int) : Pk := ⟨s.a, p.f, 1, 64, p.i, 0, false, false, naD p.f p.t p.p p.h p.i p.a p.m p.u p.d k n⟩
def sayD (s : St) (p : Pk) (k n : Int) : Dn := if sayB s p k n = true then ⟨3, 0, [sayP s p k n]⟩ else dn0
def lessH (p : Pk) : Pk := { p with h := p.h - 1 }
def onD (p : Pk) (r : RE) : Dn := if cutB (lessH p) r.m = true then ⟨2, r.v, cutL (lessH p) r.m⟩ else dn0
def wayD (s : St) (p : Pk) (r : RE) : Dn := if (decide (r.m < (p.d.length : Int)) && p.u) = true then sayD s p 6 r.m else onD p r
def fwD (s : St) (p : Pk) : Dn :=
  if p.t = s.a then ⟨1, 0, [p]⟩ else if p.h < 2 then sayD s p 4 0 else
    match lastFit s.rs p.t with
    | none => sayD s p 3 0
    | some r => wayD s p r
def fwV (s : St) (p : Pk) : Dn := if (stB s && p.ok) = true then fwD s p else dn0
theorem sayD_cases (s : St) (p : Pk) (k n : Int) : sayD s p k n = dn0 ∨ (sayB s p k n = true ∧ sayD s p k n = ⟨3, 0, [sayP s p k n]⟩) := by
  by_cases h : sayB s p k n = true
  · exact .inr ⟨h, if_pos h⟩
  · exact .inl (if_neg h)
theorem fw_cases (s : St) (p : Pk) : fwV s p = dn0 ∨ ((stB s = true ∧ p.ok = true) ∧ ((p.t = s.a ∧ fwV s p = ⟨1, 0, [p]⟩) ∨ (∃ k n, sayB s p k n = true ∧ fwV s p = ⟨3, 0, [sayP s p k n]⟩) ∨
    ∃ r, p.t ≠ s.a ∧ 2 ≤ p.h ∧ lastFit s.rs p.t = some r ∧ cutB (lessH p) r.m = true ∧ fwV s p = ⟨2, r.v, cutL (lessH p) r.m⟩)) := by
  by_cases h0 : (stB s && p.ok) = true
  · have e : fwV s p = fwD s p := if_pos h0
    rw [e]
    rw [Bool.and_eq_true] at h0
    have nt : ∀ k n, fwD s p = sayD s p k n → fwD s p = dn0 ∨ ((stB s = true ∧ p.ok = true) ∧ ((p.t = s.a ∧ fwD s p = ⟨1, 0, [p]⟩) ∨ (∃ k n, sayB s p k n = true ∧ fwD s p = ⟨3, 0, [sayP s p k n]⟩) ∨
        ∃ r, p.t ≠ s.a ∧ 2 ≤ p.h ∧ lastFit s.rs p.t = some r ∧ cutB (lessH p) r.m = true ∧ fwD s p = ⟨2, r.v, cutL (lessH p) r.m⟩)) := by
      intro k n h
      rcases sayD_cases s p k n with h1 | ⟨h1, h2⟩
      · exact .inl (h.trans h1)
      · exact .inr ⟨h0, .inr (.inl ⟨k, n, h1, h.trans h2⟩)⟩
    by_cases ht : p.t = s.a
    · exact .inr ⟨h0, .inl ⟨ht, by rw [fwD, if_pos ht]⟩⟩
    · by_cases hh : p.h < 2
      · exact nt 4 0 (by rw [fwD, if_neg ht, if_pos hh])
      · obtain hl | ⟨r, hl⟩ : lastFit s.rs p.t = none ∨ ∃ r, lastFit s.rs p.t = some r := by cases lastFit s.rs p.t <;> simp
        · exact nt 3 0 (by rw [fwD, if_neg ht, if_neg hh, hl])
        · have e2 : fwD s p = wayD s p r := by rw [fwD, if_neg ht, if_neg hh, hl]
          by_cases hw : (decide (r.m < (p.d.length : Int)) && p.u) = true
          · exact nt 6 r.m (by rw [e2, wayD, if_pos hw])
          · by_cases hc : cutB (lessH p) r.m = true
            · exact .inr ⟨h0, .inr (.inr ⟨r, ht, by omega, hl, hc, by rw [e2, wayD, if_neg hw, onD, if_pos hc]⟩)⟩
            · exact .inl (by rw [e2, wayD, if_neg hw, onD, if_neg hc])
  · exact .inl (if_neg h0)
theorem cut_same {x y : Pk} {l : Int} (h : y ∈ cutL x l) : y.f = x.f ∧ y.t = x.t ∧ y.p = x.p ∧ y.h = x.h ∧ y.i = x.i ∧ y.u = x.u := by
  rw [cutL] at h
  split at h
  · split at h
    · rw [List.mem_singleton.1 h]; exact ⟨rfl, rfl, rfl, rfl, rfl, rfl⟩
    · obtain ⟨j, _, rfl⟩ := List.mem_map.1 h
      exact ⟨rfl, rfl, rfl, rfl, rfl, rfl⟩
  · cases h
theorem cut_mem {x y : Pk} {l : Int} (hb : cutB x l = true) (h : y ∈ cutL x l) : (y.d.length : Int) ≤ l ∧ y.ok = true := by
  obtain ⟨k, hk, rfl⟩ := List.getElem_of_mem h
  exact ⟨(cut_facts hb k hk).1, (cut_facts hb k hk).2.1⟩
theorem cut_pos {x : Pk} {l : Int} (hb : cutB x l = true) : 0 < (cutL x l).length := by
  obtain ⟨h1, h2, ⟨h3, e⟩ | ⟨h3, h4, h5, e⟩⟩ := cut_cases hb
  · rw [e]; exact Nat.one_pos
  · rw [e, piecesK_len]
    exact (pieceN_lt (n := x.d.length) (l := l.toNat) (k := 0) (by omega)).1 (by omega)
structure TrS where
  row : List (Nat × Pk)
  arr : List Pk
  nts : List Pk
def tvOne (net : List St) (S : TrS) (d : Dn) : TrS :=
  if d.k = 1 then { S with arr := S.arr ++ d.ps } else if d.k = 3 then { S with nts := S.nts ++ d.ps } else
    match seek net d.v with
    | none => S
    | some n => { S with row := S.row ++ d.ps.map fun q => (n, q) }
def tvK (net : List St) (S : TrS) : Nat → TrS
  | 0 => S
  | k + 1 => match (tvK net S k).row[k]? with
    | none => tvK net S k
    | some (i, p) => tvOne net (tvK net S k) (fwV (net.getD i st0) p)
def todoOf (p : Pk) : Nat := max 1 p.d.length * (p.h.toNat + 1)
def todo (l : List Pk) : Nat := (l.map todoOf).sum
def sndL (l : List (Nat × Pk)) : List Pk := l.map Prod.snd
theorem tv_row (net : List St) (S : TrS) (d : Dn) : ∃ l, (tvOne net S d).row = S.row ++ l := by
  rw [tvOne]
  split
  · exact ⟨[], (List.append_nil _).symm⟩
  · split
    · exact ⟨[], (List.append_nil _).symm⟩
    · split
      · exact ⟨[], (List.append_nil _).symm⟩
      · exact ⟨_, rfl⟩
theorem tvK_row (net : List St) (S : TrS) (k : Nat) : ∃ l, (tvK net S (k + 1)).row = (tvK net S k).row ++ l := by
  rw [tvK]
  split
  · exact ⟨[], (List.append_nil _).symm⟩
  · exact tv_row _ _ _
theorem tvK_mono (net : List St) (S : TrS) (k : Nat) : ∀ j, ∃ l, (tvK net S (k + j)).row = (tvK net S k).row ++ l
  | 0 => ⟨[], (List.append_nil _).symm⟩
  | j + 1 => by
    obtain ⟨l, h⟩ := tvK_mono net S k j
    obtain ⟨l', h'⟩ := tvK_row net S (k + j)
    exact ⟨l ++ l', by rw [← Nat.add_assoc, h', h, List.append_assoc]⟩
theorem tvK_end {net : List St} {S : TrS} {k : Nat} (h : (tvK net S k).row.length ≤ k) : ∀ j, tvK net S (k + j) = tvK net S k
  | 0 => rfl
  | j + 1 => by
    have ih := tvK_end h j
    rw [← Nat.add_assoc, tvK, ih, List.getElem?_eq_none (by omega)]
theorem todoOf_pos (p : Pk) : 1 ≤ todoOf p := Nat.one_le_iff_ne_zero.2 (Nat.mul_ne_zero (by omega) (by omega))
theorem sum_len {ps : List Pk} {h : Int} (hh : ∀ q ∈ ps, q.h = h) (hd : ∀ q ∈ ps, 1 ≤ q.d.length) : todo ps = (joinD ps).length * (h.toNat + 1) := by
  induction ps with
  | nil => simp [todo, joinD]
  | cons x t ih =>
    have e1 : todo (x :: t) = todoOf x + todo t := by simp [todo]
    have e2 : (joinD (x :: t)).length = x.d.length + (joinD t).length := by simp [joinD]
    rw [e1, e2, Nat.add_mul, ih (fun q hq => hh q (List.mem_cons_of_mem _ hq)) (fun q hq => hd q (List.mem_cons_of_mem _ hq)), todoOf, hh x (List.mem_cons_self ..), Nat.max_eq_right (hd x (List.mem_cons_self ..))]
theorem todo_app (a b : List Pk) : todo (a ++ b) = todo a + todo b := by simp [todo]
theorem cut_todo {x : Pk} {l : Int} (hb : cutB x l = true) : todo (cutL x l) = todoOf x := by
  obtain ⟨h1, h2, ⟨h3, e⟩ | ⟨h3, h4, h5, e⟩⟩ := cut_cases hb
  · rw [e]; simp [todo]
  · have hj := cut_join hb
    have hd : ∀ q ∈ cutL x l, 1 ≤ q.d.length := by
      intro q hq
      rw [e] at hq
      obtain ⟨j, hj, rfl⟩ := List.mem_map.1 hq
      have := (pieceN_lt (n := x.d.length) (l := l.toNat) (k := j) (by omega)).2 (List.mem_range.1 hj)
      simp only [pieceAt, List.length_take, List.length_drop]
      omega
    rw [sum_len (h := x.h) (fun q hq => (cut_same hq).2.2.2.1) hd, hj, todoOf, Nat.max_eq_right (by omega)]
theorem tv_cases (net : List St) (S : TrS) (s : St) (p : Pk) : tvOne net S (fwV s p) = S ∨ (p.ok = true ∧ ((p.t = s.a ∧ tvOne net S (fwV s p) = { S with arr := S.arr ++ [p] }) ∨
    (∃ k n, sayB s p k n = true ∧ tvOne net S (fwV s p) = { S with nts := S.nts ++ [sayP s p k n] }) ∨
    ∃ r n, p.t ≠ s.a ∧ 2 ≤ p.h ∧ lastFit s.rs p.t = some r ∧ cutB (lessH p) r.m = true ∧ seek net r.v = some n ∧ tvOne net S (fwV s p) = { S with row := S.row ++ (cutL (lessH p) r.m).map fun q => (n, q) })) := by
  rcases fw_cases s p with e | ⟨hok, ⟨ht, e⟩ | ⟨k, n, hb, e⟩ | ⟨r, ht, hh, hl, hc, e⟩⟩
  · left
    rw [e, tvOne, if_neg (by decide), if_neg (by decide)]
    split
    · rfl
    · show ({ S with row := S.row ++ [] } : TrS) = S
      rw [List.append_nil]
  · exact .inr ⟨hok.2, .inl ⟨ht, by rw [e]; rfl⟩⟩
  · exact .inr ⟨hok.2, .inr (.inl ⟨k, n, hb, by rw [e]; rfl⟩)⟩
  · obtain hs | ⟨n, hs⟩ : seek net r.v = none ∨ ∃ n, seek net r.v = some n := by cases seek net r.v <;> simp
    · left
      rw [e, tvOne, if_neg (by show ¬ (2 : Int) = 1; decide), if_neg (by show ¬ (2 : Int) = 3; decide)]
      show (match seek net r.v with | none => S | some n => _) = S
      rw [hs]
    · refine .inr ⟨hok.2, .inr (.inr ⟨r, n, ht, hh, hl, hc, hs, ?_⟩)⟩
      rw [e, tvOne, if_neg (by show ¬ (2 : Int) = 1; decide), if_neg (by show ¬ (2 : Int) = 3; decide)]
      show (match seek net r.v with | none => S | some n => _) = _
      rw [hs]
theorem tvK_step {net : List St} {S : TrS} {k : Nat} (h : k < (tvK net S k).row.length) :
    tvK net S (k + 1) = tvOne net (tvK net S k) (fwV (net.getD ((tvK net S k).row[k]).1 st0) ((tvK net S k).row[k]).2) := by
  rw [tvK, List.getElem?_eq_getElem h]
def restK (net : List St) (S : TrS) (k : Nat) : List (Nat × Pk) := (tvK net S k).row.drop k
theorem rest_cons {net : List St} {S : TrS} {k : Nat} (h : k < (tvK net S k).row.length) : restK net S k = (tvK net S k).row[k] :: (tvK net S k).row.drop (k + 1) := List.drop_eq_getElem_cons h
theorem rest_step {net : List St} {S : TrS} {k : Nat} (h : k < (tvK net S k).row.length) : ∃ i p tl, restK net S k = (i, p) :: tl ∧
    ((restK net S (k + 1) = tl ∧ (tvK net S (k + 1)).arr = (tvK net S k).arr ∧ ∃ l, (tvK net S (k + 1)).nts = (tvK net S k).nts ++ l) ∨
     (p.ok = true ∧ p.t = (net.getD i st0).a ∧ restK net S (k + 1) = tl ∧ (tvK net S (k + 1)).arr = (tvK net S k).arr ++ [p] ∧ (tvK net S (k + 1)).nts = (tvK net S k).nts) ∨
     ∃ r n, p.ok = true ∧ p.t ≠ (net.getD i st0).a ∧ 2 ≤ p.h ∧ lastFit (net.getD i st0).rs p.t = some r ∧ cutB (lessH p) r.m = true ∧ seek net r.v = some n ∧
       restK net S (k + 1) = tl ++ (cutL (lessH p) r.m).map (fun q => (n, q)) ∧ (tvK net S (k + 1)).arr = (tvK net S k).arr ∧ (tvK net S (k + 1)).nts = (tvK net S k).nts) := by
  refine ⟨((tvK net S k).row[k]).1, ((tvK net S k).row[k]).2, (tvK net S k).row.drop (k + 1), rest_cons h, ?_⟩
  have e := tvK_step h
  rcases tv_cases net (tvK net S k) (net.getD ((tvK net S k).row[k]).1 st0) ((tvK net S k).row[k]).2 with c | ⟨ok, ⟨ht, c⟩ | ⟨k', n, hb, c⟩ | ⟨r, n, ht, hh, hl, hc, hs, c⟩⟩
  · rw [c] at e
    exact .inl ⟨by rw [restK, e], by rw [e], [], by rw [e, List.append_nil]⟩
  · rw [c] at e
    exact .inr (.inl ⟨ok, ht, by rw [restK, e], by rw [e], by rw [e]⟩)
  · rw [c] at e
    exact .inl ⟨by rw [restK, e], by rw [e], _, by rw [e]⟩
  · rw [c] at e
    refine .inr (.inr ⟨r, n, ok, ht, hh, hl, hc, hs, ?_, by rw [e], by rw [e]⟩)
    rw [restK, e]
    exact List.drop_append_of_le_length (by omega)
theorem sndL_map (n : Nat) (l : List Pk) : sndL (l.map fun q => (n, q)) = l := by simp [sndL, Function.comp_def]
theorem sndL_app (a b : List (Nat × Pk)) : sndL (a ++ b) = sndL a ++ sndL b := by simp [sndL]
theorem rest_less {net : List St} {S : TrS} {k : Nat} (h : k < (tvK net S k).row.length) : todo (sndL (restK net S (k + 1))) + 1 ≤ todo (sndL (restK net S k)) := by
  obtain ⟨i, p, tl, e, h1⟩ := rest_step h
  have e1 : todo (sndL ((i, p) :: tl)) = todoOf p + todo (sndL tl) := by simp [todo, sndL]
  have hp := todoOf_pos p
  rw [e, e1]
  rcases h1 with ⟨h1, _⟩ | ⟨_, _, h1, _⟩ | ⟨r, n, _, _, hh, _, hc, _, h1, _⟩
  · rw [h1]; omega
  · rw [h1]; omega
  · rw [h1, sndL_app, todo_app, sndL_map, cut_todo hc]
    have : todoOf (lessH p) + 1 ≤ todoOf p := by
      show max 1 p.d.length * ((p.h - 1).toNat + 1) + 1 ≤ max 1 p.d.length * (p.h.toNat + 1)
      have e1 : p.h.toNat = (p.h - 1).toNat + 1 := by omega
      rw [e1, Nat.mul_add _ ((p.h - 1).toNat + 1) 1]
      omega
    omega
theorem rest_sum (net : List St) (S : TrS) : ∀ k, k ≤ (tvK net S k).row.length → todo (sndL (restK net S k)) + k ≤ todo (sndL S.row)
  | 0, _ => by simp [restK, tvK]
  | k + 1, h => by
    by_cases hk : k < (tvK net S k).row.length
    · have := rest_sum net S k (by omega)
      have := rest_less hk
      omega
    · have e := tvK_end (net := net) (S := S) (k := k) (by omega) 1
      rw [e] at h
      omega
def tvT (net : List St) (S : TrS) : Nat := (tvK net S (todo (sndL S.row) + 1)).row.length
theorem tvT_end (net : List St) (S : TrS) : tvT net S ≤ todo (sndL S.row) ∧ (tvK net S (tvT net S)).row.length = tvT net S ∧ ∀ k, k < tvT net S → k < (tvK net S k).row.length := by
  have h0 : tvT net S ≤ todo (sndL S.row) := by
    apply Nat.le_of_not_lt
    intro h
    have := rest_sum net S (todo (sndL S.row) + 1) h
    omega
  have hk : ∀ k, k < tvT net S → k < (tvK net S k).row.length := by
    intro k h
    apply Nat.lt_of_not_le
    intro hn
    have e := tvK_end hn (todo (sndL S.row) + 1 - k)
    rw [show k + (todo (sndL S.row) + 1 - k) = todo (sndL S.row) + 1 from by omega] at e
    rw [tvT, e] at h
    omega
  refine ⟨h0, ?_, hk⟩
  obtain ⟨l, e⟩ := tvK_mono net S (tvT net S) (todo (sndL S.row) + 1 - tvT net S)
  rw [show tvT net S + (todo (sndL S.row) + 1 - tvT net S) = todo (sndL S.row) + 1 from by omega] at e
  have hl : (tvK net S (tvT net S)).row.length + l.length = tvT net S := by
    rw [← List.length_append, ← e]; rfl
  have hle : (tvK net S (tvT net S)).row.length ≤ tvT net S := by omega
  have e2 := tvK_end hle (todo (sndL S.row) + 1 - tvT net S)
  rw [show tvT net S + (todo (sndL S.row) + 1 - tvT net S) = todo (sndL S.row) + 1 from by omega] at e2
  rw [← e2]; rfl
theorem tv_ind {net : List St} {S : TrS} (P : Nat → Prop) (h0 : P 0) (hs : ∀ k, k < (tvK net S k).row.length → P k → P (k + 1)) : P (tvT net S) := by
  have : ∀ k, k ≤ tvT net S → P k := by
    intro k
    induction k with
    | zero => exact fun _ => h0
    | succ k ih => exact fun h => hs k ((tvT_end net S).2.2 k (by omega)) (ih (by omega))
  exact this _ (Nat.le_refl _)
def PartOf (p q : Pk) : Prop := q.t = p.t ∧ q.h ≤ p.h ∧ ∃ n : Nat, q.a = p.a + (n : Int) ∧ n + q.d.length ≤ p.d.length ∧ q.d = (p.d.drop n).take q.d.length
def Apart (x y : Pk) : Prop := x.z ≤ y.a ∨ y.z ≤ x.a
theorem take_self {α : Type} (n : Nat) (l : List α) : l.take n = l.take (l.take n).length := by
  rw [List.take_eq_take_iff, List.length_take]; omega
theorem PartOf.refl (p : Pk) : PartOf p p := ⟨rfl, Int.le_refl _, 0, by simp, by omega, by simp⟩
theorem PartOf.trans {p q r : Pk} (h1 : PartOf p q) (h2 : PartOf q r) : PartOf p r := by
  obtain ⟨a1, a2, n, a3, a4, a5⟩ := h1
  obtain ⟨b1, b2, m, b3, b4, b5⟩ := h2
  refine ⟨b1.trans a1, by omega, n + m, by omega, by omega, ?_⟩
  have e : r.d = (p.d.drop (n + m)).take (min r.d.length (q.d.length - m)) := by
    conv => lhs; rw [b5, a5, List.drop_take, List.drop_drop, List.take_take]
  rw [Nat.min_eq_left (by omega)] at e
  exact e
theorem PartOf.ends {p q : Pk} (h : PartOf p q) : p.a ≤ q.a ∧ q.z ≤ p.z := by
  obtain ⟨_, _, n, h1, h2, _⟩ := h
  simp only [Pk.z]
  omega
theorem Apart.symm {x y : Pk} (h : Apart x y) : Apart y x := Or.symm h
theorem Apart.part {x y y' : Pk} (h : Apart x y) (hp : PartOf y y') : Apart x y' := by
  have := hp.ends
  rcases h with h | h
  · exact .inl (by omega)
  · exact .inr (by omega)
theorem cut_part {x q : Pk} {l : Int} (hb : cutB x l = true) (h : q ∈ cutL x l) : PartOf x q := by
  obtain ⟨h1, h2, ⟨h3, e⟩ | ⟨h3, h4, h5, e⟩⟩ := cut_cases hb
  · rw [e] at h
    rw [List.mem_singleton.1 h]
    exact .refl x
  · rw [e] at h
    obtain ⟨j, hj, rfl⟩ := List.mem_map.1 h
    have := (pieceN_lt (n := x.d.length) (l := l.toNat) (k := j) (by omega)).2 (List.mem_range.1 hj)
    refine ⟨rfl, Int.le_refl _, l.toNat * j, rfl, ?_, ?_⟩
    · simp only [pieceAt, List.length_take, List.length_drop]; omega
    · exact take_self _ _
def Kept (p : Pk) (L : List Pk) : Prop := (∀ q ∈ L, PartOf p q) ∧ L.Pairwise Apart
theorem Kept.sub {p : Pk} {L L' : List Pk} (h : Kept p L) (s : L'.Sublist L) : Kept p L' := ⟨fun q hq => h.1 q (s.subset hq), h.2.sublist s⟩
theorem Kept.cut {p x : Pk} {A B C : List Pk} (h : Kept p (A ++ x :: B)) (hC : ∀ y ∈ C, PartOf x y) (hA : C.Pairwise Apart) : Kept p (A ++ (B ++ C)) := by
  have hs : (A ++ B).Sublist (A ++ x :: B) := (List.Sublist.refl A).append (List.sublist_cons_self x B)
  rw [← List.append_assoc]
  refine ⟨fun q hq => ?_, ?_⟩
  · rcases List.mem_append.1 hq with hq | hq
    · exact h.1 q (hs.subset hq)
    · exact (h.1 x (by simp)).trans (hC q hq)
  · refine List.pairwise_append.2 ⟨h.2.sublist hs, hA, fun a ha y hy => ?_⟩
    have hx : Apart a x := by
      have h2 := List.pairwise_append.1 h.2
      rcases List.mem_append.1 ha with ha | ha
      · exact h2.2.2 a ha x (List.mem_cons_self ..)
      · exact ((List.pairwise_cons.1 h2.2.1).1 a ha).symm
    exact hx.part (hC y hy)
def nextV (net : List St) (to : Int) (i : Nat) : Option (Nat × Int) :=
  match lastFit (net.getD i st0).rs to with
  | none => none
  | some r => match seek net r.v with
    | none => none
    | some n => some (n, r.m)
def pm (net : List St) (to : Int) : Nat → Nat → Option Int
  | 0, _ => none
  | f + 1, i => if (net.getD i st0).a = to then some 48 else match nextV net to i with
    | none => none
    | some (n, m) => match pm net to f n with
      | none => none
      | some R => some (min m R)
def roomV (net : List St) (i : Nat) (to : Int) : Int := (pm net to (net.length + 1) i).getD 0
theorem net_routes {net : List St} (hn : netB net = true) {i : Nat} {x : Int} {r : RE} (h : lastFit (net.getD i st0).rs x = some r) : i < net.length ∧ (1 ≤ r.m ∧ r.m ≤ 48) ∧ (0 ≤ r.v ∧ r.v ≤ 65535) := by
  have hi : i < net.length := by
    apply Nat.lt_of_not_le
    intro hi
    rw [List.getD_eq_getElem?_getD, List.getElem?_eq_none hi] at h
    cases h
  rw [List.getD_eq_getElem?_getD, List.getElem?_eq_getElem hi] at h
  simp only [netB, Bool.and_eq_true] at hn
  have hs := List.all_eq_true.1 hn.1.2 net[i] (List.getElem_mem hi)
  rw [stB, Bool.and_eq_true] at hs
  have hr := rOk_mem ((rsB_iff.1 hs.2).2.1 r (lastFit_mem h).1)
  exact ⟨hi, hr.2.2.2.2.2.2, hr.2.2.2.2.2.1⟩
theorem next_some {net : List St} {to : Int} {i n : Nat} {m : Int} (h : nextV net to i = some (n, m)) : ∃ r, lastFit (net.getD i st0).rs to = some r ∧ seek net r.v = some n ∧ m = r.m := by
  rw [nextV] at h
  split at h
  · cases h
  · rename_i r hr
    split at h
    · cases h
    · rename_i n' hs
      cases h
      exact ⟨r, hr, hs, rfl⟩
theorem next_of {net : List St} {to : Int} {i n : Nat} {r : RE} (h : lastFit (net.getD i st0).rs to = some r) (hs : seek net r.v = some n) : nextV net to i = some (n, r.m) := by
  simp only [nextV, h, hs]
theorem pm_here {net : List St} {to : Int} {i : Nat} (f : Nat) (h : (net.getD i st0).a = to) : pm net to (f + 1) i = some 48 := by rw [pm, if_pos h]
theorem pm_on {net : List St} {to : Int} {i n : Nat} {m R : Int} {f : Nat} (h : (net.getD i st0).a ≠ to) (hx : nextV net to i = some (n, m)) (hp : pm net to f n = some R) : pm net to (f + 1) i = some (min m R) := by
  rw [pm, if_neg h]; simp only [hx, hp]
theorem pm_cases {net : List St} {to : Int} {i f : Nat} {R : Int} (h : pm net to f i = some R) : ∃ g, f = g + 1 ∧ (((net.getD i st0).a = to ∧ R = 48) ∨ ((net.getD i st0).a ≠ to ∧ ∃ n m R', nextV net to i = some (n, m) ∧ pm net to g n = some R' ∧ R = min m R')) := by
  cases f with
  | zero => cases h
  | succ g =>
    refine ⟨g, rfl, ?_⟩
    rw [pm] at h
    split at h
    · rename_i ht
      exact .inl ⟨ht, by cases h; rfl⟩
    · rename_i ht
      split at h
      · cases h
      · rename_i n m hx
        split at h
        · cases h
        · rename_i R' hp
          exact .inr ⟨ht, n, m, R', hx, hp, by cases h; rfl⟩
theorem pm_succ {net : List St} {to : Int} : ∀ {f i : Nat} {R : Int}, pm net to f i = some R → pm net to (f + 1) i = some R := by
  intro f
  induction f with
  | zero => intro i R h; cases h
  | succ f ih =>
    intro i R h
    obtain ⟨g, hg, ⟨ht, rfl⟩ | ⟨ht, n, m, R', hx, hp, rfl⟩⟩ := pm_cases h
    · exact pm_here _ ht
    · obtain rfl : f = g := by omega
      exact pm_on ht hx (ih hp)
theorem pm_mono {net : List St} {to : Int} {f i : Nat} {R : Int} (h : pm net to f i = some R) : ∀ j, pm net to (f + j) i = some R
  | 0 => h
  | j + 1 => pm_succ (pm_mono h j)
theorem pm_bd {net : List St} (hn : netB net = true) {to : Int} : ∀ {f i : Nat} {R : Int}, pm net to f i = some R → 1 ≤ R ∧ R ≤ 48 := by
  intro f
  induction f with
  | zero => intro i R h; cases h
  | succ f ih =>
    intro i R h
    obtain ⟨g, hg, ⟨ht, rfl⟩ | ⟨ht, n, m, R', hx, hp, rfl⟩⟩ := pm_cases h
    · omega
    · obtain rfl : f = g := by omega
      obtain ⟨r, hl, _, rfl⟩ := next_some hx
      have h1 := (net_routes hn hl).2.1
      have h2 := ih hp
      omega
theorem few : ∀ (n : Nat) (l : List Nat), l.Nodup → (∀ x ∈ l, x < n) → l.length ≤ n
  | 0, l, _, h => by
    cases l with
    | nil => exact Nat.le_refl _
    | cons x t => exact absurd (h x (List.mem_cons_self ..)) (Nat.not_lt_zero _)
  | n + 1, l, hd, h => by
    have h1 := few n (l.erase n) (hd.erase n) (fun x hx => by
      have h2 := h x (List.mem_of_mem_erase hx)
      have h3 : x ≠ n := fun e => by
        rw [e] at hx
        exact hd.not_mem_erase hx
      omega)
    rw [List.length_erase] at h1
    split at h1 <;> omega
theorem pm_line {net : List St} {to : Int} : ∀ {f i : Nat}, pm net to (f + 1) i ≠ none → pm net to f i = none → i < net.length → ∃ l : List Nat, l.length = f + 1 ∧ l.Nodup ∧ ∀ s ∈ l, s < net.length ∧ pm net to (f + 1) s ≠ none := by
  intro f
  induction f with
  | zero => exact fun {i} h _ hi => ⟨[i], rfl, by simp, fun s hs => by rw [List.mem_singleton.1 hs]; exact ⟨hi, h⟩⟩
  | succ f ih =>
    intro i h h0 hi
    obtain ⟨R, hR⟩ : ∃ R, pm net to (f + 1 + 1) i = some R := by cases hp : pm net to (f + 1 + 1) i with | none => exact absurd hp h | some R => exact ⟨R, rfl⟩
    obtain ⟨g, hg, ⟨ht, rfl⟩ | ⟨ht, n, m, R', hx, hp, rfl⟩⟩ := pm_cases hR
    · rw [pm_here f ht] at h0; cases h0
    · obtain rfl : g = f + 1 := by omega
      obtain ⟨r, hl, hs, rfl⟩ := next_some hx
      have hn : pm net to f n = none := by
        cases hq : pm net to f n with
        | none => rfl
        | some R'' => rw [pm_on ht hx hq] at h0; cases h0
      obtain ⟨l, h1, h2, h3⟩ := ih (by rw [hp]; simp) hn (seek_lt hs).1
      refine ⟨i :: l, by rw [List.length_cons, h1], List.nodup_cons.2 ⟨fun hm => (h3 i hm).2 h0, h2⟩, fun s hm => ?_⟩
      rcases List.mem_cons.1 hm with rfl | hm
      · exact ⟨hi, h⟩
      · refine ⟨(h3 s hm).1, ?_⟩
        obtain ⟨R3, h4⟩ : ∃ R, pm net to (f + 1) s = some R := by cases hq : pm net to (f + 1) s with | none => exact absurd hq (h3 s hm).2 | some R => exact ⟨R, rfl⟩
        rw [pm_succ h4]; simp
theorem pm_first {net : List St} {to : Int} {i : Nat} : ∀ f, pm net to f i ≠ none → ∃ g, g < f ∧ pm net to (g + 1) i ≠ none ∧ pm net to g i = none
  | 0, h => absurd rfl h
  | f + 1, h => by
    by_cases hf : pm net to f i = none
    · exact ⟨f, Nat.lt_succ_self f, h, hf⟩
    · obtain ⟨g, h1, h2⟩ := pm_first f hf
      exact ⟨g, by omega, h2⟩
theorem pm_all {net : List St} {to : Int} {i f : Nat} {R : Int} (hi : i < net.length) (h : pm net to f i = some R) : pm net to (net.length + 1) i = some R := by
  obtain ⟨g, hg, h1, h2⟩ := pm_first f (by rw [h]; simp)
  obtain ⟨l, a1, a2, a3⟩ := pm_line h1 h2 hi
  have hle := few net.length l a2 fun x hx => (a3 x hx).1
  obtain ⟨R', hR⟩ : ∃ R, pm net to (g + 1) i = some R := by cases hq : pm net to (g + 1) i with | none => exact absurd hq h1 | some R => exact ⟨R, rfl⟩
  have e1 := pm_mono hR (f - (g + 1))
  rw [show g + 1 + (f - (g + 1)) = f from by omega, h] at e1
  have e2 := pm_mono hR (net.length + 1 - (g + 1))
  rw [show g + 1 + (net.length + 1 - (g + 1)) = net.length + 1 from by omega] at e2
  rw [e2, e1]
inductive Rs where
  | arr
  | note (k v : Int)
  | gone
theorem less_ok {q : Pk} (h : q.ok = true) (hh : 2 ≤ q.h) : (lessH q).ok = true := by
  rw [Pk.ok, pkB, Bool.and_eq_true, pkR, decide_eq_true_eq] at h ⊢
  obtain ⟨⟨h1, h2, h3, h4⟩, h5⟩ := h
  exact ⟨⟨h1, h2, ⟨by show 0 ≤ q.h - 1; omega, by show q.h - 1 ≤ 255; omega⟩, h4⟩, h5⟩
def Idx (z : Int) (b : Bool) (C : List Pk) : Prop := ∀ k (hk : k < C.length), C[k].a = z + ((joinD (C.take k)).length : Int) ∧ C[k].m = (b || decide (k + 1 < C.length))
theorem cut_idx {x : Pk} {l : Int} (h : cutB x l = true) : Idx x.a x.m (cutL x l) := fun k hk => ⟨(cut_facts h k hk).2.2.1, (cut_facts h k hk).2.2.2⟩
theorem joinD_app (A B : List Pk) : joinD (A ++ B) = joinD A ++ joinD B := by simp [joinD]
theorem Idx.app {z : Int} {b : Bool} {A B : List Pk} (hA : Idx z true A) (hB : Idx (z + ((joinD A).length : Int)) b B) (h0 : 0 < B.length) : Idx z b (A ++ B) := by
  intro k hk
  by_cases h : k < A.length
  · have h1 := hA k h
    rw [List.getElem_append_left h, List.take_append_of_le_length (by omega)]
    refine ⟨h1.1, ?_⟩
    rw [h1.2, List.length_append, decide_eq_true (p := k + 1 < A.length + B.length) (by omega)]
    simp
  · rw [List.length_append] at hk
    have h1 := hB (k - A.length) (by omega)
    rw [List.getElem_append_right (by omega), List.take_append, List.take_of_length_le (by omega), joinD_app, List.length_append]
    refine ⟨by rw [h1.1]; omega, ?_⟩
    rw [h1.2, List.length_append]
    congr 1
    rw [decide_eq_decide]
    omega
theorem Idx.tail {z : Int} {b : Bool} {x : Pk} {t : List Pk} (h : Idx z b (x :: t)) : Idx (z + (x.d.length : Int)) b t := by
  intro k hk
  have h1 := h (k + 1) (by rw [List.length_cons]; omega)
  simp only [List.getElem_cons_succ, List.take_succ_cons, List.length_cons] at h1
  refine ⟨?_, ?_⟩
  · rw [h1.1]
    have : (joinD (x :: t.take k)).length = x.d.length + (joinD (t.take k)).length := by simp [joinD]
    omega
  · rw [h1.2]
    congr 1
    rw [decide_eq_decide]
    omega
theorem Idx.head {z : Int} {b : Bool} {x : Pk} {t : List Pk} (h : Idx z b (x :: t)) : x.a = z ∧ x.m = (b || decide (0 < t.length)) := by
  have h1 := h 0 (by simp)
  simp only [List.getElem_cons_zero, List.take_zero, List.length_cons] at h1
  refine ⟨by rw [h1.1]; simp [joinD], ?_⟩
  rw [h1.2]
  congr 1
  rw [decide_eq_decide]
  omega
def cutAll (C : List Pk) (m : Int) : List Pk := C.flatMap fun x => cutL (lessH x) m
theorem cutAll_join : ∀ {C : List Pk} {m : Int}, (∀ x ∈ C, cutB (lessH x) m = true) → joinD (cutAll C m) = joinD C
  | [], _, _ => rfl
  | x :: t, m, h => by
    have e : cutAll (x :: t) m = cutL (lessH x) m ++ cutAll t m := rfl
    have e2 : joinD (x :: t) = x.d ++ joinD t := by simp [joinD]
    rw [e, joinD_app, cut_join (h x (List.mem_cons_self ..)), cutAll_join fun y hy => h y (List.mem_cons_of_mem _ hy), e2]
    rfl
theorem cutAll_pos {C : List Pk} {m : Int} (h : ∀ x ∈ C, cutB (lessH x) m = true) (h0 : 0 < C.length) : 0 < (cutAll C m).length := by
  cases C with
  | nil => exact absurd h0 (Nat.lt_irrefl _)
  | cons x t =>
    have e : cutAll (x :: t) m = cutL (lessH x) m ++ cutAll t m := rfl
    rw [e, List.length_append]
    have := cut_pos (h x (List.mem_cons_self ..))
    omega
theorem cutAll_idx {b : Bool} {m : Int} : ∀ {C : List Pk} {z : Int}, (∀ x ∈ C, cutB (lessH x) m = true) → Idx z b C → Idx z b (cutAll C m)
  | [], _, _, _ => fun k hk => absurd hk (Nat.not_lt_zero _)
  | x :: t, z, h, hi => by
    have e : cutAll (x :: t) m = cutL (lessH x) m ++ cutAll t m := rfl
    have hx := h x (List.mem_cons_self ..)
    have ht : ∀ y ∈ t, cutB (lessH y) m = true := fun y hy => h y (List.mem_cons_of_mem _ hy)
    have h1 := hi.head
    have h2 := cut_idx hx
    have ea : (lessH x).a = z := h1.1
    have em : (lessH x).m = (b || decide (0 < t.length)) := h1.2
    rw [ea, em] at h2
    rw [e]
    by_cases h0 : 0 < t.length
    · rw [decide_eq_true h0, Bool.or_true] at h2
      refine h2.app ?_ (cutAll_pos ht h0)
      rw [cut_join hx]
      exact cutAll_idx ht hi.tail
    · obtain rfl : t = [] := by cases t with | nil => rfl | cons y t => exact absurd (Nat.succ_pos _) h0
      rw [decide_eq_false h0, Bool.or_false] at h2
      have : cutAll [] m = [] := rfl
      rw [this, List.append_nil]
      exact h2
theorem idx_whole {C : List Pk} {p : Pk} {u : Int} (hf : Idx 0 false C) (hn : 0 < C.length) (hok : ∀ y ∈ C, y.ok = true) (hs : ∀ y ∈ C, same4 y p = true) (hd : (joinD C).length ≤ 48) (hu : 0 ≤ u ∧ u ≤ 1000000) : wholeB C u = true := by
  have hz : ∀ k (hk : k < C.length), C[k].z = ((joinD (C.take (k + 1))).length : Int) := fun k hk => by
    have := (hf k hk).1
    rw [joinD_take hk, List.length_append]
    show C[k].a + (C[k].d.length : Int) = _
    omega
  have mono : ∀ i j, i ≤ j → (joinD (C.take i)).length ≤ (joinD (C.take j)).length := fun i j hij => by
    have e : C.take i = (C.take j).take i := by rw [List.take_take, Nat.min_eq_left hij]
    rw [e, joinD_len, joinD_len]
    exact sumN_sub (List.take_sublist _ _)
  have hp : partB C u = true := by
    rw [partB_iff]
    refine ⟨hok, ?_, ?_, hn, hu⟩
    · rw [Ch, List.pairwise_iff_getElem]
      intro i j hi hj' hij
      rw [follows_iff]
      refine ⟨?_, ?_, ?_⟩
      · have h1 := same4_iff.1 (hs _ (List.getElem_mem hi))
        have h2 := same4_iff.1 (hs _ (List.getElem_mem hj'))
        rw [same4_iff]
        exact ⟨by rw [h1.1, h2.1], by rw [h1.2.1, h2.2.1], by rw [h1.2.2.1, h2.2.2.1], by rw [h1.2.2.2, h2.2.2.2]⟩
      · rw [(hf i hi).2, decide_eq_true (by omega), Bool.or_true]
      · rw [hz i hi, (hf j hj').1]
        have := mono (i + 1) j (by omega)
        omega
    · rw [← joinD_len]; exact hd
  rw [wholeB, hp, Bool.true_and, reachB, Bool.and_eq_true]
  constructor
  · refine List.all_eq_true.2 fun k hk => ?_
    have hk := List.mem_range.1 hk
    rw [pk_get hk, beq_iff_eq, (hf k hk).1, zK]
    by_cases h0 : k = 0
    · subst h0; rw [if_pos rfl]; simp [joinD]
    · rw [if_neg h0, pk_get (by omega), hz (k - 1) (by omega), Nat.sub_add_cancel (by omega)]
      omega
  · rw [more_last hn, (hf _ (by omega)).2, decide_eq_false (by omega)]; rfl
def Good (p : Pk) (to h : Int) (ps : List Pk) : Prop := ∀ x ∈ ps, x.ok = true ∧ x.u = false ∧ x.t = to ∧ x.h = h ∧ x.z ≤ 48 ∧ same4 x p = true
theorem good_cut {p : Pk} {to h m : Int} {ps : List Pk} (g : Good p to h ps) (hh : 2 ≤ h) (hm : 1 ≤ m ∧ m ≤ 48) : ∀ x ∈ ps, cutB (lessH x) m = true := by
  intro x hx
  obtain ⟨h1, h2, h3, h4, h5, h6⟩ := g x hx
  have h7 : ((lessH x).d.length - 1) / m.toNat * m.toNat ≤ (lessH x).d.length - 1 := Nat.div_mul_le_self _ _
  have h8 : (lessH x).d.length = x.d.length := rfl
  have h9 : (lessH x).a = x.a := rfl
  have h10 : (lessH x).u = x.u := rfl
  have h11 : x.a + (x.d.length : Int) ≤ 48 := h5
  have h12 := (pk_okR h1).2.2.2.2.1
  rw [cutB, less_ok h1 (by omega), decide_eq_true hm, h10, h2]
  simp only [Bool.true_and, Bool.not_false, Bool.or_eq_true, decide_eq_true_eq]
  right
  rw [h9]
  rw [h8] at h7
  rw [h8]
  have : (((x.d.length - 1) / m.toNat * m.toNat : Nat) : Int) ≤ ((x.d.length - 1 : Nat) : Int) := Int.ofNat_le.2 h7
  omega
theorem good_next {p : Pk} {to h m : Int} {ps : List Pk} (g : Good p to h ps) (hh : 2 ≤ h) (hm : 1 ≤ m ∧ m ≤ 48) : Good p to (h - 1) (cutAll ps m) := by
  intro y hy
  obtain ⟨x, hx, hy⟩ := List.mem_flatMap.1 hy
  have hc := good_cut g hh hm x hx
  obtain ⟨h1, h2, h3, h4, h5, h6⟩ := g x hx
  obtain ⟨s1, s2, s3, s4, s5, s6⟩ := cut_same hy
  have he := (cut_part hc hy).ends
  have hz : (lessH x).z = x.z := rfl
  refine ⟨(cut_mem hc hy).2, s6.trans h2, s2.trans h3, by rw [s4, ← h4]; rfl, by omega, ?_⟩
  rw [same4_iff] at h6 ⊢
  exact ⟨s1.trans h6.1, s2.trans h6.2.1, s3.trans h6.2.2.1, s5.trans h6.2.2.2⟩
theorem level_on {net : List St} {S : TrS} {p : Pk} {to h : Int} {i n : Nat} {r : RE} (ht : (net.getD i st0).a ≠ to) (hl : lastFit (net.getD i st0).rs to = some r) (hs : seek net r.v = some n) (hi : stB (net.getD i st0) = true) (hh : 2 ≤ h) (hm : 1 ≤ r.m ∧ r.m ≤ 48) :
    ∀ (ps qs : List Pk) (k : Nat), Good p to h ps → restK net S k = ps.map (fun q => (i, q)) ++ qs.map (fun q => (n, q)) →
      restK net S (k + ps.length) = (qs ++ cutAll ps r.m).map (fun q => (n, q)) ∧ (tvK net S (k + ps.length)).arr = (tvK net S k).arr ∧ (k ≤ (tvK net S k).row.length → k + ps.length ≤ (tvK net S (k + ps.length)).row.length)
  | [], qs, k, _, h => by
    have : cutAll [] r.m = [] := rfl
    rw [this, List.append_nil]
    exact ⟨h, rfl, fun h => h⟩
  | x :: ps, qs, k, g, h => by
    have hk : k < (tvK net S k).row.length := by
      apply Nat.lt_of_not_le
      intro hn
      rw [restK, List.drop_of_length_le hn] at h
      cases h
    have e0 := rest_cons hk
    rw [h] at e0
    have e1 : (tvK net S k).row[k] = (i, x) := (List.cons.inj e0).1.symm
    have e2 : (tvK net S k).row.drop (k + 1) = ps.map (fun q => (i, q)) ++ qs.map (fun q => (n, q)) := (List.cons.inj e0).2.symm
    have e := tvK_step hk
    rw [e1] at e
    obtain ⟨h1, h2, h3, h4, h5, h6⟩ := g x (List.mem_cons_self ..)
    have hc := good_cut g hh hm x (List.mem_cons_self ..)
    have e3 : fwV (net.getD i st0) x = ⟨2, r.v, cutL (lessH x) r.m⟩ := by
      rw [fwV, if_pos (by rw [hi, h1]; rfl), fwD, if_neg (by rw [h3]; exact fun e => ht e.symm), if_neg (by omega), h3, hl]
      show wayD _ x r = _
      rw [wayD, if_neg (by rw [h2]; simp), onD, if_pos hc]
    have e4 : tvOne net (tvK net S k) (fwV (net.getD i st0) x) = { tvK net S k with row := (tvK net S k).row ++ (cutL (lessH x) r.m).map fun q => (n, q) } := by
      rw [e3, tvOne, if_neg (by show ¬ (2 : Int) = 1; decide), if_neg (by show ¬ (2 : Int) = 3; decide)]
      show (match seek net r.v with | none => _ | some n => _) = _
      rw [hs]
    rw [e4] at e
    have e5 : restK net S (k + 1) = ps.map (fun q => (i, q)) ++ (qs ++ cutL (lessH x) r.m).map (fun q => (n, q)) := by
      rw [restK, e]
      show ((tvK net S k).row ++ _).drop (k + 1) = _
      rw [List.drop_append_of_le_length (by omega), e2, List.map_append, List.append_assoc]
    have ih := level_on ht hl hs hi hh hm ps (qs ++ cutL (lessH x) r.m) (k + 1) (fun y hy => g y (List.mem_cons_of_mem _ hy)) e5
    have ek : k + (x :: ps).length = k + 1 + ps.length := by rw [List.length_cons]; omega
    have ec : qs ++ cutAll (x :: ps) r.m = qs ++ cutL (lessH x) r.m ++ cutAll ps r.m := by
      rw [List.append_assoc]; rfl
    rw [ek, ec]
    refine ⟨ih.1, ih.2.1.trans (by rw [e]), fun _ => ih.2.2 ?_⟩
    rw [e]
    show k + 1 ≤ ((tvK net S k).row ++ _).length
    rw [List.length_append]; omega
theorem level_here {net : List St} {S : TrS} {p : Pk} {to h : Int} {i : Nat} (ht : (net.getD i st0).a = to) (hi : stB (net.getD i st0) = true) :
    ∀ (ps : List Pk) (k : Nat), Good p to h ps → restK net S k = ps.map (fun q => (i, q)) →
      restK net S (k + ps.length) = [] ∧ (tvK net S (k + ps.length)).arr = (tvK net S k).arr ++ ps ∧ (k ≤ (tvK net S k).row.length → k + ps.length ≤ (tvK net S (k + ps.length)).row.length)
  | [], k, _, h => ⟨h, (List.append_nil _).symm, fun h => h⟩
  | x :: ps, k, g, h => by
    have hk : k < (tvK net S k).row.length := by
      apply Nat.lt_of_not_le
      intro hn
      rw [restK, List.drop_of_length_le hn] at h
      cases h
    have e0 := rest_cons hk
    rw [h] at e0
    have e1 : (tvK net S k).row[k] = (i, x) := (List.cons.inj e0).1.symm
    have e2 : (tvK net S k).row.drop (k + 1) = ps.map (fun q => (i, q)) := (List.cons.inj e0).2.symm
    have e := tvK_step hk
    rw [e1] at e
    obtain ⟨h1, h2, h3, h4, h5, h6⟩ := g x (List.mem_cons_self ..)
    have e3 : fwV (net.getD i st0) x = ⟨1, 0, [x]⟩ := by
      rw [fwV, if_pos (by rw [hi, h1]; rfl), fwD, if_pos (by rw [h3, ht])]
    have e4 : tvOne net (tvK net S k) (fwV (net.getD i st0) x) = { tvK net S k with arr := (tvK net S k).arr ++ [x] } := by rw [e3]; rfl
    rw [e4] at e
    have e5 : restK net S (k + 1) = ps.map (fun q => (i, q)) := by rw [restK, e]; exact e2
    have ih := level_here ht hi ps (k + 1) (fun y hy => g y (List.mem_cons_of_mem _ hy)) e5
    have ek : k + (x :: ps).length = k + 1 + ps.length := by rw [List.length_cons]; omega
    rw [ek]
    refine ⟨ih.1, ih.2.1.trans (by rw [e]; show (tvK net S k).arr ++ [x] ++ ps = _; rw [List.append_assoc]; rfl), fun _ => ih.2.2 ?_⟩
    rw [e]
    show k + 1 ≤ (tvK net S k).row.length
    omega
theorem net_st {net : List St} (hn : netB net = true) {i : Nat} (hi : i < net.length) : stB (net.getD i st0) = true := by
  rw [List.getD_eq_getElem?_getD, List.getElem?_eq_getElem hi]
  simp only [netB, Bool.and_eq_true] at hn
  exact List.all_eq_true.1 hn.1.2 net[i] (List.getElem_mem hi)
theorem tv_done {net : List St} {S : TrS} {k : Nat} (h : restK net S k = []) : tvK net S (tvT net S) = tvK net S k := by
  have h1 : (tvK net S k).row.length ≤ k := List.drop_eq_nil_iff.1 h
  have h2 : tvT net S ≤ k := by
    apply Nat.le_of_not_lt
    intro h3
    have := (tvT_end net S).2.2 k h3
    omega
  have h4 := tvK_end (net := net) (S := S) (k := tvT net S) (by rw [(tvT_end net S).2.1]; exact Nat.le_refl _) (k - tvT net S)
  rw [show tvT net S + (k - tvT net S) = k from by omega] at h4
  exact h4.symm
theorem way_all {net : List St} (hn : netB net = true) {S : TrS} {p : Pk} {to : Int} : ∀ (f i : Nat) (h : Int) (R : Int) (ps : List Pk) (k : Nat), i < net.length → pm net to f i = some R → (f : Int) ≤ h → Good p to h ps → Idx 0 false ps → 0 < ps.length →
    restK net S k = ps.map (fun q => (i, q)) → (tvK net S k).arr = [] →
    ∃ C, (tvK net S (tvT net S)).arr = C ∧ Idx 0 false C ∧ 0 < C.length ∧ (∀ x ∈ C, x.ok = true ∧ same4 x p = true) ∧ joinD C = joinD ps := by
  intro f
  induction f with
  | zero => intro i h R ps k _ hp; cases hp
  | succ f ih =>
    intro i h R ps k hi hp hf g hx h0 hr ha
    obtain ⟨g', hg, ⟨ht, rfl⟩ | ⟨ht, n, m, R', hx', hp', rfl⟩⟩ := pm_cases hp
    · have l := level_here ht (net_st hn hi) ps k g hr
      refine ⟨ps, ?_, hx, h0, fun x hx => ⟨(g x hx).1, (g x hx).2.2.2.2.2⟩, rfl⟩
      rw [tv_done l.1, l.2.1, ha]
      rfl
    · obtain rfl : f = g' := by omega
      obtain ⟨r, hl, hs, rfl⟩ := next_some hx'
      obtain ⟨g2, hg2, _⟩ := pm_cases hp'
      have hm := (net_routes hn hl).2.1
      have hh : 2 ≤ h := by omega
      have l := level_on (S := S) ht hl hs (net_st hn hi) hh hm ps [] k g (by rw [hr]; simp)
      rw [List.nil_append] at l
      have hc := good_cut g hh hm
      obtain ⟨C, c1, c2, c3, c4, c5⟩ := ih n (h - 1) R' (cutAll ps r.m) (k + ps.length) (seek_lt hs).1 hp' (by omega) (good_next g hh hm) (cutAll_idx hc hx) (cutAll_pos hc h0) l.1 (l.2.1.trans ha)
      exact ⟨C, c1, c2, c3, c4, c5.trans (cutAll_join hc)⟩
theorem way_no {net : List St} {to : Int} {i : Nat} {p : Pk} (hp : ∀ f, pm net to f i = none) (ht : p.t = to) : (tvK net ⟨[(i, p)], [], []⟩ (tvT net ⟨[(i, p)], [], []⟩)).arr = [] := by
  have key := tv_ind (net := net) (S := ⟨[(i, p)], [], []⟩) (fun k => (tvK net ⟨[(i, p)], [], []⟩ k).arr = [] ∧ ∀ x ∈ restK net ⟨[(i, p)], [], []⟩ k, x.2.t = to ∧ ∀ f, pm net to f x.1 = none) ?_ ?_
  · exact key.1
  · refine ⟨rfl, fun x hx => ?_⟩
    have : x = (i, p) := by simpa [tvK, restK] using hx
    rw [this]
    exact ⟨ht, hp⟩
  · rintro k hk ⟨h, hr⟩
    obtain ⟨j, x, tl, e, h1⟩ := rest_step hk
    rw [e] at hr
    obtain ⟨x1, x2⟩ := hr (j, x) (List.mem_cons_self ..)
    rcases h1 with ⟨h1, h2, _⟩ | ⟨_, c, h1, h2, _⟩ | ⟨r, n, _, c0, hh, cl, hc, cs, h1, h2, _⟩
    · rw [h1, h2]
      exact ⟨h, fun y hy => hr y (List.mem_cons_of_mem _ hy)⟩
    · have := x2 1
      rw [pm_here 0 (by rw [← c]; exact x1)] at this
      cases this
    · rw [h1, h2]
      refine ⟨h, fun y hy => ?_⟩
      rcases List.mem_append.1 hy with hy | hy
      · exact hr y (List.mem_cons_of_mem _ hy)
      · obtain ⟨q, hq, rfl⟩ := List.mem_map.1 hy
        refine ⟨(cut_same hq).2.1.trans x1, fun f => ?_⟩
        cases hpf : pm net to f n with
        | none => rfl
        | some R =>
          have := x2 (f + 1)
          have x1' : x.t = to := x1
          rw [x1'] at cl c0
          rw [pm_on (fun e => c0 e.symm) (next_of cl cs) hpf] at this
          cases this
theorem room_no {net : List St} (hn : netB net = true) {i : Nat} (hi : i < net.length) {to : Int} (h : roomV net i to = 0) : ∀ f, pm net to f i = none := by
  intro f
  cases hp : pm net to f i with
  | none => rfl
  | some R =>
    have h1 := pm_all hi hp
    have h2 := pm_bd hn hp
    rw [roomV, h1] at h
    simp only [Option.getD_some] at h
    omega
theorem room_yes {net : List St} {i : Nat} {to : Int} (h : roomV net i to ≠ 0) : ∃ R, pm net to (net.length + 1) i = some R := by
  rw [roomV] at h
  cases hp : pm net to (net.length + 1) i with
  | none => rw [hp] at h; exact absurd rfl h
  | some R => exact ⟨R, rfl⟩
theorem arrives_all {net : List St} (hn : netB net = true) {i : Nat} (hi : i < net.length) {p : Pk} (hok : p.ok = true) (hu : p.u = false) (ha : p.a = 0) (hm : p.m = false) (hh : p.h = 64) (h : roomV net i p.t ≠ 0) {u : Int} (hu' : 0 ≤ u ∧ u ≤ 1000000) :
    wholeB (tvK net ⟨[(i, p)], [], []⟩ (tvT net ⟨[(i, p)], [], []⟩)).arr u = true ∧ joinD (tvK net ⟨[(i, p)], [], []⟩ (tvT net ⟨[(i, p)], [], []⟩)).arr = p.d := by
  obtain ⟨R, hp⟩ := room_yes h
  have h5 : net.length ≤ 5 := by
    simp only [netB, Bool.and_eq_true, decide_eq_true_eq] at hn
    exact hn.1.1
  have hr := pk_okR hok
  have hz : p.z ≤ 48 := by
    show p.a + (p.d.length : Int) ≤ 48
    omega
  obtain ⟨C, c1, c2, c3, c4, c5⟩ := way_all hn (S := ⟨[(i, p)], [], []⟩) (p := p) (net.length + 1) i 64 R [p] 0 hi hp (by omega) (fun x hx => by
      rw [List.mem_singleton.1 hx]
      exact ⟨hok, hu, rfl, hh, hz, by simp [same4]⟩) (fun k hk => by
      obtain rfl : k = 0 := by simpa using hk
      simp [joinD, ha, hm]) (by simp) rfl rfl
  rw [c1]
  have e : joinD [p] = p.d := by simp [joinD]
  rw [e] at c5
  exact ⟨idx_whole c2 c3 (fun y hy => (c4 y hy).1) (fun y hy => (c4 y hy).2) (by rw [c5]; exact hr.2.2.2.2.2) hu', c5⟩
end Go.Proofs.Ytmhmhgegdagjkaa
