import Derived.Test.YtmhmhgegdagjkaaHm
import Derived.Test.YtmhmhgegdagjkaaXf
import Derived.Test.YtmhmhgegdagjkaaXe
import Derived.Test.YtmhmhgegdagjkaaKa
import Derived.Test.YtmhmhgegdagjkaaQe
namespace Go.Proofs.Ytmhmhgegdagjkaa
open Go.RowKit
set_option linter.unusedSimpArgs false
set_option linter.unusedVariables false
abbrev Ch (ps : List Pk) : Prop := ps.Pairwise fun x y => follows x y = true
end Go.Proofs.Ytmhmhgegdagjkaa
set_option linter.unusedVariables false
set_option linter.unusedSimpArgs false
namespace Go.Proofs.Ytmhmhgegdagjkaa
open Go.RowKit
structure Dn where
  k : Int
  v : Int
  ps : List Pk
def dn0 : Dn := ⟨0, 0, []⟩
def sayB (s : St) (p : Pk) (k n : Int) : Bool := naOk p.f p.t p.p p.h p.i p.a p.m p.u p.d s.a k n
def sayP (s : St) (p : Pk) (k n : Int) : Pk := ⟨s.a, p.f, 1, 64, p.i, 0, false, false, naD p.f p.t p.p p.h p.i p.a p.m p.u p.d k n⟩
def sayD (s : St) (p : Pk) (k n : Int) : Dn := if sayB s p k n = true then ⟨3, 0, [sayP s p k n]⟩ else dn0
def lessH (p : Pk) : Pk := { p with h := p.h - 1 }
def onD (p : Pk) (r : RE) : Dn := if cutB (lessH p) r.m = true then ⟨2, r.v, cutL (lessH p) r.m⟩ else dn0
def wayD (s : St) (p : Pk) (r : RE) : Dn := if (decide (r.m < (p.d.length : Int)) && p.u) = true then sayD s p 6 r.m else onD p r
def fwD (s : St) (p : Pk) : Dn :=
  if p.t = s.a then ⟨1, 0, [p]⟩ else if p.h < 2 then sayD s p 4 0 else
    match lastFit s.rs p.t with
    | none => sayD s p 3 0
    | some r => wayD s p r
def fwV (s : St) (p : Pk) : Dn := if (stB s && p.ok) = true then fwD s p else dn0
theorem sayD_cases (s : St) (p : Pk) (k n : Int) : sayD s p k n = dn0 ∨ (sayB s p k n = true ∧ sayD s p k n = ⟨3, 0, [sayP s p k n]⟩) := by
  by_cases h : sayB s p k n = true
  · exact .inr ⟨h, if_pos h⟩
  · exact .inl (if_neg h)
theorem fw_cases (s : St) (p : Pk) : fwV s p = dn0 ∨ ((stB s = true ∧ p.ok = true) ∧ ((p.t = s.a ∧ fwV s p = ⟨1, 0, [p]⟩) ∨ (∃ k n, sayB s p k n = true ∧ fwV s p = ⟨3, 0, [sayP s p k n]⟩) ∨
    ∃ r, p.t ≠ s.a ∧ 2 ≤ p.h ∧ lastFit s.rs p.t = some r ∧ cutB (lessH p) r.m = true ∧ fwV s p = ⟨2, r.v, cutL (lessH p) r.m⟩)) := by
  by_cases h0 : (stB s && p.ok) = true
  · have e : fwV s p = fwD s p := if_pos h0
    rw [e]
    rw [Bool.and_eq_true] at h0
    have nt : ∀ k n, fwD s p = sayD s p k n → fwD s p = dn0 ∨ ((stB s = true ∧ p.ok = true) ∧ ((p.t = s.a ∧ fwD s p = ⟨1, 0, [p]⟩) ∨ (∃ k n, sayB s p k n = true ∧ fwD s p = ⟨3, 0, [sayP s p k n]⟩) ∨
        ∃ r, p.t ≠ s.a ∧ 2 ≤ p.h ∧ lastFit s.rs p.t = some r ∧ cutB (lessH p) r.m = true ∧ fwD s p = ⟨2, r.v, cutL (lessH p) r.m⟩)) := by
      intro k n h
      rcases sayD_cases s p k n with h1 | ⟨h1, h2⟩
      · exact .inl (h.trans h1)
      · exact .inr ⟨h0, .inr (.inl ⟨k, n, h1, h.trans h2⟩)⟩
    by_cases ht : p.t = s.a
    · exact .inr ⟨h0, .inl ⟨ht, by rw [fwD, if_pos ht]⟩⟩
    · by_cases hh : p.h < 2
      · exact nt 4 0 (by rw [fwD, if_neg ht, if_pos hh])
      · obtain hl | ⟨r, hl⟩ : lastFit s.rs p.t = none ∨ ∃ r, lastFit s.rs p.t = some r := by cases lastFit s.rs p.t <;> simp
        · exact nt 3 0 (by rw [fwD, if_neg ht, if_neg hh, hl])
        · have e2 : fwD s p = wayD s p r := by rw [fwD, if_neg ht, if_neg hh, hl]
          by_cases hw : (decide (r.m < (p.d.length : Int)) && p.u) = true
          · exact nt 6 r.m (by rw [e2, wayD, if_pos hw])
          · by_cases hc : cutB (lessH p) r.m = true
            · exact .inr ⟨h0, .inr (.inr ⟨r, ht, by omega, hl, hc, by rw [e2, wayD, if_neg hw, onD, if_pos hc]⟩)⟩
            · exact .inl (by rw [e2, wayD, if_neg hw, onD, if_neg hc])
  · exact .inl (if_neg h0)
theorem na_out1 {f t p h i a : Int} {m u : Bool} {xs : List UInt8} {o k n : Int} (h0 : naOk f t p h i a m u xs o k n = true) :
    pkB o f 1 64 i 0 false false (naD f t p h i a m u xs k n).length = true ∧ nFault 1 (naD f t p h i a m u xs k n) = true ∧ nfOk (naD f t p h i a m u xs k n) = true ∧ nfK (naD f t p h i a m u xs k n) = k ∧ nfN (naD f t p h i a m u xs k n) = n := by
  obtain ⟨h1, h2, h3, h4⟩ := na_parts h0
  have hb : noteB k n ((pkV f t p h i a m u xs).take 20).length = true := by
    rw [noteB, decide_eq_true_eq]
    exact ⟨by omega, h4, by rw [List.length_take]; omega⟩
  obtain ⟨k0, k1, k2, k3⟩ := nt_back hb
  exact ⟨(na_out h0).1, (na_out h0).2.1, k0, k1, k2⟩
theorem cut_same {x y : Pk} {l : Int} (h : y ∈ cutL x l) : y.f = x.f ∧ y.t = x.t ∧ y.p = x.p ∧ y.h = x.h ∧ y.i = x.i ∧ y.u = x.u := by
  rw [cutL] at h
  split at h
  · split at h
    · rw [List.mem_singleton.1 h]; exact ⟨rfl, rfl, rfl, rfl, rfl, rfl⟩
    · obtain ⟨j, _, rfl⟩ := List.mem_map.1 h
      exact ⟨rfl, rfl, rfl, rfl, rfl, rfl⟩
  · cases h
theorem cut_mem {x y : Pk} {l : Int} (hb : cutB x l = true) (h : y ∈ cutL x l) : (y.d.length : Int) ≤ l ∧ y.ok = true := by
  obtain ⟨k, hk, rfl⟩ := List.getElem_of_mem h
  exact ⟨(cut_facts hb k hk).1, (cut_facts hb k hk).2.1⟩
theorem cut_pos {x : Pk} {l : Int} (hb : cutB x l = true) : 0 < (cutL x l).length := by
  obtain ⟨h1, h2, ⟨h3, e⟩ | ⟨h3, h4, h5, e⟩⟩ := cut_cases hb
  · rw [e]; exact Nat.one_pos
  · rw [e, piecesK_len]
    exact (pieceN_lt (n := x.d.length) (l := l.toNat) (k := 0) (by omega)).1 (by omega)
structure TrS where
  row : List (Nat × Pk)
  arr : List Pk
  nts : List Pk
def tvOne (net : List St) (S : TrS) (d : Dn) : TrS :=
  if d.k = 1 then { S with arr := S.arr ++ d.ps } else if d.k = 3 then { S with nts := S.nts ++ d.ps } else
    match seek net d.v with
    | none => S
    | some n => { S with row := S.row ++ d.ps.map fun q => (n, q) }
def tvK (net : List St) (S : TrS) : Nat → TrS
  | 0 => S
  | k + 1 => match (tvK net S k).row[k]? with
    | none => tvK net S k
    | some (i, p) => tvOne net (tvK net S k) (fwV (net.getD i st0) p)
def todoOf (p : Pk) : Nat := max 1 p.d.length * (p.h.toNat + 1)
def todo (l : List Pk) : Nat := (l.map todoOf).sum
def sndL (l : List (Nat × Pk)) : List Pk := l.map Prod.snd
theorem tv_row (net : List St) (S : TrS) (d : Dn) : ∃ l, (tvOne net S d).row = S.row ++ l := by
  rw [tvOne]
  split
  · exact ⟨[], (List.append_nil _).symm⟩
  · split
    · exact ⟨[], (List.append_nil _).symm⟩
    · split
      · exact ⟨[], (List.append_nil _).symm⟩
      · exact ⟨_, rfl⟩
theorem tvK_row (net : List St) (S : TrS) (k : Nat) : ∃ l, (tvK net S (k + 1)).row = (tvK net S k).row ++ l := by
  rw [tvK]
  split
  · exact ⟨[], (List.append_nil _).symm⟩
  · exact tv_row _ _ _
theorem tvK_mono (net : List St) (S : TrS) (k : Nat) : ∀ j, ∃ l, (tvK net S (k + j)).row = (tvK net S k).row ++ l
  | 0 => ⟨[], (List.append_nil _).symm⟩
  | j + 1 => by
    obtain ⟨l, h⟩ := tvK_mono net S k j
    obtain ⟨l', h'⟩ := tvK_row net S (k + j)
    exact ⟨l ++ l', by rw [← Nat.add_assoc, h', h, List.append_assoc]⟩
theorem tvK_end {net : List St} {S : TrS} {k : Nat} (h : (tvK net S k).row.length ≤ k) : ∀ j, tvK net S (k + j) = tvK net S k
  | 0 => rfl
  | j + 1 => by
    have ih := tvK_end h j
    rw [← Nat.add_assoc, tvK, ih, List.getElem?_eq_none (by omega)]
theorem todoOf_pos (p : Pk) : 1 ≤ todoOf p := Nat.one_le_iff_ne_zero.2 (Nat.mul_ne_zero (by omega) (by omega))
theorem sum_len {ps : List Pk} {h : Int} (hh : ∀ q ∈ ps, q.h = h) (hd : ∀ q ∈ ps, 1 ≤ q.d.length) : todo ps = (joinD ps).length * (h.toNat + 1) := by
  induction ps with
  | nil => simp [todo, joinD]
  | cons x t ih =>
    have e1 : todo (x :: t) = todoOf x + todo t := by simp [todo]
    have e2 : (joinD (x :: t)).length = x.d.length + (joinD t).length := by simp [joinD]
    rw [e1, e2, Nat.add_mul, ih (fun q hq => hh q (List.mem_cons_of_mem _ hq)) (fun q hq => hd q (List.mem_cons_of_mem _ hq)), todoOf, hh x (List.mem_cons_self ..), Nat.max_eq_right (hd x (List.mem_cons_self ..))]
theorem todo_app (a b : List Pk) : todo (a ++ b) = todo a + todo b := by simp [todo]
theorem cut_todo {x : Pk} {l : Int} (hb : cutB x l = true) : todo (cutL x l) = todoOf x := by
  obtain ⟨h1, h2, ⟨h3, e⟩ | ⟨h3, h4, h5, e⟩⟩ := cut_cases hb
  · rw [e]; simp [todo]
  · have hj := cut_join hb
    have hd : ∀ q ∈ cutL x l, 1 ≤ q.d.length := by
      intro q hq
      rw [e] at hq
      obtain ⟨j, hj, rfl⟩ := List.mem_map.1 hq
      have := (pieceN_lt (n := x.d.length) (l := l.toNat) (k := j) (by omega)).2 (List.mem_range.1 hj)
      simp only [pieceAt, List.length_take, List.length_drop]
      omega
    rw [sum_len (h := x.h) (fun q hq => (cut_same hq).2.2.2.1) hd, hj, todoOf, Nat.max_eq_right (by omega)]
theorem tv_cases (net : List St) (S : TrS) (s : St) (p : Pk) : tvOne net S (fwV s p) = S ∨ (p.ok = true ∧ ((p.t = s.a ∧ tvOne net S (fwV s p) = { S with arr := S.arr ++ [p] }) ∨
    (∃ k n, sayB s p k n = true ∧ tvOne net S (fwV s p) = { S with nts := S.nts ++ [sayP s p k n] }) ∨
    ∃ r n, p.t ≠ s.a ∧ 2 ≤ p.h ∧ lastFit s.rs p.t = some r ∧ cutB (lessH p) r.m = true ∧ seek net r.v = some n ∧ tvOne net S (fwV s p) = { S with row := S.row ++ (cutL (lessH p) r.m).map fun q => (n, q) })) := by
  rcases fw_cases s p with e | ⟨hok, ⟨ht, e⟩ | ⟨k, n, hb, e⟩ | ⟨r, ht, hh, hl, hc, e⟩⟩
  · left
    rw [e, tvOne, if_neg (by decide), if_neg (by decide)]
    split
    · rfl
    · show ({ S with row := S.row ++ [] } : TrS) = S
      rw [List.append_nil]
  · exact .inr ⟨hok.2, .inl ⟨ht, by rw [e]; rfl⟩⟩
  · exact .inr ⟨hok.2, .inr (.inl ⟨k, n, hb, by rw [e]; rfl⟩)⟩
  · obtain hs | ⟨n, hs⟩ : seek net r.v = none ∨ ∃ n, seek net r.v = some n := by cases seek net r.v <;> simp
    · left
      rw [e, tvOne, if_neg (by show ¬ (2 : Int) = 1; decide), if_neg (by show ¬ (2 : Int) = 3; decide)]
      show (match seek net r.v with | none => S | some n => _) = S
      rw [hs]
    · refine .inr ⟨hok.2, .inr (.inr ⟨r, n, ht, hh, hl, hc, hs, ?_⟩)⟩
      rw [e, tvOne, if_neg (by show ¬ (2 : Int) = 1; decide), if_neg (by show ¬ (2 : Int) = 3; decide)]
      show (match seek net r.v with | none => S | some n => _) = _
      rw [hs]
theorem tvK_step {net : List St} {S : TrS} {k : Nat} (h : k < (tvK net S k).row.length) :
    tvK net S (k + 1) = tvOne net (tvK net S k) (fwV (net.getD ((tvK net S k).row[k]).1 st0) ((tvK net S k).row[k]).2) := by
  rw [tvK, List.getElem?_eq_getElem h]
def restK (net : List St) (S : TrS) (k : Nat) : List (Nat × Pk) := (tvK net S k).row.drop k
theorem rest_cons {net : List St} {S : TrS} {k : Nat} (h : k < (tvK net S k).row.length) : restK net S k = (tvK net S k).row[k] :: (tvK net S k).row.drop (k + 1) := List.drop_eq_getElem_cons h
theorem rest_step {net : List St} {S : TrS} {k : Nat} (h : k < (tvK net S k).row.length) : ∃ i p tl, restK net S k = (i, p) :: tl ∧
    ((restK net S (k + 1) = tl ∧ (tvK net S (k + 1)).arr = (tvK net S k).arr ∧ ∃ l, (tvK net S (k + 1)).nts = (tvK net S k).nts ++ l) ∨
     (p.ok = true ∧ p.t = (net.getD i st0).a ∧ restK net S (k + 1) = tl ∧ (tvK net S (k + 1)).arr = (tvK net S k).arr ++ [p] ∧ (tvK net S (k + 1)).nts = (tvK net S k).nts) ∨
     ∃ r n, p.ok = true ∧ p.t ≠ (net.getD i st0).a ∧ 2 ≤ p.h ∧ lastFit (net.getD i st0).rs p.t = some r ∧ cutB (lessH p) r.m = true ∧ seek net r.v = some n ∧
       restK net S (k + 1) = tl ++ (cutL (lessH p) r.m).map (fun q => (n, q)) ∧ (tvK net S (k + 1)).arr = (tvK net S k).arr ∧ (tvK net S (k + 1)).nts = (tvK net S k).nts) := by
  refine ⟨((tvK net S k).row[k]).1, ((tvK net S k).row[k]).2, (tvK net S k).row.drop (k + 1), rest_cons h, ?_⟩
  have e := tvK_step h
  rcases tv_cases net (tvK net S k) (net.getD ((tvK net S k).row[k]).1 st0) ((tvK net S k).row[k]).2 with c | ⟨ok, ⟨ht, c⟩ | ⟨k', n, hb, c⟩ | ⟨r, n, ht, hh, hl, hc, hs, c⟩⟩
  · rw [c] at e
    exact .inl ⟨by rw [restK, e], by rw [e], [], by rw [e, List.append_nil]⟩
  · rw [c] at e
    exact .inr (.inl ⟨ok, ht, by rw [restK, e], by rw [e], by rw [e]⟩)
  · rw [c] at e
    exact .inl ⟨by rw [restK, e], by rw [e], _, by rw [e]⟩
  · rw [c] at e
    refine .inr (.inr ⟨r, n, ok, ht, hh, hl, hc, hs, ?_, by rw [e], by rw [e]⟩)
    rw [restK, e]
    exact List.drop_append_of_le_length (by omega)
theorem sndL_map (n : Nat) (l : List Pk) : sndL (l.map fun q => (n, q)) = l := by simp [sndL, Function.comp_def]
theorem sndL_app (a b : List (Nat × Pk)) : sndL (a ++ b) = sndL a ++ sndL b := by simp [sndL]
theorem rest_less {net : List St} {S : TrS} {k : Nat} (h : k < (tvK net S k).row.length) : todo (sndL (restK net S (k + 1))) + 1 ≤ todo (sndL (restK net S k)) := by
  obtain ⟨i, p, tl, e, h1⟩ := rest_step h
  have e1 : todo (sndL ((i, p) :: tl)) = todoOf p + todo (sndL tl) := by simp [todo, sndL]
  have hp := todoOf_pos p
  rw [e, e1]
  rcases h1 with ⟨h1, _⟩ | ⟨_, _, h1, _⟩ | ⟨r, n, _, _, hh, _, hc, _, h1, _⟩
  · rw [h1]; omega
  · rw [h1]; omega
  · rw [h1, sndL_app, todo_app, sndL_map, cut_todo hc]
    have : todoOf (lessH p) + 1 ≤ todoOf p := by
      show max 1 p.d.length * ((p.h - 1).toNat + 1) + 1 ≤ max 1 p.d.length * (p.h.toNat + 1)
      have e1 : p.h.toNat = (p.h - 1).toNat + 1 := by omega
      rw [e1, Nat.mul_add _ ((p.h - 1).toNat + 1) 1]
      omega
    omega
theorem rest_sum (net : List St) (S : TrS) : ∀ k, k ≤ (tvK net S k).row.length → todo (sndL (restK net S k)) + k ≤ todo (sndL S.row)
  | 0, _ => by simp [restK, tvK]
  | k + 1, h => by
    by_cases hk : k < (tvK net S k).row.length
    · have := rest_sum net S k (by omega)
      have := rest_less hk
      omega
    · have e := tvK_end (net := net) (S := S) (k := k) (by omega) 1
      rw [e] at h
      omega
def tvT (net : List St) (S : TrS) : Nat := (tvK net S (todo (sndL S.row) + 1)).row.length
theorem tvT_end (net : List St) (S : TrS) : tvT net S ≤ todo (sndL S.row) ∧ (tvK net S (tvT net S)).row.length = tvT net S ∧ ∀ k, k < tvT net S → k < (tvK net S k).row.length := by
  have h0 : tvT net S ≤ todo (sndL S.row) := by
    apply Nat.le_of_not_lt
    intro h
    have := rest_sum net S (todo (sndL S.row) + 1) h
    omega
  have hk : ∀ k, k < tvT net S → k < (tvK net S k).row.length := by
    intro k h
    apply Nat.lt_of_not_le
    intro hn
    have e := tvK_end hn (todo (sndL S.row) + 1 - k)
    rw [show k + (todo (sndL S.row) + 1 - k) = todo (sndL S.row) + 1 from by omega] at e
    rw [tvT, e] at h
    omega
  refine ⟨h0, ?_, hk⟩
  obtain ⟨l, e⟩ := tvK_mono net S (tvT net S) (todo (sndL S.row) + 1 - tvT net S)
  rw [show tvT net S + (todo (sndL S.row) + 1 - tvT net S) = todo (sndL S.row) + 1 from by omega] at e
  have hl : (tvK net S (tvT net S)).row.length + l.length = tvT net S := by
    rw [← List.length_append, ← e]; rfl
  have hle : (tvK net S (tvT net S)).row.length ≤ tvT net S := by omega
  have e2 := tvK_end hle (todo (sndL S.row) + 1 - tvT net S)
  rw [show tvT net S + (todo (sndL S.row) + 1 - tvT net S) = todo (sndL S.row) + 1 from by omega] at e2
  rw [← e2]; rfl
theorem tv_ind {net : List St} {S : TrS} (P : Nat → Prop) (h0 : P 0) (hs : ∀ k, k < (tvK net S k).row.length → P k → P (k + 1)) : P (tvT net S) := by
  have : ∀ k, k ≤ tvT net S → P k := by
    intro k
    induction k with
    | zero => exact fun _ => h0
    | succ k ih => exact fun h => hs k ((tvT_end net S).2.2 k (by omega)) (ih (by omega))
  exact this _ (Nat.le_refl _)
def PartOf (p q : Pk) : Prop := q.t = p.t ∧ q.h ≤ p.h ∧ ∃ n : Nat, q.a = p.a + (n : Int) ∧ n + q.d.length ≤ p.d.length ∧ q.d = (p.d.drop n).take q.d.length
def Apart (x y : Pk) : Prop := x.z ≤ y.a ∨ y.z ≤ x.a
theorem PartOf.refl (p : Pk) : PartOf p p := ⟨rfl, Int.le_refl _, 0, by simp, by omega, by simp⟩
theorem PartOf.trans {p q r : Pk} (h1 : PartOf p q) (h2 : PartOf q r) : PartOf p r := by
  obtain ⟨a1, a2, n, a3, a4, a5⟩ := h1
  obtain ⟨b1, b2, m, b3, b4, b5⟩ := h2
  refine ⟨b1.trans a1, by omega, n + m, by omega, by omega, ?_⟩
  have e : r.d = (p.d.drop (n + m)).take (min r.d.length (q.d.length - m)) := by
    conv => lhs; rw [b5, a5, List.drop_take, List.drop_drop, List.take_take]
  rw [Nat.min_eq_left (by omega)] at e
  exact e
theorem PartOf.ends {p q : Pk} (h : PartOf p q) : p.a ≤ q.a ∧ q.z ≤ p.z := by
  obtain ⟨_, _, n, h1, h2, _⟩ := h
  simp only [Pk.z]
  omega
theorem Apart.symm {x y : Pk} (h : Apart x y) : Apart y x := Or.symm h
theorem Apart.part {x y y' : Pk} (h : Apart x y) (hp : PartOf y y') : Apart x y' := by
  have := hp.ends
  rcases h with h | h
  · exact .inl (by omega)
  · exact .inr (by omega)
def Kept (p : Pk) (L : List Pk) : Prop := (∀ q ∈ L, PartOf p q) ∧ L.Pairwise Apart
theorem Kept.sub {p : Pk} {L L' : List Pk} (h : Kept p L) (s : L'.Sublist L) : Kept p L' := ⟨fun q hq => h.1 q (s.subset hq), h.2.sublist s⟩
theorem Kept.cut {p x : Pk} {A B C : List Pk} (h : Kept p (A ++ x :: B)) (hC : ∀ y ∈ C, PartOf x y) (hA : C.Pairwise Apart) : Kept p (A ++ (B ++ C)) := by
  have hs : (A ++ B).Sublist (A ++ x :: B) := (List.Sublist.refl A).append (List.sublist_cons_self x B)
  rw [← List.append_assoc]
  refine ⟨fun q hq => ?_, ?_⟩
  · rcases List.mem_append.1 hq with hq | hq
    · exact h.1 q (hs.subset hq)
    · exact (h.1 x (by simp)).trans (hC q hq)
  · refine List.pairwise_append.2 ⟨h.2.sublist hs, hA, fun a ha y hy => ?_⟩
    have hx : Apart a x := by
      have h2 := List.pairwise_append.1 h.2
      rcases List.mem_append.1 ha with ha | ha
      · exact h2.2.2 a ha x (List.mem_cons_self ..)
      · exact ((List.pairwise_cons.1 h2.2.1).1 a ha).symm
    exact hx.part (hC y hy)
def nextV (net : List St) (to : Int) (i : Nat) : Option (Nat × Int) :=
  match lastFit (net.getD i st0).rs to with
  | none => none
  | some r => match seek net r.v with
    | none => none
    | some n => some (n, r.m)
def pm (net : List St) (to : Int) : Nat → Nat → Option Int
  | 0, _ => none
  | f + 1, i => if (net.getD i st0).a = to then some 48 else match nextV net to i with
    | none => none
    | some (n, m) => match pm net to f n with
      | none => none
      | some R => some (min m R)
def roomV (net : List St) (i : Nat) (to : Int) : Int := (pm net to (net.length + 1) i).getD 0
theorem net_routes {net : List St} (hn : netB net = true) {i : Nat} {x : Int} {r : RE} (h : lastFit (net.getD i st0).rs x = some r) : i < net.length ∧ (1 ≤ r.m ∧ r.m ≤ 48) ∧ (0 ≤ r.v ∧ r.v ≤ 65535) := by
  have hi : i < net.length := by
    apply Nat.lt_of_not_le
    intro hi
    rw [List.getD_eq_getElem?_getD, List.getElem?_eq_none hi] at h
    cases h
  rw [List.getD_eq_getElem?_getD, List.getElem?_eq_getElem hi] at h
  simp only [netB, Bool.and_eq_true] at hn
  have hs := List.all_eq_true.1 hn.1.2 net[i] (List.getElem_mem hi)
  rw [stB, Bool.and_eq_true] at hs
  have hr := rOk_mem ((rsB_iff.1 hs.2).2.1 r (lastFit_mem h).1)
  exact ⟨hi, hr.2.2.2.2.2.2, hr.2.2.2.2.2.1⟩
theorem next_some {net : List St} {to : Int} {i n : Nat} {m : Int} (h : nextV net to i = some (n, m)) : ∃ r, lastFit (net.getD i st0).rs to = some r ∧ seek net r.v = some n ∧ m = r.m := by
  rw [nextV] at h
  split at h
  · cases h
  · rename_i r hr
    split at h
    · cases h
    · rename_i n' hs
      cases h
      exact ⟨r, hr, hs, rfl⟩
theorem next_of {net : List St} {to : Int} {i n : Nat} {r : RE} (h : lastFit (net.getD i st0).rs to = some r) (hs : seek net r.v = some n) : nextV net to i = some (n, r.m) := by
  simp only [nextV, h, hs]
theorem pm_here {net : List St} {to : Int} {i : Nat} (f : Nat) (h : (net.getD i st0).a = to) : pm net to (f + 1) i = some 48 := by rw [pm, if_pos h]
theorem pm_on {net : List St} {to : Int} {i n : Nat} {m R : Int} {f : Nat} (h : (net.getD i st0).a ≠ to) (hx : nextV net to i = some (n, m)) (hp : pm net to f n = some R) : pm net to (f + 1) i = some (min m R) := by
  rw [pm, if_neg h]; simp only [hx, hp]
theorem pm_cases {net : List St} {to : Int} {i f : Nat} {R : Int} (h : pm net to f i = some R) : ∃ g, f = g + 1 ∧ (((net.getD i st0).a = to ∧ R = 48) ∨ ((net.getD i st0).a ≠ to ∧ ∃ n m R', nextV net to i = some (n, m) ∧ pm net to g n = some R' ∧ R = min m R')) := by
  cases f with
  | zero => cases h
  | succ g =>
    refine ⟨g, rfl, ?_⟩
    rw [pm] at h
    split at h
    · rename_i ht
      exact .inl ⟨ht, by cases h; rfl⟩
    · rename_i ht
      split at h
      · cases h
      · rename_i n m hx
        split at h
        · cases h
        · rename_i R' hp
          exact .inr ⟨ht, n, m, R', hx, hp, by cases h; rfl⟩
theorem pm_succ {net : List St} {to : Int} : ∀ {f i : Nat} {R : Int}, pm net to f i = some R → pm net to (f + 1) i = some R := by
  intro f
  induction f with
  | zero => intro i R h; cases h
  | succ f ih =>
    intro i R h
    obtain ⟨g, hg, ⟨ht, rfl⟩ | ⟨ht, n, m, R', hx, hp, rfl⟩⟩ := pm_cases h
    · exact pm_here _ ht
    · obtain rfl : f = g := by omega
      exact pm_on ht hx (ih hp)
theorem pm_mono {net : List St} {to : Int} {f i : Nat} {R : Int} (h : pm net to f i = some R) : ∀ j, pm net to (f + j) i = some R
  | 0 => h
  | j + 1 => pm_succ (pm_mono h j)
theorem pm_bd {net : List St} (hn : netB net = true) {to : Int} : ∀ {f i : Nat} {R : Int}, pm net to f i = some R → 1 ≤ R ∧ R ≤ 48 := by
  intro f
  induction f with
  | zero => intro i R h; cases h
  | succ f ih =>
    intro i R h
    obtain ⟨g, hg, ⟨ht, rfl⟩ | ⟨ht, n, m, R', hx, hp, rfl⟩⟩ := pm_cases h
    · omega
    · obtain rfl : f = g := by omega
      obtain ⟨r, hl, _, rfl⟩ := next_some hx
      have h1 := (net_routes hn hl).2.1
      have h2 := ih hp
      omega
theorem room_le {net : List St} (hn : netB net = true) (i : Nat) (to : Int) : (0 ≤ roomV net i to ∧ roomV net i to ≤ 48) ∧ (roomV net i to ≠ 0 → ((net.getD i st0).a = to ∧ roomV net i to = 48) ∨ ∃ r, lastFit (net.getD i st0).rs to = some r ∧ roomV net i to ≤ r.m) := by
  rw [roomV]
  obtain h | ⟨R, h⟩ : pm net to (net.length + 1) i = none ∨ ∃ R, pm net to (net.length + 1) i = some R := by cases pm net to (net.length + 1) i <;> simp
  · rw [h]; exact ⟨by decide, fun h => absurd rfl h⟩
  · rw [h]
    have hb := pm_bd hn h
    refine ⟨⟨by simp only [Option.getD_some]; omega, hb.2⟩, fun _ => ?_⟩
    obtain ⟨g, hg, ⟨ht, rfl⟩ | ⟨ht, n, m, R', hx, hp, rfl⟩⟩ := pm_cases h
    · exact .inl ⟨ht, rfl⟩
    · obtain ⟨r, hl, _, rfl⟩ := next_some hx
      exact .inr ⟨r, hl, by simp only [Option.getD_some]; omega⟩
theorem few : ∀ (n : Nat) (l : List Nat), l.Nodup → (∀ x ∈ l, x < n) → l.length ≤ n
  | 0, l, _, h => by
    cases l with
    | nil => exact Nat.le_refl _
    | cons x t => exact absurd (h x (List.mem_cons_self ..)) (Nat.not_lt_zero _)
  | n + 1, l, hd, h => by
    have h1 := few n (l.erase n) (hd.erase n) (fun x hx => by
      have h2 := h x (List.mem_of_mem_erase hx)
      have h3 : x ≠ n := fun e => by
        rw [e] at hx
        exact hd.not_mem_erase hx
      omega)
    rw [List.length_erase] at h1
    split at h1 <;> omega
theorem pm_line {net : List St} {to : Int} : ∀ {f i : Nat}, pm net to (f + 1) i ≠ none → pm net to f i = none → i < net.length → ∃ l : List Nat, l.length = f + 1 ∧ l.Nodup ∧ ∀ s ∈ l, s < net.length ∧ pm net to (f + 1) s ≠ none := by
  intro f
  induction f with
  | zero => exact fun {i} h _ hi => ⟨[i], rfl, by simp, fun s hs => by rw [List.mem_singleton.1 hs]; exact ⟨hi, h⟩⟩
  | succ f ih =>
    intro i h h0 hi
    obtain ⟨R, hR⟩ : ∃ R, pm net to (f + 1 + 1) i = some R := by cases hp : pm net to (f + 1 + 1) i with | none => exact absurd hp h | some R => exact ⟨R, rfl⟩
    obtain ⟨g, hg, ⟨ht, rfl⟩ | ⟨ht, n, m, R', hx, hp, rfl⟩⟩ := pm_cases hR
    · rw [pm_here f ht] at h0; cases h0
    · obtain rfl : g = f + 1 := by omega
      obtain ⟨r, hl, hs, rfl⟩ := next_some hx
      have hn : pm net to f n = none := by
        cases hq : pm net to f n with
        | none => rfl
        | some R'' => rw [pm_on ht hx hq] at h0; cases h0
      obtain ⟨l, h1, h2, h3⟩ := ih (by rw [hp]; simp) hn (seek_lt hs).1
      refine ⟨i :: l, by rw [List.length_cons, h1], List.nodup_cons.2 ⟨fun hm => (h3 i hm).2 h0, h2⟩, fun s hm => ?_⟩
      rcases List.mem_cons.1 hm with rfl | hm
      · exact ⟨hi, h⟩
      · refine ⟨(h3 s hm).1, ?_⟩
        obtain ⟨R3, h4⟩ : ∃ R, pm net to (f + 1) s = some R := by cases hq : pm net to (f + 1) s with | none => exact absurd hq (h3 s hm).2 | some R => exact ⟨R, rfl⟩
        rw [pm_succ h4]; simp
theorem pm_first {net : List St} {to : Int} {i : Nat} : ∀ f, pm net to f i ≠ none → ∃ g, g < f ∧ pm net to (g + 1) i ≠ none ∧ pm net to g i = none
  | 0, h => absurd rfl h
  | f + 1, h => by
    by_cases hf : pm net to f i = none
    · exact ⟨f, Nat.lt_succ_self f, h, hf⟩
    · obtain ⟨g, h1, h2⟩ := pm_first f hf
      exact ⟨g, by omega, h2⟩
theorem pm_all {net : List St} {to : Int} {i f : Nat} {R : Int} (hi : i < net.length) (h : pm net to f i = some R) : pm net to (net.length + 1) i = some R := by
  obtain ⟨g, hg, h1, h2⟩ := pm_first f (by rw [h]; simp)
  obtain ⟨l, a1, a2, a3⟩ := pm_line h1 h2 hi
  have hle := few net.length l a2 fun x hx => (a3 x hx).1
  obtain ⟨R', hR⟩ : ∃ R, pm net to (g + 1) i = some R := by cases hq : pm net to (g + 1) i with | none => exact absurd hq h1 | some R => exact ⟨R, rfl⟩
  have e1 := pm_mono hR (f - (g + 1))
  rw [show g + 1 + (f - (g + 1)) = f from by omega, h] at e1
  have e2 := pm_mono hR (net.length + 1 - (g + 1))
  rw [show g + 1 + (net.length + 1 - (g + 1)) = net.length + 1 from by omega] at e2
  rw [e2, e1]
inductive Rs where
  | arr
  | note (k v : Int)
  | gone
def sg (net : List St) (to : Int) (n : Nat) : Nat → Nat → Rs
  | 0, i => if (net.getD i st0).a = to then .arr else .note 4 0
  | 1, i => if (net.getD i st0).a = to then .arr else .note 4 0
  | h + 2, i => if (net.getD i st0).a = to then .arr else
    match lastFit (net.getD i st0).rs to with
    | none => .note 3 0
    | some r => if r.m < (n : Int) then .note 6 r.m else
      match seek net r.v with
      | none => .gone
      | some n' => sg net to n (h + 1) n'
theorem sg_here {net : List St} {to : Int} {n h i : Nat} (e : (net.getD i st0).a = to) : sg net to n h i = .arr := by
  match h with
  | 0 => rw [sg, if_pos e]
  | 1 => rw [sg, if_pos e]
  | h + 2 => rw [sg, if_pos e]
theorem sg_late {net : List St} {to : Int} {n h i : Nat} (e : (net.getD i st0).a ≠ to) (hh : h < 2) : sg net to n h i = .note 4 0 := by
  match h, hh with
  | 0, _ => rw [sg, if_neg e]
  | 1, _ => rw [sg, if_neg e]
theorem sg_none {net : List St} {to : Int} {n h i : Nat} (e : (net.getD i st0).a ≠ to) (hh : 2 ≤ h) (hl : lastFit (net.getD i st0).rs to = none) : sg net to n h i = .note 3 0 := by
  match h, hh with
  | h + 2, _ => rw [sg, if_neg e]; simp only [hl]
theorem sg_long {net : List St} {to : Int} {n h i : Nat} {r : RE} (e : (net.getD i st0).a ≠ to) (hh : 2 ≤ h) (hl : lastFit (net.getD i st0).rs to = some r) (hm : r.m < (n : Int)) : sg net to n h i = .note 6 r.m := by
  match h, hh with
  | h + 2, _ => rw [sg, if_neg e]; simp only [hl, if_pos hm]
theorem sg_gone {net : List St} {to : Int} {n h i : Nat} {r : RE} (e : (net.getD i st0).a ≠ to) (hh : 2 ≤ h) (hl : lastFit (net.getD i st0).rs to = some r) (hm : ¬ r.m < (n : Int)) (hs : seek net r.v = none) : sg net to n h i = .gone := by
  match h, hh with
  | h + 2, _ => rw [sg, if_neg e]; simp only [hl, if_neg hm, hs]
theorem sg_on {net : List St} {to : Int} {n h i n' : Nat} {r : RE} (e : (net.getD i st0).a ≠ to) (hh : 2 ≤ h) (hl : lastFit (net.getD i st0).rs to = some r) (hm : ¬ r.m < (n : Int)) (hs : seek net r.v = some n') : sg net to n h i = sg net to n (h - 1) n' := by
  match h, hh with
  | h + 2, _ => rw [sg, if_neg e]; simp only [hl, if_neg hm, hs]; rfl
theorem sg_way {net : List St} {to : Int} {n : Nat} : ∀ {f i h : Nat} {R : Int}, pm net to f i = some R → f ≤ h → ((n : Int) ≤ R → sg net to n h i = .arr) ∧ (n ≤ 48 → R < (n : Int) → ∃ v, sg net to n h i = .note 6 v ∧ R ≤ v ∧ v < (n : Int)) := by
  intro f
  induction f with
  | zero => intro i h R hp; cases hp
  | succ f ih =>
    intro i h R hp hf
    obtain ⟨g, hg, ⟨ht, rfl⟩ | ⟨ht, n', m, R', hx, hp', rfl⟩⟩ := pm_cases hp
    · exact ⟨fun _ => sg_here ht, fun h1 h2 => by omega⟩
    · obtain rfl : f = g := by omega
      obtain ⟨r, hl, hs, rfl⟩ := next_some hx
      obtain ⟨g', hg', _⟩ := pm_cases hp'
      obtain ⟨i1, i2⟩ := ih (h := h - 1) hp' (by omega)
      by_cases hm : r.m < (n : Int)
      · exact ⟨fun h1 => by omega, fun _ _ => ⟨r.m, sg_long ht (by omega) hl hm, by omega, hm⟩⟩
      · rw [sg_on ht (by omega) hl hm hs]
        exact ⟨fun h1 => i1 (by omega), fun h0 h1 => by
          obtain ⟨v, a1, a2, a3⟩ := i2 h0 (by omega)
          exact ⟨v, a1, by omega, a3⟩⟩
theorem sg_no {net : List St} (hn : netB net = true) {to : Int} {n : Nat} : ∀ {h i : Nat}, (sg net to n h i = .arr → ∃ f R, pm net to f i = some R) ∧ (∀ k v, sg net to n h i = .note k v → k = 6 → 1 ≤ v ∧ v < (n : Int)) := by
  intro h
  induction h with
  | zero =>
    intro i
    by_cases ht : (net.getD i st0).a = to
    · exact ⟨fun _ => ⟨1, 48, pm_here 0 ht⟩, fun k v e => by rw [sg_here ht] at e; cases e⟩
    · rw [sg_late ht (by omega)]
      exact ⟨fun e => (by cases e), fun k v e hk => by cases e; cases hk⟩
  | succ h ih =>
    intro i
    by_cases ht : (net.getD i st0).a = to
    · exact ⟨fun _ => ⟨1, 48, pm_here 0 ht⟩, fun k v e => by rw [sg_here ht] at e; cases e⟩
    · by_cases hh : h + 1 < 2
      · rw [sg_late ht hh]
        exact ⟨fun e => (by cases e), fun k v e hk => by cases e; cases hk⟩
      · obtain hl | ⟨r, hl⟩ : lastFit (net.getD i st0).rs to = none ∨ ∃ r, lastFit (net.getD i st0).rs to = some r := by cases lastFit (net.getD i st0).rs to <;> simp
        · rw [sg_none ht (by omega) hl]
          exact ⟨fun e => (by cases e), fun k v e hk => by cases e; cases hk⟩
        · by_cases hm : r.m < (n : Int)
          · rw [sg_long ht (by omega) hl hm]
            exact ⟨fun e => (by cases e), fun k v e hk => by cases e; exact ⟨(net_routes hn hl).2.1.1, hm⟩⟩
          · obtain hs | ⟨n', hs⟩ : seek net r.v = none ∨ ∃ n, seek net r.v = some n := by cases seek net r.v <;> simp
            · rw [sg_gone ht (by omega) hl hm hs]
              exact ⟨fun e => (by cases e), fun k v e hk => by cases e⟩
            · rw [sg_on ht (by omega) hl hm hs]
              refine ⟨fun e => ?_, (ih (i := n')).2⟩
              obtain ⟨f, R, hp⟩ := (ih (i := n')).1 e
              exact ⟨f + 1, _, pm_on ht (next_of hl hs) hp⟩
def outc (S : TrS) : Rs → Prop
  | .arr => (∃ q, S.arr = [q]) ∧ S.nts = []
  | .note k v => S.arr = [] ∧ ∃ y, S.nts = [y] ∧ (y.p = 1 ∧ y.ok = true) ∧ nfOk y.d = true ∧ nfK y.d = k ∧ nfN y.d = v
  | .gone => S.arr = [] ∧ S.nts = []
theorem say_ok {net : List St} (hn : netB net = true) {i : Nat} {q : Pk} (hi : i < net.length) (hok : q.ok = true) (ha : q.a = 0) (hp : q.p ≠ 1) {k n : Int} (hk : 3 ≤ k ∧ k ≤ 6) (h0 : 0 ≤ n ∧ n ≤ 65535) : sayB (net.getD i st0) q k n = true := by
  rw [List.getD_eq_getElem?_getD, List.getElem?_eq_getElem hi]
  simp only [netB, Bool.and_eq_true] at hn
  have hs := List.all_eq_true.1 hn.1.2 net[i] (List.getElem_mem hi)
  rw [stB, Bool.and_eq_true, inZ, decide_eq_true_eq] at hs
  rw [Pk.ok] at hok
  simp only [sayB, naOk, nFault, hok, inZ, decide_eq_true hk, decide_eq_true h0, decide_eq_true ha, decide_eq_false hp, Option.getD_some, decide_eq_true hs.1]
  rfl
theorem say_out {s : St} {q : Pk} {k n : Int} (h : sayB s q k n = true) {S : TrS} (h1 : S.arr = []) (h2 : S.nts = []) : outc { S with nts := S.nts ++ [sayP s q k n] } (.note k n) := by
  have ho := na_out1 h
  exact ⟨h1, sayP s q k n, by rw [h2]; rfl, ⟨rfl, ho.1⟩, ho.2.2⟩
theorem less_ok {q : Pk} (h : q.ok = true) (hh : 2 ≤ q.h) : (lessH q).ok = true := by
  rw [Pk.ok, pkB, Bool.and_eq_true, pkR, decide_eq_true_eq] at h ⊢
  obtain ⟨⟨h1, h2, h3, h4⟩, h5⟩ := h
  exact ⟨⟨h1, h2, ⟨by show 0 ≤ q.h - 1; omega, by show q.h - 1 ≤ 255; omega⟩, h4⟩, h5⟩
theorem sg_step {net : List St} (hn : netB net = true) {S : TrS} {i : Nat} {q : Pk} (hi : i < net.length) (hok : q.ok = true) (ha : q.a = 0) (hp : q.p ≠ 1) (hu : q.u = true) (h1 : S.arr = []) (h2 : S.nts = []) :
    ((tvOne net S (fwV (net.getD i st0) q)).row = S.row ∧ outc (tvOne net S (fwV (net.getD i st0) q)) (sg net q.t q.d.length q.h.toNat i)) ∨
    ∃ n, n < net.length ∧ 2 ≤ q.h ∧ tvOne net S (fwV (net.getD i st0) q) = { S with row := S.row ++ [(n, lessH q)] } ∧ sg net q.t q.d.length q.h.toNat i = sg net q.t q.d.length (lessH q).h.toNat n := by
  have hs : stB (net.getD i st0) = true := by
    rw [List.getD_eq_getElem?_getD, List.getElem?_eq_getElem hi]
    simp only [netB, Bool.and_eq_true] at hn
    exact List.all_eq_true.1 hn.1.2 net[i] (List.getElem_mem hi)
  have e0 : fwV (net.getD i st0) q = fwD (net.getD i st0) q := if_pos (by rw [hs, hok]; rfl)
  have say : ∀ k n, 3 ≤ k ∧ k ≤ 6 → 0 ≤ n ∧ n ≤ 65535 → fwD (net.getD i st0) q = sayD (net.getD i st0) q k n → sg net q.t q.d.length q.h.toNat i = .note k n →
      (tvOne net S (fwV (net.getD i st0) q)).row = S.row ∧ outc (tvOne net S (fwV (net.getD i st0) q)) (sg net q.t q.d.length q.h.toNat i) := by
    intro k n hk h0 e1 e2
    have hb := say_ok hn hi hok ha hp hk h0
    have e3 : tvOne net S (fwV (net.getD i st0) q) = { S with nts := S.nts ++ [sayP (net.getD i st0) q k n] } := by
      rw [e0, e1, sayD, if_pos hb]; rfl
    rw [e3, e2]
    exact ⟨rfl, say_out hb h1 h2⟩
  by_cases ht : q.t = (net.getD i st0).a
  · left
    have e3 : tvOne net S (fwV (net.getD i st0) q) = { S with arr := S.arr ++ [q] } := by
      rw [e0, fwD, if_pos ht]; rfl
    rw [e3, sg_here ht.symm]
    exact ⟨rfl, ⟨q, by rw [h1]; rfl⟩, h2⟩
  · have ht' : (net.getD i st0).a ≠ q.t := fun e => ht e.symm
    by_cases hh : q.h < 2
    · exact .inl (say 4 0 (by omega) (by omega) (by rw [fwD, if_neg ht, if_pos hh]) (sg_late ht' (by omega)))
    · obtain hl | ⟨r, hl⟩ : lastFit (net.getD i st0).rs q.t = none ∨ ∃ r, lastFit (net.getD i st0).rs q.t = some r := by cases lastFit (net.getD i st0).rs q.t <;> simp
      · exact .inl (say 3 0 (by omega) (by omega) (by rw [fwD, if_neg ht, if_neg hh, hl]) (sg_none ht' (by omega) hl))
      · have hr := (net_routes hn hl).2
        have e1 : fwD (net.getD i st0) q = wayD (net.getD i st0) q r := by rw [fwD, if_neg ht, if_neg hh, hl]
        by_cases hm : r.m < (q.d.length : Int)
        · exact .inl (say 6 r.m (by omega) (by omega) (by rw [e1, wayD, if_pos (by rw [decide_eq_true hm, hu]; rfl)]) (sg_long ht' (by omega) hl hm))
        · have hd : (lessH q).d.length = q.d.length := rfl
          have hc : cutB (lessH q) r.m = true := by
            rw [cutB, less_ok hok (by omega), decide_eq_true hr.1, decide_eq_true (by rw [hd]; omega)]; rfl
          have hcl : cutL (lessH q) r.m = [lessH q] := by rw [cutL, if_pos hc, if_pos (by rw [hd]; omega)]
          have e2 : fwV (net.getD i st0) q = ⟨2, r.v, [lessH q]⟩ := by
            rw [e0, e1, wayD, if_neg (by rw [decide_eq_false hm]; simp), onD, if_pos hc, hcl]
          obtain hs' | ⟨n, hs'⟩ : seek net r.v = none ∨ ∃ n, seek net r.v = some n := by cases seek net r.v <;> simp
          · left
            have e3 : tvOne net S (fwV (net.getD i st0) q) = S := by
              rw [e2, tvOne, if_neg (by show ¬ (2 : Int) = 1; decide), if_neg (by show ¬ (2 : Int) = 3; decide)]
              show (match seek net r.v with | none => S | some n => _) = S
              rw [hs']
            rw [e3, sg_gone ht' (by omega) hl hm hs']
            exact ⟨rfl, h1, h2⟩
          · right
            refine ⟨n, (seek_lt hs').1, by omega, ?_, ?_⟩
            · rw [e2, tvOne, if_neg (by show ¬ (2 : Int) = 1; decide), if_neg (by show ¬ (2 : Int) = 3; decide)]
              show (match seek net r.v with | none => S | some n => _) = _
              rw [hs']
              rfl
            · rw [sg_on ht' (by omega) hl hm hs']
              congr 1
              show q.h.toNat - 1 = (q.h - 1).toNat
              omega
theorem tv_sg {net : List St} (hn : netB net = true) {i : Nat} {q : Pk} (hi : i < net.length) (hok : q.ok = true) (ha : q.a = 0) (hp : q.p ≠ 1) (hu : q.u = true) :
    outc (tvK net ⟨[(i, q)], [], []⟩ (tvT net ⟨[(i, q)], [], []⟩)) (sg net q.t q.d.length q.h.toNat i) := by
  have key := tv_ind (net := net) (S := ⟨[(i, q)], [], []⟩) (fun k =>
    (∃ j q', (tvK net ⟨[(i, q)], [], []⟩ k).row.drop k = [(j, q')] ∧ (tvK net ⟨[(i, q)], [], []⟩ k).arr = [] ∧ (tvK net ⟨[(i, q)], [], []⟩ k).nts = [] ∧ j < net.length ∧ q'.ok = true ∧ q'.a = 0 ∧ q'.p ≠ 1 ∧ q'.u = true ∧
      q'.t = q.t ∧ q'.d.length = q.d.length ∧ sg net q'.t q'.d.length q'.h.toNat j = sg net q.t q.d.length q.h.toNat i) ∨
    ((tvK net ⟨[(i, q)], [], []⟩ k).row.length = k ∧ outc (tvK net ⟨[(i, q)], [], []⟩ k) (sg net q.t q.d.length q.h.toNat i))) ?_ ?_
  · rcases key with ⟨j, q', h, _⟩ | ⟨_, h⟩
    · rw [List.drop_of_length_le (by rw [(tvT_end net _).2.1]; exact Nat.le_refl _)] at h
      cases h
    · exact h
  · exact .inl ⟨i, q, rfl, rfl, rfl, hi, hok, ha, hp, hu, rfl, rfl, rfl⟩
  · intro k hk h
    rcases h with ⟨j, q', h, h1, h2, hj, b1, b2, b3, b4, b5, b6, b7⟩ | ⟨h, _⟩
    · have hl : (tvK net ⟨[(i, q)], [], []⟩ k).row.length = k + 1 := by
        have := congrArg List.length h
        rw [List.length_drop, List.length_singleton] at this
        omega
      have hg : (tvK net ⟨[(i, q)], [], []⟩ k).row[k] = (j, q') := by
        rw [List.drop_eq_getElem_cons hk] at h
        exact (List.cons.inj h).1
      have e := tvK_step hk
      rw [hg] at e
      rcases sg_step hn (S := tvK net ⟨[(i, q)], [], []⟩ k) hj b1 b2 b3 b4 h1 h2 with ⟨c1, c2⟩ | ⟨n, c1, ch, c2, c3⟩
      · right
        rw [e]
        exact ⟨by rw [c1, hl], by rw [← b7]; exact c2⟩
      · left
        rw [e, c2]
        exact ⟨n, lessH q', by show List.drop (k + 1) (_ ++ [_]) = _; rw [List.drop_append_of_le_length (by omega), List.drop_of_length_le (by omega), List.nil_append], h1, h2, c1, less_ok b1 ch, b2, b3, b4, b5, b6, c3.symm.trans b7⟩
    · omega
def nxN : Rs → Int
  | .note k v => if k = 6 then v else 0
  | _ => 0
theorem find_step {net : List St} (hn : netB net = true) {i : Nat} (hi : i < net.length) {to : Int} {n h : Nat} (h48 : n ≤ 48) (h0 : 0 < n) (hh : net.length + 1 ≤ h) :
    (sg net to n h i = .arr → min (n : Int) (roomV net i to) = (n : Int)) ∧
    (sg net to n h i ≠ .arr → (0 ≤ nxN (sg net to n h i) ∧ nxN (sg net to n h i) < (n : Int)) ∧ min (nxN (sg net to n h i)) (roomV net i to) = min (n : Int) (roomV net i to)) := by
  have hno := sg_no hn (to := to) (n := n) (h := h) (i := i)
  have hnx : 0 ≤ nxN (sg net to n h i) ∧ nxN (sg net to n h i) < (n : Int) := by
    cases hs : sg net to n h i with
    | arr => simp only [nxN]; omega
    | gone => simp only [nxN]; omega
    | note k v =>
      have := hno.2 k v hs
      simp only [nxN]
      split <;> rename_i hk
      · have := this hk; omega
      · omega
  obtain hp | ⟨R, hp⟩ : pm net to (net.length + 1) i = none ∨ ∃ R, pm net to (net.length + 1) i = some R := by cases pm net to (net.length + 1) i <;> simp
  · have hr : roomV net i to = 0 := by rw [roomV, hp]; rfl
    rw [hr]
    refine ⟨fun e => ?_, fun _ => ⟨hnx, by omega⟩⟩
    obtain ⟨f, R, h1⟩ := hno.1 e
    rw [pm_all hi h1] at hp
    cases hp
  · have hr : roomV net i to = R := by rw [roomV, hp]; rfl
    obtain ⟨w1, w2⟩ := sg_way (n := n) (h := h) hp hh
    rw [hr]
    by_cases hR : (n : Int) ≤ R
    · exact ⟨fun _ => by omega, fun e => absurd (w1 hR) e⟩
    · obtain ⟨v, v1, v2, v3⟩ := w2 h48 (by omega)
      rw [v1] at hnx ⊢
      refine ⟨fun e => (by cases e), fun _ => ⟨hnx, ?_⟩⟩
      have : nxN (.note 6 v) = v := by simp [nxN]
      rw [this]
      omega
def nK (net : List St) (to : Int) (i n : Nat) : Nat → Nat
  | 0 => n
  | k + 1 => (nxN (sg net to (nK net to i n k) 64 i)).toNat
def stopB (net : List St) (to : Int) (i n : Nat) : Bool := decide (n = 0) || (match sg net to n 64 i with | .arr => true | _ => false)
theorem stop_arr {net : List St} {to : Int} {i n : Nat} (h : stopB net to i n = false) : 0 < n ∧ sg net to n 64 i ≠ .arr := by
  rw [stopB, Bool.or_eq_false_iff, decide_eq_false_iff_not] at h
  exact ⟨by omega, fun e => by rw [e] at h; exact absurd h.2 (by decide)⟩
theorem find_all {net : List St} (hn : netB net = true) {i : Nat} (hi : i < net.length) {to : Int} {n : Nat} (h48 : n ≤ 48) : ∀ k, (∀ j, j < k → stopB net to i (nK net to i n j) = false) →
    nK net to i n k + k ≤ n ∧ min (nK net to i n k : Int) (roomV net i to) = min (n : Int) (roomV net i to)
  | 0, _ => ⟨Nat.le_refl _, rfl⟩
  | k + 1, h => by
    obtain ⟨a1, a2⟩ := find_all hn hi h48 k fun j hj => h j (by omega)
    have h5 : net.length ≤ 5 := by
      simp only [netB, Bool.and_eq_true, decide_eq_true_eq] at hn
      exact hn.1.1
    obtain ⟨s1, s2⟩ := stop_arr (h k (Nat.lt_succ_self k))
    obtain ⟨b1, b2⟩ := (find_step hn hi (to := to) (n := nK net to i n k) (h := 64) (by omega) s1 (by omega)).2 s2
    have e : (nK net to i n (k + 1) : Int) = nxN (sg net to (nK net to i n k) 64 i) := by
      rw [nK]; exact Int.toNat_of_nonneg b1.1
    exact ⟨by omega, by rw [e, b2, a2]⟩
theorem find_end {net : List St} (hn : netB net = true) {i : Nat} (hi : i < net.length) {to : Int} {n : Nat} (h48 : n ≤ 48) {k : Nat} (h : ∀ j, j < k → stopB net to i (nK net to i n j) = false) (hs : stopB net to i (nK net to i n k) = true) :
    (nK net to i n k : Int) = min (n : Int) (roomV net i to) := by
  obtain ⟨a1, a2⟩ := find_all hn hi (to := to) h48 k h
  have h5 : net.length ≤ 5 := by
    simp only [netB, Bool.and_eq_true, decide_eq_true_eq] at hn
    exact hn.1.1
  rw [← a2]
  by_cases h0 : nK net to i n k = 0
  · rw [h0]
    have := (room_le hn i to).1
    omega
  · rw [stopB, decide_eq_false h0, Bool.false_or] at hs
    have e : sg net to (nK net to i n k) 64 i = .arr := by
      cases hx : sg net to (nK net to i n k) 64 i with
      | arr => rfl
      | note k v => rw [hx] at hs; cases hs
      | gone => rw [hx] at hs; cases hs
    rw [(find_step hn hi (to := to) (n := nK net to i n k) (h := 64) (by omega) (by omega) (by omega)).1 e]
def Idx (z : Int) (b : Bool) (C : List Pk) : Prop := ∀ k (hk : k < C.length), C[k].a = z + ((joinD (C.take k)).length : Int) ∧ C[k].m = (b || decide (k + 1 < C.length))
theorem Idx.tail {z : Int} {b : Bool} {x : Pk} {t : List Pk} (h : Idx z b (x :: t)) : Idx (z + (x.d.length : Int)) b t := by
  intro k hk
  have h1 := h (k + 1) (by rw [List.length_cons]; omega)
  simp only [List.getElem_cons_succ, List.take_succ_cons, List.length_cons] at h1
  refine ⟨?_, ?_⟩
  · rw [h1.1]
    have : (joinD (x :: t.take k)).length = x.d.length + (joinD (t.take k)).length := by simp [joinD]
    omega
  · rw [h1.2]
    congr 1
    rw [decide_eq_decide]
    omega
theorem net_st {net : List St} (hn : netB net = true) {i : Nat} (hi : i < net.length) : stB (net.getD i st0) = true := by
  rw [List.getD_eq_getElem?_getD, List.getElem?_eq_getElem hi]
  simp only [netB, Bool.and_eq_true] at hn
  exact List.all_eq_true.1 hn.1.2 net[i] (List.getElem_mem hi)
theorem room_yes {net : List St} {i : Nat} {to : Int} (h : roomV net i to ≠ 0) : ∃ R, pm net to (net.length + 1) i = some R := by
  rw [roomV] at h
  cases hp : pm net to (net.length + 1) i with
  | none => rw [hp] at h; exact absurd rfl h
  | some R => exact ⟨R, rfl⟩
end Go.Proofs.Ytmhmhgegdagjkaa
