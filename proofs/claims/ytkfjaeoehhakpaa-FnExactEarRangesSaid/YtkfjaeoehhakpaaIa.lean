import Derived.Test.YtkfjaeoehhakpaaJa
set_option linter.unusedVariables false
set_option linter.unusedSimpArgs false
namespace Go.Proofs.Ytkfjaeoehhakpaa
open Go.RowKit
structure Er where
  p : Int
  b : UInt8
structure Ea where
  n : Int
  room : Int
  g : List UInt8
  fr : List Er
def er0 : Er := ⟨0, 0⟩
def ea0 : Ea := ⟨0, 0, [], []⟩
def erS (l : List Er) : Prop := (l.map Er.p).Pairwise (· < ·)
instance (l : List Er) : Decidable (erS l) := by unfold erS; infer_instance
def eaF (e : Ea) : Int := e.room - (e.g.length : Int)
def eaB (e : Ea) : Bool := inZ e.n 0 1000000 && inZ e.room 1 32 && decide ((e.g.length : Int) ≤ e.room) && (e.fr.all fun x => decide (e.n < x.p) && decide (x.p < e.n + eaF e)) && decide (erS e.fr)
theorem eaB_iff {e : Ea} : eaB e = true ↔ (0 ≤ e.n ∧ e.n ≤ 1000000) ∧ (1 ≤ e.room ∧ e.room ≤ 32) ∧ (e.g.length : Int) ≤ e.room ∧ (∀ x ∈ e.fr, e.n < x.p ∧ x.p < e.n + eaF e) ∧ erS e.fr := by
  simp only [eaB, inZ, Bool.and_eq_true, decide_eq_true_eq, List.all_eq_true, and_assoc]
theorem erS_cons {x : Er} {l : List Er} : erS (x :: l) ↔ (∀ y ∈ l, x.p < y.p) ∧ erS l := by
  simp only [erS, List.map_cons, List.pairwise_cons, List.mem_map, forall_exists_index, and_imp]
  exact ⟨fun h => ⟨fun y hy => h.1 _ y hy rfl, h.2⟩, fun h => ⟨fun _ y hy e => e ▸ h.1 y hy, h.2⟩⟩
def insE : List Er → Er → List Er
  | [], x => [x]
  | y :: t, x => if x.p < y.p then x :: y :: t else if x.p = y.p then y :: t else y :: insE t x
theorem insE_mem : ∀ {l : List Er} {x y : Er}, y ∈ insE l x → y = x ∨ y ∈ l
  | [], x, y, h => by simpa [insE] using h
  | z :: t, x, y, h => by
    rw [insE] at h
    split at h
    · rcases List.mem_cons.1 h with h | h
      · exact .inl h
      · exact .inr h
    · split at h
      · exact .inr h
      · rcases List.mem_cons.1 h with h | h
        · exact .inr (h ▸ List.mem_cons_self ..)
        · rcases insE_mem h with h | h
          · exact .inl h
          · exact .inr (List.mem_cons_of_mem _ h)
theorem insE_old : ∀ {l : List Er} {x y : Er}, y ∈ l → y ∈ insE l x
  | z :: t, x, y, h => by
    rw [insE]
    split
    · exact List.mem_cons_of_mem _ h
    · split
      · exact h
      · rcases List.mem_cons.1 h with h | h
        · exact h ▸ List.mem_cons_self ..
        · exact List.mem_cons_of_mem _ (insE_old h)
theorem insE_place : ∀ (l : List Er) (x : Er), ∃ y ∈ insE l x, y.p = x.p
  | [], x => ⟨x, by simp [insE], rfl⟩
  | z :: t, x => by
    rw [insE]
    split
    · exact ⟨x, List.mem_cons_self .., rfl⟩
    · split
      · rename_i h; exact ⟨z, List.mem_cons_self .., h.symm⟩
      · obtain ⟨y, hy, e⟩ := insE_place t x
        exact ⟨y, List.mem_cons_of_mem _ hy, e⟩
theorem insE_sorted : ∀ {l : List Er} {x : Er}, erS l → erS (insE l x)
  | [], x, _ => by simp [insE, erS]
  | z :: t, x, h => by
    obtain ⟨h1, h2⟩ := erS_cons.1 h
    rw [insE]
    split
    · rename_i hx
      refine erS_cons.2 ⟨fun y hy => ?_, h⟩
      rcases List.mem_cons.1 hy with rfl | hy
      · exact hx
      · have := h1 y hy; omega
    · split
      · exact h
      · refine erS_cons.2 ⟨fun y hy => ?_, insE_sorted h2⟩
        rcases insE_mem hy with rfl | hy
        · omega
        · exact h1 y hy
def hrW (e : Ea) (a : Int) (d : List UInt8) : Nat → List Er
  | 0 => e.fr
  | k + 1 => if e.n ≤ a + (k : Int) ∧ a + (k : Int) < e.n + eaF e then insE (hrW e a d k) ⟨a + (k : Int), d.getD k 0⟩ else hrW e a d k
def runE : Int → List Er → Nat
  | _, [] => 0
  | n, x :: t => if x.p = n then runE (n + 1) t + 1 else 0
theorem runE_le : ∀ (n : Int) (l : List Er), runE n l ≤ l.length
  | _, [] => Nat.le_refl _
  | n, x :: t => by
    rw [runE]
    split
    · have := runE_le (n + 1) t
      simp only [List.length_cons]; omega
    · exact Nat.zero_le _
theorem runE_at : ∀ {n : Int} {l : List Er} {j : Nat} (hj : j < l.length), j < runE n l → l[j].p = n + (j : Int)
  | n, x :: t, 0, _, h => by
    rw [runE] at h
    split at h
    · rename_i e; simpa using e
    · omega
  | n, x :: t, j + 1, hj, h => by
    rw [runE] at h
    split at h
    · have := runE_at (n := n + 1) (l := t) (j := j) (by simpa using hj) (by omega)
      simp only [List.getElem_cons_succ]
      rw [this]; omega
    · omega
theorem runE_stop : ∀ {n : Int} {l : List Er} (h : runE n l < l.length), l[runE n l].p ≠ n + (runE n l : Int)
  | n, x :: t, h => by
    by_cases e : x.p = n
    · have e1 : runE n (x :: t) = runE (n + 1) t + 1 := by rw [runE, if_pos e]
      have h2 : runE (n + 1) t < t.length := by rw [e1] at h; simpa using h
      have := runE_stop h2
      simp only [e1, List.getElem_cons_succ]
      omega
    · have e1 : runE n (x :: t) = 0 := by rw [runE, if_neg e]
      simp only [e1, List.getElem_cons_zero]
      omega
theorem runE_rest : ∀ {n : Int} {l : List Er}, erS l → (∀ x ∈ l, n ≤ x.p) → ∀ x ∈ l.drop (runE n l), n + (runE n l : Int) < x.p
  | n, [], _, _, x, hx => by simp at hx
  | n, y :: t, h, hl, x, hx => by
    obtain ⟨h1, h2⟩ := erS_cons.1 h
    by_cases e : y.p = n
    · have e1 : runE n (y :: t) = runE (n + 1) t + 1 := by rw [runE, if_pos e]
      rw [e1] at hx ⊢
      have := runE_rest (n := n + 1) h2 (fun z hz => by have := h1 z hz; omega) x (by simpa using hx)
      omega
    · have e1 : runE n (y :: t) = 0 := by rw [runE, if_neg e]
      rw [e1] at hx ⊢
      have := hl y (List.mem_cons_self ..)
      rcases List.mem_cons.1 (by simpa using hx) with rfl | hx
      · omega
      · have := h1 x hx; omega
theorem erS_count : ∀ {l : List Er} {lo hi : Int}, erS l → (∀ x ∈ l, lo ≤ x.p ∧ x.p < hi) → lo ≤ hi → (l.length : Int) ≤ hi - lo
  | [], lo, hi, _, _, h => by simp only [List.length_nil]; omega
  | x :: t, lo, hi, hs, hl, h => by
    obtain ⟨h1, h2⟩ := erS_cons.1 hs
    have hx := hl x (List.mem_cons_self ..)
    have := erS_count (lo := x.p + 1) (hi := hi) h2 (fun y hy => by have := h1 y hy; have := hl y (List.mem_cons_of_mem _ hy); omega) (by omega)
    simp only [List.length_cons]; omega
theorem hrW_all {e : Ea} (he : eaB e = true) (a : Int) (d : List UInt8) : ∀ k, erS (hrW e a d k) ∧ (∀ x ∈ hrW e a d k, e.n ≤ x.p ∧ x.p < e.n + eaF e) ∧ (∀ x ∈ e.fr, x ∈ hrW e a d k) ∧
    (∀ j : Nat, j < k → e.n ≤ a + (j : Int) → a + (j : Int) < e.n + eaF e → ∃ x ∈ hrW e a d k, x.p = a + (j : Int)) ∧ ∀ x ∈ hrW e a d k, x ∈ e.fr ∨ ∃ j : Nat, j < k ∧ x = ⟨a + (j : Int), d.getD j 0⟩
  | 0 => by
    obtain ⟨_, _, _, h4, h5⟩ := eaB_iff.1 he
    exact ⟨h5, fun x hx => by have := h4 x hx; omega, fun x hx => hx, fun j hj => absurd hj (Nat.not_lt_zero _), fun x hx => .inl hx⟩
  | k + 1 => by
    obtain ⟨i1, i2, i3, i4, i5⟩ := hrW_all he a d k
    rw [hrW]
    split
    · rename_i hw
      refine ⟨insE_sorted i1, fun x hx => ?_, fun x hx => insE_old (i3 x hx), fun j hj h1 h2 => ?_, fun x hx => ?_⟩
      · rcases insE_mem hx with rfl | hx
        · exact hw
        · exact i2 x hx
      · by_cases hjk : j = k
        · subst hjk
          obtain ⟨y, hy, ey⟩ := insE_place (hrW e a d j) ⟨a + (j : Int), d.getD j 0⟩
          exact ⟨y, hy, ey⟩
        · obtain ⟨y, hy, ey⟩ := i4 j (by omega) h1 h2
          exact ⟨y, insE_old hy, ey⟩
      · rcases insE_mem hx with rfl | hx
        · exact .inr ⟨k, by omega, rfl⟩
        · rcases i5 x hx with h | ⟨j, hj, e⟩
          · exact .inl h
          · exact .inr ⟨j, by omega, e⟩
    · rename_i hw
      refine ⟨i1, i2, i3, fun j hj h1 h2 => ?_, fun x hx => ?_⟩
      · by_cases hjk : j = k
        · subst hjk; exact absurd ⟨h1, h2⟩ hw
        · exact i4 j (by omega) h1 h2
      · rcases i5 x hx with h | ⟨j, hj, e⟩
        · exact .inl h
        · exact .inr ⟨j, by omega, e⟩
def hrL (e : Ea) (a : Int) (d : List UInt8) : List Er := hrW e a d d.length
def hrM (e : Ea) (a : Int) (d : List UInt8) : Nat := runE e.n (hrL e a d)
def hrE (e : Ea) (a : Int) (d : List UInt8) : Ea := ⟨e.n + (hrM e a d : Int), e.room, e.g ++ ((hrL e a d).take (hrM e a d)).map Er.b, (hrL e a d).drop (hrM e a d)⟩
def hrO (e : Ea) (a : Int) (d : List UInt8) : Bool := eaB e && inZ a 0 1000000 && decide (e.n + (hrM e a d : Int) ≤ 1000000)
def hrV (e : Ea) (a : Int) (d : List UInt8) : Ea := if hrO e a d = true then hrE e a d else ea0
theorem hrM_le {e : Ea} (he : eaB e = true) (a : Int) (d : List UInt8) : (hrM e a d : Int) ≤ eaF e := by
  obtain ⟨i1, i2, _⟩ := hrW_all he a d d.length
  obtain ⟨_, _, h3, _⟩ := eaB_iff.1 he
  have := runE_le e.n (hrL e a d)
  have h := erS_count (lo := e.n) (hi := e.n + eaF e) i1 i2 (by unfold eaF; omega)
  show (runE e.n (hrL e a d) : Int) ≤ _
  have e1 : (hrL e a d).length = (hrW e a d d.length).length := rfl
  omega
theorem hr_ok {e : Ea} {a : Int} {d : List UInt8} (h : hrO e a d = true) : eaB (hrE e a d) = true ∧ eaF (hrE e a d) = eaF e - (hrM e a d : Int) ∧ ((hrE e a d).g.length : Int) = (e.g.length : Int) + (hrM e a d : Int) := by
  simp only [hrO, Bool.and_eq_true, decide_eq_true_eq] at h
  obtain ⟨⟨he, ha⟩, hn⟩ := h
  obtain ⟨h1, h2, h3, h4, h5⟩ := eaB_iff.1 he
  obtain ⟨i1, i2, i3, i4, i5⟩ := hrW_all he a d d.length
  have hm := hrM_le he a d
  have hl := runE_le e.n (hrL e a d)
  have hg : ((hrE e a d).g.length : Int) = (e.g.length : Int) + (hrM e a d : Int) := by
    show ((e.g ++ ((hrL e a d).take (hrM e a d)).map Er.b).length : Int) = _
    rw [List.length_append, List.length_map, List.length_take]
    have : hrM e a d ≤ (hrL e a d).length := hl
    omega
  have hF : eaF (hrE e a d) = eaF e - (hrM e a d : Int) := by
    show e.room - ((hrE e a d).g.length : Int) = _
    rw [hg]; unfold eaF; omega
  refine ⟨eaB_iff.2 ⟨?_, h2, ?_, fun x hx => ?_, ?_⟩, hF, hg⟩
  · show 0 ≤ e.n + (hrM e a d : Int) ∧ e.n + (hrM e a d : Int) ≤ 1000000
    omega
  · rw [hg]; show _ ≤ e.room; unfold eaF at hm; omega
  · rw [hF]
    have g1 := runE_rest (n := e.n) (l := hrL e a d) i1 (fun y hy => (i2 y hy).1) x hx
    have g2 := i2 x (List.mem_of_mem_drop hx)
    show e.n + (hrM e a d : Int) < x.p ∧ x.p < e.n + (hrM e a d : Int) + (eaF e - (hrM e a d : Int))
    unfold hrM
    omega
  · show erS ((hrL e a d).drop (hrM e a d))
    have hp : (((hrL e a d).map Er.p).drop (hrM e a d)).Pairwise (· < ·) := i1.sublist (List.drop_sublist ..)
    rwa [← List.map_drop] at hp
theorem ea_count {e : Ea} (h : eaB e = true) : (e.g.length : Int) + (e.fr.length : Int) ≤ e.room := by
  obtain ⟨h1, h2, h3, h4, h5⟩ := eaB_iff.1 h
  have := erS_count (lo := e.n) (hi := e.n + eaF e) h5 (fun x hx => by have := h4 x hx; omega) (by unfold eaF; omega)
  unfold eaF at this; omega
def rdN (e : Ea) (m : Int) : Nat := min m.toNat e.g.length
def rdE (e : Ea) (m : Int) : Ea := ⟨e.n, e.room, e.g.drop (rdN e m), e.fr⟩
def rdO (e : Ea) (m : Int) : Bool := eaB e && decide (0 ≤ m)
def rdV12 (e : Ea) (m : Int) : Ea := if rdO e m = true then rdE e m else ea0
def rdB12 (e : Ea) (m : Int) : List UInt8 := if rdO e m = true then e.g.take (rdN e m) else []
def rnK (l : List Er) : Nat → List Rg
  | 0 => []
  | k + 1 => match (rnK l k).getLast? with
    | some r => if r.t = (l.getD k er0).p then (rnK l k).dropLast ++ [⟨r.f, r.t + 1⟩] else if (rnK l k).length < 2 then rnK l k ++ [⟨(l.getD k er0).p, (l.getD k er0).p + 1⟩] else rnK l k
    | none => if (rnK l k).length < 2 then rnK l k ++ [⟨(l.getD k er0).p, (l.getD k er0).p + 1⟩] else rnK l k
theorem rnK_all {l : List Er} {n : Int} (hs : erS l) (hn : ∀ x ∈ l, n < x.p) : ∀ k, k ≤ l.length → (∀ r ∈ rnK l k, n < r.f ∧ r.f < r.t ∧ ∀ p : Int, r.f ≤ p → p < r.t → ∃ x ∈ l.take k, x.p = p) ∧
    ((rnK l k).map fun r => (r.f, r.t)).Pairwise (fun a b => a.2 < b.1) ∧ (rnK l k).length ≤ 2 ∧ (rnK l k = [] ↔ k = 0) ∧ (∀ r ∈ rnK l k, ∀ x ∈ l.drop k, r.t ≤ x.p)
  | 0, _ => ⟨fun r hr => by simp [rnK] at hr, by simp [rnK], by simp [rnK], by simp [rnK], fun r hr => by simp [rnK] at hr⟩
  | k + 1, hk => by
    obtain ⟨i1, i2, i3, i4, i5⟩ := rnK_all hs hn k (by omega)
    have hkl : k < l.length := by omega
    have eg : l.getD k er0 = l[k] := by rw [List.getD_eq_getElem?_getD, List.getElem?_eq_getElem hkl]; rfl
    have hx := hn l[k] (List.getElem_mem hkl)
    have htk : l.take (k + 1) = l.take k ++ [l[k]] := by rw [List.take_add_one, List.getElem?_eq_getElem hkl]; rfl
    have hdk : l.drop k = l[k] :: l.drop (k + 1) := List.drop_eq_getElem_cons hkl
    have hlt : ∀ x ∈ l.drop (k + 1), l[k].p < x.p := by
      have hp : erS (l.drop k) := by
        have hp : ((l.map Er.p).drop k).Pairwise (· < ·) := hs.sublist (List.drop_sublist ..)
        rwa [← List.map_drop] at hp
      rw [hdk] at hp
      exact (erS_cons.1 hp).1
    have hnew : ∀ p : Int, l[k].p ≤ p → p < l[k].p + 1 → ∃ x ∈ l.take (k + 1), x.p = p := fun p h1 h2 => ⟨l[k], by rw [htk]; exact List.mem_append_right _ (List.mem_singleton_self _), by omega⟩
    have hup : ∀ r ∈ rnK l k, n < r.f ∧ r.f < r.t ∧ ∀ p : Int, r.f ≤ p → p < r.t → ∃ x ∈ l.take (k + 1), x.p = p := fun r hr => by
      obtain ⟨a, b, c⟩ := i1 r hr
      exact ⟨a, b, fun p h1 h2 => by obtain ⟨x, hx, e⟩ := c p h1 h2; exact ⟨x, by rw [htk]; exact List.mem_append_left _ hx, e⟩⟩
    have hle : ∀ r ∈ rnK l k, r.t ≤ l[k].p := fun r hr => i5 r hr _ (by rw [hdk]; exact List.mem_cons_self ..)
    have hkeep : ∀ r ∈ rnK l k, ∀ x ∈ l.drop (k + 1), r.t ≤ x.p := fun r hr x hx => i5 r hr x (by rw [hdk]; exact List.mem_cons_of_mem _ hx)
    have happ : (∀ r ∈ rnK l k, r.t < l[k].p) → (rnK l k).length < 2 → (∀ r ∈ rnK l k ++ [(⟨l[k].p, l[k].p + 1⟩ : Rg)], n < r.f ∧ r.f < r.t ∧ ∀ p : Int, r.f ≤ p → p < r.t → ∃ x ∈ l.take (k + 1), x.p = p) ∧
        ((rnK l k ++ [(⟨l[k].p, l[k].p + 1⟩ : Rg)]).map fun r => (r.f, r.t)).Pairwise (fun a b => a.2 < b.1) ∧ (rnK l k ++ [(⟨l[k].p, l[k].p + 1⟩ : Rg)]).length ≤ 2 ∧ (rnK l k ++ [(⟨l[k].p, l[k].p + 1⟩ : Rg)] = [] ↔ k + 1 = 0) ∧ (∀ r ∈ rnK l k ++ [(⟨l[k].p, l[k].p + 1⟩ : Rg)], ∀ x ∈ l.drop (k + 1), r.t ≤ x.p) := fun hg hc => by
      refine ⟨fun r hr => ?_, ?_, by simp; omega, by simp, fun r hr x hx => ?_⟩
      · rcases List.mem_append.1 hr with hr | hr
        · exact hup r hr
        · obtain rfl := List.mem_singleton.1 hr
          exact ⟨hx, by show l[k].p < l[k].p + 1; omega, hnew⟩
      · rw [List.map_append, List.pairwise_append]
        refine ⟨i2, by simp, fun a ha b hb => ?_⟩
        obtain ⟨r, hr, rfl⟩ := List.mem_map.1 ha
        simp only [List.map_cons, List.map_nil, List.mem_singleton] at hb
        subst hb
        exact hg r hr
      · rcases List.mem_append.1 hr with hr | hr
        · exact hkeep r hr x hx
        · obtain rfl := List.mem_singleton.1 hr
          have := hlt x hx
          show l[k].p + 1 ≤ x.p
          omega
    have hsame : ∀ (_ : rnK l k ≠ []), (∀ r ∈ rnK l k, n < r.f ∧ r.f < r.t ∧ ∀ p : Int, r.f ≤ p → p < r.t → ∃ x ∈ l.take (k + 1), x.p = p) ∧
        ((rnK l k).map fun r => (r.f, r.t)).Pairwise (fun a b => a.2 < b.1) ∧ (rnK l k).length ≤ 2 ∧ (rnK l k = [] ↔ k + 1 = 0) ∧ (∀ r ∈ rnK l k, ∀ x ∈ l.drop (k + 1), r.t ≤ x.p) := fun hne =>
      ⟨hup, i2, i3, ⟨fun h => absurd h hne, fun h => by omega⟩, hkeep⟩
    rw [rnK, eg]
    rcases List.eq_nil_or_concat (rnK l k) with hz | ⟨R, r, hz⟩
    · have e : (rnK l k).getLast? = none := by rw [hz]; rfl
      rw [e]
      dsimp only
      rw [if_pos (by rw [hz]; decide)]
      exact happ (fun r hr => by rw [hz] at hr; cases hr) (by rw [hz]; decide)
    · have hz' : rnK l k = R ++ [r] := by rw [hz]; simp
      have e : (rnK l k).getLast? = some r := by rw [hz']; simp
      have hne : rnK l k ≠ [] := by rw [hz']; simp
      rw [e]
      dsimp only
      have hr : r ∈ rnK l k := by rw [hz']; simp
      split
      · rename_i hrt
        have ed : (rnK l k).dropLast = R := by rw [hz']; simp
        rw [ed]
        have hR : ∀ q ∈ R, q ∈ rnK l k := fun q hq => by rw [hz']; exact List.mem_append_left _ hq
        have hpr := i2
        rw [hz', List.map_append, List.pairwise_append] at hpr
        refine ⟨fun q hq => ?_, ?_, ?_, by simp, fun q hq x hx => ?_⟩
        · rcases List.mem_append.1 hq with hq | hq
          · exact hup q (hR q hq)
          · obtain rfl := List.mem_singleton.1 hq
            obtain ⟨a, b, c⟩ := hup r hr
            refine ⟨a, by show r.f < r.t + 1; omega, fun p h1 h2 => ?_⟩
            by_cases hp : p < r.t
            · exact c p h1 hp
            · have h2' : p < r.t + 1 := h2
              exact hnew p (by omega) (by omega)
        · rw [List.map_append, List.pairwise_append]
          refine ⟨hpr.1, by simp, fun a ha b hb => ?_⟩
          simp only [List.map_cons, List.map_nil, List.mem_singleton] at hb
          subst hb
          exact hpr.2.2 a ha (r.f, r.t) (by simp)
        · have := i3
          rw [hz'] at this
          simpa using this
        · rcases List.mem_append.1 hq with hq | hq
          · exact hkeep q (hR q hq) x hx
          · obtain rfl := List.mem_singleton.1 hq
            have := hlt x hx
            show r.t + 1 ≤ x.p
            omega
      · rename_i hrt
        split
        · rename_i hc
          refine happ (fun q hq => ?_) hc
          have h1 := hle q hq
          have h2 := hle r hr
          rw [hz'] at hq
          rcases List.mem_append.1 hq with hq | hq
          · have hpr := i2
            rw [hz', List.map_append, List.pairwise_append] at hpr
            have h3 := hpr.2.2 (q.f, q.t) (List.mem_map.2 ⟨q, hq, rfl⟩) (r.f, r.t) (by simp)
            have h3' : q.t < r.f := h3
            have h4 := (i1 r hr).2.1
            omega
          · obtain rfl := List.mem_singleton.1 hq
            omega
        · exact hsame hne
def follows (f : Int → UInt8) (e : Ea) (read : List UInt8) : Prop := (∀ x ∈ e.fr, x.b = f x.p) ∧ ((read.length : Int) + (e.g.length : Int) = e.n) ∧ ∀ (j : Nat) (b : UInt8), (read ++ e.g)[j]? = some b → b = f (j : Int)
end Go.Proofs.Ytkfjaeoehhakpaa
