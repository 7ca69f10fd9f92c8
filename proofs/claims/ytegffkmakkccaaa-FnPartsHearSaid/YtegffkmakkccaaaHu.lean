import Derived.Test.YtegffkmakkccaaaHs
import Derived.Test.YtegffkmakkccaaaHn
set_option linter.unusedVariables false
set_option linter.unusedSimpArgs false
namespace Go.Proofs.Ytegffkmakkccaaa
open Go.RowKit
def Lone (l : List Pt) : Prop := (∀ x ∈ l, partB x.ps x.u = true) ∧ l.Pairwise fun x y => of1 x (y.ps.getD 0 pk0) = false
theorem same4_symm' {x y : Pk} (h : same4 x y = true) : same4 y x = true := by
  rw [same4_iff] at h ⊢
  omega
theorem inZ_iff' {x a b : Int} : inZ x a b = true ↔ a ≤ x ∧ x ≤ b := by simp only [inZ, decide_eq_true_eq]
theorem ptsB_lone {l : List Pt} : ptsB l = true ↔ l.length ≤ 3 ∧ Lone l := by
  constructor
  · intro h
    have h0 := ptsB_all h
    refine ⟨h0.1, h0.2, ?_⟩
    simp only [ptsB, Bool.and_eq_true] at h
    rw [List.pairwise_iff_getElem]
    intro i j hi hj hij
    have hs := ptsK_at h.2 hj
    rw [ptStep, pt_get hj, Bool.and_eq_true, decide_eq_true_eq] at hs
    have h3 := findP_lt (L := l.take j) (q := l[j].ps.getD 0 pk0) (k := i) (by rw [hs.2]; exact hij)
    rwa [List.getD_eq_getElem?_getD, List.getElem?_take, if_pos hij, List.getElem?_eq_getElem hi] at h3
  · rintro ⟨h1, h2, h3⟩
    rw [ptsB, Bool.and_eq_true, decide_eq_true_eq]
    refine ⟨h1, List.all_eq_true.2 fun j hj => ?_⟩
    have hj := List.mem_range.1 hj
    rw [ptStep, pt_get hj, Bool.and_eq_true, decide_eq_true_eq]
    refine ⟨h2 _ (List.getElem_mem hj), findP_eq (by rw [List.length_take]; omega) (fun i hi => ?_) (.inl (by rw [List.length_take]; omega))⟩
    rw [List.getD_eq_getElem?_getD, List.getElem?_take, if_pos hi, List.getElem?_eq_getElem (by omega)]
    exact List.pairwise_iff_getElem.1 h3 i j (by omega) hj hi
theorem Lone.sub {l l' : List Pt} (h : Lone l) (s : l'.Sublist l) : Lone l' := ⟨fun x hx => h.1 x (s.subset hx), h.2.sublist s⟩
theorem outP_sub (l : List Pt) (k : Nat) : (outP l k).Sublist l := by
  conv => rhs; rw [← List.take_append_drop k l]
  refine (List.Sublist.refl _).append ?_
  rw [← List.drop_drop]
  exact List.drop_sublist _ _
theorem Lone.put {l : List Pt} (h : Lone l) {q : Pk} {u : Int} (hp : partB [q] u = true) (hf : findP l q = l.length) : Lone (l ++ [⟨[q], u⟩]) := by
  refine ⟨fun x hx => ?_, List.pairwise_append.2 ⟨h.2, List.pairwise_singleton _ _, fun x hx y hy => ?_⟩⟩
  · rcases List.mem_append.1 hx with hx | hx
    · exact h.1 x hx
    · rw [List.mem_singleton.1 hx]; exact hp
  · rw [List.mem_singleton.1 hy]
    obtain ⟨i, hi, rfl⟩ := List.getElem_of_mem hx
    have := findP_lt (L := l) (q := q) (k := i) (by omega)
    rwa [pt_get hi] at this
theorem putO_head {ps r : List Pk} {u : Int} {q : Pk} (h : putO ps u q = some r) : partB r u = true ∧ same4 (r.getD 0 pk0) (ps.getD 0 pk0) = true := by
  unfold putO at h
  split at h
  · rename_i h1
    simp only [Bool.and_eq_true] at h1
    split at h
    · cases h
      exact ⟨h1.1.1, same4_self _⟩
    · split at h
      · rename_i h2
        cases h
        refine ⟨h2, ?_⟩
        rw [insK]
        by_cases hw : wAt ps q.a = 0
        · rw [hw]
          exact same4_symm' h1.2
        · have hp := (partB_iff _ _).1 h1.1.1
          have : (ps.take (wAt ps q.a) ++ [q] ++ ps.drop (wAt ps q.a)).getD 0 pk0 = ps.getD 0 pk0 := by
            have h0 := hp.2.2.2.1
            obtain ⟨x, t, rfl⟩ : ∃ x t, ps = x :: t := by
              match ps, h0 with
              | x :: t, _ => exact ⟨x, t, rfl⟩
            obtain ⟨n, hn⟩ : ∃ n, wAt (x :: t) q.a = n + 1 := ⟨wAt (x :: t) q.a - 1, by omega⟩
            rw [hn]; rfl
          rw [this]
          exact same4_self _
      · cases h
  · cases h
theorem Lone.turn {l : List Pt} (h : Lone l) {k : Nat} (hk : k < l.length) {r : List Pk} (hr : partB r l[k].u = true) (hs : same4 (r.getD 0 pk0) (l[k].ps.getD 0 pk0) = true) : Lone (l.set k ⟨r, l[k].u⟩) := by
  refine ⟨fun x hx => ?_, ?_⟩
  · rcases List.mem_or_eq_of_mem_set hx with hx | rfl
    · exact h.1 x hx
    · exact hr
  · rw [List.pairwise_iff_getElem]
    intro i j hi hj hij
    rw [List.length_set] at hi hj
    have h0 := List.pairwise_iff_getElem.1 h.2 i j hi hj hij
    have key : ∀ a b c d : Pk, same4 a b = true → same4 c d = true → same4 b d = false → same4 a c = false := fun a b c d h1 h2 h3 => by
      rw [Bool.eq_false_iff] at h3 ⊢
      intro h4
      apply h3
      rw [same4_iff] at h1 h2 h4 ⊢
      omega
    rw [List.getElem_set, List.getElem_set]
    by_cases e1 : k = i
    · subst e1
      rw [if_pos rfl, if_neg (by omega)]
      exact key _ _ _ _ hs (same4_self _) h0
    · rw [if_neg e1]
      by_cases e2 : k = j
      · subst e2
        rw [if_pos rfl]
        exact key _ _ _ _ (same4_self _) hs h0
      · rw [if_neg e2]; exact h0
theorem ph_out {l : List Pt} {q : Pk} {n : Int} (x : Pt) (hx : x ∈ phF l q n) : n < x.u := by
  rw [phF] at hx
  split at hx
  · have hlive : ∀ y ∈ liveP l n, n < y.u := fun y hy => by simpa using (List.mem_filter.1 hy).2
    split at hx
    · exact hlive x hx
    · split at hx
      · rcases List.mem_append.1 hx with hx | hx
        · exact hlive x hx
        · rw [List.mem_singleton.1 hx]
          show n < n + 15
          omega
      · rename_i hf
        have hk : findP (liveP l n) q < (liveP l n).length := by
          have := findP_le (liveP l n) q
          omega
        rw [hitL] at hx
        split at hx
        · exact hlive x ((outP_sub _ _).subset hx)
        · split at hx
          · exact hlive x ((outP_sub _ _).subset hx)
          · rcases List.mem_or_eq_of_mem_set hx with hx | rfl
            · exact hlive x hx
            · show n < ((liveP l n).getD _ pt0).u
              rw [pt_get hk]
              exact hlive _ (List.getElem_mem hk)
  · cases hx
theorem ph_lone {l : List Pt} {q : Pk} {n : Int} : Lone (phF l q n) := by
  rw [phF]
  split
  · rename_i hok
    simp only [phOk, Bool.and_eq_true] at hok
    obtain ⟨⟨h1, h2⟩, h3⟩ := hok
    have hn := inZ_iff'.1 h3
    have hL := ((ptsB_lone.1 h1).2).sub (l' := liveP l n) List.filter_sublist
    split
    · exact hL
    · split
      · rename_i hf
        exact hL.put ((partB_iff _ _).2 ⟨fun x hx => by rw [List.mem_singleton.1 hx]; exact h2, by unfold Ch; simp, by have := ok_rng h2; simp [sumN]; omega, by simp, by omega⟩) hf
      · rename_i hf
        have hk : findP (liveP l n) q < (liveP l n).length := by
          have := findP_le (liveP l n) q
          omega
        rw [hitL]
        split
        · exact hL.sub (outP_sub _ _)
        · rename_i r hr
          split
          · exact hL.sub (outP_sub _ _)
          · rw [pt_get hk] at hr ⊢
            obtain ⟨g1, g2⟩ := putO_head hr
            exact hL.turn hk g1 g2
  · exact ⟨fun x hx => (by cases hx), List.Pairwise.nil⟩
theorem ph_whole {l : List Pt} {q : Pk} {n : Int} (h : phB l q n = true) : (phP l q n).ok = true ∧ (phP l q n).a = 0 ∧ (phP l q n).m = false := by
  simp only [phB, Bool.and_eq_true, Bool.or_eq_true] at h
  obtain ⟨hok, h⟩ := h
  have hq : q.ok = true := by simp only [phOk, Bool.and_eq_true] at hok; exact hok.1.2
  rw [phP, if_pos hok]
  by_cases ha : alone q = true
  · rw [if_pos ha]
    simp only [alone, Bool.and_eq_true, decide_eq_true_eq, Bool.not_eq_true'] at ha
    exact ⟨hq, ha.1, ha.2⟩
  · rw [if_neg ha]
    rcases h with h | ⟨h, hb⟩
    · exact absurd h ha
    · rw [Bool.not_eq_true', decide_eq_false_iff_not] at h
      rw [if_neg h]
      rw [hitB] at hb
      rw [hitP]
      split at hb
      · cases hb
      · rename_i r hr
        have := whole_out hb
        exact ⟨this.2.2.2, this.2.1, this.2.2.1⟩
end Go.Proofs.Ytegffkmakkccaaa
