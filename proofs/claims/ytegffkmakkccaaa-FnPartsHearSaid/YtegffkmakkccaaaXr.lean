import Derived.Test.YtegffkmakkccaaaXm
import Derived.Test.YtegffkmakkccaaaXk
import Derived.Test.YtegffkmakkccaaaXh
import Derived.Test.YtegffkmakkccaaaXi
namespace Go.Proofs.Ytegffkmakkccaaa
open Go.RowKit
set_option linter.unusedSimpArgs false
set_option linter.unusedVariables false
def ptGood (x : Pt) : Prop := pMid x.ps ∧ sumN x.ps ≤ 48
theorem ok_len {q : Pk} (h : q.ok = true) : q.d.length ≤ 48 := by
  simp only [Pk.ok, pkB, pkR, Bool.and_eq_true, decide_eq_true_eq] at h
  omega
theorem outP_mem {l : List Pt} {k : Nat} {x : Pt} (h : x ∈ outP l k) : x ∈ l := by
  rcases List.mem_append.1 h with h | h
  · exact List.mem_of_mem_take h
  · exact List.mem_of_mem_drop h
theorem outP_len (l : List Pt) (k : Nat) : (outP l k).length ≤ l.length := by
  rw [outP, List.length_append, List.length_take, List.length_drop]; omega
theorem phF_bd {l : List Pt} {q : Pk} (n : Int) (hm : ptMid l) (hq : q.d.length ≤ 1048576) : (phF l q n).length ≤ 4 ∧ ∀ x ∈ phF l q n, ptGood x := by
  rw [phF]
  split
  · rename_i hok
    simp only [phOk, Bool.and_eq_true] at hok
    obtain ⟨⟨h1, h2⟩, h3⟩ := hok
    obtain ⟨h4, h5⟩ := ptsB_all h1
    have hlv : (liveP l n).length ≤ 3 := Nat.le_trans (liveP_len l n) h4
    have hg : ∀ x ∈ liveP l n, ptGood x := fun x hx => ⟨hm.2 x (liveP_mem hx), (partB_all (h5 x (liveP_mem hx))).2.1⟩
    split
    · exact ⟨by omega, hg⟩
    · split
      · refine ⟨by rw [withF, List.length_append]; simp only [List.length_cons, List.length_nil]; omega, fun x hx => ?_⟩
        rcases List.mem_append.1 hx with hx | hx
        · exact hg x hx
        · rw [List.mem_singleton.1 hx]
          exact ⟨⟨by simp, fun y hy => by rw [List.mem_singleton.1 hy]; exact hq⟩, by have := ok_len h2; simp [sumN]; omega⟩
      · rename_i hne
        have hlt : findP (liveP l n) q < (liveP l n).length := Nat.lt_of_le_of_ne (findP_le _ _) hne
        rw [hitL]
        split
        · exact ⟨Nat.le_trans (outP_len _ _) (by omega), fun x hx => hg x (outP_mem hx)⟩
        · rename_i r hr
          have hx := hg _ (List.getElem_mem hlt)
          have hgd : (liveP l n).getD (findP (liveP l n) q) pt0 = (liveP l n)[findP (liveP l n) q] := by simp [List.getD, hlt]
          rw [hgd] at hr ⊢
          obtain ⟨r1, r2⟩ := putO_mid hr hx.1 hq
          split
          · exact ⟨Nat.le_trans (outP_len _ _) (by omega), fun x hx => hg x (outP_mem hx)⟩
          · refine ⟨by rw [List.length_set]; omega, fun x hx => ?_⟩
            rcases List.mem_or_eq_of_mem_set hx with hx | rfl
            · exact hg x hx
            · exact ⟨r1, (partB_all r2).2.1⟩
  · exact ⟨Nat.zero_le _, fun x hx => (List.not_mem_nil hx).elim⟩
theorem phS_len {l : List Pt} {q : Pk} {n : Int} (h : phS l q n = true) : (phF l q n).length = 4 := by
  simp only [phS, Bool.and_eq_true, decide_eq_true_eq, Bool.not_eq_true', decide_eq_false_iff_not] at h
  obtain ⟨h1, ⟨h2, h3⟩, h4⟩ := h
  have h5 := h1
  simp only [phOk, Bool.and_eq_true] at h5
  have h6 := (ptsB_all h5.1.1).1
  have h7 := liveP_len l n
  rw [phF, if_pos h1, if_neg (by rw [h2]; decide), if_pos h3, withF, List.length_append]
  simp only [List.length_cons, List.length_nil]
  omega
end Go.Proofs.Ytegffkmakkccaaa
