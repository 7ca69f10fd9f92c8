import Derived.Test.YtikcpbgnmdhilaaSc
import Derived.Test.YtikcpbgnmdhilaaC1a
import Derived.Test.YtikcpbgnmdhilaaC2f
namespace Go.Proofs.Ytikcpbgnmdhilaa
open Go.RowKit
set_option linter.unusedSimpArgs false
theorem rd_of_rep {w : World} {xs : List UInt8} {sz : Nat} {v : Value} (h : Rep w (Zold w) (.l sz (rowsOfBytes xs)) v) : ∃ A n c, v = .slice A n c ∧ Rd w w.heap.size A n (bv xs) ∧ n ≤ c := by
  generalize hd : D.l sz (rowsOfBytes xs) = d at h
  cases h with
  | v x ho => cases hd
  | e sz' A c =>
    injection hd with _ e
    have : xs = [] := by rw [← bytesOf_rows xs, e]; rfl
    subst this
    exact ⟨A, 0, c, rfl, ⟨rfl, fun h => absurd h (by omega)⟩, Nat.zero_le _⟩
  | l sz' rows b off n c u hn hc hs hz hcell hrep =>
    injection hd with e1 e2
    subst e2
    have hl : xs.length = n := by rw [← rowsOf_len xs]; exact hn
    refine ⟨_, n, c, rfl, ⟨by rw [bv_len]; exact hl, fun _ => ⟨b, off, rfl, hz, fun j y hy => ?_⟩⟩, hc⟩
    rw [bv_at] at hy
    cases hx : xs[j]? with
    | none => simp [hx] at hy
    | some x =>
      simp [hx] at hy
      subst hy
      have hj : j < xs.length := (List.getElem?_eq_some_iff.1 hx).1
      have hr : rowAt (rowsOfBytes xs) j 0 = some (.v (bval x)) := by
        simp only [rowAt, rowsOfBytes, List.getElem?_map, hx]
        rfl
      have h1 : sz' = 1 := by
        rw [← hs _ (List.getElem_mem (by rw [rowsOf_len]; exact hj)), rowsOf_w xs _ (List.getElem_mem (by rw [rowsOf_len]; exact hj))]
      subst h1
      have k1 := hcell j 0 _ hr
      have k2 := hrep j 0 _ hr
      rw [Nat.mul_one, Nat.add_zero] at k1
      rw [k1]
      generalize u j 0 = y at k2
      cases k2
      rfl
section
variable {P : Program}
end
end Go.Proofs.Ytikcpbgnmdhilaa
