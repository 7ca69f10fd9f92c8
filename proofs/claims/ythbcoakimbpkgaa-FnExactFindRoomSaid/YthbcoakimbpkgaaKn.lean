import Derived.Test.YthbcoakimbpkgaaKm
set_option linter.unusedVariables false
set_option linter.unusedSimpArgs false
namespace Go.Proofs.Ythbcoakimbpkgaa
open Go.RowKit
def wkV (net : List St) (to : Int) (i : Nat) : Nat → Nat × Int
  | 0 => (i, 48)
  | k + 1 => match nextV net to (wkV net to i k).1 with
    | none => wkV net to i k
    | some (n, m) => (n, min (wkV net to i k).2 m)
def withMin (room : Int) : Option Int → Int
  | none => 0
  | some R => min room R
def wkOn (net : List St) (to : Int) (i k : Nat) : Prop := ∀ j, j < k → (net.getD (wkV net to i j).1 st0).a ≠ to ∧ ∃ n m, nextV net to (wkV net to i j).1 = some (n, m)
theorem wk_inv {net : List St} (hn : netB net = true) {to : Int} {i : Nat} (hi : i < net.length) : ∀ k, k ≤ net.length + 1 → wkOn net to i k →
    (wkV net to i k).1 < net.length ∧ (1 ≤ (wkV net to i k).2 ∧ (wkV net to i k).2 ≤ 48) ∧ roomV net i to = withMin (wkV net to i k).2 (pm net to (net.length + 1 - k) (wkV net to i k).1)
  | 0, _, _ => by
    refine ⟨hi, by simp only [wkV]; omega, ?_⟩
    rw [roomV]
    show _ = withMin 48 (pm net to (net.length + 1) i)
    cases hp : pm net to (net.length + 1) i with
    | none => rfl
    | some R =>
      have := pm_bd hn hp
      simp only [Option.getD_some, withMin]
      omega
  | k + 1, hk, h => by
    obtain ⟨a1, a2, a3⟩ := wk_inv hn hi k (by omega) fun j hj => h j (by omega)
    obtain ⟨b1, n, m, b2⟩ := h k (Nat.lt_succ_self k)
    have e : wkV net to i (k + 1) = (n, min (wkV net to i k).2 m) := by rw [wkV, b2]
    obtain ⟨r, hl, hs, rfl⟩ := next_some b2
    have hm := (net_routes hn hl).2.1
    rw [e]
    refine ⟨(seek_lt hs).1, by dsimp only; omega, ?_⟩
    rw [a3]
    have e2 : net.length + 1 - k = (net.length + 1 - (k + 1)) + 1 := by omega
    rw [e2, pm, if_neg b1, b2]
    dsimp only
    cases hp : pm net to (net.length + 1 - (k + 1)) n with
    | none => rfl
    | some R => simp only [withMin]; omega
theorem wk_here {net : List St} (hn : netB net = true) {to : Int} {i : Nat} (hi : i < net.length) {k : Nat} (hk : k ≤ net.length) (h : wkOn net to i k) (ht : (net.getD (wkV net to i k).1 st0).a = to) : roomV net i to = (wkV net to i k).2 := by
  obtain ⟨a1, a2, a3⟩ := wk_inv hn hi k (by omega) h
  have e2 : net.length + 1 - k = (net.length - k) + 1 := by omega
  rw [a3, e2, pm_here _ ht]
  simp only [withMin]; omega
theorem wk_none {net : List St} (hn : netB net = true) {to : Int} {i : Nat} (hi : i < net.length) {k : Nat} (hk : k ≤ net.length) (h : wkOn net to i k) (ht : (net.getD (wkV net to i k).1 st0).a ≠ to) (hx : nextV net to (wkV net to i k).1 = none) : roomV net i to = 0 := by
  obtain ⟨a1, a2, a3⟩ := wk_inv hn hi k (by omega) h
  have e2 : net.length + 1 - k = (net.length - k) + 1 := by omega
  rw [a3, e2, pm, if_neg ht, hx]
  rfl
theorem wk_next {net : List St} {to : Int} {i k : Nat} (h : wkOn net to i k) (ht : (net.getD (wkV net to i k).1 st0).a ≠ to) {n : Nat} {m : Int} (hx : nextV net to (wkV net to i k).1 = some (n, m)) : wkOn net to i (k + 1) ∧ wkV net to i (k + 1) = (n, min (wkV net to i k).2 m) := by
  refine ⟨fun j hj => ?_, by rw [wkV, hx]⟩
  by_cases hjk : j = k
  · rw [hjk]; exact ⟨ht, n, m, hx⟩
  · exact h j (by omega)
end Go.Proofs.Ythbcoakimbpkgaa
