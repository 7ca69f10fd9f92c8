import Derived.Test.YthbcoakimbpkgaaVa
import Derived.Test.YthbcoakimbpkgaaR6
set_option linter.unusedVariables false
set_option linter.unusedSimpArgs false
namespace Go.Proofs.Ythbcoakimbpkgaa
open Go.RowKit
set_option linter.unusedSimpArgs false
theorem szLeft_eq {l : Int} {n : Nat} (hl : 0 ≤ l ∧ l ≤ 1048576) (hn : n ≤ 9223372036854775807) : szLeft l n = if IntKind.i64.wrap (l - (n : Int)) < 0 then -1 else IntKind.i64.wrap (l - (n : Int)) := by
  have w : IntKind.i64.wrap (l - (n : Int)) = l - (n : Int) := wrap_id (by omega) (by omega)
  rw [w]; rfl
theorem szLeft_bd {l : Int} {n : Nat} (hl : 0 ≤ l ∧ l ≤ 1048576) : -1 ≤ szLeft l n ∧ szLeft l n ≤ 1048576 ∧ (0 ≤ szLeft l n → n ≤ 1048576) := by
  unfold szLeft; split <;> omega
def g_szS : PC := fun args => match args with
  | [.l _ rows, .v (.int .i64 l)] => some ((0 ≤ l ∧ l ≤ 1048576) ∧ rows.length ≤ 9223372036854775807 ∧ ∃ sz, ∀ r ∈ rows, r.length = sz, .v (.int .i64 (szLeft l rows.length)), [])
  | _ => none
theorem map_of {α β : Type} (F : α → β) (p : α → Prop) : ∀ l : List β, (∀ b ∈ l, ∃ a, b = F a ∧ p a) → ∃ xa : List α, l = xa.map F ∧ ∀ a ∈ xa, p a
  | [], _ => ⟨[], rfl, fun a h => by cases h⟩
  | b :: l, h => by
    obtain ⟨a, ha, hp⟩ := h b (by simp)
    obtain ⟨xa, h1, h2⟩ := map_of F p l fun c hc => h c (by simp [hc])
    exact ⟨a :: xa, by rw [ha, h1]; rfl, fun c hc => by
      rcases List.mem_cons.1 hc with rfl | hc
      · exact hp
      · exact h2 c hc⟩
theorem wt_row {row : List KD} {d : D} (h : WT (.sl row) d) : ∃ rows, d = .l row.length rows ∧ rows.length ≤ maxLen ∧ ∀ r ∈ rows, r.length = row.length ∧ ∀ (j : Nat) k x, row[j]? = some k → r[j]? = some x → WT k x := by
  cases h with
  | sl row rows hn hl h =>
    refine ⟨rows, rfl, hn, fun r hr => ⟨hl r hr, fun j k x h1 h2 => ?_⟩⟩
    obtain ⟨i, hi, rfl⟩ := List.getElem_of_mem hr
    exact h i j k x h1 (by unfold rowAt; rw [List.getElem?_eq_getElem hi]; exact h2)
theorem wt_int {k : IntKind} {d : D} (h : WT (.int k) d) : ∃ n, d = .v (.int k n) ∧ (Lit.int k n).wf = true := by
  cases h with
  | int k n h => exact ⟨n, rfl, h⟩
end Go.Proofs.Ythbcoakimbpkgaa
