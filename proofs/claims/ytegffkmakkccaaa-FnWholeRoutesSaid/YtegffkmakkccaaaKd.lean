import Derived.Test.YtegffkmakkccaaaYh
import Derived.Test.YtegffkmakkccaaaKa
set_option linter.unusedVariables false
set_option linter.unusedSimpArgs false
namespace Go.Proofs.Ytegffkmakkccaaa
open Go.RowKit
def viaV (xs : List UInt8) (many k j : Int) (p : Int) : Int := if pickV xs (p + 1) 20 = 0 then 10 + pickV xs (p + 1 + 1) (many + 1) else if j < k then 10 + k - 1 else 10 + k + 1
def viaP (xs : List UInt8) (p : Int) : Int := if pickV xs (p + 1) 20 = 0 then p + 1 + 1 + 1 else p + 1 + 1
def njStep (xs : List UInt8) (many k : Int) (s : List RE × Int) (j : Int) : List RE × Int :=
  if j = k then s else if 0 < pickV xs s.2 12 then (putV s.1 ⟨10 + j, 16, viaV xs many k j s.2, 3 + pickV xs (viaP xs s.2) 4 * 4⟩, viaP xs s.2 + 1) else (s.1, s.2 + 1)
def njK (xs : List UInt8) (many k : Int) (p : Int) : Nat → List RE × Int
  | 0 => ([], p)
  | j + 1 => njStep xs many k (njK xs many k p j) (j : Int)
def nkEnd (xs : List UInt8) (many : Int) (s : List RE × Int) : List RE × Int :=
  if pickV xs s.2 4 = 0 then (putV s.1 ⟨0, 0, 10 + pickV xs (s.2 + 1) many, 8⟩, s.2 + 1 + 1) else (s.1, s.2 + 1)
def nkK (xs : List UInt8) (many : Int) (p : Int) : Nat → List St × Int
  | 0 => ([], p)
  | k + 1 => ((nkK xs many p k).1 ++ [⟨10 + (k : Int), (nkEnd xs many (njK xs many (k : Int) (nkK xs many p k).2 many.toNat)).1⟩], (nkEnd xs many (njK xs many (k : Int) (nkK xs many p k).2 many.toNat)).2)
def manyV (xs : List UInt8) (p : Int) : Int := 1 + pickV xs p 5
def netL (xs : List UInt8) (p : Int) : List St × Int := nkK xs (manyV xs p) (p + 1) (manyV xs p).toNat
def netV (xs : List UInt8) (p n : Int) : List St := if oddB xs (netL xs p).2 n = true then (netL xs p).1 ++ [(netL xs p).1.getD 0 st0] else (netL xs p).1
def netQ (xs : List UInt8) (p n : Int) : Int := (netL xs p).2 + oneIf n
theorem viaP_bd (xs : List UInt8) (p : Int) : p + 2 ≤ viaP xs p ∧ viaP xs p ≤ p + 3 := by
  rw [viaP]; split <;> omega
theorem njStep_bd (xs : List UInt8) (many k j : Int) (s : List RE × Int) (h : s.1.length ≤ 8) : (njStep xs many k s j).1.length ≤ 8 ∧ s.2 ≤ (njStep xs many k s j).2 ∧ (njStep xs many k s j).2 ≤ s.2 + 4 := by
  have := viaP_bd xs s.2
  rw [njStep]
  split
  · exact ⟨h, by omega, by omega⟩
  · split
    · exact ⟨putV_len _, by dsimp only; omega, by dsimp only; omega⟩
    · exact ⟨h, by dsimp only; omega, by dsimp only; omega⟩
theorem njK_bd (xs : List UInt8) (many k p : Int) : ∀ j : Nat, (njK xs many k p j).1.length ≤ 8 ∧ p ≤ (njK xs many k p j).2 ∧ (njK xs many k p j).2 ≤ p + 4 * (j : Int)
  | 0 => ⟨Nat.zero_le _, by simp [njK], by simp [njK]⟩
  | j + 1 => by
    obtain ⟨h1, h2, h3⟩ := njK_bd xs many k p j
    obtain ⟨a1, a2, a3⟩ := njStep_bd xs many k (j : Int) (njK xs many k p j) h1
    exact ⟨a1, by rw [njK]; omega, by rw [njK]; omega⟩
theorem nkEnd_bd (xs : List UInt8) (many : Int) (s : List RE × Int) (h : s.1.length ≤ 8) : (nkEnd xs many s).1.length ≤ 8 ∧ s.2 + 1 ≤ (nkEnd xs many s).2 ∧ (nkEnd xs many s).2 ≤ s.2 + 2 := by
  rw [nkEnd]
  split
  · exact ⟨putV_len _, by dsimp only; omega, by dsimp only; omega⟩
  · exact ⟨h, by dsimp only; omega, by dsimp only; omega⟩
theorem nkK_bd (xs : List UInt8) (many p : Int) (hm : 0 ≤ many ∧ many ≤ 5) : ∀ k : Nat, (nkK xs many p k).1.length = k ∧ (∀ s ∈ (nkK xs many p k).1, s.rs.length ≤ 8) ∧ p ≤ (nkK xs many p k).2 ∧ (nkK xs many p k).2 ≤ p + 22 * (k : Int)
  | 0 => ⟨rfl, fun s hs => (by cases hs), by simp [nkK], by simp [nkK]⟩
  | k + 1 => by
    obtain ⟨h1, h2, h3, h4⟩ := nkK_bd xs many p hm k
    obtain ⟨a1, a2, a3⟩ := njK_bd xs many (k : Int) (nkK xs many p k).2 many.toNat
    obtain ⟨b1, b2, b3⟩ := nkEnd_bd xs many _ a1
    refine ⟨by rw [nkK]; simp [h1], fun s hs => ?_, by rw [nkK]; dsimp only; omega, by rw [nkK]; dsimp only; omega⟩
    rw [nkK] at hs
    rcases List.mem_append.1 hs with hs | hs
    · exact h2 s hs
    · rw [List.mem_singleton.1 hs]; exact b1
theorem manyV_bd (xs : List UInt8) (p : Int) (h : p < 100000000000) : 1 ≤ manyV xs p ∧ manyV xs p ≤ 5 := by
  have a1 := pickV_nonneg xs p 5 (by omega)
  have a2 := pickV_lt xs p 5 (by omega)
  rw [manyV]; omega
theorem netL_bd (xs : List UInt8) (p : Int) (h : p < 100000000000) : (1 ≤ (netL xs p).1.length ∧ (netL xs p).1.length ≤ 5) ∧ (∀ s ∈ (netL xs p).1, s.rs.length ≤ 8) ∧ p ≤ (netL xs p).2 ∧ (netL xs p).2 ≤ p + 111 := by
  have hm := manyV_bd xs p h
  obtain ⟨h1, h2, h3, h4⟩ := nkK_bd xs (manyV xs p) (p + 1) (by omega) (manyV xs p).toNat
  rw [netL]
  exact ⟨by omega, h2, by omega, by omega⟩
theorem netV_bd (xs : List UInt8) (p n : Int) (h : p < 100000000000) : (1 ≤ (netV xs p n).length ∧ (netV xs p n).length ≤ 6) ∧ ∀ s ∈ netV xs p n, s.rs.length ≤ 8 := by
  obtain ⟨h1, h2, _⟩ := netL_bd xs p h
  rw [netV]
  split
  · refine ⟨by rw [List.length_append, List.length_singleton]; omega, fun s hs => ?_⟩
    rcases List.mem_append.1 hs with hs | hs
    · exact h2 s hs
    · rw [List.mem_singleton.1 hs, st_get (by omega)]
      exact h2 _ (List.getElem_mem _)
  · exact ⟨by omega, h2⟩
end Go.Proofs.Ytegffkmakkccaaa
