import Derived.Test.YtegffkmakkccaaaVa
set_option linter.unusedVariables false
set_option linter.unusedSimpArgs false
namespace Go.Proofs.Ytegffkmakkccaaa
open Go.RowKit
set_option linter.unusedSimpArgs false
def prB (f t p h i a : Int) (m u : Bool) (n : Nat) (o : Int) : Bool := pkB f t p h i a m u n && decide (t = o) && decide (a = 0) && !m
def g_reached : PC := fun args => match args with
  | [.agg [.v (.int .i64 f), .v (.int .i64 t), .v (.int .i64 p), .v (.int .i64 h), .v (.int .i64 i), .v (.int .i64 a), .v (.bool m), .v (.bool u), .l _ rows], .v (.int .i64 o)] => some (True, .v (.bool (prB f t p h i a m u rows.length o)), [])
  | _ => none
def prc : List (FuncId × Abs) := [(19, pureAbs g_packetOk)]
theorem prc_ok : ∀ p ∈ prc, CallOk Try.prog p.1 p.2 := by
  intro p hp
  simp only [prc, List.mem_cons, List.not_mem_nil, or_false] at hp
  rcases hp with rfl
  · exact implPacketOk_ok.call
set_option maxRecDepth 100000 in
theorem packetReached_ok : PureOk Try.prog 74 g_reached := by
  refine PureOk.of_vc (G := prc) prc_ok mixed Try.func74 (by kernel_rfl) rfl ?_
  intro args cnd r bs hg hc
  unfold g_reached at hg
  split at hg
  · rename_i f t p h i a m u sz rows o
    cases hg
    refine ⟨⟨rfl, by simp, by simp [AV.ids, AV.ids.idsL]⟩, _, rfl, fun w vs h => h, ?_⟩
    simp (maxSteps := 3000000) only [Try.f74, prc, g_packetOk, tYs, evL, implies_true, oMin, oCopy, oBin, oUn, oLoadKid, oStoreTree, oField, oExtract, oNil, oSliceQ, oLoadRow, takeCells, TS.atRow, TS.ex, treeMode, AV.isOwn, TK.isSl, nilTk, nilsB, oLenQ, oLen, nodupB, treeOf, kidAbs, kidRows, TK.isCell, D.toL, oLoad, oStore, oMake, oIndexAddr, ↓reduceIte, reduceCtorEq, Nat.reduceBEq, Nat.reduceAdd, Nat.reduceMul, Nat.reduceLT, Nat.reduceSub, Nat.reduceLeDiff, Nat.reduceEqDiff, Nat.reduceBneDiff, Int.reduceToNat, decide_eq_true_eq, decide_eq_false_iff_not, beq_iff_eq, Int.toNat_natCast]
    rcases hB : pkB f t p h i a m u rows.length with _ | _
    · rw [if_neg (by simp), prB, hB]
      exact ⟨_, [], rfl, ⟨⟨⟨rfl, rfl, rfl⟩, trivial⟩, trivial, by simp [rn, hpAt]⟩⟩
    rw [if_pos rfl]
    by_cases h1 : t = o
    · rw [if_pos h1]
      by_cases h2 : a = 0
      · rw [if_pos h2, prB, hB, decide_eq_true h1, decide_eq_true h2]
        exact ⟨_, [], rfl, ⟨⟨⟨rfl, rfl, rfl⟩, trivial⟩, trivial, by simp [rn, hpAt]⟩⟩
      · rw [if_neg h2, prB, hB, decide_eq_true h1, decide_eq_false h2]
        exact ⟨_, [], rfl, ⟨⟨⟨rfl, rfl, rfl⟩, trivial⟩, trivial, by simp [rn, hpAt]⟩⟩
    · rw [if_neg h1, prB, hB, decide_eq_false h1]
      exact ⟨_, [], rfl, ⟨⟨⟨rfl, rfl, rfl⟩, trivial⟩, trivial, by simp [rn, hpAt]⟩⟩
  · cases hg
end Go.Proofs.Ytegffkmakkccaaa
