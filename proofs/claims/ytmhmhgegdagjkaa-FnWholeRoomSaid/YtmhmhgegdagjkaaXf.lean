import Derived.Test.YtmhmhgegdagjkaaXe
namespace Go.Proofs.Ytmhmhgegdagjkaa
open Go.RowKit
set_option linter.unusedSimpArgs false
set_option linter.unusedVariables false
set_option maxRecDepth 100000 in
theorem l5CopyS_ok : PureOk Try.prog 69 g_packetCopiedS := by
  refine PureOk.of_vc (G := []) (by simp) mixed Try.func69 (by kernel_rfl) rfl ?_
  intro args cnd r bs hg hc
  unfold g_packetCopiedS at hg
  split at hg
  · rename_i f t p h i a m u sz rows
    cases hg
    obtain ⟨xs, rfl, hl⟩ := hc
    refine ⟨⟨rfl, by simpa [flatB] using rowsOf_flat xs, by simp [AV.ids, AV.ids.idsL]⟩, [.agg [.v (.int .i64 f), .v (.int .i64 t), .v (.int .i64 p), .v (.int .i64 h), .v (.int .i64 i), .v (.int .i64 a), .v (.bool m), .v (.bool u), .l 1 (rowsOfBytes xs)]], rfl, fun w vs h => CvL.ok (.cons (.cons (.refl _) (.cons (.refl _) (.cons (.refl _) (.cons (.refl _) (.cons (.refl _) (.cons (.refl _) (.cons (.refl _) (.cons (.refl _) (.cons (.l _ _ _ (rowsOf_w xs)) .nil))))))))) .nil) h, ?_⟩
    simp (maxSteps := 3000000) only [Try.f69, rowsOf_len, tYs, evL, implies_true, oMin, oCopy, oBin, oUn, oLoadKid, oStoreTree, oField, oExtract, oNil, oSliceQ, oLen, nodupB, treeOf, kidAbs, kidRows, TK.isCell, D.toL, oLoad, oStore, oMake, oIndexAddr, ↓reduceIte, reduceCtorEq, Nat.reduceBEq, Nat.reduceAdd, Nat.reduceMul, Nat.reduceLT, Nat.reduceSub, Nat.reduceLeDiff, Nat.reduceEqDiff, Nat.reduceBneDiff, Int.reduceToNat, decide_eq_true_eq, decide_eq_false_iff_not, beq_iff_eq, Int.toNat_natCast]
    exact ⟨⟨by omega, by omega, rowsOf_w _⟩, _, [(0, some _)], rfl, ⟨⟨⟨rfl, rfl, rfl⟩, trivial⟩, ⟨.inl rfl, rfl, rfl, rfl, trivial⟩, by simp [rn, hpAt]⟩⟩
  · cases hg
theorem l5Copy_ok : PureOk Try.prog 69 g_packetCopied := l5CopyS_ok.toTree fun args c r bs' h => by
  unfold g_packetCopied at h
  split at h
  · cases h; exact ⟨_, rfl, rfl⟩
  · cases h
end Go.Proofs.Ytmhmhgegdagjkaa
