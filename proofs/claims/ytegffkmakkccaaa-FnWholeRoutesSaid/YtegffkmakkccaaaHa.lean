import Derived.Test.YtegffkmakkccaaaKm
import Derived.Test.YtegffkmakkccaaaHm
import Derived.Test.YtegffkmakkccaaaVi
namespace Go.Proofs.Ytegffkmakkccaaa
open Go.RowKit
set_option linter.unusedSimpArgs false
set_option linter.unusedVariables false
structure HS where
  d : Bool
  w : Pk
  b : Bool
  F : List Pt
def hs0 : HS := ⟨false, pk0, false, []⟩
end Go.Proofs.Ytegffkmakkccaaa
namespace Go.Proofs.Ytegffkmakkccaaa
open Go.RowKit
set_option linter.unusedSimpArgs false
set_option linter.unusedVariables false
theorem OwnOk.narrow {P : Program} {f : FuncId} {g g' : OC} (C : OwnOk P f g) (h : ∀ args B0 c r B1 bs, g' args B0 = some (c, r, B1, bs) → c → ∃ c0, g args B0 = some (c0, r, B1, bs) ∧ c0) : OwnOk P f g' :=
  ⟨C.there, fun w F Z0 s0 args vs B0 c r B1 bs hH hargs hlive hg hc => by
    obtain ⟨c0, h1, h2⟩ := h args B0 c r B1 bs hg hc
    exact C.does w F Z0 s0 args vs B0 c0 r B1 bs hH hargs hlive h1 h2⟩
def g_samePackets : PC := fun args => match args with
  | [.l _ rows, .l _ rows'] => some (∃ ps, rows = pRows ps ∧ rows' = pRows ps ∧ ps.length ≤ 1048576, .v (.bool true), [])
  | _ => none
def hsp1 : List (FuncId × Abs) := [(17, pureAbs g_samePacket)]
theorem hsp1_ok : ∀ p ∈ hsp1, CallOk Try.prog p.1 p.2 := by
  intro p hp
  simp only [hsp1, List.mem_cons, List.not_mem_nil, or_false] at hp
  rcases hp with rfl
  · exact samePacket_ok.call
set_option maxRecDepth 100000 in
theorem samePackets_ok : PureOk Try.prog 37 g_samePackets := by
  refine PureOk.of_vc (G := hsp1) hsp1_ok mixed Try.func37 (by kernel_rfl) rfl ?_
  intro args cnd r bs hg hc
  unfold g_samePackets at hg
  split at hg
  · rename_i sz rows sz' rows'
    cases hg
    obtain ⟨ps, rfl, rfl, hn⟩ := hc
    refine ⟨⟨rfl, by simp, by simp [AV.ids, AV.ids.idsL]⟩, [.l 9 (pRows ps), .l 9 (pRows ps)], rfl, fun w vs h => CvL.ok (.cons (.l _ _ _ (pRows_w ps)) (.cons (.l _ _ _ (pRows_w ps)) .nil)) h, ?_⟩
    simp (maxSteps := 3000000) only [Try.f37, hsp1, pRows_len, bne_self_eq_false, Bool.false_eq_true, ↓reduceIte, tYs, evL, implies_true, oMin, oCopy, oBin, oUn, oLoadKid, oStoreTree, oField, oExtract, oNil, oSliceQ, oLoadRow, takeCells, TS.atRow, TS.ex, treeMode, AV.isOwn, TK.isSl, nilTk, nilsB, oLenQ, oLen, nodupB, treeOf, kidAbs, kidRows, TK.isCell, D.toL, oLoad, oStore, oMake, oIndexAddr, ↓reduceIte, reduceCtorEq, Nat.reduceBEq, Nat.reduceAdd, Nat.reduceMul, Nat.reduceLT, Nat.reduceSub, Nat.reduceLeDiff, Nat.reduceEqDiff, Nat.reduceBneDiff, Int.reduceToNat, decide_eq_true_eq, decide_eq_false_iff_not, beq_iff_eq, Int.toNat_natCast]
    refine e_loop _ _ _ _ _ _ _ _ (fun k : Nat => [.l 9 (pRows ps), .l 9 (pRows ps), .any, .any, .any, .v (.int .i64 (k : Int))] ++ List.replicate (Try.f37.ntmps - 6) .any) (fun k => []) (fun k => k ≤ ps.length) (fun k => ps.length - k) 0 (fun k => by simp) ?_ fun k hk' => ?_
    · exact ⟨0, [], Nat.zero_le _, ⟨⟨⟨rfl, rfl, rfl⟩, ⟨rfl, rfl, rfl⟩, trivial, trivial, trivial, ⟨rfl, rfl, rfl⟩, fitT_rep _ _ rfl⟩, trivial, by simp [rn, hpAt]⟩, by simp [keepIds]⟩
    have w2 : IntKind.i64.wrap ((k : Int) + 1) = ((k + 1 : Nat) : Int) := by rw [wrap_id] <;> omega
    by_cases hk : k < ps.length
    · have hrow := pRows_get ps k hk
      have hlt : ((k : Int) < (ps.length : Int)) = True := eq_true (by omega)
      have h0 : (0 ≤ (k : Int)) = True := eq_true (by omega)
      simp (maxSteps := 3000000) only [Try.f37, hsp1, pRows_len, rowsOf_len, bytesOf_rows, g_samePacket, hrow, hlt, h0, D.toI, dB, D.toB, D.toL, pRow, tYs, evL, implies_true, oMin, oCopy, oBin, oUn, oLoadKid, oStoreTree, oField, oExtract, oNil, oSliceQ, oLoadRow, takeCells, TS.atRow, TS.ex, treeMode, AV.isOwn, TK.isSl, nilTk, nilsB, oLenQ, oLen, nodupB, treeOf, kidAbs, kidRows, TK.isCell, D.toL, oLoad, oStore, oMake, oIndexAddr, ↓reduceIte, reduceCtorEq, Nat.reduceBEq, Nat.reduceAdd, Nat.reduceMul, Nat.reduceLT, Nat.reduceSub, Nat.reduceLeDiff, Nat.reduceEqDiff, Nat.reduceBneDiff, Int.reduceToNat, decide_eq_true_eq, decide_eq_false_iff_not, beq_iff_eq, Int.toNat_natCast, loopK_normal, loopK_exit, loopK_ret, w2, true_and, and_true, and_self, decide_true, Bool.not_true, Bool.false_eq_true, ↓reduceIte]
      exact ⟨⟨_, rfl⟩, by kernel_rfl, k + 1, [], by omega, by omega, ⟨⟨⟨rfl, rfl, rfl⟩, ⟨rfl, rfl, rfl⟩, trivial, trivial, trivial, ⟨rfl, rfl, rfl⟩, fitT_rep _ _ rfl⟩, trivial, by simp [rn, hpAt]⟩, by simp [keepIds]⟩
    · have hlt : ((k : Int) < (ps.length : Int)) = False := eq_false (by omega)
      simp (maxSteps := 3000000) only [Try.f37, hsp1, pRows_len, hlt, tYs, evL, implies_true, oMin, oCopy, oBin, oUn, oLoadKid, oStoreTree, oField, oExtract, oNil, oSliceQ, oLoadRow, takeCells, TS.atRow, TS.ex, treeMode, AV.isOwn, TK.isSl, nilTk, nilsB, oLenQ, oLen, nodupB, treeOf, kidAbs, kidRows, TK.isCell, D.toL, oLoad, oStore, oMake, oIndexAddr, ↓reduceIte, reduceCtorEq, Nat.reduceBEq, Nat.reduceAdd, Nat.reduceMul, Nat.reduceLT, Nat.reduceSub, Nat.reduceLeDiff, Nat.reduceEqDiff, Nat.reduceBneDiff, Int.reduceToNat, decide_eq_true_eq, decide_eq_false_iff_not, beq_iff_eq, Int.toNat_natCast, loopK_normal, loopK_exit, loopK_ret, w2]
      exact ⟨_, [], rfl, ⟨⟨⟨rfl, rfl, rfl⟩, trivial⟩, trivial, by simp [rn, hpAt]⟩⟩
  · cases hg
def hln : List (FuncId × Abs) := [(114, ownAbs g_packet), (58, ownAbs g_pick), (152, ownAbs g_bytes)]
end Go.Proofs.Ytegffkmakkccaaa
