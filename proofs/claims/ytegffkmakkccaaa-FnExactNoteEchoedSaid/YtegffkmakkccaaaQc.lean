import Derived.Test.YtegffkmakkccaaaQb
import Derived.Test.YtegffkmakkccaaaQg
import Derived.Test.YtegffkmakkccaaaVd
set_option linter.unusedVariables false
set_option linter.unusedSimpArgs false
namespace Go.Proofs.Ytegffkmakkccaaa
open Go.RowKit
set_option linter.unusedSimpArgs false
def g_xn4 : PC := fun args => match args with
  | [.agg [.v (.int .i64 f), .v (.int .i64 t), .v (.int .i64 p), .v (.int .i64 h), .v (.int .i64 i), .v (.int .i64 a), .v (.bool m), .v (.bool u), .l _ rows], .v (.int .i64 o)] => some (rows.length ≤ 9223372036854775807 ∧ ∃ xs, rows = rowsOfBytes xs, .v (.bool true), [])
  | _ => none
theorem neA_len (f t p h i a : Int) (m u : Bool) (xs : List UInt8) (o : Int) : (if neOk f t p h i a m u xs o = true then neD xs else []).length ≤ 24 := by
  split
  · exact nt_le _ _ _
  · simp
def xnf : List (FuncId × Abs) := [(38, pureAbs g_szPacket), (39, pureAbs g_toPacket), (40, pureAbs g_eqPacket), (41, ownAbs g_markPacket), (42, pureAbs g_heldPacket), (21, pureAbs g_noteEchoed), (22, pureAbs g_noteEchoed)]
theorem xnf_ok : ∀ p ∈ xnf, CallOk Try.prog p.1 p.2 := by
  intro p hp
  simp only [xnf, List.mem_cons, List.not_mem_nil, or_false] at hp
  rcases hp with rfl | rfl | rfl | rfl | rfl | rfl | rfl
  · exact szPacket_ok.call
  · exact toPacket_ok.call
  · exact eqPacket_ok.call
  · exact markPacket_ok.call
  · exact heldPacket_ok.call
  · exact implNoteEchoed_ok.call
  · exact specNoteEchoed_ok.call
set_option maxHeartbeats 4000000 in
set_option maxRecDepth 100000 in
theorem lawExactNoteEchoed_ok : PureOk Try.prog 8 g_xn4 := by
  refine PureOk.of_vc (G := xnf) xnf_ok mixed Try.func8 (by kernel_rfl) rfl ?_
  intro args cnd r bs hg hc
  unfold g_xn4 at hg
  split at hg
  · rename_i f t p h i a m u sz rows o
    cases hg
    obtain ⟨hn, xs, rfl⟩ := hc
    rw [rowsOf_len] at hn
    refine ⟨⟨rfl, by simp, by simp [AV.ids, AV.ids.idsL]⟩, [.agg [.v (.int .i64 f), .v (.int .i64 t), .v (.int .i64 p), .v (.int .i64 h), .v (.int .i64 i), .v (.int .i64 a), .v (.bool m), .v (.bool u), (.l 1 (rowsOfBytes xs))], .v (.int .i64 o)], rfl, fun w vs h => CvL.ok (.cons (.cons (.refl _) (.cons (.refl _) (.cons (.refl _) (.cons (.refl _) (.cons (.refl _) (.cons (.refl _) (.cons (.refl _) (.cons (.refl _) (.cons (.l _ _ _ (rowsOf_w xs)) .nil))))))))) (.cons (.refl _) .nil)) h, ?_⟩
    simp (maxSteps := 3000000) only [Try.f8, xnf, g_szPacket, g_toPacket, g_eqPacket, g_markPacket, g_heldPacket, g_noteEchoed, bytesOf_rows, rowsOf_len, marks_len, bne_self_eq_false, tYs, evL, implies_true, oMin, oCopy, oBin, oUn, oLoadKid, oStoreTree, oField, oExtract, oNil, oSliceQ, oLoadRow, takeCells, TS.atRow, TS.ex, treeMode, AV.isOwn, TK.isSl, nilTk, nilsB, oLenQ, oLen, nodupB, treeOf, kidAbs, kidRows, TK.isCell, D.toL, oLoad, oStore, oMake, oIndexAddr, ↓reduceIte, reduceCtorEq, Nat.reduceBEq, Nat.reduceAdd, Nat.reduceMul, Nat.reduceLT, Nat.reduceSub, Nat.reduceLeDiff, Nat.reduceEqDiff, Nat.reduceBneDiff, Int.reduceToNat, decide_eq_true_eq, decide_eq_false_iff_not, beq_iff_eq, Int.toNat_natCast]
    have hb := szLeft_bd (l := 1048576) (n := xs.length) (by omega)
    refine ⟨⟨by omega, hn, _, rfl⟩, ?_⟩
    by_cases hz : szLeft 1048576 xs.length < 0
    · rw [if_pos hz]
      (refine ⟨_, [], rfl, ⟨⟨⟨?_, rfl, rfl⟩, trivial⟩, by simp [hpAt, fitH], by simp [hpAt]⟩⟩; refine congrArg (fun b => AV.v (Value.bool b)) ?_; first | rfl | (rw [Bool.eq_iff_iff]; simp only [decide_eq_true_eq, frB, inZ, Bool.false_eq_true, beq_eq_false_iff_ne, beq_iff_eq, ne_eq, decide_eq_false_iff_not, Bool.not_eq_eq_eq_not, Bool.not_true, Bool.not_false, false_iff, iff_false, true_iff, iff_true] at *; omega))
    · rw [if_neg hz]
      have hx := hb.2.2 (by omega)
      have hv := neA_len f t p h i a m u xs o
      clear hz hb hn
      (repeat (first | (refine And.intro ?_ ?_; focus (((repeat' apply And.intro) <;> first | exact rowsOf_w _ | omega | (simp only [List.length_append, rowsOf_len, List.length_cons, List.length_nil, marks_len, List.length_take, List.length_drop, List.length_set]; omega) | exact ⟨_, rfl⟩ | (refine ⟨_, rfl, ?_⟩; omega) | (refine ⟨_, rfl, ?_⟩; simp only [List.length_append, rowsOf_len, List.length_cons, List.length_nil, marks_len, List.length_take, List.length_drop, List.length_set]; omega) | kernel_rfl | (simp; done)); done)) | (rw [if_neg]; rotate_left; focus (omega; done)) | (rw [if_pos]; rotate_left; focus (omega; done))))
      clear hx hv
      refine ⟨_, [], rfl, ?_⟩
      (refine ⟨?_, ?_, ?_⟩ <;> simp [packA, hpAt, fitT, fit1, fitH, fitB, trE, emptyB, rn, lk, AV.ren, AV.ren.renL, Blk.ren, blkIds, blkPids, AV.ids, AV.ids.idsL, AV.pids, AV.pids.pidsL, Blk.there])
  · cases hg
theorem walk_ExactNoteEchoed (cs : Array Value) (ds : List D) (o0 : Int) (w : World) (H : Reads w packetKinds ds cs.toList) (_ : (Lit.int .i64 o0).wf = true) :
    Calls Try.prog 8 #[.agg cs, .int .i64 o0] w fun e w' => e = .returned (.bool true) ∧ Below w.heap.size w w' := by
  obtain ⟨f, t, p, h, i, a, m, u, xs, hr, hx⟩ := packet_in H
  exact lawExactNoteEchoed_ok.walk (vs := [_, _]) (arel_cons hr (arel_cons (.v _) arel_nil)) rfl ⟨by rw [rowsOf_len]; exact hx, _, rfl⟩
end Go.Proofs.Ytegffkmakkccaaa
