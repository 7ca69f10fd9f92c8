import Derived.Test.YtegffkmakkccaaaQd
import Derived.Test.YtegffkmakkccaaaQb
import Derived.Test.YtegffkmakkccaaaQg
import Derived.Test.YtegffkmakkccaaaVi
set_option linter.unusedVariables false
set_option linter.unusedSimpArgs false
namespace Go.Proofs.Ytegffkmakkccaaa
open Go.RowKit
set_option linter.unusedSimpArgs false
theorem sent_ok {f t p h i a o : Int} {m u : Bool} {xs ds : List UInt8} (h0 : pkB f t p h i a m u xs.length = true) (ho : 0 ≤ o ∧ o ≤ 65535) (hd : ds.length ≤ 24) : pkB o f 1 64 i 0 false false ds.length = true := by
  have hk := pkR_of h0
  rw [pkB, Bool.and_eq_true]
  refine ⟨by rw [pkR, decide_eq_true_eq]; omega, rfl⟩
theorem ne_parts {f t p h i a : Int} {m u : Bool} {xs : List UInt8} {o : Int} (h0 : neOk f t p h i a m u xs o = true) : pkB f t p h i a m u xs.length = true ∧ t = o ∧ nfOk xs = true := by
  rw [neOk] at h0
  simp only [Bool.and_eq_true, decide_eq_true_eq] at h0
  exact ⟨h0.1.1.1.1.1.1, h0.1.1.1.1.1.2, h0.1.2⟩
theorem ne_out {f t p h i a : Int} {m u : Bool} {xs : List UInt8} {o : Int} (h0 : neOk f t p h i a m u xs o = true) :
    pkB o f 1 64 i 0 false false (neD xs).length = true ∧ nFault 1 (neD xs) = false ∧ neOk o f 1 64 i 0 false false (neD xs) f = false ∧ nfOk (neD xs) = true ∧ nfN (neD xs) = nfN xs ∧ nfD (neD xs) = nfD xs := by
  obtain ⟨h1, rfl, h3⟩ := ne_parts h0
  have hb0 := noteB_of (nf_nt h3)
  have hb : noteB 2 (nfN xs) (nfD xs).length = true := by
    rw [noteB, decide_eq_true_eq]
    exact ⟨by omega, hb0.2⟩
  obtain ⟨k0, k1, k2, k3⟩ := nt_back hb
  have hk := pkR_of h1
  refine ⟨sent_ok h1 hk.1.2 (nt_le _ _ _), ?_, ?_, k0, k2, k3⟩
  · rw [nFault, neD, k1]; simp [inZ]
  · rw [neOk, neD, k1]; simp
def lqf : List (FuncId × Abs) := [(13, pureAbs g_alive), (24, pureAbs g_sameBytes), (17, pureAbs g_samePacket), (19, pureAbs g_packetOk), (25, pureAbs g_noteFault), (23, pureAbs g_noteFrom), (21, pureAbs g_noteEchoed), (22, pureAbs g_noteEchoed), (20, ownAbs (ocOf g_drawNe))]
theorem lqf_ok : ∀ p ∈ lqf, CallOk Try.prog p.1 p.2 := by
  intro p hp
  simp only [lqf, List.mem_cons, List.not_mem_nil, or_false] at hp
  rcases hp with rfl | rfl | rfl | rfl | rfl | rfl | rfl | rfl | rfl
  · exact alive_ok.call
  · exact sameBytes_ok.call
  · exact samePacket_ok.call
  · exact implPacketOk_ok.call
  · exact implNoteFault_ok.call
  · exact implNoteFrom_ok.call
  · exact implNoteEchoed_ok.call
  · exact specNoteEchoed_ok.call
  · exact drawNoteEchoed_ok.call
set_option maxHeartbeats 4000000 in
set_option maxRecDepth 100000 in
theorem lawNoteEchoed_ok : PureOk Try.prog 5 g_true := by
  refine PureOk.of_vc (G := lqf) lqf_ok mixed Try.func5 (by kernel_rfl) rfl ?_
  intro args cnd r bs hg hc
  unfold g_true at hg
  split at hg
  · rename_i sz rows
    cases hg
    obtain ⟨xs, rfl⟩ := hc
    refine ⟨⟨rfl, by simp, by simp [AV.ids, AV.ids.idsL]⟩, [.l 1 (rowsOfBytes xs)], rfl, fun w vs h => CvL.ok (.cons (.l _ _ _ (rowsOf_w xs)) .nil) h, ?_⟩
    obtain ⟨ys, hys⟩ : ∃ ys, ys = List.take 2000 xs := ⟨_, rfl⟩
    have hb := (ndV_q ys 0 12).2.2
    obtain ⟨V, hV⟩ : ∃ V, V = naW ys := ⟨_, rfl⟩
    have hV' := hV.symm
    have hb : V.d.length ≤ 49 := by rw [hV]; exact hb
    obtain ⟨o, ho⟩ : ∃ o, neO ys = o := ⟨_, rfl⟩
    clear hV
    rcases hok : neOk V.f V.t V.pr V.h V.i V.a V.m V.u V.d o with _ | _
    · simp (maxSteps := 3000000) only [Try.f5, lqf, ← hys, hV', ho, hok, g_alive, g_sameBytes, g_samePacket, g_packetOk, g_noteFault, g_noteFrom, g_noteEchoed, ocOf, g_drawNe, bytesOf_rows, rowsOf_len, ↓reduceIte, Bool.false_eq_true, tYs, evL, implies_true, oMin, oCopy, oBin, oUn, oLoadKid, oStoreTree, oField, oExtract, oNil, oSliceQ, oLoadRow, takeCells, TS.atRow, TS.ex, treeMode, AV.isOwn, TK.isSl, nilTk, nilsB, oLenQ, oLen, nodupB, treeOf, kidAbs, kidRows, TK.isCell, D.toL, oLoad, oStore, oMake, oIndexAddr, ↓reduceIte, reduceCtorEq, Nat.reduceBEq, Nat.reduceAdd, Nat.reduceMul, Nat.reduceLT, Nat.reduceSub, Nat.reduceLeDiff, Nat.reduceEqDiff, Nat.reduceBneDiff, Int.reduceToNat, decide_eq_true_eq, decide_eq_false_iff_not, beq_iff_eq, Int.toNat_natCast, bne_self_eq_false]
      split
      · (refine ⟨_, [], rfl, ⟨⟨⟨?_, rfl, rfl⟩, trivial⟩, by simp [hpAt, fitH], by simp [hpAt]⟩⟩; refine congrArg (fun b => AV.v (Value.bool b)) ?_; first | rfl | (rw [Bool.eq_iff_iff]; simp only [decide_eq_true_eq, frB, inZ, Bool.false_eq_true, beq_eq_false_iff_ne, beq_iff_eq, ne_eq, decide_eq_false_iff_not, Bool.not_eq_eq_eq_not, Bool.not_true, Bool.not_false, false_iff, iff_false, true_iff, iff_true] at *; omega))
      · (repeat (first | (refine And.intro ?_ ?_; focus (((repeat' apply And.intro) <;> first | exact rowsOf_w _ | omega | (simp only [List.length_append, rowsOf_len, List.length_cons, List.length_nil, marks_len, List.length_take, List.length_drop, List.length_set]; omega) | exact ⟨_, rfl⟩ | (refine ⟨_, rfl, ?_⟩; omega) | (refine ⟨_, rfl, ?_⟩; simp only [List.length_append, rowsOf_len, List.length_cons, List.length_nil, marks_len, List.length_take, List.length_drop, List.length_set]; omega) | kernel_rfl | (simp; done)); done)) | (rw [if_neg]; rotate_left; focus (omega; done)) | (rw [if_pos]; rotate_left; focus (omega; done))))
        (refine ⟨_, [], rfl, ⟨⟨⟨?_, rfl, rfl⟩, trivial⟩, by simp [hpAt, fitH], by simp [hpAt]⟩⟩; refine congrArg (fun b => AV.v (Value.bool b)) ?_; first | rfl | (rw [Bool.eq_iff_iff]; simp only [decide_eq_true_eq, frB, inZ, Bool.false_eq_true, beq_eq_false_iff_ne, beq_iff_eq, ne_eq, decide_eq_false_iff_not, Bool.not_eq_eq_eq_not, Bool.not_true, Bool.not_false, false_iff, iff_false, true_iff, iff_true] at *; omega))
    · have hlen := nt_le 2 (nfN V.d) (nfD V.d)
      have hdl := nfD_len V.d
      obtain ⟨k0, k1, k2, k3, k4, k5⟩ := ne_out hok
      obtain ⟨DD, hD⟩ : ∃ DD, neD V.d = DD := ⟨_, rfl⟩
      have hlen : DD.length ≤ 24 := by rw [← hD]; exact hlen
      rw [hD] at k0 k1 k2 k3 k4 k5
      simp (maxSteps := 3000000) only [Try.f5, lqf, ← hys, hV', ho, hok, hD, k0, k1, k2, k3, k4, k5, g_alive, g_sameBytes, g_samePacket, g_packetOk, g_noteFault, g_noteFrom, g_noteEchoed, ocOf, g_drawNe, bytesOf_rows, rowsOf_len, ↓reduceIte, Bool.false_eq_true, tYs, evL, implies_true, oMin, oCopy, oBin, oUn, oLoadKid, oStoreTree, oField, oExtract, oNil, oSliceQ, oLoadRow, takeCells, TS.atRow, TS.ex, treeMode, AV.isOwn, TK.isSl, nilTk, nilsB, oLenQ, oLen, nodupB, treeOf, kidAbs, kidRows, TK.isCell, D.toL, oLoad, oStore, oMake, oIndexAddr, ↓reduceIte, reduceCtorEq, Nat.reduceBEq, Nat.reduceAdd, Nat.reduceMul, Nat.reduceLT, Nat.reduceSub, Nat.reduceLeDiff, Nat.reduceEqDiff, Nat.reduceBneDiff, Int.reduceToNat, decide_eq_true_eq, decide_eq_false_iff_not, beq_iff_eq, Int.toNat_natCast, bne_self_eq_false]
      split
      · (refine ⟨_, [], rfl, ⟨⟨⟨?_, rfl, rfl⟩, trivial⟩, by simp [hpAt, fitH], by simp [hpAt]⟩⟩; refine congrArg (fun b => AV.v (Value.bool b)) ?_; first | rfl | (rw [Bool.eq_iff_iff]; simp only [decide_eq_true_eq, frB, inZ, Bool.false_eq_true, beq_eq_false_iff_ne, beq_iff_eq, ne_eq, decide_eq_false_iff_not, Bool.not_eq_eq_eq_not, Bool.not_true, Bool.not_false, false_iff, iff_false, true_iff, iff_true] at *; omega))
      · (repeat (first | (refine And.intro ?_ ?_; focus (((repeat' apply And.intro) <;> first | exact rowsOf_w _ | omega | (simp only [List.length_append, rowsOf_len, List.length_cons, List.length_nil, marks_len, List.length_take, List.length_drop, List.length_set]; omega) | exact ⟨_, rfl⟩ | (refine ⟨_, rfl, ?_⟩; omega) | (refine ⟨_, rfl, ?_⟩; simp only [List.length_append, rowsOf_len, List.length_cons, List.length_nil, marks_len, List.length_take, List.length_drop, List.length_set]; omega) | kernel_rfl | (simp; done)); done)) | (rw [if_neg]; rotate_left; focus (omega; done)) | (rw [if_pos]; rotate_left; focus (omega; done))))
        (refine ⟨_, [], rfl, ⟨⟨⟨?_, rfl, rfl⟩, trivial⟩, by simp [hpAt, fitH], by simp [hpAt]⟩⟩; refine congrArg (fun b => AV.v (Value.bool b)) ?_; first | rfl | (rw [Bool.eq_iff_iff]; simp only [decide_eq_true_eq, frB, inZ, Bool.false_eq_true, beq_eq_false_iff_ne, beq_iff_eq, ne_eq, decide_eq_false_iff_not, Bool.not_eq_eq_eq_not, Bool.not_true, Bool.not_false, false_iff, iff_false, true_iff, iff_true] at *; omega))
  · cases hg
theorem walk_NoteEchoed (A : Option Addr) (n c : Nat) (xs : List UInt8) (w : World) (h : Rd w w.heap.size A n (bv xs)) (hc : n ≤ c) :
    Calls Try.prog 5 #[.slice A n c] w fun e w' => e = .returned (.bool true) ∧ Below w.heap.size w w' :=
  lawNoteEchoed_ok.walk (vs := [_]) (arel_cons (.l _ _ _ (rep_of_rd h hc)) arel_nil) rfl ⟨xs, rfl⟩
end Go.Proofs.Ytegffkmakkccaaa
