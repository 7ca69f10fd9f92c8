import Derived.Test.YthbcoakimbpkgaaKj
import Derived.Test.YthbcoakimbpkgaaKl
import Derived.Test.YthbcoakimbpkgaaVf
import Derived.Test.YthbcoakimbpkgaaVk
set_option linter.unusedVariables false
set_option linter.unusedSimpArgs false
namespace Go.Proofs.Ythbcoakimbpkgaa
open Go.RowKit
set_option linter.unusedSimpArgs false
def lkc : List (FuncId × Abs) := [(18, pureAbs g_alive), (39, pureAbs g_findRoom), (40, pureAbs g_findRoom), (35, pureAbs g_pathRoom), (38, ownAbs (ocOf g_drawFr))]
theorem lkc_ok : ∀ p ∈ lkc, CallOk Try.prog p.1 p.2 := by
  intro p hp
  simp only [lkc, List.mem_cons, List.not_mem_nil, or_false] at hp
  rcases hp with rfl | rfl | rfl | rfl | rfl
  · exact alive_ok.call
  · exact implFindRoom_ok.call
  · exact specFindRoom_ok.call
  · exact implPathRoom_ok.call
  · exact drawFindRoom_ok.call
set_option maxHeartbeats 8000000 in
set_option maxRecDepth 100000 in
theorem lawFindRoom_ok : PureOk Try.prog 8 g_true := by
  refine PureOk.of_vc (G := lkc) lkc_ok mixed Try.func8 (by kernel_rfl) rfl ?_
  intro args cnd r bs hg hc
  unfold g_true at hg
  split at hg
  · rename_i sz rows
    cases hg
    obtain ⟨xs, rfl⟩ := hc
    refine ⟨⟨rfl, by simp, by simp [AV.ids, AV.ids.idsL]⟩, [.l 1 (rowsOfBytes xs)], rfl, fun w vs h => CvL.ok (.cons (.l _ _ _ (rowsOf_w xs)) .nil) h, ?_⟩
    obtain ⟨ys, hys⟩ : ∃ ys, ys = List.take 2000 xs := ⟨_, rfl⟩
    by_cases h20 : (xs.length : Int) > 1048576
    · have e20 : ((xs.length : Int) > 1048576) = True := eq_true h20
      simp (maxSteps := 3000000) only [Try.f8, lkc, e20, g_alive, g_findRoom, g_pathRoom, ocOf, g_drawFr, bytesOf_rows, rowsOf_len, stsOf_rows, rtsOf_rows, stRows_len, rtRows_len, ↓reduceIte, Bool.false_eq_true, D.toI, D.toL, tYs, evL, implies_true, oMin, oCopy, oBin, oUn, oLoadKid, oStoreTree, oField, oExtract, oNil, oSliceQ, oLen, nodupB, treeOf, kidAbs, kidRows, TK.isCell, D.toL, oLoad, oStore, oMake, oIndexAddr, ↓reduceIte, reduceCtorEq, Nat.reduceBEq, Nat.reduceAdd, Nat.reduceMul, Nat.reduceLT, Nat.reduceSub, Nat.reduceLeDiff, Nat.reduceEqDiff, Nat.reduceBneDiff, Int.reduceToNat, decide_eq_true_eq, decide_eq_false_iff_not, beq_iff_eq, Int.toNat_natCast, loopK_normal, loopK_exit, loopK_ret, bne_self_eq_false]
      exact ⟨_, [], rfl, ⟨⟨⟨rfl, rfl, rfl⟩, trivial⟩, trivial, by simp [rn, hpAt]⟩⟩
    have e20 : ((xs.length : Int) > 1048576) = False := eq_false h20
    have hnb := netV_bd ys 0 20 (by omega)
    have hqb := netQ_bd ys 0 20 (by omega)
    obtain ⟨L, hL⟩ : ∃ L, L = dtN ys := ⟨_, rfl⟩
    have hL' := hL.symm
    obtain ⟨Q, hQ⟩ : ∃ Q, Q = dtQ ys := ⟨_, rfl⟩
    have hQ' := hQ.symm
    rw [show netV ys 0 20 = L from hL'] at hnb
    rw [show netQ ys 0 20 = Q from hQ'] at hqb
    clear hL hQ
    have hmid : sMid L := ⟨by omega, fun x hx => by have := hnb.2 x hx; omega⟩
    obtain ⟨N, hN⟩ : ∃ N, pickV ys Q (L.length : Int) = N := ⟨_, rfl⟩
    obtain ⟨T, hT⟩ : ∃ T, 10 + pickV ys (Q + 1) 6 = T := ⟨_, rfl⟩
    obtain ⟨Z, hZ⟩ : ∃ Z, pickV ys (Q + 1 + 1) 50 = Z := ⟨_, rfl⟩
    by_cases hz : 1 ≤ Z ∧ Z ≤ 48
    · have a1 : (Z < 1) = False := eq_false (by omega)
      have a2 : (Z > 48) = False := eq_false (by omega)
      have a3 : (fdV L N T Z = if rmV L N T < Z then rmV L N T else Z) = True := by
        refine eq_true ?_
        have hin : inZ Z 1 48 = true := by rw [inZ, decide_eq_true_eq]; exact hz
        rw [fdV, hin, Bool.and_true]
        cases hb : rmB L N T with
        | true =>
          have hv : rmV L N T = roomV L N.toNat T := by rw [rmV, if_pos hb]
          rw [if_pos rfl, hv, Int.min_def]
          split <;> split <;> omega
        | false =>
          have hv : rmV L N T = 0 := by rw [rmV, if_neg (by rw [hb]; decide)]
          rw [hv, if_neg (by decide), if_pos (by omega)]
      simp (maxSteps := 3000000) only [Try.f8, lkc, e20, ← hys, hL', hQ', hN, hT, hZ, a1, a2, a3, g_alive, g_findRoom, g_pathRoom, ocOf, g_drawFr, bytesOf_rows, rowsOf_len, stsOf_rows, rtsOf_rows, stRows_len, rtRows_len, ↓reduceIte, Bool.false_eq_true, D.toI, D.toL, tYs, evL, implies_true, oMin, oCopy, oBin, oUn, oLoadKid, oStoreTree, oField, oExtract, oNil, oSliceQ, oLen, nodupB, treeOf, kidAbs, kidRows, TK.isCell, D.toL, oLoad, oStore, oMake, oIndexAddr, ↓reduceIte, reduceCtorEq, Nat.reduceBEq, Nat.reduceAdd, Nat.reduceMul, Nat.reduceLT, Nat.reduceSub, Nat.reduceLeDiff, Nat.reduceEqDiff, Nat.reduceBneDiff, Int.reduceToNat, decide_eq_true_eq, decide_eq_false_iff_not, beq_iff_eq, Int.toNat_natCast, loopK_normal, loopK_exit, loopK_ret, bne_self_eq_false]
      refine ⟨⟨xs, rfl⟩, ⟨L, rfl, hmid⟩, ⟨L, rfl, hmid⟩, ⟨L, rfl, hmid⟩, ?_⟩
      exact ⟨_, [], rfl, ⟨⟨⟨rfl, rfl, rfl⟩, trivial⟩, trivial, by simp [rn, hpAt]⟩⟩
    have a0 : fdV L N T Z = 0 := by
      have hin : inZ Z 1 48 = false := by rw [inZ, decide_eq_false_iff_not]; exact hz
      rw [fdV, hin, Bool.and_false, if_neg (by decide)]
    by_cases h1 : Z < 1
    · have a1 : (Z < 1) = True := eq_true h1
      simp (maxSteps := 3000000) only [Try.f8, lkc, e20, ← hys, hL', hQ', hN, hT, hZ, a0, a1, g_alive, g_findRoom, g_pathRoom, ocOf, g_drawFr, bytesOf_rows, rowsOf_len, stsOf_rows, rtsOf_rows, stRows_len, rtRows_len, ↓reduceIte, Bool.false_eq_true, D.toI, D.toL, tYs, evL, implies_true, oMin, oCopy, oBin, oUn, oLoadKid, oStoreTree, oField, oExtract, oNil, oSliceQ, oLen, nodupB, treeOf, kidAbs, kidRows, TK.isCell, D.toL, oLoad, oStore, oMake, oIndexAddr, ↓reduceIte, reduceCtorEq, Nat.reduceBEq, Nat.reduceAdd, Nat.reduceMul, Nat.reduceLT, Nat.reduceSub, Nat.reduceLeDiff, Nat.reduceEqDiff, Nat.reduceBneDiff, Int.reduceToNat, decide_eq_true_eq, decide_eq_false_iff_not, beq_iff_eq, Int.toNat_natCast, loopK_normal, loopK_exit, loopK_ret, bne_self_eq_false]
      refine ⟨⟨xs, rfl⟩, ⟨L, rfl, hmid⟩, ⟨L, rfl, hmid⟩, ?_⟩
      exact ⟨_, [], rfl, ⟨⟨⟨rfl, rfl, rfl⟩, trivial⟩, trivial, by simp [rn, hpAt]⟩⟩
    · have a1 : (Z < 1) = False := eq_false h1
      have a2 : (Z > 48) = True := eq_true (by omega)
      simp (maxSteps := 3000000) only [Try.f8, lkc, e20, ← hys, hL', hQ', hN, hT, hZ, a0, a1, a2, g_alive, g_findRoom, g_pathRoom, ocOf, g_drawFr, bytesOf_rows, rowsOf_len, stsOf_rows, rtsOf_rows, stRows_len, rtRows_len, ↓reduceIte, Bool.false_eq_true, D.toI, D.toL, tYs, evL, implies_true, oMin, oCopy, oBin, oUn, oLoadKid, oStoreTree, oField, oExtract, oNil, oSliceQ, oLen, nodupB, treeOf, kidAbs, kidRows, TK.isCell, D.toL, oLoad, oStore, oMake, oIndexAddr, ↓reduceIte, reduceCtorEq, Nat.reduceBEq, Nat.reduceAdd, Nat.reduceMul, Nat.reduceLT, Nat.reduceSub, Nat.reduceLeDiff, Nat.reduceEqDiff, Nat.reduceBneDiff, Int.reduceToNat, decide_eq_true_eq, decide_eq_false_iff_not, beq_iff_eq, Int.toNat_natCast, loopK_normal, loopK_exit, loopK_ret, bne_self_eq_false]
      refine ⟨⟨xs, rfl⟩, ⟨L, rfl, hmid⟩, ⟨L, rfl, hmid⟩, ?_⟩
      exact ⟨_, [], rfl, ⟨⟨⟨rfl, rfl, rfl⟩, trivial⟩, trivial, by simp [rn, hpAt]⟩⟩
  · cases hg
theorem walk_FindRoom (A : Option Addr) (n c : Nat) (xs : List UInt8) (w : World) (h : Rd w w.heap.size A n (bv xs)) (hc : n ≤ c) :
    Calls Try.prog 8 #[.slice A n c] w fun e w' => e = .returned (.bool true) ∧ Below w.heap.size w w' :=
  lawFindRoom_ok.walk (vs := [_]) (arel_cons (.l _ _ _ (rep_of_rd h hc)) arel_nil) rfl ⟨xs, rfl⟩
end Go.Proofs.Ythbcoakimbpkgaa
