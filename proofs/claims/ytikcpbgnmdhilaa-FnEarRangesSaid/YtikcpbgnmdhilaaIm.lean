import Derived.Test.YtikcpbgnmdhilaaIt
set_option linter.unusedVariables false
set_option linter.unusedSimpArgs false
namespace Go.Proofs.Ytikcpbgnmdhilaa
open Go.RowKit
set_option linter.unusedSimpArgs false
theorem eaB_one : eaB ⟨0, 1, [], []⟩ = true := by decide
theorem ersOf_nil : ersOf [] = [] := rfl
theorem bytesOf_nil : bytesOfRows [] = [] := rfl
def lea1 : List (FuncId × Abs) := [(12, pureAbs g_alive), (10, pureAbs g_earOk), (11, pureAbs g_earOk), (9, ownAbs (ocOf (g_drawEa 2)))]
theorem lea1_ok : ∀ p ∈ lea1, CallOk Try.prog p.1 p.2 := by
  intro p hp
  simp only [lea1, List.mem_cons, List.not_mem_nil, or_false] at hp
  rcases hp with rfl | rfl | rfl | rfl
  · exact alive_ok.call
  · exact implEarOk_ok.call
  · exact specEarOk_ok.call
  · exact drawEarOk_ok.call
set_option maxHeartbeats 8000000 in
set_option maxRecDepth 100000 in
theorem lawEarOk_ok : PureOk Try.prog 3 g_true := by
  refine PureOk.of_vc (G := lea1) lea1_ok mixed Try.func3 (by kernel_rfl) rfl ?_
  intro args cnd r bs hg hc
  unfold g_true at hg
  split at hg
  · rename_i sz rows
    cases hg
    obtain ⟨xs, rfl⟩ := hc
    refine ⟨⟨rfl, by simp, by simp [AV.ids, AV.ids.idsL]⟩, [.l 1 (rowsOfBytes xs)], rfl, fun w vs h => CvL.ok (.cons (.l _ _ _ (rowsOf_w xs)) .nil) h, ?_⟩
    obtain ⟨ys, hys⟩ : ∃ ys, ys = List.take 2000 xs := ⟨_, rfl⟩
    by_cases h20 : (xs.length : Int) > 1048576
    · have e20 : ((xs.length : Int) > 1048576) = True := eq_true h20
      simp (maxSteps := 3000000) only [Try.f3, lea1, e20, g_alive, g_earOk, ocOf, g_drawEa, bytesOf_rows, rowsOf_len, ersOf_rows, erRows_len, ersOf_nil, bytesOf_nil, ↓reduceIte, Bool.false_eq_true, Bool.not_true, Bool.not_false, tYs, evL, implies_true, oMin, x_min3, oMin3, x_max, oMax, oCopy, oBin, oUn, oLoadKid, oStoreTree, oField, oExtract, oNil, oSliceQ, oSliceE, x_appendZ, oAppendZ, oSliceEnd, endMode, oLoadRow, takeCells, TS.atRow, TS.ex, treeMode, AV.isOwn, TK.isSl, nilTk, nilsB, oLenQ, oLen, nodupB, treeOf, kidAbs, kidRows, TK.isCell, D.toL, oLoad, oStore, oMake, oIndexAddr, ↓reduceIte, reduceCtorEq, Nat.reduceBEq, Nat.reduceAdd, Nat.reduceMul, Nat.reduceLT, Nat.reduceSub, Nat.reduceLeDiff, Nat.reduceEqDiff, Nat.reduceBneDiff, Int.reduceToNat, decide_eq_true_eq, decide_eq_false_iff_not, beq_iff_eq, Int.toNat_natCast, loopK_normal, loopK_exit, loopK_ret, bne_self_eq_false]
      exact ⟨_, [], rfl, ⟨⟨⟨rfl, rfl, rfl⟩, trivial⟩, trivial, by simp [rn, hpAt]⟩⟩
    have e20 : ((xs.length : Int) > 1048576) = False := eq_false h20
    have hmid := (esV_mid ys 0 2 (by omega)).2
    obtain ⟨V, hV⟩ : ∃ V, V = (esV ys 0 2).2 := ⟨_, rfl⟩
    have hV' := hV.symm
    rw [hV'] at hmid
    clear hV
    obtain ⟨m1, m2, m3, m4⟩ := hmid
    obtain ⟨n, room, g, fr⟩ := V
    dsimp only at m1 m2 m3 m4
    rcases hok : eaB ⟨n, room, g, fr⟩ with _ | _
    · simp (maxSteps := 3000000) only [Try.f3, lea1, e20, ← hys, hV', hok, eaB_one, g_alive, g_earOk, ocOf, g_drawEa, bytesOf_rows, rowsOf_len, ersOf_rows, erRows_len, ersOf_nil, bytesOf_nil, ↓reduceIte, Bool.false_eq_true, Bool.not_true, Bool.not_false, tYs, evL, implies_true, oMin, x_min3, oMin3, x_max, oMax, oCopy, oBin, oUn, oLoadKid, oStoreTree, oField, oExtract, oNil, oSliceQ, oSliceE, x_appendZ, oAppendZ, oSliceEnd, endMode, oLoadRow, takeCells, TS.atRow, TS.ex, treeMode, AV.isOwn, TK.isSl, nilTk, nilsB, oLenQ, oLen, nodupB, treeOf, kidAbs, kidRows, TK.isCell, D.toL, oLoad, oStore, oMake, oIndexAddr, ↓reduceIte, reduceCtorEq, Nat.reduceBEq, Nat.reduceAdd, Nat.reduceMul, Nat.reduceLT, Nat.reduceSub, Nat.reduceLeDiff, Nat.reduceEqDiff, Nat.reduceBneDiff, Int.reduceToNat, decide_eq_true_eq, decide_eq_false_iff_not, beq_iff_eq, Int.toNat_natCast, loopK_normal, loopK_exit, loopK_ret, bne_self_eq_false]
      repeat' first
        | (refine And.intro ?_ ?_; focus (omega; done))
        | (refine And.intro ?_ ?_; focus (exact ⟨xs, rfl⟩))
        | (refine And.intro ?_ ?_; focus (exact ⟨⟨_, rfl, by omega⟩, _, rfl, by omega⟩))
        | (refine And.intro ?_ ?_; focus (exact ⟨⟨_, rfl, by omega⟩, [], rfl, by simp⟩))
        | (refine And.intro ?_ ?_; focus (exact ⟨⟨[], rfl, by simp⟩, [], rfl, by simp⟩))
        | (refine And.intro ?_ ?_; focus (exact ⟨⟨_, rfl, rfl⟩, ⟨_, rfl, rfl, by omega⟩, rfl, rfl⟩))
        | (refine And.intro ?_ ?_; focus (exact ⟨_, rfl⟩))
        | (refine And.intro ?_ ?_; focus (exact ⟨⟨_, rfl⟩, _, rfl, rfl, by omega⟩))
        | (refine And.intro ?_ ?_; focus (exact ⟨by omega, rowsOf_w _⟩))
        | (refine And.intro ?_ ?_; focus (exact ⟨⟨_, rfl, by omega⟩, ⟨_, rfl, by omega⟩, _, rfl, by omega⟩))
        | (refine And.intro ?_ ?_; focus (exact ⟨⟨⟨_, rfl, by omega⟩, _, rfl, by omega⟩, _, rfl, by omega⟩))
        | (refine And.intro ?_ ?_; focus (exact ⟨⟨_, rfl⟩, _, rfl⟩))
        | (refine And.intro ?_ ?_; focus (exact ⟨by omega, by omega, rowsOf_w _⟩))
        | (refine And.intro ?_ ?_; focus (exact ⟨by simp only [List.length_append, rowsOf_len, erRows_len, List.length_cons, List.length_nil, marks_len, List.length_take, List.length_drop, List.length_set, List.length_map, List.length_range]; omega, by simp only [List.length_append, rowsOf_len, erRows_len, List.length_cons, List.length_nil, marks_len, List.length_take, List.length_drop, List.length_set, List.length_map, List.length_range]; omega, rowsOf_w _⟩))
        | (refine And.intro ?_ ?_; focus (kernel_rfl))
      exact ⟨_, [], rfl, ⟨⟨⟨rfl, rfl, rfl⟩, trivial⟩, trivial, by simp [rn, hpAt]⟩⟩
    · have hbr : eaB ⟨n, room, g, []⟩ = true := ea_bare hok
      have hct : (g.length : Int) + (fr.length : Int) ≤ room := ea_count hok
      have hct' : ((g.length : Int) + (fr.length : Int) ≤ room) = True := eq_true hct
      have w1 : IntKind.i64.wrap ((g.length : Int) + (fr.length : Int)) = (g.length : Int) + (fr.length : Int) := wrap_id (by omega) (by omega)
      simp (maxSteps := 3000000) only [Try.f3, lea1, e20, ← hys, hV', hok, eaB_one, hbr, hct', w1, g_alive, g_earOk, ocOf, g_drawEa, bytesOf_rows, rowsOf_len, ersOf_rows, erRows_len, ersOf_nil, bytesOf_nil, ↓reduceIte, Bool.false_eq_true, Bool.not_true, Bool.not_false, tYs, evL, implies_true, oMin, x_min3, oMin3, x_max, oMax, oCopy, oBin, oUn, oLoadKid, oStoreTree, oField, oExtract, oNil, oSliceQ, oSliceE, x_appendZ, oAppendZ, oSliceEnd, endMode, oLoadRow, takeCells, TS.atRow, TS.ex, treeMode, AV.isOwn, TK.isSl, nilTk, nilsB, oLenQ, oLen, nodupB, treeOf, kidAbs, kidRows, TK.isCell, D.toL, oLoad, oStore, oMake, oIndexAddr, ↓reduceIte, reduceCtorEq, Nat.reduceBEq, Nat.reduceAdd, Nat.reduceMul, Nat.reduceLT, Nat.reduceSub, Nat.reduceLeDiff, Nat.reduceEqDiff, Nat.reduceBneDiff, Int.reduceToNat, decide_eq_true_eq, decide_eq_false_iff_not, beq_iff_eq, Int.toNat_natCast, loopK_normal, loopK_exit, loopK_ret, bne_self_eq_false]
      repeat' first
        | (refine And.intro ?_ ?_; focus (omega; done))
        | (refine And.intro ?_ ?_; focus (exact ⟨xs, rfl⟩))
        | (refine And.intro ?_ ?_; focus (exact ⟨⟨_, rfl, by omega⟩, _, rfl, by omega⟩))
        | (refine And.intro ?_ ?_; focus (exact ⟨⟨_, rfl, by omega⟩, [], rfl, by simp⟩))
        | (refine And.intro ?_ ?_; focus (exact ⟨⟨[], rfl, by simp⟩, [], rfl, by simp⟩))
        | (refine And.intro ?_ ?_; focus (exact ⟨⟨_, rfl, rfl⟩, ⟨_, rfl, rfl, by omega⟩, rfl, rfl⟩))
        | (refine And.intro ?_ ?_; focus (exact ⟨_, rfl⟩))
        | (refine And.intro ?_ ?_; focus (exact ⟨⟨_, rfl⟩, _, rfl, rfl, by omega⟩))
        | (refine And.intro ?_ ?_; focus (exact ⟨by omega, rowsOf_w _⟩))
        | (refine And.intro ?_ ?_; focus (exact ⟨⟨_, rfl, by omega⟩, ⟨_, rfl, by omega⟩, _, rfl, by omega⟩))
        | (refine And.intro ?_ ?_; focus (exact ⟨⟨⟨_, rfl, by omega⟩, _, rfl, by omega⟩, _, rfl, by omega⟩))
        | (refine And.intro ?_ ?_; focus (exact ⟨⟨_, rfl⟩, _, rfl⟩))
        | (refine And.intro ?_ ?_; focus (exact ⟨by omega, by omega, rowsOf_w _⟩))
        | (refine And.intro ?_ ?_; focus (exact ⟨by simp only [List.length_append, rowsOf_len, erRows_len, List.length_cons, List.length_nil, marks_len, List.length_take, List.length_drop, List.length_set, List.length_map, List.length_range]; omega, by simp only [List.length_append, rowsOf_len, erRows_len, List.length_cons, List.length_nil, marks_len, List.length_take, List.length_drop, List.length_set, List.length_map, List.length_range]; omega, rowsOf_w _⟩))
        | (refine And.intro ?_ ?_; focus (kernel_rfl))
      exact ⟨_, [], rfl, ⟨⟨⟨rfl, rfl, rfl⟩, trivial⟩, trivial, by simp [rn, hpAt]⟩⟩
  · cases hg
theorem walk_EarOk (A : Option Addr) (n c : Nat) (xs : List UInt8) (w : World) (h : Rd w w.heap.size A n (bv xs)) (hc : n ≤ c) :
    Calls Try.prog 3 #[.slice A n c] w fun e w' => e = .returned (.bool true) ∧ Below w.heap.size w w' :=
  lawEarOk_ok.walk (vs := [_]) (arel_cons (.l _ _ _ (rep_of_rd h hc)) arel_nil) rfl ⟨xs, rfl⟩
def lea2 : List (FuncId × Abs) := [(12, pureAbs g_alive), (10, pureAbs g_earOk), (14, pureAbs g_earFree), (16, ownAbs (ocOf g_earReadD)), (15, pureAbs g_earFree), (13, ownAbs (ocOf (g_drawEa 9)))]
theorem lea2_ok : ∀ p ∈ lea2, CallOk Try.prog p.1 p.2 := by
  intro p hp
  simp only [lea2, List.mem_cons, List.not_mem_nil, or_false] at hp
  rcases hp with rfl | rfl | rfl | rfl | rfl | rfl
  · exact alive_ok.call
  · exact implEarOk_ok.call
  · exact implEarFree_ok.call
  · exact implEarReadD_ok.call
  · exact specEarFree_ok.call
  · exact drawEarFree_ok.call
set_option maxHeartbeats 8000000 in
set_option maxRecDepth 100000 in
theorem lawEarFree_ok : PureOk Try.prog 4 g_true := by
  refine PureOk.of_vc (G := lea2) lea2_ok mixed Try.func4 (by kernel_rfl) rfl ?_
  intro args cnd r bs hg hc
  unfold g_true at hg
  split at hg
  · rename_i sz rows
    cases hg
    obtain ⟨xs, rfl⟩ := hc
    refine ⟨⟨rfl, by simp, by simp [AV.ids, AV.ids.idsL]⟩, [.l 1 (rowsOfBytes xs)], rfl, fun w vs h => CvL.ok (.cons (.l _ _ _ (rowsOf_w xs)) .nil) h, ?_⟩
    obtain ⟨ys, hys⟩ : ∃ ys, ys = List.take 2000 xs := ⟨_, rfl⟩
    by_cases h20 : (xs.length : Int) > 1048576
    · have e20 : ((xs.length : Int) > 1048576) = True := eq_true h20
      simp (maxSteps := 3000000) only [Try.f4, lea2, e20, g_alive, g_earOk, g_earFree, ocOf, g_earReadD, g_drawEa, bytesOf_rows, rowsOf_len, ersOf_rows, erRows_len, ersOf_nil, bytesOf_nil, ↓reduceIte, Bool.false_eq_true, Bool.not_true, Bool.not_false, tYs, evL, implies_true, oMin, x_min3, oMin3, x_max, oMax, oCopy, oBin, oUn, oLoadKid, oStoreTree, oField, oExtract, oNil, oSliceQ, oSliceE, x_appendZ, oAppendZ, oSliceEnd, endMode, oLoadRow, takeCells, TS.atRow, TS.ex, treeMode, AV.isOwn, TK.isSl, nilTk, nilsB, oLenQ, oLen, nodupB, treeOf, kidAbs, kidRows, TK.isCell, D.toL, oLoad, oStore, oMake, oIndexAddr, ↓reduceIte, reduceCtorEq, Nat.reduceBEq, Nat.reduceAdd, Nat.reduceMul, Nat.reduceLT, Nat.reduceSub, Nat.reduceLeDiff, Nat.reduceEqDiff, Nat.reduceBneDiff, Int.reduceToNat, decide_eq_true_eq, decide_eq_false_iff_not, beq_iff_eq, Int.toNat_natCast, loopK_normal, loopK_exit, loopK_ret, bne_self_eq_false]
      exact ⟨_, [], rfl, ⟨⟨⟨rfl, rfl, rfl⟩, trivial⟩, trivial, by simp [rn, hpAt]⟩⟩
    have e20 : ((xs.length : Int) > 1048576) = False := eq_false h20
    have hmid := (esV_mid ys 0 9 (by omega)).2
    obtain ⟨V, hV⟩ : ∃ V, V = (esV ys 0 9).2 := ⟨_, rfl⟩
    have hV' := hV.symm
    rw [hV'] at hmid
    clear hV
    obtain ⟨m1, m2, m3, m4⟩ := hmid
    obtain ⟨n, room, g, fr⟩ := V
    dsimp only at m1 m2 m3 m4
    rcases hok : eaB ⟨n, room, g, fr⟩ with _ | _
    · simp (maxSteps := 3000000) only [Try.f4, lea2, e20, ← hys, hV', hok, beq_self_eq_true, Bool.and_true, g_alive, g_earOk, g_earFree, ocOf, g_earReadD, g_drawEa, bytesOf_rows, rowsOf_len, ersOf_rows, erRows_len, ersOf_nil, bytesOf_nil, ↓reduceIte, Bool.false_eq_true, Bool.not_true, Bool.not_false, tYs, evL, implies_true, oMin, x_min3, oMin3, x_max, oMax, oCopy, oBin, oUn, oLoadKid, oStoreTree, oField, oExtract, oNil, oSliceQ, oSliceE, x_appendZ, oAppendZ, oSliceEnd, endMode, oLoadRow, takeCells, TS.atRow, TS.ex, treeMode, AV.isOwn, TK.isSl, nilTk, nilsB, oLenQ, oLen, nodupB, treeOf, kidAbs, kidRows, TK.isCell, D.toL, oLoad, oStore, oMake, oIndexAddr, ↓reduceIte, reduceCtorEq, Nat.reduceBEq, Nat.reduceAdd, Nat.reduceMul, Nat.reduceLT, Nat.reduceSub, Nat.reduceLeDiff, Nat.reduceEqDiff, Nat.reduceBneDiff, Int.reduceToNat, decide_eq_true_eq, decide_eq_false_iff_not, beq_iff_eq, Int.toNat_natCast, loopK_normal, loopK_exit, loopK_ret, bne_self_eq_false]
      repeat' first
        | (refine And.intro ?_ ?_; focus (omega; done))
        | (refine And.intro ?_ ?_; focus (exact ⟨xs, rfl⟩))
        | (refine And.intro ?_ ?_; focus (exact ⟨⟨_, rfl, by omega⟩, _, rfl, by omega⟩))
        | (refine And.intro ?_ ?_; focus (exact ⟨⟨_, rfl, by omega⟩, [], rfl, by simp⟩))
        | (refine And.intro ?_ ?_; focus (exact ⟨⟨[], rfl, by simp⟩, [], rfl, by simp⟩))
        | (refine And.intro ?_ ?_; focus (exact ⟨⟨_, rfl, rfl⟩, ⟨_, rfl, rfl, by omega⟩, rfl, rfl⟩))
        | (refine And.intro ?_ ?_; focus (exact ⟨_, rfl⟩))
        | (refine And.intro ?_ ?_; focus (exact ⟨⟨_, rfl⟩, _, rfl, rfl, by omega⟩))
        | (refine And.intro ?_ ?_; focus (exact ⟨by omega, rowsOf_w _⟩))
        | (refine And.intro ?_ ?_; focus (exact ⟨⟨_, rfl, by omega⟩, ⟨_, rfl, by omega⟩, _, rfl, by omega⟩))
        | (refine And.intro ?_ ?_; focus (exact ⟨⟨⟨_, rfl, by omega⟩, _, rfl, by omega⟩, _, rfl, by omega⟩))
        | (refine And.intro ?_ ?_; focus (exact ⟨⟨_, rfl⟩, _, rfl⟩))
        | (refine And.intro ?_ ?_; focus (exact ⟨by omega, by omega, rowsOf_w _⟩))
        | (refine And.intro ?_ ?_; focus (exact ⟨by simp only [List.length_append, rowsOf_len, erRows_len, List.length_cons, List.length_nil, marks_len, List.length_take, List.length_drop, List.length_set, List.length_map, List.length_range]; omega, by simp only [List.length_append, rowsOf_len, erRows_len, List.length_cons, List.length_nil, marks_len, List.length_take, List.length_drop, List.length_set, List.length_map, List.length_range]; omega, rowsOf_w _⟩))
        | (refine And.intro ?_ ?_; focus (kernel_rfl))
      exact ⟨_, [], rfl, ⟨⟨⟨rfl, rfl, rfl⟩, trivial⟩, trivial, by simp [rn, hpAt]⟩⟩
    · have hra := rd_all hok
      have hro := (rd_ok hra.1).1
      have hrv : rdV12 ⟨n, room, g, fr⟩ (g.length : Int) = rdE ⟨n, room, g, fr⟩ (g.length : Int) := if_pos hra.1
      obtain ⟨R, hR⟩ : ∃ R, R = rdE ⟨n, room, g, fr⟩ (g.length : Int) := ⟨_, rfl⟩
      have hR' := hR.symm
      have hRr : R.room = room := by rw [hR]; rfl
      have hRg : R.g.length ≤ g.length := by rw [hR]; show (g.drop _).length ≤ _; rw [List.length_drop]; omega
      have hRf : R.fr = fr := by rw [hR]; rfl
      rw [hR'] at hra hro hrv
      have hrb : eaB ⟨R.n, R.room, R.g, R.fr⟩ = true := hro
      have hrf : eaF ⟨R.n, R.room, R.g, R.fr⟩ = room := hra.2
      have hF0 : 0 ≤ eaF ⟨n, room, g, fr⟩ ∧ eaF ⟨n, room, g, fr⟩ ≤ room := by
        obtain ⟨_, _, k3, _⟩ := eaB_iff.1 hok
        show 0 ≤ room - (g.length : Int) ∧ room - (g.length : Int) ≤ room
        dsimp only at k3
        omega
      obtain ⟨F, hF⟩ : ∃ F, F = eaF ⟨n, room, g, fr⟩ := ⟨_, rfl⟩
      have hF' := hF.symm
      rw [hF'] at hF0
      have hf1 : (F ≥ 0) = True := eq_true (by omega)
      have hf2 : (F ≤ room) = True := eq_true (by omega)
      have hf3 : (0 ≤ F) = True := eq_true (by omega)
      have hRl : R.fr.length ≤ 33 := by rw [hRf]; omega
      clear hF hR
      simp (maxSteps := 3000000) only [Try.f4, lea2, e20, ← hys, hV', hok, hrv, hrb, hrf, hF', hf1, hf2, hf3, beq_self_eq_true, Bool.and_true, decide_true, g_alive, g_earOk, g_earFree, ocOf, g_earReadD, g_drawEa, bytesOf_rows, rowsOf_len, ersOf_rows, erRows_len, ersOf_nil, bytesOf_nil, ↓reduceIte, Bool.false_eq_true, Bool.not_true, Bool.not_false, tYs, evL, implies_true, oMin, x_min3, oMin3, x_max, oMax, oCopy, oBin, oUn, oLoadKid, oStoreTree, oField, oExtract, oNil, oSliceQ, oSliceE, x_appendZ, oAppendZ, oSliceEnd, endMode, oLoadRow, takeCells, TS.atRow, TS.ex, treeMode, AV.isOwn, TK.isSl, nilTk, nilsB, oLenQ, oLen, nodupB, treeOf, kidAbs, kidRows, TK.isCell, D.toL, oLoad, oStore, oMake, oIndexAddr, ↓reduceIte, reduceCtorEq, Nat.reduceBEq, Nat.reduceAdd, Nat.reduceMul, Nat.reduceLT, Nat.reduceSub, Nat.reduceLeDiff, Nat.reduceEqDiff, Nat.reduceBneDiff, Int.reduceToNat, decide_eq_true_eq, decide_eq_false_iff_not, beq_iff_eq, Int.toNat_natCast, loopK_normal, loopK_exit, loopK_ret, bne_self_eq_false]
      repeat' first
        | (refine And.intro ?_ ?_; focus (omega; done))
        | (refine And.intro ?_ ?_; focus (exact ⟨xs, rfl⟩))
        | (refine And.intro ?_ ?_; focus (exact ⟨⟨_, rfl, by omega⟩, _, rfl, by omega⟩))
        | (refine And.intro ?_ ?_; focus (exact ⟨⟨_, rfl, by omega⟩, [], rfl, by simp⟩))
        | (refine And.intro ?_ ?_; focus (exact ⟨⟨[], rfl, by simp⟩, [], rfl, by simp⟩))
        | (refine And.intro ?_ ?_; focus (exact ⟨⟨_, rfl, rfl⟩, ⟨_, rfl, rfl, by omega⟩, rfl, rfl⟩))
        | (refine And.intro ?_ ?_; focus (exact ⟨_, rfl⟩))
        | (refine And.intro ?_ ?_; focus (exact ⟨⟨_, rfl⟩, _, rfl, rfl, by omega⟩))
        | (refine And.intro ?_ ?_; focus (exact ⟨by omega, rowsOf_w _⟩))
        | (refine And.intro ?_ ?_; focus (exact ⟨⟨_, rfl, by omega⟩, ⟨_, rfl, by omega⟩, _, rfl, by omega⟩))
        | (refine And.intro ?_ ?_; focus (exact ⟨⟨⟨_, rfl, by omega⟩, _, rfl, by omega⟩, _, rfl, by omega⟩))
        | (refine And.intro ?_ ?_; focus (exact ⟨⟨_, rfl⟩, _, rfl⟩))
        | (refine And.intro ?_ ?_; focus (exact ⟨by omega, by omega, rowsOf_w _⟩))
        | (refine And.intro ?_ ?_; focus (exact ⟨by simp only [List.length_append, rowsOf_len, erRows_len, List.length_cons, List.length_nil, marks_len, List.length_take, List.length_drop, List.length_set, List.length_map, List.length_range]; omega, by simp only [List.length_append, rowsOf_len, erRows_len, List.length_cons, List.length_nil, marks_len, List.length_take, List.length_drop, List.length_set, List.length_map, List.length_range]; omega, rowsOf_w _⟩))
        | (refine And.intro ?_ ?_; focus (kernel_rfl))
      exact ⟨_, [], rfl, ⟨⟨⟨rfl, rfl, rfl⟩, trivial⟩, trivial, by simp [rn, hpAt]⟩⟩
  · cases hg
theorem walk_EarFree (A : Option Addr) (n c : Nat) (xs : List UInt8) (w : World) (h : Rd w w.heap.size A n (bv xs)) (hc : n ≤ c) :
    Calls Try.prog 4 #[.slice A n c] w fun e w' => e = .returned (.bool true) ∧ Below w.heap.size w w' :=
  lawEarFree_ok.walk (vs := [_]) (arel_cons (.l _ _ _ (rep_of_rd h hc)) arel_nil) rfl ⟨xs, rfl⟩
theorem hrV_mid {e : Ea} {a : Int} {d : List UInt8} {k : Nat} (h : e.g.length ≤ 52) (hf : e.fr.length ≤ 33) (hd : d.length ≤ k) : (hrV e a d).g.length ≤ 85 ∧ (hrV e a d).fr.length ≤ 33 + k := by
  unfold hrV
  split
  · rename_i ho
    have hl := hrW_len e a d d.length
    have hm : hrM e a d ≤ e.fr.length + d.length := Nat.le_trans (runE_le _ _) hl
    have h3 := (hr_ok ho).2.2
    have hb : eaB e = true := by
      simp only [hrO, Bool.and_eq_true] at ho
      exact ho.1.1
    have hc := ea_count hb
    obtain ⟨_, c2, c3, _⟩ := eaB_iff.1 hb
    have hm2 := hrM_le hb a d
    have hF : eaF e ≤ 32 := by unfold eaF; omega
    refine ⟨by omega, ?_⟩
    show ((hrL e a d).drop (hrM e a d)).length ≤ _
    rw [List.length_drop]
    have : (hrL e a d).length ≤ e.fr.length + d.length := hl
    omega
  · exact ⟨Nat.zero_le _, Nat.zero_le _⟩
theorem rdV_mid {e : Ea} {m : Int} (h : e.g.length ≤ 52) (hf : e.fr.length ≤ 33) : (rdV12 e m).g.length ≤ 52 ∧ (rdV12 e m).fr.length ≤ 33 ∧ (rdB12 e m).length ≤ 52 := by
  unfold rdV12 rdB12
  split
  · refine ⟨?_, hf, ?_⟩
    · show (e.g.drop _).length ≤ _
      rw [List.length_drop]; omega
    · rw [List.length_take]; omega
  · exact ⟨Nat.zero_le _, Nat.zero_le _, Nat.zero_le _⟩
def lea3 : List (FuncId × Abs) := [(12, pureAbs g_alive), (21, pureAbs g_sameBytes), (19, pureAbs g_sameEa), (10, pureAbs g_earOk), (16, ownAbs (ocOf g_earReadD)), (23, ownAbs (ocOf g_earReadD)), (22, ownAbs (ocOf g_drawEar))]
theorem lea3_ok : ∀ p ∈ lea3, CallOk Try.prog p.1 p.2 := by
  intro p hp
  simp only [lea3, List.mem_cons, List.not_mem_nil, or_false] at hp
  rcases hp with rfl | rfl | rfl | rfl | rfl | rfl | rfl
  · exact alive_ok.call
  · exact sameBytes_ok.call
  · exact sameEar_ok.call
  · exact implEarOk_ok.call
  · exact implEarReadD_ok.call
  · exact specEarReadD_ok.call
  · exact drawEarRead_ok.call
set_option maxHeartbeats 8000000 in
set_option maxRecDepth 100000 in
theorem lawEarRead_ok : PureOk Try.prog 6 g_true := by
  refine PureOk.of_vc (G := lea3) lea3_ok mixed Try.func6 (by kernel_rfl) rfl ?_
  intro args cnd r bs hg hc
  unfold g_true at hg
  split at hg
  · rename_i sz rows
    cases hg
    obtain ⟨xs, rfl⟩ := hc
    refine ⟨⟨rfl, by simp, by simp [AV.ids, AV.ids.idsL]⟩, [.l 1 (rowsOfBytes xs)], rfl, fun w vs h => CvL.ok (.cons (.l _ _ _ (rowsOf_w xs)) .nil) h, ?_⟩
    obtain ⟨ys, hys⟩ : ∃ ys, ys = List.take 2000 xs := ⟨_, rfl⟩
    by_cases h20 : (xs.length : Int) > 1048576
    · have e20 : ((xs.length : Int) > 1048576) = True := eq_true h20
      simp (maxSteps := 3000000) only [Try.f6, lea3, e20, g_alive, g_sameBytes, g_sameEa, g_earOk, ocOf, g_earReadD, g_drawEar, bytesOf_rows, rowsOf_len, ersOf_rows, erRows_len, ersOf_nil, bytesOf_nil, ↓reduceIte, Bool.false_eq_true, Bool.not_true, Bool.not_false, tYs, evL, implies_true, oMin, x_min3, oMin3, x_max, oMax, oCopy, oBin, oUn, oLoadKid, oStoreTree, oField, oExtract, oNil, oSliceQ, oSliceE, x_appendZ, oAppendZ, oSliceEnd, endMode, oLoadRow, takeCells, TS.atRow, TS.ex, treeMode, AV.isOwn, TK.isSl, nilTk, nilsB, oLenQ, oLen, nodupB, treeOf, kidAbs, kidRows, TK.isCell, D.toL, oLoad, oStore, oMake, oIndexAddr, ↓reduceIte, reduceCtorEq, Nat.reduceBEq, Nat.reduceAdd, Nat.reduceMul, Nat.reduceLT, Nat.reduceSub, Nat.reduceLeDiff, Nat.reduceEqDiff, Nat.reduceBneDiff, Int.reduceToNat, decide_eq_true_eq, decide_eq_false_iff_not, beq_iff_eq, Int.toNat_natCast, loopK_normal, loopK_exit, loopK_ret, bne_self_eq_false]
      exact ⟨_, [], rfl, ⟨⟨⟨rfl, rfl, rfl⟩, trivial⟩, trivial, by simp [rn, hpAt]⟩⟩
    have e20 : ((xs.length : Int) > 1048576) = False := eq_false h20
    have hmid := (esV_mid ys 0 15 (by omega)).2
    have hq := (esV_mid ys 0 15 (by omega)).1
    obtain ⟨V, hV⟩ : ∃ V, V = (dehV ys).2 := ⟨_, rfl⟩
    have hV' := hV.symm
    rw [show (esV ys 0 15).2 = V from hV'] at hmid
    obtain ⟨q, hqq⟩ : ∃ q, q = (dehV ys).1 := ⟨_, rfl⟩
    have hq' := hqq.symm
    rw [show (esV ys 0 15).1 = q from hq'] at hq
    clear hV hqq
    obtain ⟨m1, m2, m3, m4⟩ := hmid
    obtain ⟨n, room, g, fr⟩ := V
    dsimp only at m1 m2 m3 m4
    have t1 := pickV_nonneg ys q 9 (by omega)
    have t2 := pickV_lt ys q 9 (by omega)
    have t3 := pickV_nonneg ys (q + 1) 12 (by omega)
    have t4 := pickV_lt ys (q + 1) 12 (by omega)
    obtain ⟨M, hM⟩ : ∃ M, M = derM ys := ⟨_, rfl⟩
    have hM' := hM.symm
    have hMb : -1 ≤ M ∧ M ≤ 9 := by rw [hM, derM, hq']; omega
    clear hM
    obtain ⟨k1, k2, k3⟩ := rdV_mid (e := ⟨n, room, g, fr⟩) (m := M) m3 m4
    obtain ⟨R, hR⟩ : ∃ R, R = rdV12 ⟨n, room, g, fr⟩ M := ⟨_, rfl⟩
    have hR' := hR.symm
    obtain ⟨B, hB⟩ : ∃ B, B = rdB12 ⟨n, room, g, fr⟩ M := ⟨_, rfl⟩
    have hB' := hB.symm
    rw [hR'] at k1 k2
    rw [hB'] at k3
    by_cases hM0 : M < 0
    · have c0 : (M < 0) = True := eq_true hM0
      rcases hok : eaB ⟨n, room, g, fr⟩ with _ | _
      · have hno : rdO ⟨n, room, g, fr⟩ M = false := by rw [rdO, hok]; rfl
        have hBl : (B.length : Int) = 0 := by rw [hB, rdB12, if_neg (by rw [hno]; decide)]; rfl
        have hBe : ((B.length : Int) == 0) = true := beq_iff_eq.2 hBl
        clear hR hB
        simp (maxSteps := 3000000) only [Try.f6, lea3, e20, ← hys, hV', hM', hok, hR', hB', hBe, beq_self_eq_true, Bool.and_true, c0, g_alive, g_sameBytes, g_sameEa, g_earOk, ocOf, g_earReadD, g_drawEar, bytesOf_rows, rowsOf_len, ersOf_rows, erRows_len, ersOf_nil, bytesOf_nil, ↓reduceIte, Bool.false_eq_true, Bool.not_true, Bool.not_false, tYs, evL, implies_true, oMin, x_min3, oMin3, x_max, oMax, oCopy, oBin, oUn, oLoadKid, oStoreTree, oField, oExtract, oNil, oSliceQ, oSliceE, x_appendZ, oAppendZ, oSliceEnd, endMode, oLoadRow, takeCells, TS.atRow, TS.ex, treeMode, AV.isOwn, TK.isSl, nilTk, nilsB, oLenQ, oLen, nodupB, treeOf, kidAbs, kidRows, TK.isCell, D.toL, oLoad, oStore, oMake, oIndexAddr, ↓reduceIte, reduceCtorEq, Nat.reduceBEq, Nat.reduceAdd, Nat.reduceMul, Nat.reduceLT, Nat.reduceSub, Nat.reduceLeDiff, Nat.reduceEqDiff, Nat.reduceBneDiff, Int.reduceToNat, decide_eq_true_eq, decide_eq_false_iff_not, beq_iff_eq, Int.toNat_natCast, loopK_normal, loopK_exit, loopK_ret, bne_self_eq_false]
        repeat' first
          | (refine And.intro ?_ ?_; focus (omega; done))
          | (refine And.intro ?_ ?_; focus (exact ⟨xs, rfl⟩))
          | (refine And.intro ?_ ?_; focus (exact ⟨⟨_, rfl, by omega⟩, _, rfl, by omega⟩))
          | (refine And.intro ?_ ?_; focus (exact ⟨⟨_, rfl, by omega⟩, [], rfl, by simp⟩))
          | (refine And.intro ?_ ?_; focus (exact ⟨⟨[], rfl, by simp⟩, [], rfl, by simp⟩))
          | (refine And.intro ?_ ?_; focus (exact ⟨⟨_, rfl, rfl⟩, ⟨_, rfl, rfl, by omega⟩, rfl, rfl⟩))
          | (refine And.intro ?_ ?_; focus (exact ⟨_, rfl⟩))
          | (refine And.intro ?_ ?_; focus (exact ⟨⟨_, rfl⟩, _, rfl, rfl, by omega⟩))
          | (refine And.intro ?_ ?_; focus (exact ⟨by omega, rowsOf_w _⟩))
          | (refine And.intro ?_ ?_; focus (exact ⟨⟨_, rfl, by omega⟩, ⟨_, rfl, by omega⟩, _, rfl, by omega⟩))
          | (refine And.intro ?_ ?_; focus (exact ⟨⟨⟨_, rfl, by omega⟩, _, rfl, by omega⟩, _, rfl, by omega⟩))
          | (refine And.intro ?_ ?_; focus (exact ⟨⟨_, rfl⟩, _, rfl⟩))
          | (refine And.intro ?_ ?_; focus (exact ⟨by omega, by omega, rowsOf_w _⟩))
          | (refine And.intro ?_ ?_; focus (exact ⟨by simp only [List.length_append, rowsOf_len, erRows_len, List.length_cons, List.length_nil, marks_len, List.length_take, List.length_drop, List.length_set, List.length_map, List.length_range]; omega, by simp only [List.length_append, rowsOf_len, erRows_len, List.length_cons, List.length_nil, marks_len, List.length_take, List.length_drop, List.length_set, List.length_map, List.length_range]; omega, rowsOf_w _⟩))
          | (refine And.intro ?_ ?_; focus (kernel_rfl))
        exact ⟨_, [], rfl, ⟨⟨⟨rfl, rfl, rfl⟩, trivial⟩, trivial, by simp [rn, hpAt]⟩⟩
      · have hno : rdO ⟨n, room, g, fr⟩ M = false := by rw [rdO, hok]; rw [decide_eq_false (by omega)]; rfl
        have hBl : (B.length : Int) = 0 := by rw [hB, rdB12, if_neg (by rw [hno]; decide)]; rfl
        have hBe : ((B.length : Int) == 0) = true := beq_iff_eq.2 hBl
        clear hR hB
        simp (maxSteps := 3000000) only [Try.f6, lea3, e20, ← hys, hV', hM', hok, hR', hB', hBe, beq_self_eq_true, Bool.and_true, c0, g_alive, g_sameBytes, g_sameEa, g_earOk, ocOf, g_earReadD, g_drawEar, bytesOf_rows, rowsOf_len, ersOf_rows, erRows_len, ersOf_nil, bytesOf_nil, ↓reduceIte, Bool.false_eq_true, Bool.not_true, Bool.not_false, tYs, evL, implies_true, oMin, x_min3, oMin3, x_max, oMax, oCopy, oBin, oUn, oLoadKid, oStoreTree, oField, oExtract, oNil, oSliceQ, oSliceE, x_appendZ, oAppendZ, oSliceEnd, endMode, oLoadRow, takeCells, TS.atRow, TS.ex, treeMode, AV.isOwn, TK.isSl, nilTk, nilsB, oLenQ, oLen, nodupB, treeOf, kidAbs, kidRows, TK.isCell, D.toL, oLoad, oStore, oMake, oIndexAddr, ↓reduceIte, reduceCtorEq, Nat.reduceBEq, Nat.reduceAdd, Nat.reduceMul, Nat.reduceLT, Nat.reduceSub, Nat.reduceLeDiff, Nat.reduceEqDiff, Nat.reduceBneDiff, Int.reduceToNat, decide_eq_true_eq, decide_eq_false_iff_not, beq_iff_eq, Int.toNat_natCast, loopK_normal, loopK_exit, loopK_ret, bne_self_eq_false]
        repeat' first
          | (refine And.intro ?_ ?_; focus (omega; done))
          | (refine And.intro ?_ ?_; focus (exact ⟨xs, rfl⟩))
          | (refine And.intro ?_ ?_; focus (exact ⟨⟨_, rfl, by omega⟩, _, rfl, by omega⟩))
          | (refine And.intro ?_ ?_; focus (exact ⟨⟨_, rfl, by omega⟩, [], rfl, by simp⟩))
          | (refine And.intro ?_ ?_; focus (exact ⟨⟨[], rfl, by simp⟩, [], rfl, by simp⟩))
          | (refine And.intro ?_ ?_; focus (exact ⟨⟨_, rfl, rfl⟩, ⟨_, rfl, rfl, by omega⟩, rfl, rfl⟩))
          | (refine And.intro ?_ ?_; focus (exact ⟨_, rfl⟩))
          | (refine And.intro ?_ ?_; focus (exact ⟨⟨_, rfl⟩, _, rfl, rfl, by omega⟩))
          | (refine And.intro ?_ ?_; focus (exact ⟨by omega, rowsOf_w _⟩))
          | (refine And.intro ?_ ?_; focus (exact ⟨⟨_, rfl, by omega⟩, ⟨_, rfl, by omega⟩, _, rfl, by omega⟩))
          | (refine And.intro ?_ ?_; focus (exact ⟨⟨⟨_, rfl, by omega⟩, _, rfl, by omega⟩, _, rfl, by omega⟩))
          | (refine And.intro ?_ ?_; focus (exact ⟨⟨_, rfl⟩, _, rfl⟩))
          | (refine And.intro ?_ ?_; focus (exact ⟨by omega, by omega, rowsOf_w _⟩))
          | (refine And.intro ?_ ?_; focus (exact ⟨by simp only [List.length_append, rowsOf_len, erRows_len, List.length_cons, List.length_nil, marks_len, List.length_take, List.length_drop, List.length_set, List.length_map, List.length_range]; omega, by simp only [List.length_append, rowsOf_len, erRows_len, List.length_cons, List.length_nil, marks_len, List.length_take, List.length_drop, List.length_set, List.length_map, List.length_range]; omega, rowsOf_w _⟩))
          | (refine And.intro ?_ ?_; focus (kernel_rfl))
        exact ⟨_, [], rfl, ⟨⟨⟨rfl, rfl, rfl⟩, trivial⟩, trivial, by simp [rn, hpAt]⟩⟩
    · have c0 : (M < 0) = False := eq_false hM0
      rcases hok : eaB ⟨n, room, g, fr⟩ with _ | _
      · have hno : rdO ⟨n, room, g, fr⟩ M = false := by rw [rdO, hok]; rfl
        have hBl : (B.length : Int) = 0 := by rw [hB, rdB12, if_neg (by rw [hno]; decide)]; rfl
        have hBe : ((B.length : Int) == 0) = true := beq_iff_eq.2 hBl
        clear hR hB
        simp (maxSteps := 3000000) only [Try.f6, lea3, e20, ← hys, hV', hM', hok, hR', hB', hBe, beq_self_eq_true, Bool.and_true, c0, g_alive, g_sameBytes, g_sameEa, g_earOk, ocOf, g_earReadD, g_drawEar, bytesOf_rows, rowsOf_len, ersOf_rows, erRows_len, ersOf_nil, bytesOf_nil, ↓reduceIte, Bool.false_eq_true, Bool.not_true, Bool.not_false, tYs, evL, implies_true, oMin, x_min3, oMin3, x_max, oMax, oCopy, oBin, oUn, oLoadKid, oStoreTree, oField, oExtract, oNil, oSliceQ, oSliceE, x_appendZ, oAppendZ, oSliceEnd, endMode, oLoadRow, takeCells, TS.atRow, TS.ex, treeMode, AV.isOwn, TK.isSl, nilTk, nilsB, oLenQ, oLen, nodupB, treeOf, kidAbs, kidRows, TK.isCell, D.toL, oLoad, oStore, oMake, oIndexAddr, ↓reduceIte, reduceCtorEq, Nat.reduceBEq, Nat.reduceAdd, Nat.reduceMul, Nat.reduceLT, Nat.reduceSub, Nat.reduceLeDiff, Nat.reduceEqDiff, Nat.reduceBneDiff, Int.reduceToNat, decide_eq_true_eq, decide_eq_false_iff_not, beq_iff_eq, Int.toNat_natCast, loopK_normal, loopK_exit, loopK_ret, bne_self_eq_false]
        repeat' first
          | (refine And.intro ?_ ?_; focus (omega; done))
          | (refine And.intro ?_ ?_; focus (exact ⟨xs, rfl⟩))
          | (refine And.intro ?_ ?_; focus (exact ⟨⟨_, rfl, by omega⟩, _, rfl, by omega⟩))
          | (refine And.intro ?_ ?_; focus (exact ⟨⟨_, rfl, by omega⟩, [], rfl, by simp⟩))
          | (refine And.intro ?_ ?_; focus (exact ⟨⟨[], rfl, by simp⟩, [], rfl, by simp⟩))
          | (refine And.intro ?_ ?_; focus (exact ⟨⟨_, rfl, rfl⟩, ⟨_, rfl, rfl, by omega⟩, rfl, rfl⟩))
          | (refine And.intro ?_ ?_; focus (exact ⟨_, rfl⟩))
          | (refine And.intro ?_ ?_; focus (exact ⟨⟨_, rfl⟩, _, rfl, rfl, by omega⟩))
          | (refine And.intro ?_ ?_; focus (exact ⟨by omega, rowsOf_w _⟩))
          | (refine And.intro ?_ ?_; focus (exact ⟨⟨_, rfl, by omega⟩, ⟨_, rfl, by omega⟩, _, rfl, by omega⟩))
          | (refine And.intro ?_ ?_; focus (exact ⟨⟨⟨_, rfl, by omega⟩, _, rfl, by omega⟩, _, rfl, by omega⟩))
          | (refine And.intro ?_ ?_; focus (exact ⟨⟨_, rfl⟩, _, rfl⟩))
          | (refine And.intro ?_ ?_; focus (exact ⟨by omega, by omega, rowsOf_w _⟩))
          | (refine And.intro ?_ ?_; focus (exact ⟨by simp only [List.length_append, rowsOf_len, erRows_len, List.length_cons, List.length_nil, marks_len, List.length_take, List.length_drop, List.length_set, List.length_map, List.length_range]; omega, by simp only [List.length_append, rowsOf_len, erRows_len, List.length_cons, List.length_nil, marks_len, List.length_take, List.length_drop, List.length_set, List.length_map, List.length_range]; omega, rowsOf_w _⟩))
          | (refine And.intro ?_ ?_; focus (kernel_rfl))
        exact ⟨_, [], rfl, ⟨⟨⟨rfl, rfl, rfl⟩, trivial⟩, trivial, by simp [rn, hpAt]⟩⟩
      · have ho : rdO ⟨n, room, g, fr⟩ M = true := by rw [rdO, hok, decide_eq_true (by omega)]; rfl
        have hRe : R = rdE ⟨n, room, g, fr⟩ M := by rw [hR, rdV12, if_pos ho]
        have hBe : B = g.take (rdN ⟨n, room, g, fr⟩ M) := by rw [hB, rdB12, if_pos ho]
        obtain ⟨r1, r2, r3⟩ := rd_ok ho
        rw [← hRe, ← hBe] at r2
        rw [← hRe] at r1
        rw [← hBe] at r3
        have hRn : R.n = n := by rw [hRe]; rfl
        have hRnb : (R.n == n) = true := beq_iff_eq.2 hRn
        have hrb : eaB ⟨R.n, R.room, R.g, R.fr⟩ = true := r1
        have hBM : ((B.length : Int) ≤ M) = True := eq_true r3
        have hap : rowsOfBytes B ++ rowsOfBytes R.g = rowsOfBytes g := by rw [rowsOf_app, r2]
        clear hRe hBe hR hB
        simp (maxSteps := 3000000) only [Try.f6, lea3, e20, ← hys, hV', hM', hok, hR', hB', c0, hRnb, hrb, hBM, hap, beq_self_eq_true, Bool.and_true, decide_true, g_alive, g_sameBytes, g_sameEa, g_earOk, ocOf, g_earReadD, g_drawEar, bytesOf_rows, rowsOf_len, ersOf_rows, erRows_len, ersOf_nil, bytesOf_nil, ↓reduceIte, Bool.false_eq_true, Bool.not_true, Bool.not_false, tYs, evL, implies_true, oMin, x_min3, oMin3, x_max, oMax, oCopy, oBin, oUn, oLoadKid, oStoreTree, oField, oExtract, oNil, oSliceQ, oSliceE, x_appendZ, oAppendZ, oSliceEnd, endMode, oLoadRow, takeCells, TS.atRow, TS.ex, treeMode, AV.isOwn, TK.isSl, nilTk, nilsB, oLenQ, oLen, nodupB, treeOf, kidAbs, kidRows, TK.isCell, D.toL, oLoad, oStore, oMake, oIndexAddr, ↓reduceIte, reduceCtorEq, Nat.reduceBEq, Nat.reduceAdd, Nat.reduceMul, Nat.reduceLT, Nat.reduceSub, Nat.reduceLeDiff, Nat.reduceEqDiff, Nat.reduceBneDiff, Int.reduceToNat, decide_eq_true_eq, decide_eq_false_iff_not, beq_iff_eq, Int.toNat_natCast, loopK_normal, loopK_exit, loopK_ret, bne_self_eq_false]
        repeat' first
          | (refine And.intro ?_ ?_; focus (omega; done))
          | (refine And.intro ?_ ?_; focus (exact ⟨xs, rfl⟩))
          | (refine And.intro ?_ ?_; focus (exact ⟨⟨_, rfl, by omega⟩, _, rfl, by omega⟩))
          | (refine And.intro ?_ ?_; focus (exact ⟨⟨_, rfl, by omega⟩, [], rfl, by simp⟩))
          | (refine And.intro ?_ ?_; focus (exact ⟨⟨[], rfl, by simp⟩, [], rfl, by simp⟩))
          | (refine And.intro ?_ ?_; focus (exact ⟨⟨_, rfl, rfl⟩, ⟨_, rfl, rfl, by omega⟩, rfl, rfl⟩))
          | (refine And.intro ?_ ?_; focus (exact ⟨_, rfl⟩))
          | (refine And.intro ?_ ?_; focus (exact ⟨⟨_, rfl⟩, _, rfl, rfl, by omega⟩))
          | (refine And.intro ?_ ?_; focus (exact ⟨by omega, rowsOf_w _⟩))
          | (refine And.intro ?_ ?_; focus (exact ⟨⟨_, rfl, by omega⟩, ⟨_, rfl, by omega⟩, _, rfl, by omega⟩))
          | (refine And.intro ?_ ?_; focus (exact ⟨⟨⟨_, rfl, by omega⟩, _, rfl, by omega⟩, _, rfl, by omega⟩))
          | (refine And.intro ?_ ?_; focus (exact ⟨⟨_, rfl⟩, _, rfl⟩))
          | (refine And.intro ?_ ?_; focus (exact ⟨by omega, by omega, rowsOf_w _⟩))
          | (refine And.intro ?_ ?_; focus (exact ⟨by simp only [List.length_append, rowsOf_len, erRows_len, List.length_cons, List.length_nil, marks_len, List.length_take, List.length_drop, List.length_set, List.length_map, List.length_range]; omega, by simp only [List.length_append, rowsOf_len, erRows_len, List.length_cons, List.length_nil, marks_len, List.length_take, List.length_drop, List.length_set, List.length_map, List.length_range]; omega, rowsOf_w _⟩))
          | (refine And.intro ?_ ?_; focus (kernel_rfl))
        exact ⟨_, [], rfl, ⟨⟨⟨rfl, rfl, rfl⟩, trivial⟩, trivial, by simp [rn, hpAt]⟩⟩
  · cases hg
theorem walk_EarRead (A : Option Addr) (n c : Nat) (xs : List UInt8) (w : World) (h : Rd w w.heap.size A n (bv xs)) (hc : n ≤ c) :
    Calls Try.prog 6 #[.slice A n c] w fun e w' => e = .returned (.bool true) ∧ Below w.heap.size w w' :=
  lawEarRead_ok.walk (vs := [_]) (arel_cons (.l _ _ _ (rep_of_rd h hc)) arel_nil) rfl ⟨xs, rfl⟩
def lea4 : List (FuncId × Abs) := [(12, pureAbs g_alive), (21, pureAbs g_sameBytes), (19, pureAbs g_sameEa), (10, pureAbs g_earOk), (18, ownAbs (ocOf g_earHearD)), (20, ownAbs (ocOf g_earHearD)), (17, ownAbs (ocOf g_drawEah))]
theorem lea4_ok : ∀ p ∈ lea4, CallOk Try.prog p.1 p.2 := by
  intro p hp
  simp only [lea4, List.mem_cons, List.not_mem_nil, or_false] at hp
  rcases hp with rfl | rfl | rfl | rfl | rfl | rfl | rfl
  · exact alive_ok.call
  · exact sameBytes_ok.call
  · exact sameEar_ok.call
  · exact implEarOk_ok.call
  · exact implEarHearD_ok.call
  · exact specEarHearD_ok.call
  · exact drawEarHear_ok.call
set_option maxHeartbeats 8000000 in
set_option maxRecDepth 100000 in
theorem lawEarHear_ok : PureOk Try.prog 5 g_true := by
  refine PureOk.of_vc (G := lea4) lea4_ok mixed Try.func5 (by kernel_rfl) rfl ?_
  intro args cnd r bs hg hc
  unfold g_true at hg
  split at hg
  · rename_i sz rows
    cases hg
    obtain ⟨xs, rfl⟩ := hc
    refine ⟨⟨rfl, by simp, by simp [AV.ids, AV.ids.idsL]⟩, [.l 1 (rowsOfBytes xs)], rfl, fun w vs h => CvL.ok (.cons (.l _ _ _ (rowsOf_w xs)) .nil) h, ?_⟩
    obtain ⟨ys, hys⟩ : ∃ ys, ys = List.take 2000 xs := ⟨_, rfl⟩
    by_cases h20 : (xs.length : Int) > 1048576
    · have e20 : ((xs.length : Int) > 1048576) = True := eq_true h20
      simp (maxSteps := 3000000) only [Try.f5, lea4, e20, g_alive, g_sameBytes, g_sameEa, g_earOk, ocOf, g_earHearD, g_drawEah, bytesOf_rows, rowsOf_len, ersOf_rows, erRows_len, ersOf_nil, bytesOf_nil, ↓reduceIte, Bool.false_eq_true, Bool.not_true, Bool.not_false, tYs, evL, implies_true, oMin, x_min3, oMin3, x_max, oMax, oCopy, oBin, oUn, oLoadKid, oStoreTree, oField, oExtract, oNil, oSliceQ, oSliceE, x_appendZ, oAppendZ, oSliceEnd, endMode, oLoadRow, takeCells, TS.atRow, TS.ex, treeMode, AV.isOwn, TK.isSl, nilTk, nilsB, oLenQ, oLen, nodupB, treeOf, kidAbs, kidRows, TK.isCell, D.toL, oLoad, oStore, oMake, oIndexAddr, ↓reduceIte, reduceCtorEq, Nat.reduceBEq, Nat.reduceAdd, Nat.reduceMul, Nat.reduceLT, Nat.reduceSub, Nat.reduceLeDiff, Nat.reduceEqDiff, Nat.reduceBneDiff, Int.reduceToNat, decide_eq_true_eq, decide_eq_false_iff_not, beq_iff_eq, Int.toNat_natCast, loopK_normal, loopK_exit, loopK_ret, bne_self_eq_false]
      exact ⟨_, [], rfl, ⟨⟨⟨rfl, rfl, rfl⟩, trivial⟩, trivial, by simp [rn, hpAt]⟩⟩
    have e20 : ((xs.length : Int) > 1048576) = False := eq_false h20
    have hmid := (esV_mid ys 0 15 (by omega)).2
    have hq := (esV_mid ys 0 15 (by omega)).1
    obtain ⟨V, hV⟩ : ∃ V, V = (dehV ys).2 := ⟨_, rfl⟩
    have hV' := hV.symm
    rw [show (esV ys 0 15).2 = V from hV'] at hmid
    obtain ⟨q, hqq⟩ : ∃ q, q = (dehV ys).1 := ⟨_, rfl⟩
    have hq' := hqq.symm
    rw [show (esV ys 0 15).1 = q from hq'] at hq
    clear hV hqq
    obtain ⟨m1, m2, m3, m4⟩ := hmid
    obtain ⟨n, room, g, fr⟩ := V
    dsimp only at m1 m2 m3 m4
    have t1 := pickV_nonneg ys q 16 (by omega)
    have t2 := pickV_lt ys q 16 (by omega)
    have t3 := pickV_nonneg ys (q + 1 + 1) 9 (by omega)
    have t4 := pickV_lt ys (q + 1 + 1) 9 (by omega)
    obtain ⟨A, hA⟩ : ∃ A, A = dehA ys := ⟨_, rfl⟩
    have hA' := hA.symm
    have hAb : 0 ≤ A ∧ A ≤ 1000 := by
      have hx' : dehX ys = n + pickV ys q 16 - 5 := by rw [dehX, hV', hq']
      rw [hA, dehA, hx']
      constructor <;> split <;> omega
    obtain ⟨D', hD⟩ : ∃ D, D = dehD ys := ⟨_, rfl⟩
    have hD' := hD.symm
    have hDb : D'.length ≤ 9 := by
      rw [hD, dehD, hq']
      split
      · rw [bytesV_len]; omega
      · rw [heardV_len]; omega
    clear hA hD
    obtain ⟨k1, k2⟩ := hrV_mid (e := ⟨n, room, g, fr⟩) (a := A) m3 m4 hDb
    obtain ⟨H, hH⟩ : ∃ H, H = hrV ⟨n, room, g, fr⟩ A D' := ⟨_, rfl⟩
    have hH' := hH.symm
    rw [hH'] at k1 k2
    rcases hok : eaB ⟨n, room, g, fr⟩ with _ | _
    · have hno : hrO ⟨n, room, g, fr⟩ A D' = false := by rw [hrO, hok]; rfl
      have hHr : H.room = 0 := by rw [hH, hrV, if_neg (by rw [hno]; decide)]; rfl
      have hHb : (H.room == 0) = true := beq_iff_eq.2 hHr
      clear hH
      simp (maxSteps := 3000000) only [Try.f5, lea4, e20, ← hys, hV', hA', hD', hok, hH', hHb, beq_self_eq_true, Bool.and_true, g_alive, g_sameBytes, g_sameEa, g_earOk, ocOf, g_earHearD, g_drawEah, bytesOf_rows, rowsOf_len, ersOf_rows, erRows_len, ersOf_nil, bytesOf_nil, ↓reduceIte, Bool.false_eq_true, Bool.not_true, Bool.not_false, tYs, evL, implies_true, oMin, x_min3, oMin3, x_max, oMax, oCopy, oBin, oUn, oLoadKid, oStoreTree, oField, oExtract, oNil, oSliceQ, oSliceE, x_appendZ, oAppendZ, oSliceEnd, endMode, oLoadRow, takeCells, TS.atRow, TS.ex, treeMode, AV.isOwn, TK.isSl, nilTk, nilsB, oLenQ, oLen, nodupB, treeOf, kidAbs, kidRows, TK.isCell, D.toL, oLoad, oStore, oMake, oIndexAddr, ↓reduceIte, reduceCtorEq, Nat.reduceBEq, Nat.reduceAdd, Nat.reduceMul, Nat.reduceLT, Nat.reduceSub, Nat.reduceLeDiff, Nat.reduceEqDiff, Nat.reduceBneDiff, Int.reduceToNat, decide_eq_true_eq, decide_eq_false_iff_not, beq_iff_eq, Int.toNat_natCast, loopK_normal, loopK_exit, loopK_ret, bne_self_eq_false]
      repeat' first
        | (refine And.intro ?_ ?_; focus (omega; done))
        | (refine And.intro ?_ ?_; focus (exact ⟨xs, rfl⟩))
        | (refine And.intro ?_ ?_; focus (exact ⟨⟨_, rfl, by omega⟩, _, rfl, by omega⟩))
        | (refine And.intro ?_ ?_; focus (exact ⟨⟨_, rfl, by omega⟩, [], rfl, by simp⟩))
        | (refine And.intro ?_ ?_; focus (exact ⟨⟨[], rfl, by simp⟩, [], rfl, by simp⟩))
        | (refine And.intro ?_ ?_; focus (exact ⟨⟨_, rfl, rfl⟩, ⟨_, rfl, rfl, by omega⟩, rfl, rfl⟩))
        | (refine And.intro ?_ ?_; focus (exact ⟨_, rfl⟩))
        | (refine And.intro ?_ ?_; focus (exact ⟨⟨_, rfl⟩, _, rfl, rfl, by omega⟩))
        | (refine And.intro ?_ ?_; focus (exact ⟨by omega, rowsOf_w _⟩))
        | (refine And.intro ?_ ?_; focus (exact ⟨⟨_, rfl, by omega⟩, ⟨_, rfl, by omega⟩, _, rfl, by omega⟩))
        | (refine And.intro ?_ ?_; focus (exact ⟨⟨⟨_, rfl, by omega⟩, _, rfl, by omega⟩, _, rfl, by omega⟩))
        | (refine And.intro ?_ ?_; focus (exact ⟨⟨_, rfl⟩, _, rfl⟩))
        | (refine And.intro ?_ ?_; focus (exact ⟨by omega, by omega, rowsOf_w _⟩))
        | (refine And.intro ?_ ?_; focus (exact ⟨by simp only [List.length_append, rowsOf_len, erRows_len, List.length_cons, List.length_nil, marks_len, List.length_take, List.length_drop, List.length_set, List.length_map, List.length_range]; omega, by simp only [List.length_append, rowsOf_len, erRows_len, List.length_cons, List.length_nil, marks_len, List.length_take, List.length_drop, List.length_set, List.length_map, List.length_range]; omega, rowsOf_w _⟩))
        | (refine And.intro ?_ ?_; focus (kernel_rfl))
      exact ⟨_, [], rfl, ⟨⟨⟨rfl, rfl, rfl⟩, trivial⟩, trivial, by simp [rn, hpAt]⟩⟩
    · have hF : eaF ⟨n, room, g, fr⟩ ≤ 32 := by
        obtain ⟨_, b, _⟩ := eaB_iff.1 hok
        unfold eaF; dsimp only at b ⊢; omega
      have hm := hrM_le hok A D'
      have ho : hrO ⟨n, room, g, fr⟩ A D' = true := by
        rw [hrO, hok, inZ_iff.2 (by omega), decide_eq_true (by dsimp only; omega)]; rfl
      have hHe : H = hrE ⟨n, room, g, fr⟩ A D' := by rw [hH, hrV, if_pos ho]
      obtain ⟨r1, r2, r3⟩ := hr_ok ho
      obtain ⟨s1, s2⟩ := hr_twice ho
      have hHn : H.n = n + (hrM ⟨n, room, g, fr⟩ A D' : Int) := by rw [hHe]; rfl
      have hHg : H.g.take g.length = g := by rw [hHe]; exact List.take_left
      rw [← hHe] at r1 r3 s1 s2
      dsimp only at r3
      have htw : hrV ⟨H.n, H.room, H.g, H.fr⟩ A D' = H := by
        show hrV H A D' = H
        rw [hrV, if_pos s1, s2]
      have hrb : eaB ⟨H.n, H.room, H.g, H.fr⟩ = true := r1
      have c1 : (H.n ≥ n) = True := eq_true (by omega)
      have c1b : (n ≤ H.n) = True := eq_true (by omega)
      have w1 : IntKind.i64.wrap ((H.g.length : Int) - (g.length : Int)) = H.n - n := by rw [wrap_id] <;> omega
      have w2 : IntKind.i64.wrap (H.n - n) = H.n - n := by rw [wrap_id] <;> omega
      have c2 : (0 ≤ (g.length : Int)) = True := eq_true (by omega)
      have c3 : ((g.length : Int) ≤ (H.g.length : Int)) = True := eq_true (by omega)
      clear hHe hH r2 s1 s2
      simp (maxSteps := 3000000) only [Try.f5, lea4, e20, ← hys, hV', hA', hD', hok, hH', htw, hrb, c1, c1b, w1, w2, c2, c3, rowsOf_take, hHg, beq_self_eq_true, Bool.and_true, decide_true, g_alive, g_sameBytes, g_sameEa, g_earOk, ocOf, g_earHearD, g_drawEah, bytesOf_rows, rowsOf_len, ersOf_rows, erRows_len, ersOf_nil, bytesOf_nil, ↓reduceIte, Bool.false_eq_true, Bool.not_true, Bool.not_false, tYs, evL, implies_true, oMin, x_min3, oMin3, x_max, oMax, oCopy, oBin, oUn, oLoadKid, oStoreTree, oField, oExtract, oNil, oSliceQ, oSliceE, x_appendZ, oAppendZ, oSliceEnd, endMode, oLoadRow, takeCells, TS.atRow, TS.ex, treeMode, AV.isOwn, TK.isSl, nilTk, nilsB, oLenQ, oLen, nodupB, treeOf, kidAbs, kidRows, TK.isCell, D.toL, oLoad, oStore, oMake, oIndexAddr, ↓reduceIte, reduceCtorEq, Nat.reduceBEq, Nat.reduceAdd, Nat.reduceMul, Nat.reduceLT, Nat.reduceSub, Nat.reduceLeDiff, Nat.reduceEqDiff, Nat.reduceBneDiff, Int.reduceToNat, decide_eq_true_eq, decide_eq_false_iff_not, beq_iff_eq, Int.toNat_natCast, loopK_normal, loopK_exit, loopK_ret, bne_self_eq_false]
      repeat' first
        | (refine And.intro ?_ ?_; focus (omega; done))
        | (refine And.intro ?_ ?_; focus (exact ⟨xs, rfl⟩))
        | (refine And.intro ?_ ?_; focus (exact ⟨⟨_, rfl, by omega⟩, _, rfl, by omega⟩))
        | (refine And.intro ?_ ?_; focus (exact ⟨⟨_, rfl, by omega⟩, [], rfl, by simp⟩))
        | (refine And.intro ?_ ?_; focus (exact ⟨⟨[], rfl, by simp⟩, [], rfl, by simp⟩))
        | (refine And.intro ?_ ?_; focus (exact ⟨⟨_, rfl, rfl⟩, ⟨_, rfl, rfl, by omega⟩, rfl, rfl⟩))
        | (refine And.intro ?_ ?_; focus (exact ⟨_, rfl⟩))
        | (refine And.intro ?_ ?_; focus (exact ⟨⟨_, rfl⟩, _, rfl, rfl, by omega⟩))
        | (refine And.intro ?_ ?_; focus (exact ⟨by omega, rowsOf_w _⟩))
        | (refine And.intro ?_ ?_; focus (exact ⟨⟨_, rfl, by omega⟩, ⟨_, rfl, by omega⟩, _, rfl, by omega⟩))
        | (refine And.intro ?_ ?_; focus (exact ⟨⟨⟨_, rfl, by omega⟩, _, rfl, by omega⟩, _, rfl, by omega⟩))
        | (refine And.intro ?_ ?_; focus (exact ⟨⟨_, rfl⟩, _, rfl⟩))
        | (refine And.intro ?_ ?_; focus (exact ⟨by omega, by omega, rowsOf_w _⟩))
        | (refine And.intro ?_ ?_; focus (exact ⟨by simp only [List.length_append, rowsOf_len, erRows_len, List.length_cons, List.length_nil, marks_len, List.length_take, List.length_drop, List.length_set, List.length_map, List.length_range]; omega, by simp only [List.length_append, rowsOf_len, erRows_len, List.length_cons, List.length_nil, marks_len, List.length_take, List.length_drop, List.length_set, List.length_map, List.length_range]; omega, rowsOf_w _⟩))
        | (refine And.intro ?_ ?_; focus (kernel_rfl))
      exact ⟨_, [], rfl, ⟨⟨⟨rfl, rfl, rfl⟩, trivial⟩, trivial, by simp [rn, hpAt]⟩⟩
  · cases hg
theorem walk_EarHear (A : Option Addr) (n c : Nat) (xs : List UInt8) (w : World) (h : Rd w w.heap.size A n (bv xs)) (hc : n ≤ c) :
    Calls Try.prog 5 #[.slice A n c] w fun e w' => e = .returned (.bool true) ∧ Below w.heap.size w w' :=
  lawEarHear_ok.walk (vs := [_]) (arel_cons (.l _ _ _ (rep_of_rd h hc)) arel_nil) rfl ⟨xs, rfl⟩
end Go.Proofs.Ytikcpbgnmdhilaa
