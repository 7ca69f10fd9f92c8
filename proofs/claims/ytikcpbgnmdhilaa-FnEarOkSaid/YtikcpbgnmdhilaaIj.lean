import Derived.Test.YtikcpbgnmdhilaaIi
import Derived.Test.YtikcpbgnmdhilaaVf
import Derived.Test.YtikcpbgnmdhilaaVa
import Derived.Test.YtikcpbgnmdhilaaNum
set_option linter.unusedVariables false
set_option linter.unusedSimpArgs false
namespace Go.Proofs.Ytikcpbgnmdhilaa
open Go.RowKit
set_option linter.unusedSimpArgs false
def eaMid (e : Ea) : Prop := (-1 ≤ e.n ∧ e.n ≤ 400) ∧ (0 ≤ e.room ∧ e.room ≤ 33) ∧ e.g.length ≤ 52 ∧ e.fr.length ≤ 33
theorem esV_mid (xs : List UInt8) (p n : Int) (hp : p < 100000) : (p + 3 ≤ (esV xs p n).1 ∧ (esV xs p n).1 ≤ p + 30) ∧ eaMid (esV xs p n).2 := by
  obtain ⟨⟨h1, h2, h3⟩, h4, h5⟩ := esL_ok xs p (by omega)
  have hc := ea_count h1
  obtain ⟨_, c2, _, _⟩ := eaB_iff.1 h1
  have ho := oneIf_le n
  have b1 := pickV_nonneg xs ((esL xs p).q + oneIf n + 1) 2 (by omega)
  have b2 := pickV_lt xs ((esL xs p).q + oneIf n + 1) 2 (by omega)
  unfold esV esF eaMid
  repeat' split
  all_goals (dsimp only; try simp only [List.length_append, List.length_replicate, List.length_cons, List.length_nil]
             omega)
def dehV (xs : List UInt8) : Int × Ea := esV xs 0 15
def dehX (xs : List UInt8) : Int := (dehV xs).2.n + pickV xs (dehV xs).1 16 - 5
def dehA (xs : List UInt8) : Int := if 0 > dehX xs then 0 else dehX xs
def dehD (xs : List UInt8) : List UInt8 := if pickV xs ((dehV xs).1 + 1) 5 = 0 then bytesV xs ((dehV xs).1 + 1 + 1 + 1) (pickV xs ((dehV xs).1 + 1 + 1) 9).toNat else heardV (dehA xs) (pickV xs ((dehV xs).1 + 1 + 1) 9).toNat
def derM (xs : List UInt8) : Int := pickV xs (dehV xs).1 9 - pickV xs ((dehV xs).1 + 1) 12 / 11
def g_drawEa (n : Int) : PC := fun args => match args with
  | [.l _ rows] => some (∃ xs, rows = rowsOfBytes xs, .agg [.v (.int .i64 ((esV ((bytesOfRows rows).take 2000) 0 n).2).n), .v (.int .i64 ((esV ((bytesOfRows rows).take 2000) 0 n).2).room), .l 1 (rowsOfBytes ((esV ((bytesOfRows rows).take 2000) 0 n).2).g), .l 2 (erRows ((esV ((bytesOfRows rows).take 2000) 0 n).2).fr)], [])
  | _ => none
def g_drawEah : PC := fun args => match args with
  | [.l _ rows] => some (∃ xs, rows = rowsOfBytes xs, .tup [.agg [.v (.int .i64 ((dehV ((bytesOfRows rows).take 2000)).2).n), .v (.int .i64 ((dehV ((bytesOfRows rows).take 2000)).2).room), .l 1 (rowsOfBytes ((dehV ((bytesOfRows rows).take 2000)).2).g), .l 2 (erRows ((dehV ((bytesOfRows rows).take 2000)).2).fr)], .v (.int .i64 (dehA ((bytesOfRows rows).take 2000))), .l 1 (rowsOfBytes (dehD ((bytesOfRows rows).take 2000)))], [])
  | _ => none
def g_drawEar : PC := fun args => match args with
  | [.l _ rows] => some (∃ xs, rows = rowsOfBytes xs, .tup [.agg [.v (.int .i64 ((dehV ((bytesOfRows rows).take 2000)).2).n), .v (.int .i64 ((dehV ((bytesOfRows rows).take 2000)).2).room), .l 1 (rowsOfBytes ((dehV ((bytesOfRows rows).take 2000)).2).g), .l 2 (erRows ((dehV ((bytesOfRows rows).take 2000)).2).fr)], .v (.int .i64 (derM ((bytesOfRows rows).take 2000)))], [])
  | _ => none
def ndea : List (FuncId × Abs) := [(32, ownAbs g_open), (40, ownAbs g_pick), (41, ownAbs g_bytes), (31, ownAbs g_ear), (42, pureAbs g_heardS)]
theorem ndea_ok : ∀ p ∈ ndea, CallOk Try.prog p.1 p.2 := by
  intro p hp
  simp only [ndea, List.mem_cons, List.not_mem_nil, or_false] at hp
  rcases hp with rfl | rfl | rfl | rfl | rfl
  · exact open_ok.call
  · exact pick_ok.call
  · exact bytes_ok.call
  · exact l20Ear_ok.call
  · exact l20Heard_ok.call
set_option maxRecDepth 100000 in
theorem drawEarOk_ok : OwnOk Try.prog 9 (ocOf (g_drawEa 2)) := by
  refine OwnOk.of_vcD (G := ndea) ndea_ok mixed Try.func9 (by kernel_rfl) rfl ?_
  intro args cnd r bs hg hc
  unfold g_drawEa at hg
  split at hg
  · rename_i sz rows
    cases hg
    obtain ⟨xs, rfl⟩ := hc
    rw [bytesOf_rows]
    have hx : (∃ ys, rowsOfBytes (List.take 2000 xs) = rowsOfBytes ys ∧ ys.length ≤ 2000) = True := eq_true ⟨_, rfl, by rw [List.length_take]; omega⟩
    refine ⟨⟨rfl, by simp [AV.ids, AV.ids.idsL]⟩, [.l 1 (rowsOfBytes xs)], rfl, fun w Z s vs h => CvL.ok (.cons (.l _ _ _ (rowsOf_w xs)) .nil) h, ?_⟩
    simp (maxSteps := 3000000) only [Try.f9, ndea, g_open, g_ear, bytesOf_rows, rowsOf_len, hx, tYs, evL, implies_true, oMin, x_min3, oMin3, x_max, oMax, oCopy, oBin, oUn, oLoadKid, oStoreTree, oField, oExtract, oNil, oSliceQ, oSliceE, x_appendZ, oAppendZ, oSliceEnd, endMode, oLoadRow, takeCells, TS.atRow, TS.ex, treeMode, AV.isOwn, TK.isSl, nilTk, nilsB, oLenQ, oLen, nodupB, treeOf, kidAbs, kidRows, TK.isCell, D.toL, oLoad, oStore, oMake, oIndexAddr, ↓reduceIte, reduceCtorEq, Nat.reduceBEq, Nat.reduceAdd, Nat.reduceMul, Nat.reduceLT, Nat.reduceSub, Nat.reduceLeDiff, Nat.reduceEqDiff, Nat.reduceBneDiff, Int.reduceToNat, decide_eq_true_eq, decide_eq_false_iff_not, beq_iff_eq, Int.toNat_natCast, doneD_ret, doneD_normal]
    (repeat (refine And.intro ?_ ?_; focus (((repeat' apply And.intro) <;> first | exact rowsOf_w _ | omega | (simp only [List.length_append, rowsOf_len, List.length_cons, List.length_nil, marks_len, List.length_take, List.length_drop, List.length_set]; omega) | exact ⟨_, rfl⟩ | (refine ⟨_, rfl, ?_⟩; omega) | (refine ⟨_, rfl, ?_⟩; simp only [List.length_append, rowsOf_len, List.length_cons, List.length_nil, marks_len, List.length_take, List.length_drop, List.length_set]; omega) | kernel_rfl | (simp; done)); done)))
    exact ⟨_, rfl, rfl⟩
  · cases hg
set_option maxRecDepth 100000 in
theorem drawEarFree_ok : OwnOk Try.prog 13 (ocOf (g_drawEa 9)) := by
  refine OwnOk.of_vcD (G := ndea) ndea_ok mixed Try.func13 (by kernel_rfl) rfl ?_
  intro args cnd r bs hg hc
  unfold g_drawEa at hg
  split at hg
  · rename_i sz rows
    cases hg
    obtain ⟨xs, rfl⟩ := hc
    rw [bytesOf_rows]
    have hx : (∃ ys, rowsOfBytes (List.take 2000 xs) = rowsOfBytes ys ∧ ys.length ≤ 2000) = True := eq_true ⟨_, rfl, by rw [List.length_take]; omega⟩
    refine ⟨⟨rfl, by simp [AV.ids, AV.ids.idsL]⟩, [.l 1 (rowsOfBytes xs)], rfl, fun w Z s vs h => CvL.ok (.cons (.l _ _ _ (rowsOf_w xs)) .nil) h, ?_⟩
    simp (maxSteps := 3000000) only [Try.f13, ndea, g_open, g_ear, bytesOf_rows, rowsOf_len, hx, tYs, evL, implies_true, oMin, x_min3, oMin3, x_max, oMax, oCopy, oBin, oUn, oLoadKid, oStoreTree, oField, oExtract, oNil, oSliceQ, oSliceE, x_appendZ, oAppendZ, oSliceEnd, endMode, oLoadRow, takeCells, TS.atRow, TS.ex, treeMode, AV.isOwn, TK.isSl, nilTk, nilsB, oLenQ, oLen, nodupB, treeOf, kidAbs, kidRows, TK.isCell, D.toL, oLoad, oStore, oMake, oIndexAddr, ↓reduceIte, reduceCtorEq, Nat.reduceBEq, Nat.reduceAdd, Nat.reduceMul, Nat.reduceLT, Nat.reduceSub, Nat.reduceLeDiff, Nat.reduceEqDiff, Nat.reduceBneDiff, Int.reduceToNat, decide_eq_true_eq, decide_eq_false_iff_not, beq_iff_eq, Int.toNat_natCast, doneD_ret, doneD_normal]
    (repeat (refine And.intro ?_ ?_; focus (((repeat' apply And.intro) <;> first | exact rowsOf_w _ | omega | (simp only [List.length_append, rowsOf_len, List.length_cons, List.length_nil, marks_len, List.length_take, List.length_drop, List.length_set]; omega) | exact ⟨_, rfl⟩ | (refine ⟨_, rfl, ?_⟩; omega) | (refine ⟨_, rfl, ?_⟩; simp only [List.length_append, rowsOf_len, List.length_cons, List.length_nil, marks_len, List.length_take, List.length_drop, List.length_set]; omega) | kernel_rfl | (simp; done)); done)))
    exact ⟨_, rfl, rfl⟩
  · cases hg
set_option maxRecDepth 100000 in
theorem drawEarRanges_ok : OwnOk Try.prog 24 (ocOf (g_drawEa 9)) := by
  refine OwnOk.of_vcD (G := ndea) ndea_ok mixed Try.func24 (by kernel_rfl) rfl ?_
  intro args cnd r bs hg hc
  unfold g_drawEa at hg
  split at hg
  · rename_i sz rows
    cases hg
    obtain ⟨xs, rfl⟩ := hc
    rw [bytesOf_rows]
    have hx : (∃ ys, rowsOfBytes (List.take 2000 xs) = rowsOfBytes ys ∧ ys.length ≤ 2000) = True := eq_true ⟨_, rfl, by rw [List.length_take]; omega⟩
    refine ⟨⟨rfl, by simp [AV.ids, AV.ids.idsL]⟩, [.l 1 (rowsOfBytes xs)], rfl, fun w Z s vs h => CvL.ok (.cons (.l _ _ _ (rowsOf_w xs)) .nil) h, ?_⟩
    simp (maxSteps := 3000000) only [Try.f24, ndea, g_open, g_ear, bytesOf_rows, rowsOf_len, hx, tYs, evL, implies_true, oMin, x_min3, oMin3, x_max, oMax, oCopy, oBin, oUn, oLoadKid, oStoreTree, oField, oExtract, oNil, oSliceQ, oSliceE, x_appendZ, oAppendZ, oSliceEnd, endMode, oLoadRow, takeCells, TS.atRow, TS.ex, treeMode, AV.isOwn, TK.isSl, nilTk, nilsB, oLenQ, oLen, nodupB, treeOf, kidAbs, kidRows, TK.isCell, D.toL, oLoad, oStore, oMake, oIndexAddr, ↓reduceIte, reduceCtorEq, Nat.reduceBEq, Nat.reduceAdd, Nat.reduceMul, Nat.reduceLT, Nat.reduceSub, Nat.reduceLeDiff, Nat.reduceEqDiff, Nat.reduceBneDiff, Int.reduceToNat, decide_eq_true_eq, decide_eq_false_iff_not, beq_iff_eq, Int.toNat_natCast, doneD_ret, doneD_normal]
    (repeat (refine And.intro ?_ ?_; focus (((repeat' apply And.intro) <;> first | exact rowsOf_w _ | omega | (simp only [List.length_append, rowsOf_len, List.length_cons, List.length_nil, marks_len, List.length_take, List.length_drop, List.length_set]; omega) | exact ⟨_, rfl⟩ | (refine ⟨_, rfl, ?_⟩; omega) | (refine ⟨_, rfl, ?_⟩; simp only [List.length_append, rowsOf_len, List.length_cons, List.length_nil, marks_len, List.length_take, List.length_drop, List.length_set]; omega) | kernel_rfl | (simp; done)); done)))
    exact ⟨_, rfl, rfl⟩
  · cases hg
set_option maxRecDepth 100000 in
theorem drawEarRead_ok : OwnOk Try.prog 22 (ocOf g_drawEar) := by
  refine OwnOk.of_vcD (G := ndea) ndea_ok mixed Try.func22 (by kernel_rfl) rfl ?_
  intro args cnd r bs hg hc
  unfold g_drawEar at hg
  split at hg
  · rename_i sz rows
    cases hg
    obtain ⟨xs, rfl⟩ := hc
    rw [bytesOf_rows]
    have hx : (∃ ys, rowsOfBytes (List.take 2000 xs) = rowsOfBytes ys ∧ ys.length ≤ 2000) = True := eq_true ⟨_, rfl, by rw [List.length_take]; omega⟩
    obtain ⟨ys, hys⟩ : ∃ ys, ys = List.take 2000 xs := ⟨_, rfl⟩
    rw [← hys] at hx ⊢
    have hW := esV_mid ys 0 15 (by omega)
    obtain ⟨q, hq⟩ : ∃ q, q = (esV ys 0 15).1 := ⟨_, rfl⟩
    have hq' := hq.symm
    have hqd : (dehV ys).1 = q := hq'
    rw [hq'] at hW
    obtain ⟨E, hE⟩ : ∃ E, E = (esV ys 0 15).2 := ⟨_, rfl⟩
    have hE' := hE.symm
    have hEd : (dehV ys).2 = E := hE'
    rw [hE'] at hW
    obtain ⟨hW, m1, m2, m3, m4⟩ := hW
    have a1 := pickV_nonneg ys q 9 (by omega)
    have a2 := pickV_lt ys q 9 (by omega)
    have a3 := pickV_nonneg ys (q + 1) 12 (by omega)
    have a4 := pickV_lt ys (q + 1) 12 (by omega)
    have hdv : (pickV ys (q + 1) 12).tdiv 11 = pickV ys (q + 1) 12 / 11 := Int.tdiv_eq_ediv_of_nonneg a3
    have w1 : IntKind.i64.wrap (pickV ys (q + 1) 12 / 11) = pickV ys (q + 1) 12 / 11 := wrap_id (by omega) (by omega)
    have w2 : IntKind.i64.wrap (pickV ys q 9 - pickV ys (q + 1) 12 / 11) = pickV ys q 9 - pickV ys (q + 1) 12 / 11 := wrap_id (by omega) (by omega)
    have hv : derM ys = pickV ys q 9 - pickV ys (q + 1) 12 / 11 := by rw [derM, hqd]
    rw [hv, hEd]
    refine ⟨⟨rfl, by simp [AV.ids, AV.ids.idsL]⟩, [.l 1 (rowsOfBytes xs)], rfl, fun w Z s vs h => CvL.ok (.cons (.l _ _ _ (rowsOf_w xs)) .nil) h, ?_⟩
    simp (maxSteps := 3000000) only [Try.f22, ndea, g_open, g_ear, g_pick, bytesOf_rows, rowsOf_len, ← hys, hx, hq', hE', hdv, w1, w2, tYs, evL, implies_true, oMin, x_min3, oMin3, x_max, oMax, oCopy, oBin, oUn, oLoadKid, oStoreTree, oField, oExtract, oNil, oSliceQ, oSliceE, x_appendZ, oAppendZ, oSliceEnd, endMode, oLoadRow, takeCells, TS.atRow, TS.ex, treeMode, AV.isOwn, TK.isSl, nilTk, nilsB, oLenQ, oLen, nodupB, treeOf, kidAbs, kidRows, TK.isCell, D.toL, oLoad, oStore, oMake, oIndexAddr, ↓reduceIte, reduceCtorEq, Nat.reduceBEq, Nat.reduceAdd, Nat.reduceMul, Nat.reduceLT, Nat.reduceSub, Nat.reduceLeDiff, Nat.reduceEqDiff, Nat.reduceBneDiff, Int.reduceToNat, decide_eq_true_eq, decide_eq_false_iff_not, beq_iff_eq, Int.toNat_natCast, doneD_ret, doneD_normal]
    clear w1 w2 hdv
    (repeat (refine And.intro ?_ ?_; focus (((repeat' apply And.intro) <;> first | exact rowsOf_w _ | omega | (simp only [List.length_append, rowsOf_len, List.length_cons, List.length_nil, marks_len, List.length_take, List.length_drop, List.length_set]; omega) | exact ⟨_, rfl⟩ | (refine ⟨_, rfl, ?_⟩; omega) | (refine ⟨_, rfl, ?_⟩; simp only [List.length_append, rowsOf_len, List.length_cons, List.length_nil, marks_len, List.length_take, List.length_drop, List.length_set]; omega) | kernel_rfl | (simp; done)); done)))
    exact ⟨_, rfl, rfl⟩
  · cases hg
set_option maxHeartbeats 4000000 in
set_option maxRecDepth 100000 in
theorem drawEarHear_ok : OwnOk Try.prog 17 (ocOf g_drawEah) := by
  refine OwnOk.of_vcD (G := ndea) ndea_ok mixed Try.func17 (by kernel_rfl) rfl ?_
  intro args cnd r bs hg hc
  unfold g_drawEah at hg
  split at hg
  · rename_i sz rows
    cases hg
    obtain ⟨xs, rfl⟩ := hc
    rw [bytesOf_rows]
    have hx : (∃ ys, rowsOfBytes (List.take 2000 xs) = rowsOfBytes ys ∧ ys.length ≤ 2000) = True := eq_true ⟨_, rfl, by rw [List.length_take]; omega⟩
    obtain ⟨ys, hys⟩ : ∃ ys, ys = List.take 2000 xs := ⟨_, rfl⟩
    rw [← hys] at hx ⊢
    have hW := esV_mid ys 0 15 (by omega)
    obtain ⟨q, hq⟩ : ∃ q, q = (esV ys 0 15).1 := ⟨_, rfl⟩
    have hq' := hq.symm
    have hqd : (dehV ys).1 = q := hq'
    rw [hq'] at hW
    obtain ⟨E, hE⟩ : ∃ E, E = (esV ys 0 15).2 := ⟨_, rfl⟩
    have hE' := hE.symm
    have hEd : (dehV ys).2 = E := hE'
    rw [hE'] at hW
    obtain ⟨hW, m1, m2, m3, m4⟩ := hW
    have a1 := pickV_nonneg ys q 16 (by omega)
    have a2 := pickV_lt ys q 16 (by omega)
    have a5 := pickV_nonneg ys (q + 1 + 1) 9 (by omega)
    have a6 := pickV_lt ys (q + 1 + 1) 9 (by omega)
    have w1 : IntKind.i64.wrap (E.n + pickV ys q 16) = E.n + pickV ys q 16 := wrap_id (by omega) (by omega)
    have w2 : IntKind.i64.wrap (E.n + pickV ys q 16 - 5) = E.n + pickV ys q 16 - 5 := wrap_id (by omega) (by omega)
    obtain ⟨M, hM⟩ : ∃ M, M = (if E.n + pickV ys q 16 - 5 < 0 then 0 else E.n + pickV ys q 16 - 5) := ⟨_, rfl⟩
    have hM' := hM.symm
    have hMb : 0 ≤ M ∧ M ≤ 1000 := by rw [hM]; split <;> omega
    have hA : dehA ys = M := by rw [dehA, dehX, hEd, hqd, hM]
    clear hM
    refine ⟨⟨rfl, by simp [AV.ids, AV.ids.idsL]⟩, [.l 1 (rowsOfBytes xs)], rfl, fun w Z s vs h => CvL.ok (.cons (.l _ _ _ (rowsOf_w xs)) .nil) h, ?_⟩
    by_cases h5 : pickV ys (q + 1) 5 = 0
    · have c5 : (pickV ys (q + 1) 5 = 0) = True := eq_true h5
      have c5b : (pickV ys (q + 1) 5 == 0) = true := by simp [h5]
      have hD : dehD ys = bytesV ys (q + 1 + 1 + 1) (pickV ys (q + 1 + 1) 9).toNat := by rw [dehD, hqd, if_pos h5]
      rw [hD, hA, hEd]
      simp (maxSteps := 3000000) only [Try.f17, ndea, g_open, g_ear, g_pick, g_bytes, g_heardS, bytesOf_rows, rowsOf_len, ← hys, hx, hq', hE', w1, w2, hM', c5, c5b, gt_iff_lt, ↓reduceIte, Bool.false_eq_true, ↓reduceIte, Bool.false_eq_true, tYs, evL, implies_true, oMin, x_min3, oMin3, x_max, oMax, oCopy, oBin, oUn, oLoadKid, oStoreTree, oField, oExtract, oNil, oSliceQ, oSliceE, x_appendZ, oAppendZ, oSliceEnd, endMode, oLoadRow, takeCells, TS.atRow, TS.ex, treeMode, AV.isOwn, TK.isSl, nilTk, nilsB, oLenQ, oLen, nodupB, treeOf, kidAbs, kidRows, TK.isCell, D.toL, oLoad, oStore, oMake, oIndexAddr, ↓reduceIte, reduceCtorEq, Nat.reduceBEq, Nat.reduceAdd, Nat.reduceMul, Nat.reduceLT, Nat.reduceSub, Nat.reduceLeDiff, Nat.reduceEqDiff, Nat.reduceBneDiff, Int.reduceToNat, decide_eq_true_eq, decide_eq_false_iff_not, beq_iff_eq, Int.toNat_natCast, doneD_ret, doneD_normal]
      (repeat (refine And.intro ?_ ?_; focus (((repeat' apply And.intro) <;> first | exact rowsOf_w _ | omega | (simp only [List.length_append, rowsOf_len, List.length_cons, List.length_nil, marks_len, List.length_take, List.length_drop, List.length_set]; omega) | exact ⟨_, rfl⟩ | (refine ⟨_, rfl, ?_⟩; omega) | (refine ⟨_, rfl, ?_⟩; simp only [List.length_append, rowsOf_len, List.length_cons, List.length_nil, marks_len, List.length_take, List.length_drop, List.length_set]; omega) | kernel_rfl | (simp; done)); done)))
      exact ⟨_, rfl, rfl⟩
    · have c5 : (pickV ys (q + 1) 5 = 0) = False := eq_false h5
      have c5b : (pickV ys (q + 1) 5 == 0) = false := by simp [h5]
      have hD : dehD ys = heardV M (pickV ys (q + 1 + 1) 9).toNat := by rw [dehD, hqd, if_neg h5, hA]
      rw [hD, hA, hEd]
      simp (maxSteps := 3000000) only [Try.f17, ndea, g_open, g_ear, g_pick, g_bytes, g_heardS, bytesOf_rows, rowsOf_len, ← hys, hx, hq', hE', w1, w2, hM', c5, c5b, gt_iff_lt, ↓reduceIte, Bool.false_eq_true, ↓reduceIte, Bool.false_eq_true, tYs, evL, implies_true, oMin, x_min3, oMin3, x_max, oMax, oCopy, oBin, oUn, oLoadKid, oStoreTree, oField, oExtract, oNil, oSliceQ, oSliceE, x_appendZ, oAppendZ, oSliceEnd, endMode, oLoadRow, takeCells, TS.atRow, TS.ex, treeMode, AV.isOwn, TK.isSl, nilTk, nilsB, oLenQ, oLen, nodupB, treeOf, kidAbs, kidRows, TK.isCell, D.toL, oLoad, oStore, oMake, oIndexAddr, ↓reduceIte, reduceCtorEq, Nat.reduceBEq, Nat.reduceAdd, Nat.reduceMul, Nat.reduceLT, Nat.reduceSub, Nat.reduceLeDiff, Nat.reduceEqDiff, Nat.reduceBneDiff, Int.reduceToNat, decide_eq_true_eq, decide_eq_false_iff_not, beq_iff_eq, Int.toNat_natCast, doneD_ret, doneD_normal]
      (repeat (refine And.intro ?_ ?_; focus (((repeat' apply And.intro) <;> first | exact rowsOf_w _ | omega | (simp only [List.length_append, rowsOf_len, List.length_cons, List.length_nil, marks_len, List.length_take, List.length_drop, List.length_set]; omega) | exact ⟨_, rfl⟩ | (refine ⟨_, rfl, ?_⟩; omega) | (refine ⟨_, rfl, ?_⟩; simp only [List.length_append, rowsOf_len, List.length_cons, List.length_nil, marks_len, List.length_take, List.length_drop, List.length_set]; omega) | kernel_rfl | (simp; done)); done)))
      exact ⟨_, rfl, rfl⟩
  · cases hg
end Go.Proofs.Ytikcpbgnmdhilaa
