import Derived.Test.YtegffkmakkccaaaQa
import Derived.Test.YtegffkmakkccaaaVb
import Derived.Test.YtegffkmakkccaaaNum
set_option linter.unusedVariables false
set_option linter.unusedSimpArgs false
namespace Go.Proofs.Ytegffkmakkccaaa
open Go.RowKit
set_option linter.unusedSimpArgs false
def niOk (p : Int) (xs : List UInt8) : Bool := decide (p = 1) && nfOk xs
def niK (p : Int) (xs : List UInt8) : Int := if p = 1 then nfK xs else 0
def niN (p : Int) (xs : List UInt8) : Int := if p = 1 then nfN xs else 0
def niD (p : Int) (xs : List UInt8) : List UInt8 := if p = 1 then nfD xs else []
def nFault (p : Int) (xs : List UInt8) : Bool := decide (p = 1) && nfOk xs && inZ (nfK xs) 3 6
def naOk (f t p h i a : Int) (m u : Bool) (xs : List UInt8) (o k n : Int) : Bool := pkB f t p h i a m u xs.length && inZ o 0 65535 && inZ k 3 6 && inZ n 0 65535 && decide (a = 0) && !nFault p xs
def naD (f t p h i a : Int) (m u : Bool) (xs : List UInt8) (k n : Int) : List UInt8 := ntV k n ((pkV f t p h i a m u xs).take 20)
def g_noteIn : PC := fun args => match args with
  | [.agg [.v (.int .i64 f), .v (.int .i64 t), .v (.int .i64 p), .v (.int .i64 h), .v (.int .i64 i), .v (.int .i64 a), .v (.bool m), .v (.bool u), .l _ rows]] => some (∃ xs, rows = rowsOfBytes xs ∧ xs.length ≤ 1048576, .tup [.agg [.v (.int .i64 (niK p (bytesOfRows rows))), .v (.int .i64 (niN p (bytesOfRows rows))), .own 0], .v (.bool (niOk p (bytesOfRows rows)))], [.sl 5 1 (rowsOfBytes (niD p (bytesOfRows rows)))])
  | _ => none
def g_isFault : PC := fun args => match args with
  | [.v (.int .i64 k)] => some (True, .v (.bool (inZ k 3 6)), [])
  | _ => none
def g_noteFault : PC := fun args => match args with
  | [.agg [.v (.int .i64 f), .v (.int .i64 t), .v (.int .i64 p), .v (.int .i64 h), .v (.int .i64 i), .v (.int .i64 a), .v (.bool m), .v (.bool u), .l _ rows]] => some (∃ xs, rows = rowsOfBytes xs ∧ xs.length ≤ 1048576, .v (.bool (nFault p (bytesOfRows rows))), [])
  | _ => none
def g_noteSent : PC := fun args => match args with
  | [.agg [.v (.int .i64 f), .v (.int .i64 t), .v (.int .i64 p), .v (.int .i64 h), .v (.int .i64 i), .v (.int .i64 a), .v (.bool m), .v (.bool u), .l _ rows], .v (.int .i64 o), .agg [.v (.int .i64 k), .v (.int .i64 n), .l _ rows']] => some ((∃ xs, rows = rowsOfBytes xs) ∧ ∃ ys, rows' = rowsOfBytes ys, .agg [.v (.int .i64 o), .v (.int .i64 f), .v (.int .i64 1), .v (.int .i64 64), .v (.int .i64 i), .v (.int .i64 0), .v (.bool false), .v (.bool false), .own 0], [.sl 5 1 (rowsOfBytes (ntV k n (bytesOfRows rows')))])
  | _ => none
def g_noteAbout : PC := fun args => match args with
  | [.agg [.v (.int .i64 f), .v (.int .i64 t), .v (.int .i64 p), .v (.int .i64 h), .v (.int .i64 i), .v (.int .i64 a), .v (.bool m), .v (.bool u), .l _ rows], .v (.int .i64 o), .v (.int .i64 k), .v (.int .i64 n)] => some (∃ xs, rows = rowsOfBytes xs ∧ xs.length ≤ 1048576, .tup [.agg [.v (.int .i64 (if naOk f t p h i a m u (bytesOfRows rows) o k n = true then o else 0)), .v (.int .i64 (if naOk f t p h i a m u (bytesOfRows rows) o k n = true then f else 0)), .v (.int .i64 (if naOk f t p h i a m u (bytesOfRows rows) o k n = true then 1 else 0)), .v (.int .i64 (if naOk f t p h i a m u (bytesOfRows rows) o k n = true then 64 else 0)), .v (.int .i64 (if naOk f t p h i a m u (bytesOfRows rows) o k n = true then i else 0)), .v (.int .i64 0), .v (.bool false), .v (.bool false), .own 0], .v (.bool (naOk f t p h i a m u (bytesOfRows rows) o k n))], [.sl 5 1 (rowsOfBytes (if naOk f t p h i a m u (bytesOfRows rows) o k n = true then naD f t p h i a m u (bytesOfRows rows) k n else []))])
  | _ => none
def ni1 : List (FuncId × Abs) := [(23, pureAbs g_noteFrom)]
theorem ni1_ok : ∀ p ∈ ni1, CallOk Try.prog p.1 p.2 := by
  intro p hp
  simp only [ni1, List.mem_cons, List.not_mem_nil, or_false] at hp
  rcases hp with rfl
  · exact implNoteFrom_ok.call
set_option maxRecDepth 100000 in
theorem noteIn_ok : PureOk Try.prog 75 g_noteIn := by
  refine PureOk.of_vc (G := ni1) ni1_ok mixed Try.func75 (by kernel_rfl) rfl ?_
  intro args cnd r bs hg hc
  unfold g_noteIn at hg
  split at hg
  · rename_i f t p h i a m u sz rows
    cases hg
    obtain ⟨xs, rfl, hl⟩ := hc
    rw [bytesOf_rows]
    refine ⟨⟨rfl, by simpa [flatB] using rowsOf_flat (niD p xs), by simp [AV.ids, AV.ids.idsL]⟩, [.agg [.v (.int .i64 f), .v (.int .i64 t), .v (.int .i64 p), .v (.int .i64 h), .v (.int .i64 i), .v (.int .i64 a), .v (.bool m), .v (.bool u), (.l 1 (rowsOfBytes xs))]], rfl, fun w vs h => CvL.ok (.cons (.cons (.refl _) (.cons (.refl _) (.cons (.refl _) (.cons (.refl _) (.cons (.refl _) (.cons (.refl _) (.cons (.refl _) (.cons (.refl _) (.cons (.l _ _ _ (rowsOf_w xs)) .nil))))))))) .nil) h, ?_⟩
    by_cases hp : p = 1
    · have hp1 : (p = 1) = True := eq_true hp
      have hp2 : (p == 1) = true := by simp [hp]
      have hp3 : (p != 1) = false := by simp [hp]
      simp (maxSteps := 3000000) only [Try.f75, ni1, g_noteFrom, bytesOf_rows, rowsOf_len, hp1, hp2, hp3, niK, niN, niD, niOk, decide_true, decide_false, Bool.true_and, Bool.false_and, rowsOf_nil, ↓reduceIte, Bool.false_eq_true, tYs, evL, implies_true, oMin, oCopy, oBin, oUn, oLoadKid, oStoreTree, oField, oExtract, oNil, oSliceQ, oLoadRow, takeCells, TS.atRow, TS.ex, treeMode, AV.isOwn, TK.isSl, nilTk, nilsB, oLenQ, oLen, nodupB, treeOf, kidAbs, kidRows, TK.isCell, D.toL, oLoad, oStore, oMake, oIndexAddr, ↓reduceIte, reduceCtorEq, Nat.reduceBEq, Nat.reduceAdd, Nat.reduceMul, Nat.reduceLT, Nat.reduceSub, Nat.reduceLeDiff, Nat.reduceEqDiff, Nat.reduceBneDiff, Int.reduceToNat, decide_eq_true_eq, decide_eq_false_iff_not, beq_iff_eq, Int.toNat_natCast]
      refine ⟨⟨xs, rfl, hl⟩, ?_⟩
      exact ⟨_, [(0, some _)], rfl, ⟨⟨⟨rfl, rfl, rfl⟩, trivial⟩, ⟨.inl rfl, rfl, rfl, rfl, trivial⟩, by simp [rn, hpAt]⟩⟩
    · have hp1 : (p = 1) = False := eq_false hp
      have hp2 : (p == 1) = false := by simp [hp]
      have hp3 : (p != 1) = true := by simp [hp]
      simp (maxSteps := 3000000) only [Try.f75, ni1, g_noteFrom, bytesOf_rows, rowsOf_len, hp1, hp2, hp3, niK, niN, niD, niOk, decide_true, decide_false, Bool.true_and, Bool.false_and, rowsOf_nil, ↓reduceIte, Bool.false_eq_true, tYs, evL, implies_true, oMin, oCopy, oBin, oUn, oLoadKid, oStoreTree, oField, oExtract, oNil, oSliceQ, oLoadRow, takeCells, TS.atRow, TS.ex, treeMode, AV.isOwn, TK.isSl, nilTk, nilsB, oLenQ, oLen, nodupB, treeOf, kidAbs, kidRows, TK.isCell, D.toL, oLoad, oStore, oMake, oIndexAddr, ↓reduceIte, reduceCtorEq, Nat.reduceBEq, Nat.reduceAdd, Nat.reduceMul, Nat.reduceLT, Nat.reduceSub, Nat.reduceLeDiff, Nat.reduceEqDiff, Nat.reduceBneDiff, Int.reduceToNat, decide_eq_true_eq, decide_eq_false_iff_not, beq_iff_eq, Int.toNat_natCast]
      exact ⟨_, [(0, none)], rfl, ⟨⟨⟨rfl, rfl, rfl⟩, trivial⟩, ⟨⟨by omega, rfl⟩, rfl, rfl, rfl, trivial⟩, by simp [rn, hpAt]⟩⟩
  · cases hg
set_option maxRecDepth 100000 in
theorem isFault_ok : PureOk Try.prog 82 g_isFault := by
  refine PureOk.of_vc (G := []) (by simp) mixed Try.func82 (by kernel_rfl) rfl ?_
  intro args cnd r bs hg hc
  unfold g_isFault at hg
  split at hg
  · rename_i k
    cases hg
    refine ⟨⟨rfl, by simp, by simp [AV.ids, AV.ids.idsL]⟩, _, rfl, fun w vs h => h, ?_⟩
    simp (maxSteps := 3000000) only [Try.f82, tYs, evL, implies_true, oMin, oCopy, oBin, oUn, oLoadKid, oStoreTree, oField, oExtract, oNil, oSliceQ, oLoadRow, takeCells, TS.atRow, TS.ex, treeMode, AV.isOwn, TK.isSl, nilTk, nilsB, oLenQ, oLen, nodupB, treeOf, kidAbs, kidRows, TK.isCell, D.toL, oLoad, oStore, oMake, oIndexAddr, ↓reduceIte, reduceCtorEq, Nat.reduceBEq, Nat.reduceAdd, Nat.reduceMul, Nat.reduceLT, Nat.reduceSub, Nat.reduceLeDiff, Nat.reduceEqDiff, Nat.reduceBneDiff, Int.reduceToNat, decide_eq_true_eq, decide_eq_false_iff_not, beq_iff_eq, Int.toNat_natCast]
    repeat' split
    all_goals (refine ⟨_, [], rfl, ⟨⟨⟨?_, rfl, rfl⟩, trivial⟩, by simp [hpAt, fitH], by simp [hpAt]⟩⟩; refine congrArg (fun b => AV.v (Value.bool b)) ?_; first | rfl | (rw [Bool.eq_iff_iff]; simp only [decide_eq_true_eq, inZ, Bool.and_eq_true, Bool.or_eq_true, bne_iff_ne, Bool.false_eq_true, beq_eq_false_iff_ne, beq_iff_eq, ne_eq, decide_eq_false_iff_not, Bool.not_eq_eq_eq_not, Bool.not_true, Bool.not_false, false_iff, iff_false, true_iff, iff_true] at *; omega))
  · cases hg
def ni2 : List (FuncId × Abs) := [(75, pureAbs g_noteIn), (82, pureAbs g_isFault)]
theorem ni2_ok : ∀ p ∈ ni2, CallOk Try.prog p.1 p.2 := by
  intro p hp
  simp only [ni2, List.mem_cons, List.not_mem_nil, or_false] at hp
  rcases hp with rfl | rfl
  · exact noteIn_ok.call
  · exact isFault_ok.call
set_option maxRecDepth 100000 in
theorem implNoteFault_ok : PureOk Try.prog 25 g_noteFault := by
  refine PureOk.of_vc (G := ni2) ni2_ok mixed Try.func25 (by kernel_rfl) rfl ?_
  intro args cnd r bs hg hc
  unfold g_noteFault at hg
  split at hg
  · rename_i f t p h i a m u sz rows
    cases hg
    obtain ⟨xs, rfl, hl⟩ := hc
    rw [bytesOf_rows]
    refine ⟨⟨rfl, by simp, by simp [AV.ids, AV.ids.idsL]⟩, [.agg [.v (.int .i64 f), .v (.int .i64 t), .v (.int .i64 p), .v (.int .i64 h), .v (.int .i64 i), .v (.int .i64 a), .v (.bool m), .v (.bool u), (.l 1 (rowsOfBytes xs))]], rfl, fun w vs h => CvL.ok (.cons (.cons (.refl _) (.cons (.refl _) (.cons (.refl _) (.cons (.refl _) (.cons (.refl _) (.cons (.refl _) (.cons (.refl _) (.cons (.refl _) (.cons (.l _ _ _ (rowsOf_w xs)) .nil))))))))) .nil) h, ?_⟩
    by_cases hp : p = 1
    · have hp1 : (p = 1) = True := eq_true hp
      have hp2 : (p == 1) = true := by simp [hp]
      have hp3 : (p != 1) = false := by simp [hp]
      rcases hq : nfOk xs with _ | _
      · simp (maxSteps := 3000000) only [Try.f25, ni2, g_noteIn, g_isFault, bytesOf_rows, rowsOf_len, hp1, niK, niOk, nFault, hq, decide_true, decide_false, Bool.true_and, Bool.false_and, ↓reduceIte, Bool.false_eq_true, tYs, evL, implies_true, oMin, oCopy, oBin, oUn, oLoadKid, oStoreTree, oField, oExtract, oNil, oSliceQ, oLoadRow, takeCells, TS.atRow, TS.ex, treeMode, AV.isOwn, TK.isSl, nilTk, nilsB, oLenQ, oLen, nodupB, treeOf, kidAbs, kidRows, TK.isCell, D.toL, oLoad, oStore, oMake, oIndexAddr, ↓reduceIte, reduceCtorEq, Nat.reduceBEq, Nat.reduceAdd, Nat.reduceMul, Nat.reduceLT, Nat.reduceSub, Nat.reduceLeDiff, Nat.reduceEqDiff, Nat.reduceBneDiff, Int.reduceToNat, decide_eq_true_eq, decide_eq_false_iff_not, beq_iff_eq, Int.toNat_natCast]
        refine ⟨⟨xs, rfl, hl⟩, ?_⟩
        exact ⟨_, [], rfl, ⟨⟨⟨rfl, rfl, rfl⟩, trivial⟩, trivial, by simp [rn, hpAt]⟩⟩
      · simp (maxSteps := 3000000) only [Try.f25, ni2, g_noteIn, g_isFault, bytesOf_rows, rowsOf_len, hp1, niK, niOk, nFault, hq, decide_true, decide_false, Bool.true_and, Bool.false_and, ↓reduceIte, Bool.false_eq_true, tYs, evL, implies_true, oMin, oCopy, oBin, oUn, oLoadKid, oStoreTree, oField, oExtract, oNil, oSliceQ, oLoadRow, takeCells, TS.atRow, TS.ex, treeMode, AV.isOwn, TK.isSl, nilTk, nilsB, oLenQ, oLen, nodupB, treeOf, kidAbs, kidRows, TK.isCell, D.toL, oLoad, oStore, oMake, oIndexAddr, ↓reduceIte, reduceCtorEq, Nat.reduceBEq, Nat.reduceAdd, Nat.reduceMul, Nat.reduceLT, Nat.reduceSub, Nat.reduceLeDiff, Nat.reduceEqDiff, Nat.reduceBneDiff, Int.reduceToNat, decide_eq_true_eq, decide_eq_false_iff_not, beq_iff_eq, Int.toNat_natCast]
        refine ⟨⟨xs, rfl, hl⟩, ?_⟩
        exact ⟨_, [], rfl, ⟨⟨⟨rfl, rfl, rfl⟩, trivial⟩, trivial, by simp [rn, hpAt]⟩⟩
    · have hp1 : (p = 1) = False := eq_false hp
      have hp2 : (p == 1) = false := by simp [hp]
      have hp3 : (p != 1) = true := by simp [hp]
      rcases hq : nfOk xs with _ | _
      · simp (maxSteps := 3000000) only [Try.f25, ni2, g_noteIn, g_isFault, bytesOf_rows, rowsOf_len, hp1, niK, niOk, nFault, hq, decide_true, decide_false, Bool.true_and, Bool.false_and, ↓reduceIte, Bool.false_eq_true, tYs, evL, implies_true, oMin, oCopy, oBin, oUn, oLoadKid, oStoreTree, oField, oExtract, oNil, oSliceQ, oLoadRow, takeCells, TS.atRow, TS.ex, treeMode, AV.isOwn, TK.isSl, nilTk, nilsB, oLenQ, oLen, nodupB, treeOf, kidAbs, kidRows, TK.isCell, D.toL, oLoad, oStore, oMake, oIndexAddr, ↓reduceIte, reduceCtorEq, Nat.reduceBEq, Nat.reduceAdd, Nat.reduceMul, Nat.reduceLT, Nat.reduceSub, Nat.reduceLeDiff, Nat.reduceEqDiff, Nat.reduceBneDiff, Int.reduceToNat, decide_eq_true_eq, decide_eq_false_iff_not, beq_iff_eq, Int.toNat_natCast]
        refine ⟨⟨xs, rfl, hl⟩, ?_⟩
        exact ⟨_, [], rfl, ⟨⟨⟨rfl, rfl, rfl⟩, trivial⟩, trivial, by simp [rn, hpAt]⟩⟩
      · simp (maxSteps := 3000000) only [Try.f25, ni2, g_noteIn, g_isFault, bytesOf_rows, rowsOf_len, hp1, niK, niOk, nFault, hq, decide_true, decide_false, Bool.true_and, Bool.false_and, ↓reduceIte, Bool.false_eq_true, tYs, evL, implies_true, oMin, oCopy, oBin, oUn, oLoadKid, oStoreTree, oField, oExtract, oNil, oSliceQ, oLoadRow, takeCells, TS.atRow, TS.ex, treeMode, AV.isOwn, TK.isSl, nilTk, nilsB, oLenQ, oLen, nodupB, treeOf, kidAbs, kidRows, TK.isCell, D.toL, oLoad, oStore, oMake, oIndexAddr, ↓reduceIte, reduceCtorEq, Nat.reduceBEq, Nat.reduceAdd, Nat.reduceMul, Nat.reduceLT, Nat.reduceSub, Nat.reduceLeDiff, Nat.reduceEqDiff, Nat.reduceBneDiff, Int.reduceToNat, decide_eq_true_eq, decide_eq_false_iff_not, beq_iff_eq, Int.toNat_natCast]
        refine ⟨⟨xs, rfl, hl⟩, ?_⟩
        exact ⟨_, [], rfl, ⟨⟨⟨rfl, rfl, rfl⟩, trivial⟩, trivial, by simp [rn, hpAt]⟩⟩
  · cases hg
def ni4 : List (FuncId × Abs) := [(129, pureAbs g_noteBytes)]
theorem ni4_ok : ∀ p ∈ ni4, CallOk Try.prog p.1 p.2 := by
  intro p hp
  simp only [ni4, List.mem_cons, List.not_mem_nil, or_false] at hp
  rcases hp with rfl
  · exact implNoteBytes_ok.call
set_option maxRecDepth 100000 in
theorem noteSent_ok : PureOk Try.prog 76 g_noteSent := by
  refine PureOk.of_vc (G := ni4) ni4_ok mixed Try.func76 (by kernel_rfl) rfl ?_
  intro args cnd r bs hg hc
  unfold g_noteSent at hg
  split at hg
  · rename_i f t p h i a m u sz rows o k n sz' rows'
    cases hg
    obtain ⟨⟨xs, rfl⟩, ys, rfl⟩ := hc
    rw [bytesOf_rows]
    refine ⟨⟨rfl, by simpa [flatB] using rowsOf_flat (ntV k n ys), by simp [AV.ids, AV.ids.idsL]⟩, [.agg [.v (.int .i64 f), .v (.int .i64 t), .v (.int .i64 p), .v (.int .i64 h), .v (.int .i64 i), .v (.int .i64 a), .v (.bool m), .v (.bool u), (.l 1 (rowsOfBytes xs))], .v (.int .i64 o), .agg [.v (.int .i64 k), .v (.int .i64 n), .l 1 (rowsOfBytes ys)]], rfl, fun w vs h => CvL.ok (.cons (.cons (.refl _) (.cons (.refl _) (.cons (.refl _) (.cons (.refl _) (.cons (.refl _) (.cons (.refl _) (.cons (.refl _) (.cons (.refl _) (.cons (.l _ _ _ (rowsOf_w xs)) .nil))))))))) (.cons (.refl _) (.cons (.cons (.refl _) (.cons (.refl _) (.cons (.l _ _ _ (rowsOf_w ys)) .nil))) .nil))) h, ?_⟩
    simp (maxSteps := 3000000) only [Try.f76, ni4, g_noteBytes, bytesOf_rows, rowsOf_len, tYs, evL, implies_true, oMin, oCopy, oBin, oUn, oLoadKid, oStoreTree, oField, oExtract, oNil, oSliceQ, oLoadRow, takeCells, TS.atRow, TS.ex, treeMode, AV.isOwn, TK.isSl, nilTk, nilsB, oLenQ, oLen, nodupB, treeOf, kidAbs, kidRows, TK.isCell, D.toL, oLoad, oStore, oMake, oIndexAddr, ↓reduceIte, reduceCtorEq, Nat.reduceBEq, Nat.reduceAdd, Nat.reduceMul, Nat.reduceLT, Nat.reduceSub, Nat.reduceLeDiff, Nat.reduceEqDiff, Nat.reduceBneDiff, Int.reduceToNat, decide_eq_true_eq, decide_eq_false_iff_not, beq_iff_eq, Int.toNat_natCast]
    (repeat (refine And.intro ?_ ?_; focus (((repeat' apply And.intro) <;> first | exact rowsOf_w _ | omega | (simp only [List.length_append, rowsOf_len, List.length_cons, List.length_nil, marks_len, List.length_take, List.length_drop, List.length_set]; omega) | exact ⟨_, rfl⟩ | (refine ⟨_, rfl, ?_⟩; omega) | (refine ⟨_, rfl, ?_⟩; simp only [List.length_append, rowsOf_len, List.length_cons, List.length_nil, marks_len, List.length_take, List.length_drop, List.length_set]; omega) | kernel_rfl | (simp; done)); done)))
    exact ⟨_, [(0, some _)], rfl, ⟨⟨⟨rfl, rfl, rfl⟩, trivial⟩, ⟨.inl rfl, rfl, rfl, rfl, trivial⟩, by simp [rn, hpAt]⟩⟩
  · cases hg
end Go.Proofs.Ytegffkmakkccaaa
