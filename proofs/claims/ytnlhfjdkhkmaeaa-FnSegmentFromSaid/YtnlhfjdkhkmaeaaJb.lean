import Derived.Test.YtnlhfjdkhkmaeaaJa
import Derived.Test.YtnlhfjdkhkmaeaaLc
import Derived.Test.YtnlhfjdkhkmaeaaVa
import Derived.Test.YtnlhfjdkhkmaeaaR7
set_option linter.unusedVariables false
set_option linter.unusedSimpArgs false
namespace Go.Proofs.Ytnlhfjdkhkmaeaa
open Go.RowKit
set_option linter.unusedSimpArgs false
def g_segOk : PC := fun args => match args with
  | [.agg [.v (.int .i64 f), .v (.int .i64 t), .v (.int .i64 sq), .v (.int .i64 ak), .v (.int .i64 rm), .v (.bool fi), .v (.bool he), .v (.bool la), .v (.bool re), .l _ rr, .l _ rd]] => some ((∃ l, rr = rgRows l ∧ l.length ≤ 1048576) ∧ ∃ xs, rd = rowsOfBytes xs ∧ xs.length ≤ 140737488355328, .v (.bool (sgK f t sq ak rm fi he la re (rgsOf rr) (bytesOfRows rd).length)), [])
  | _ => none
def g_segLong : PC := fun args => match args with
  | [.agg [.v (.int .i64 f), .v (.int .i64 t), .v (.int .i64 sq), .v (.int .i64 ak), .v (.int .i64 rm), .v (.bool fi), .v (.bool he), .v (.bool la), .v (.bool re), .l _ rr, .l _ rd]] => some ((∃ l, rr = rgRows l ∧ l.length ≤ 1048576) ∧ ∃ xs, rd = rowsOfBytes xs ∧ xs.length ≤ 140737488355328, .v (.int .i64 (longV ⟨f, t, sq, ak, rm, fi, he, la, re, (rgsOf rr), (bytesOfRows rd)⟩)), [])
  | _ => none
def g_marks : PC := fun args => match args with
  | [.agg [.v (.int .i64 f), .v (.int .i64 t), .v (.int .i64 sq), .v (.int .i64 ak), .v (.int .i64 rm), .v (.bool fi), .v (.bool he), .v (.bool la), .v (.bool re), .l _ rr, .l _ rd]] => some ((∃ l, rr = rgRows l ∧ l.length ≤ 1048576) ∧ ∃ xs, rd = rowsOfBytes xs ∧ xs.length ≤ 140737488355328, .v (.int .i64 (mkI fi he la re)), [])
  | _ => none
def g_segBytes : PC := fun args => match args with
  | [.agg [.v (.int .i64 f), .v (.int .i64 t), .v (.int .i64 sq), .v (.int .i64 ak), .v (.int .i64 rm), .v (.bool fi), .v (.bool he), .v (.bool la), .v (.bool re), .l _ rr, .l _ rd], .v (.int .i64 a), .v (.int .i64 b)] => some ((∃ l, rr = rgRows l ∧ l.length ≤ 1048576) ∧ ∃ xs, rd = rowsOfBytes xs ∧ xs.length ≤ 140737488355328, .own 0, [.sl 5 1 (rowsOfBytes (sgV ⟨f, t, sq, ak, rm, fi, he, la, re, (rgsOf rr), (bytesOfRows rd)⟩ a b))])
  | _ => none
theorem row1 (a : Int) : [[D.v (.int .u8 (IntKind.u8.wrap a))]] = rowsOfBytes [toU8 a] := by
  rw [← toU8_val]; rfl
theorem row2 (a b : Int) : [[D.v (.int .u8 (IntKind.u8.wrap a))], [D.v (.int .u8 (IntKind.u8.wrap b))]] = rowsOfBytes [toU8 a, toU8 b] := by
  rw [← toU8_val, ← toU8_val]; rfl
theorem row3 (a b c : Int) : [[D.v (.int .u8 (IntKind.u8.wrap a))], [D.v (.int .u8 (IntKind.u8.wrap b))], [D.v (.int .u8 (IntKind.u8.wrap c))]] = rowsOfBytes [toU8 a, toU8 b, toU8 c] := by
  rw [← toU8_val, ← toU8_val, ← toU8_val]; rfl
theorem rgs_upto {l : List Rg} {k : Nat} (hk : k < l.length) (h : (l.take k).all rgB = true) (h1 : rgB l[k] = true) : (l.take (k + 1)).all rgB = true := by
  rw [List.take_add_one, List.getElem?_eq_getElem hk, List.all_append, h]
  simp [h1]
theorem rgs_fault {l : List Rg} {k : Nat} (hk : k < l.length) (h1 : rgB l[k] = false) : l.all rgB = false := by
  rw [Bool.eq_false_iff]
  intro h
  rw [List.all_eq_true.1 h _ (List.getElem_mem hk)] at h1
  cases h1
def go1s : List (FuncId × Abs) := [(40, pureAbs g_l1In)]
theorem go1s_ok : ∀ p ∈ go1s, CallOk Try.prog p.1 p.2 := by
  intro p hp
  simp only [go1s, List.mem_cons, List.not_mem_nil, or_false] at hp
  rcases hp with rfl
  · exact l1In_ok.call
set_option maxHeartbeats 4000000 in
set_option maxRecDepth 100000 in
theorem specSegmentOk_ok : PureOk Try.prog 13 g_segOk := by
  refine PureOk.of_vc (G := go1s) go1s_ok mixed Try.func13 (by kernel_rfl) rfl ?_
  intro args cnd r bs hg hc
  unfold g_segOk at hg
  split at hg
  · rename_i f t sq ak rm fi he la re sr rr sd rd
    cases hg
    obtain ⟨⟨l, rfl, hl⟩, xs, rfl, hx⟩ := hc
    rw [rgsOf_rows, bytesOf_rows]
    refine ⟨⟨rfl, by simp, by simp [AV.ids, AV.ids.idsL]⟩, [.agg [.v (.int .i64 f), .v (.int .i64 t), .v (.int .i64 sq), .v (.int .i64 ak), .v (.int .i64 rm), .v (.bool fi), .v (.bool he), .v (.bool la), .v (.bool re), (.l 2 (rgRows l)), (.l 1 (rowsOfBytes xs))]], rfl, fun w vs h => CvL.ok (.cons (.cons (.refl _) (.cons (.refl _) (.cons (.refl _) (.cons (.refl _) (.cons (.refl _) (.cons (.refl _) (.cons (.refl _) (.cons (.refl _) (.cons (.refl _) (.cons (.l _ _ _ (rgRows_w l)) (.cons (.l _ _ _ (rowsOf_w xs)) .nil))))))))))) .nil) h, ?_⟩
    rcases h0 : inZ f 1 255 with _ | _
    · have e : sgK f t sq ak rm fi he la re l xs.length = false := by rw [sgK, h0]; simp
      rw [e]
      simp (maxSteps := 3000000) only [Try.f13, go1s, g_l1In, rgRows_len, rowsOf_len, h0, Bool.not_true, Bool.not_false, ↓reduceIte, Bool.false_eq_true, D.toI, D.toL, tYs, evL, implies_true, oMin, x_max, oMax, oCopy, oBin, oUn, oLoadKid, oStoreTree, oField, oExtract, oNil, oSliceQ, oSliceE, x_appendZ, oAppendZ, oSliceEnd, endMode, oLoadRow, takeCells, TS.atRow, TS.ex, treeMode, AV.isOwn, TK.isSl, nilTk, nilsB, oLenQ, oLen, nodupB, treeOf, kidAbs, kidRows, TK.isCell, D.toL, oLoad, oStore, oMake, oIndexAddr, ↓reduceIte, reduceCtorEq, Nat.reduceBEq, Nat.reduceAdd, Nat.reduceMul, Nat.reduceLT, Nat.reduceSub, Nat.reduceLeDiff, Nat.reduceEqDiff, Nat.reduceBneDiff, Int.reduceToNat, decide_eq_true_eq, decide_eq_false_iff_not, beq_iff_eq, Int.toNat_natCast, loopK_normal, loopK_exit, loopK_ret]
      exact ⟨_, [], rfl, ⟨⟨⟨rfl, rfl, rfl⟩, trivial⟩, trivial, by simp [rn, hpAt]⟩⟩
    · rcases h1 : inZ t 1 255 with _ | _
      · have e : sgK f t sq ak rm fi he la re l xs.length = false := by rw [sgK, h0, h1]; simp
        rw [e]
        simp (maxSteps := 3000000) only [Try.f13, go1s, g_l1In, rgRows_len, rowsOf_len, h0, h1, Bool.not_true, Bool.not_false, ↓reduceIte, Bool.false_eq_true, D.toI, D.toL, tYs, evL, implies_true, oMin, x_max, oMax, oCopy, oBin, oUn, oLoadKid, oStoreTree, oField, oExtract, oNil, oSliceQ, oSliceE, x_appendZ, oAppendZ, oSliceEnd, endMode, oLoadRow, takeCells, TS.atRow, TS.ex, treeMode, AV.isOwn, TK.isSl, nilTk, nilsB, oLenQ, oLen, nodupB, treeOf, kidAbs, kidRows, TK.isCell, D.toL, oLoad, oStore, oMake, oIndexAddr, ↓reduceIte, reduceCtorEq, Nat.reduceBEq, Nat.reduceAdd, Nat.reduceMul, Nat.reduceLT, Nat.reduceSub, Nat.reduceLeDiff, Nat.reduceEqDiff, Nat.reduceBneDiff, Int.reduceToNat, decide_eq_true_eq, decide_eq_false_iff_not, beq_iff_eq, Int.toNat_natCast, loopK_normal, loopK_exit, loopK_ret]
        exact ⟨_, [], rfl, ⟨⟨⟨rfl, rfl, rfl⟩, trivial⟩, trivial, by simp [rn, hpAt]⟩⟩
      · rcases h2 : inZ sq 0 65535 with _ | _
        · have e : sgK f t sq ak rm fi he la re l xs.length = false := by rw [sgK, h0, h1, h2]; simp
          rw [e]
          simp (maxSteps := 3000000) only [Try.f13, go1s, g_l1In, rgRows_len, rowsOf_len, h0, h1, h2, Bool.not_true, Bool.not_false, ↓reduceIte, Bool.false_eq_true, D.toI, D.toL, tYs, evL, implies_true, oMin, x_max, oMax, oCopy, oBin, oUn, oLoadKid, oStoreTree, oField, oExtract, oNil, oSliceQ, oSliceE, x_appendZ, oAppendZ, oSliceEnd, endMode, oLoadRow, takeCells, TS.atRow, TS.ex, treeMode, AV.isOwn, TK.isSl, nilTk, nilsB, oLenQ, oLen, nodupB, treeOf, kidAbs, kidRows, TK.isCell, D.toL, oLoad, oStore, oMake, oIndexAddr, ↓reduceIte, reduceCtorEq, Nat.reduceBEq, Nat.reduceAdd, Nat.reduceMul, Nat.reduceLT, Nat.reduceSub, Nat.reduceLeDiff, Nat.reduceEqDiff, Nat.reduceBneDiff, Int.reduceToNat, decide_eq_true_eq, decide_eq_false_iff_not, beq_iff_eq, Int.toNat_natCast, loopK_normal, loopK_exit, loopK_ret]
          exact ⟨_, [], rfl, ⟨⟨⟨rfl, rfl, rfl⟩, trivial⟩, trivial, by simp [rn, hpAt]⟩⟩
        · rcases h3 : inZ ak 0 65535 with _ | _
          · have e : sgK f t sq ak rm fi he la re l xs.length = false := by rw [sgK, h0, h1, h2, h3]; simp
            rw [e]
            simp (maxSteps := 3000000) only [Try.f13, go1s, g_l1In, rgRows_len, rowsOf_len, h0, h1, h2, h3, Bool.not_true, Bool.not_false, ↓reduceIte, Bool.false_eq_true, D.toI, D.toL, tYs, evL, implies_true, oMin, x_max, oMax, oCopy, oBin, oUn, oLoadKid, oStoreTree, oField, oExtract, oNil, oSliceQ, oSliceE, x_appendZ, oAppendZ, oSliceEnd, endMode, oLoadRow, takeCells, TS.atRow, TS.ex, treeMode, AV.isOwn, TK.isSl, nilTk, nilsB, oLenQ, oLen, nodupB, treeOf, kidAbs, kidRows, TK.isCell, D.toL, oLoad, oStore, oMake, oIndexAddr, ↓reduceIte, reduceCtorEq, Nat.reduceBEq, Nat.reduceAdd, Nat.reduceMul, Nat.reduceLT, Nat.reduceSub, Nat.reduceLeDiff, Nat.reduceEqDiff, Nat.reduceBneDiff, Int.reduceToNat, decide_eq_true_eq, decide_eq_false_iff_not, beq_iff_eq, Int.toNat_natCast, loopK_normal, loopK_exit, loopK_ret]
            exact ⟨_, [], rfl, ⟨⟨⟨rfl, rfl, rfl⟩, trivial⟩, trivial, by simp [rn, hpAt]⟩⟩
          · rcases h4 : inZ rm 0 255 with _ | _
            · have e : sgK f t sq ak rm fi he la re l xs.length = false := by rw [sgK, h0, h1, h2, h3, h4]; simp
              rw [e]
              simp (maxSteps := 3000000) only [Try.f13, go1s, g_l1In, rgRows_len, rowsOf_len, h0, h1, h2, h3, h4, Bool.not_true, Bool.not_false, ↓reduceIte, Bool.false_eq_true, D.toI, D.toL, tYs, evL, implies_true, oMin, x_max, oMax, oCopy, oBin, oUn, oLoadKid, oStoreTree, oField, oExtract, oNil, oSliceQ, oSliceE, x_appendZ, oAppendZ, oSliceEnd, endMode, oLoadRow, takeCells, TS.atRow, TS.ex, treeMode, AV.isOwn, TK.isSl, nilTk, nilsB, oLenQ, oLen, nodupB, treeOf, kidAbs, kidRows, TK.isCell, D.toL, oLoad, oStore, oMake, oIndexAddr, ↓reduceIte, reduceCtorEq, Nat.reduceBEq, Nat.reduceAdd, Nat.reduceMul, Nat.reduceLT, Nat.reduceSub, Nat.reduceLeDiff, Nat.reduceEqDiff, Nat.reduceBneDiff, Int.reduceToNat, decide_eq_true_eq, decide_eq_false_iff_not, beq_iff_eq, Int.toNat_natCast, loopK_normal, loopK_exit, loopK_ret]
              exact ⟨_, [], rfl, ⟨⟨⟨rfl, rfl, rfl⟩, trivial⟩, trivial, by simp [rn, hpAt]⟩⟩
            · by_cases n5 : l.length ≤ 2
              · have c5 : ((l.length : Int) > 2) = False := eq_false (by omega)
                by_cases n6 : xs.length ≤ 12
                · have c6 : ((xs.length : Int) > 12) = False := eq_false (by omega)
                  simp (maxSteps := 3000000) only [Try.f13, go1s, g_l1In, rgRows_len, rowsOf_len, h0, h1, h2, h3, h4, c5, c6, Bool.not_true, Bool.not_false, ↓reduceIte, Bool.false_eq_true, D.toI, D.toL, tYs, evL, implies_true, oMin, x_max, oMax, oCopy, oBin, oUn, oLoadKid, oStoreTree, oField, oExtract, oNil, oSliceQ, oSliceE, x_appendZ, oAppendZ, oSliceEnd, endMode, oLoadRow, takeCells, TS.atRow, TS.ex, treeMode, AV.isOwn, TK.isSl, nilTk, nilsB, oLenQ, oLen, nodupB, treeOf, kidAbs, kidRows, TK.isCell, D.toL, oLoad, oStore, oMake, oIndexAddr, ↓reduceIte, reduceCtorEq, Nat.reduceBEq, Nat.reduceAdd, Nat.reduceMul, Nat.reduceLT, Nat.reduceSub, Nat.reduceLeDiff, Nat.reduceEqDiff, Nat.reduceBneDiff, Int.reduceToNat, decide_eq_true_eq, decide_eq_false_iff_not, beq_iff_eq, Int.toNat_natCast, loopK_normal, loopK_exit, loopK_ret]
                  refine e_loop _ _ _ _ _ _ _ _ (fun k : Nat => [.any, .ptr 0 0, .any, .v (.int .i64 (k : Int))] ++ List.replicate (Try.f13.ntmps - 4) .any) (fun k => [(0, .var 25 [.v (.int .i64 f), .v (.int .i64 t), .v (.int .i64 sq), .v (.int .i64 ak), .v (.int .i64 rm), .v (.bool fi), .v (.bool he), .v (.bool la), .v (.bool re), (.l 2 (rgRows l)), (.l 1 (rowsOfBytes xs))])]) (fun k => k ≤ l.length ∧ (l.take k).all rgB = true) (fun k => l.length - k) 1 (fun k => by simp) ?_ fun k hk' => ?_
                  · exact ⟨0, [(0, some _)], ⟨Nat.zero_le _, rfl⟩, ⟨⟨trivial, ⟨rfl, rfl, rfl⟩, trivial, ⟨rfl, rfl, rfl⟩, fitT_rep _ _ rfl⟩, ⟨.inl rfl, rfl, rfl, rfl, trivial⟩, by simp [rn, hpAt]⟩, by simp [keepIds]⟩
                  obtain ⟨hk1, hinv⟩ := hk'
                  have w2 : IntKind.i64.wrap ((k : Int) + 1) = ((k + 1 : Nat) : Int) := by rw [wrap_id] <;> omega
                  by_cases hk : k < l.length
                  · have hrow := rgRows_get l k hk
                    have hlt : ((k : Int) < (l.length : Int)) = True := eq_true (by omega)
                    have h00 : (0 ≤ (k : Int)) = True := eq_true (by omega)
                    rcases q0 : inZ l[k].f 0 65535 with _ | _
                    · have e : sgK f t sq ak rm fi he la re l xs.length = false := by rw [sgK, rgs_fault hk (by rw [rgB, q0]; rfl)]; simp
                      rw [e]
                      simp (maxSteps := 3000000) only [Try.f13, go1s, g_l1In, rgRows_len, rowsOf_len, hrow, hlt, h00, q0, w2, Bool.not_true, Bool.not_false, ↓reduceIte, Bool.false_eq_true, D.toI, D.toL, tYs, evL, implies_true, oMin, x_max, oMax, oCopy, oBin, oUn, oLoadKid, oStoreTree, oField, oExtract, oNil, oSliceQ, oSliceE, x_appendZ, oAppendZ, oSliceEnd, endMode, oLoadRow, takeCells, TS.atRow, TS.ex, treeMode, AV.isOwn, TK.isSl, nilTk, nilsB, oLenQ, oLen, nodupB, treeOf, kidAbs, kidRows, TK.isCell, D.toL, oLoad, oStore, oMake, oIndexAddr, ↓reduceIte, reduceCtorEq, Nat.reduceBEq, Nat.reduceAdd, Nat.reduceMul, Nat.reduceLT, Nat.reduceSub, Nat.reduceLeDiff, Nat.reduceEqDiff, Nat.reduceBneDiff, Int.reduceToNat, decide_eq_true_eq, decide_eq_false_iff_not, beq_iff_eq, Int.toNat_natCast, loopK_normal, loopK_exit, loopK_ret]
                      exact ⟨_, [], rfl, ⟨⟨⟨rfl, rfl, rfl⟩, trivial⟩, trivial, by simp [rn, hpAt]⟩⟩
                    · rcases q1 : inZ l[k].t 0 65535 with _ | _
                      · have e : sgK f t sq ak rm fi he la re l xs.length = false := by rw [sgK, rgs_fault hk (by rw [rgB, q0, q1]; rfl)]; simp
                        rw [e]
                        simp (maxSteps := 3000000) only [Try.f13, go1s, g_l1In, rgRows_len, rowsOf_len, hrow, hlt, h00, q0, q1, w2, Bool.not_true, Bool.not_false, ↓reduceIte, Bool.false_eq_true, D.toI, D.toL, tYs, evL, implies_true, oMin, x_max, oMax, oCopy, oBin, oUn, oLoadKid, oStoreTree, oField, oExtract, oNil, oSliceQ, oSliceE, x_appendZ, oAppendZ, oSliceEnd, endMode, oLoadRow, takeCells, TS.atRow, TS.ex, treeMode, AV.isOwn, TK.isSl, nilTk, nilsB, oLenQ, oLen, nodupB, treeOf, kidAbs, kidRows, TK.isCell, D.toL, oLoad, oStore, oMake, oIndexAddr, ↓reduceIte, reduceCtorEq, Nat.reduceBEq, Nat.reduceAdd, Nat.reduceMul, Nat.reduceLT, Nat.reduceSub, Nat.reduceLeDiff, Nat.reduceEqDiff, Nat.reduceBneDiff, Int.reduceToNat, decide_eq_true_eq, decide_eq_false_iff_not, beq_iff_eq, Int.toNat_natCast, loopK_normal, loopK_exit, loopK_ret]
                        exact ⟨_, [], rfl, ⟨⟨⟨rfl, rfl, rfl⟩, trivial⟩, trivial, by simp [rn, hpAt]⟩⟩
                      · simp (maxSteps := 3000000) only [Try.f13, go1s, g_l1In, rgRows_len, rowsOf_len, hrow, hlt, h00, q0, q1, w2, Bool.not_true, Bool.not_false, ↓reduceIte, Bool.false_eq_true, D.toI, D.toL, tYs, evL, implies_true, oMin, x_max, oMax, oCopy, oBin, oUn, oLoadKid, oStoreTree, oField, oExtract, oNil, oSliceQ, oSliceE, x_appendZ, oAppendZ, oSliceEnd, endMode, oLoadRow, takeCells, TS.atRow, TS.ex, treeMode, AV.isOwn, TK.isSl, nilTk, nilsB, oLenQ, oLen, nodupB, treeOf, kidAbs, kidRows, TK.isCell, D.toL, oLoad, oStore, oMake, oIndexAddr, ↓reduceIte, reduceCtorEq, Nat.reduceBEq, Nat.reduceAdd, Nat.reduceMul, Nat.reduceLT, Nat.reduceSub, Nat.reduceLeDiff, Nat.reduceEqDiff, Nat.reduceBneDiff, Int.reduceToNat, decide_eq_true_eq, decide_eq_false_iff_not, beq_iff_eq, Int.toNat_natCast, loopK_normal, loopK_exit, loopK_ret]
                        exact ⟨k + 1, [(0, some _)], ⟨by omega, rgs_upto hk hinv (by rw [rgB, q0, q1]; rfl)⟩, by omega, ⟨⟨trivial, ⟨rfl, rfl, rfl⟩, trivial, ⟨rfl, rfl, rfl⟩, fitT_rep _ _ rfl⟩, ⟨.inl rfl, rfl, rfl, rfl, trivial⟩, by simp [rn, hpAt]⟩, by simp [keepIds, rn]⟩
                  · have hlt : ((k : Int) < (l.length : Int)) = False := eq_false (by omega)
                    have hall : l.all rgB = true := by rw [← List.take_length (l := l)]; exact (show k = l.length by omega) ▸ hinv
                    have eK : sgK f t sq ak rm fi he la re l xs.length = ((he || (decide (ak = 0) && decide (rm = 0) && decide (l.length = 0))) && (!re || (!fi && !la && decide (xs.length = 0)))) := by
                      rw [sgK, h0, h1, h2, h3, h4, hall, decide_eq_true n5, decide_eq_true n6]; simp
                    have hll : (l.length = 0) = ((l.length : Int) = 0) := propext ⟨fun h => by omega, fun h => by omega⟩
                    have hxl : (xs.length = 0) = ((xs.length : Int) = 0) := propext ⟨fun h => by omega, fun h => by omega⟩
                    simp (maxSteps := 3000000) only [Try.f13, go1s, g_l1In, rgRows_len, rowsOf_len, hlt, w2, Bool.not_true, Bool.not_false, ↓reduceIte, Bool.false_eq_true, D.toI, D.toL, tYs, evL, implies_true, oMin, x_max, oMax, oCopy, oBin, oUn, oLoadKid, oStoreTree, oField, oExtract, oNil, oSliceQ, oSliceE, x_appendZ, oAppendZ, oSliceEnd, endMode, oLoadRow, takeCells, TS.atRow, TS.ex, treeMode, AV.isOwn, TK.isSl, nilTk, nilsB, oLenQ, oLen, nodupB, treeOf, kidAbs, kidRows, TK.isCell, D.toL, oLoad, oStore, oMake, oIndexAddr, ↓reduceIte, reduceCtorEq, Nat.reduceBEq, Nat.reduceAdd, Nat.reduceMul, Nat.reduceLT, Nat.reduceSub, Nat.reduceLeDiff, Nat.reduceEqDiff, Nat.reduceBneDiff, Int.reduceToNat, decide_eq_true_eq, decide_eq_false_iff_not, beq_iff_eq, Int.toNat_natCast, loopK_normal, loopK_exit, loopK_ret]
                    simp only [eK]
                    have n5' : l.length ≤ 2 := n5
                    clear hinv hall eK hk hlt w2 c5 c6 n5 hk1 hl hx
                    generalize xs.length = m at *
                    generalize l.length = n at *
                    repeat' split
                    all_goals (refine ⟨_, [], rfl, ⟨⟨⟨?_, rfl, rfl⟩, trivial⟩, by simp [hpAt, fitH], by simp [hpAt]⟩⟩; refine congrArg (fun b => AV.v (Value.bool b)) ?_; cases he <;> cases re <;> cases fi <;> cases la <;> simp_all <;> first | omega | (rw [Bool.eq_iff_iff]; simp only [beq_iff_eq, decide_eq_true_eq]; omega) | trace_state)
                · have c6 : ((xs.length : Int) > 12) = True := eq_true (by omega)
                  have e : sgK f t sq ak rm fi he la re l xs.length = false := by rw [sgK, decide_eq_false n6]; simp
                  rw [e]
                  simp (maxSteps := 3000000) only [Try.f13, go1s, g_l1In, rgRows_len, rowsOf_len, h0, h1, h2, h3, h4, c5, c6, Bool.not_true, Bool.not_false, ↓reduceIte, Bool.false_eq_true, D.toI, D.toL, tYs, evL, implies_true, oMin, x_max, oMax, oCopy, oBin, oUn, oLoadKid, oStoreTree, oField, oExtract, oNil, oSliceQ, oSliceE, x_appendZ, oAppendZ, oSliceEnd, endMode, oLoadRow, takeCells, TS.atRow, TS.ex, treeMode, AV.isOwn, TK.isSl, nilTk, nilsB, oLenQ, oLen, nodupB, treeOf, kidAbs, kidRows, TK.isCell, D.toL, oLoad, oStore, oMake, oIndexAddr, ↓reduceIte, reduceCtorEq, Nat.reduceBEq, Nat.reduceAdd, Nat.reduceMul, Nat.reduceLT, Nat.reduceSub, Nat.reduceLeDiff, Nat.reduceEqDiff, Nat.reduceBneDiff, Int.reduceToNat, decide_eq_true_eq, decide_eq_false_iff_not, beq_iff_eq, Int.toNat_natCast, loopK_normal, loopK_exit, loopK_ret]
                  exact ⟨_, [], rfl, ⟨⟨⟨rfl, rfl, rfl⟩, trivial⟩, trivial, by simp [rn, hpAt]⟩⟩
              · have c5 : ((l.length : Int) > 2) = True := eq_true (by omega)
                have e : sgK f t sq ak rm fi he la re l xs.length = false := by rw [sgK, decide_eq_false n5]; simp
                rw [e]
                simp (maxSteps := 3000000) only [Try.f13, go1s, g_l1In, rgRows_len, rowsOf_len, h0, h1, h2, h3, h4, c5, Bool.not_true, Bool.not_false, ↓reduceIte, Bool.false_eq_true, D.toI, D.toL, tYs, evL, implies_true, oMin, x_max, oMax, oCopy, oBin, oUn, oLoadKid, oStoreTree, oField, oExtract, oNil, oSliceQ, oSliceE, x_appendZ, oAppendZ, oSliceEnd, endMode, oLoadRow, takeCells, TS.atRow, TS.ex, treeMode, AV.isOwn, TK.isSl, nilTk, nilsB, oLenQ, oLen, nodupB, treeOf, kidAbs, kidRows, TK.isCell, D.toL, oLoad, oStore, oMake, oIndexAddr, ↓reduceIte, reduceCtorEq, Nat.reduceBEq, Nat.reduceAdd, Nat.reduceMul, Nat.reduceLT, Nat.reduceSub, Nat.reduceLeDiff, Nat.reduceEqDiff, Nat.reduceBneDiff, Int.reduceToNat, decide_eq_true_eq, decide_eq_false_iff_not, beq_iff_eq, Int.toNat_natCast, loopK_normal, loopK_exit, loopK_ret]
                exact ⟨_, [], rfl, ⟨⟨⟨rfl, rfl, rfl⟩, trivial⟩, trivial, by simp [rn, hpAt]⟩⟩
  · cases hg
set_option maxRecDepth 100000 in
theorem specSegmentLong_ok : PureOk Try.prog 25 g_segLong := by
  refine PureOk.of_vc (G := []) (by simp) mixed Try.func25 (by kernel_rfl) rfl ?_
  intro args cnd r bs hg hc
  unfold g_segLong at hg
  split at hg
  · rename_i f t sq ak rm fi he la re sr rr sd rd
    cases hg
    obtain ⟨⟨l, rfl, hl⟩, xs, rfl, hx⟩ := hc
    rw [rgsOf_rows, bytesOf_rows]
    have hl' : (xs.length : Int) ≤ 140737488355328 := by omega
    have w1 : IntKind.i64.wrap ((xs.length : Int) + 1) = (xs.length : Int) + 1 := wrap_id (by omega) (by omega)
    have w2 : IntKind.i64.wrap ((xs.length : Int) + 1 + 1) = (xs.length : Int) + 1 + 1 := wrap_id (by omega) (by omega)
    refine ⟨⟨rfl, by simp, by simp [AV.ids, AV.ids.idsL]⟩, [.agg [.v (.int .i64 f), .v (.int .i64 t), .v (.int .i64 sq), .v (.int .i64 ak), .v (.int .i64 rm), .v (.bool fi), .v (.bool he), .v (.bool la), .v (.bool re), (.l 2 (rgRows l)), (.l 1 (rowsOfBytes xs))]], rfl, fun w vs h => CvL.ok (.cons (.cons (.refl _) (.cons (.refl _) (.cons (.refl _) (.cons (.refl _) (.cons (.refl _) (.cons (.refl _) (.cons (.refl _) (.cons (.refl _) (.cons (.refl _) (.cons (.l _ _ _ (rgRows_w l)) (.cons (.l _ _ _ (rowsOf_w xs)) .nil))))))))))) .nil) h, ?_⟩
    cases fi <;> cases la
    · have e : longV ⟨f, t, sq, ak, rm, false, he, false, re, l, xs⟩ = (xs.length : Int) := by simp [longV, bI]
      rw [e]
      simp (maxSteps := 3000000) only [Try.f25, rowsOf_len, w1, w2, ↓reduceIte, Bool.false_eq_true, tYs, evL, implies_true, oMin, x_max, oMax, oCopy, oBin, oUn, oLoadKid, oStoreTree, oField, oExtract, oNil, oSliceQ, oSliceE, x_appendZ, oAppendZ, oSliceEnd, endMode, oLoadRow, takeCells, TS.atRow, TS.ex, treeMode, AV.isOwn, TK.isSl, nilTk, nilsB, oLenQ, oLen, nodupB, treeOf, kidAbs, kidRows, TK.isCell, D.toL, oLoad, oStore, oMake, oIndexAddr, ↓reduceIte, reduceCtorEq, Nat.reduceBEq, Nat.reduceAdd, Nat.reduceMul, Nat.reduceLT, Nat.reduceSub, Nat.reduceLeDiff, Nat.reduceEqDiff, Nat.reduceBneDiff, Int.reduceToNat, decide_eq_true_eq, decide_eq_false_iff_not, beq_iff_eq, Int.toNat_natCast]
      exact ⟨_, [], rfl, ⟨⟨⟨rfl, rfl, rfl⟩, trivial⟩, trivial, by simp [rn, hpAt]⟩⟩
    · have e : longV ⟨f, t, sq, ak, rm, false, he, true, re, l, xs⟩ = (xs.length : Int) + 1 := by simp [longV, bI]
      rw [e]
      simp (maxSteps := 3000000) only [Try.f25, rowsOf_len, w1, w2, ↓reduceIte, Bool.false_eq_true, tYs, evL, implies_true, oMin, x_max, oMax, oCopy, oBin, oUn, oLoadKid, oStoreTree, oField, oExtract, oNil, oSliceQ, oSliceE, x_appendZ, oAppendZ, oSliceEnd, endMode, oLoadRow, takeCells, TS.atRow, TS.ex, treeMode, AV.isOwn, TK.isSl, nilTk, nilsB, oLenQ, oLen, nodupB, treeOf, kidAbs, kidRows, TK.isCell, D.toL, oLoad, oStore, oMake, oIndexAddr, ↓reduceIte, reduceCtorEq, Nat.reduceBEq, Nat.reduceAdd, Nat.reduceMul, Nat.reduceLT, Nat.reduceSub, Nat.reduceLeDiff, Nat.reduceEqDiff, Nat.reduceBneDiff, Int.reduceToNat, decide_eq_true_eq, decide_eq_false_iff_not, beq_iff_eq, Int.toNat_natCast]
      exact ⟨_, [], rfl, ⟨⟨⟨rfl, rfl, rfl⟩, trivial⟩, trivial, by simp [rn, hpAt]⟩⟩
    · have e : longV ⟨f, t, sq, ak, rm, true, he, false, re, l, xs⟩ = (xs.length : Int) + 1 := by simp [longV, bI]
      rw [e]
      simp (maxSteps := 3000000) only [Try.f25, rowsOf_len, w1, w2, ↓reduceIte, Bool.false_eq_true, tYs, evL, implies_true, oMin, x_max, oMax, oCopy, oBin, oUn, oLoadKid, oStoreTree, oField, oExtract, oNil, oSliceQ, oSliceE, x_appendZ, oAppendZ, oSliceEnd, endMode, oLoadRow, takeCells, TS.atRow, TS.ex, treeMode, AV.isOwn, TK.isSl, nilTk, nilsB, oLenQ, oLen, nodupB, treeOf, kidAbs, kidRows, TK.isCell, D.toL, oLoad, oStore, oMake, oIndexAddr, ↓reduceIte, reduceCtorEq, Nat.reduceBEq, Nat.reduceAdd, Nat.reduceMul, Nat.reduceLT, Nat.reduceSub, Nat.reduceLeDiff, Nat.reduceEqDiff, Nat.reduceBneDiff, Int.reduceToNat, decide_eq_true_eq, decide_eq_false_iff_not, beq_iff_eq, Int.toNat_natCast]
      exact ⟨_, [], rfl, ⟨⟨⟨rfl, rfl, rfl⟩, trivial⟩, trivial, by simp [rn, hpAt]⟩⟩
    · have e : longV ⟨f, t, sq, ak, rm, true, he, true, re, l, xs⟩ = (xs.length : Int) + 1 + 1 := by simp [longV, bI]
      rw [e]
      simp (maxSteps := 3000000) only [Try.f25, rowsOf_len, w1, w2, ↓reduceIte, Bool.false_eq_true, tYs, evL, implies_true, oMin, x_max, oMax, oCopy, oBin, oUn, oLoadKid, oStoreTree, oField, oExtract, oNil, oSliceQ, oSliceE, x_appendZ, oAppendZ, oSliceEnd, endMode, oLoadRow, takeCells, TS.atRow, TS.ex, treeMode, AV.isOwn, TK.isSl, nilTk, nilsB, oLenQ, oLen, nodupB, treeOf, kidAbs, kidRows, TK.isCell, D.toL, oLoad, oStore, oMake, oIndexAddr, ↓reduceIte, reduceCtorEq, Nat.reduceBEq, Nat.reduceAdd, Nat.reduceMul, Nat.reduceLT, Nat.reduceSub, Nat.reduceLeDiff, Nat.reduceEqDiff, Nat.reduceBneDiff, Int.reduceToNat, decide_eq_true_eq, decide_eq_false_iff_not, beq_iff_eq, Int.toNat_natCast]
      exact ⟨_, [], rfl, ⟨⟨⟨rfl, rfl, rfl⟩, trivial⟩, trivial, by simp [rn, hpAt]⟩⟩
  · cases hg
set_option maxRecDepth 100000 in
theorem specMarks_ok : PureOk Try.prog 49 g_marks := by
  refine PureOk.of_vc (G := []) (by simp) mixed Try.func49 (by kernel_rfl) rfl ?_
  intro args cnd r bs hg hc
  unfold g_marks at hg
  split at hg
  · rename_i f t sq ak rm fi he la re sr rr sd rd
    cases hg
    obtain ⟨⟨l, rfl, hl⟩, xs, rfl, hx⟩ := hc
    refine ⟨⟨rfl, by simp, by simp [AV.ids, AV.ids.idsL]⟩, [.agg [.v (.int .i64 f), .v (.int .i64 t), .v (.int .i64 sq), .v (.int .i64 ak), .v (.int .i64 rm), .v (.bool fi), .v (.bool he), .v (.bool la), .v (.bool re), (.l 2 (rgRows l)), (.l 1 (rowsOfBytes xs))]], rfl, fun w vs h => CvL.ok (.cons (.cons (.refl _) (.cons (.refl _) (.cons (.refl _) (.cons (.refl _) (.cons (.refl _) (.cons (.refl _) (.cons (.refl _) (.cons (.refl _) (.cons (.refl _) (.cons (.l _ _ _ (rgRows_w l)) (.cons (.l _ _ _ (rowsOf_w xs)) .nil))))))))))) .nil) h, ?_⟩
    cases fi <;> cases he <;> cases la <;> cases re
    all_goals (simp (maxSteps := 3000000) only [Try.f49, ↓reduceIte, Bool.false_eq_true, tYs, evL, implies_true, oMin, x_max, oMax, oCopy, oBin, oUn, oLoadKid, oStoreTree, oField, oExtract, oNil, oSliceQ, oSliceE, x_appendZ, oAppendZ, oSliceEnd, endMode, oLoadRow, takeCells, TS.atRow, TS.ex, treeMode, AV.isOwn, TK.isSl, nilTk, nilsB, oLenQ, oLen, nodupB, treeOf, kidAbs, kidRows, TK.isCell, D.toL, oLoad, oStore, oMake, oIndexAddr, ↓reduceIte, reduceCtorEq, Nat.reduceBEq, Nat.reduceAdd, Nat.reduceMul, Nat.reduceLT, Nat.reduceSub, Nat.reduceLeDiff, Nat.reduceEqDiff, Nat.reduceBneDiff, Int.reduceToNat, decide_eq_true_eq, decide_eq_false_iff_not, beq_iff_eq, Int.toNat_natCast]; exact ⟨_, [], rfl, ⟨⟨⟨rfl, rfl, rfl⟩, trivial⟩, trivial, by simp [rn, hpAt]⟩⟩)
  · cases hg
def go2s : List (FuncId × Abs) := [(40, pureAbs g_l1In), (13, pureAbs g_segOk), (49, pureAbs g_marks), (48, pureAbs g_bytesOf), (50, pureAbs g_sumBetween)]
theorem go2s_ok : ∀ p ∈ go2s, CallOk Try.prog p.1 p.2 := by
  intro p hp
  simp only [go2s, List.mem_cons, List.not_mem_nil, or_false] at hp
  rcases hp with rfl | rfl | rfl | rfl | rfl
  · exact l1In_ok.call
  · exact specSegmentOk_ok.call
  · exact specMarks_ok.call
  · exact specBytesOf_ok.call
  · exact specSum_ok.call
end Go.Proofs.Ytnlhfjdkhkmaeaa
