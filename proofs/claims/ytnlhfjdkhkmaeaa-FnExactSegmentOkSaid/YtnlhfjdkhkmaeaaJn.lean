import Derived.Test.YtnlhfjdkhkmaeaaJd
import Derived.Test.YtnlhfjdkhkmaeaaMb
set_option linter.unusedVariables false
set_option linter.unusedSimpArgs false
namespace Go.Proofs.Ytnlhfjdkhkmaeaa
open Go.RowKit
set_option linter.unusedSimpArgs false
def sgIn (f t sq ak rm : Int) (n : Nat) : Bool := inZ f 1 255 && inZ t 1 255 && inZ sq 0 65535 && inZ ak 0 65535 && inZ rm 0 255 && decide ((n : Int) ≤ 12)
def rgsB (l : List Rg) : Bool := decide (l.length ≤ 2) && l.all rgB
def sgMk (fi he la re : Bool) (ak rm : Int) (l n : Nat) : Bool := (he || (decide (ak = 0) && decide (rm = 0) && decide (l = 0))) && (!re || (!fi && !la && decide (n = 0)))
theorem sgK_split (f t sq ak rm : Int) (fi he la re : Bool) (l : List Rg) (n : Nat) : sgK f t sq ak rm fi he la re l n = (sgIn f t sq ak rm n && rgsB l && sgMk fi he la re ak rm l.length n) := by
  have e : decide ((n : Int) ≤ 12) = decide (n ≤ 12) := decide_eq_decide.2 ⟨fun h => by omega, fun h => by omega⟩
  rw [sgK, sgIn, rgsB, sgMk, e]
  cases inZ f 1 255 <;> cases inZ t 1 255 <;> cases inZ sq 0 65535 <;> cases inZ ak 0 65535 <;> cases inZ rm 0 255 <;> cases decide (l.length ≤ 2) <;> cases decide (n ≤ 12) <;> cases l.all rgB <;> rfl
def scM (b : List UInt8) : Nat := (b.getD (9 + 4 * nR b) 0).toNat
def scB (b : List UInt8) : Bool := decide (12 ≤ b.length) && decide (nR b ≤ 2) && decide (12 + 4 * nR b ≤ b.length) && decide (scM b ≤ 12) && decide (b.length = 12 + 4 * nR b + scM b)
theorem scB_iff {b : List UInt8} : scB b = true ↔ 12 ≤ b.length ∧ nR b ≤ 2 ∧ 12 + 4 * nR b ≤ b.length ∧ scM b ≤ 12 ∧ b.length = 12 + 4 * nR b + scM b := by
  simp only [scB, Bool.and_eq_true, decide_eq_true_eq, and_assoc]
theorem sf_sc {b : List UInt8} {a t : Int} (h : sfOk b a t = true) : scB b = true ∧ (b.getD 7 0).toNat ≤ 15 := by
  simp only [sfOk, Bool.and_eq_true, decide_eq_true_eq] at h
  have hk := (sgB_iff.1 h.1.2).2.2.2.2.2.2.1
  have hl : (sfM b).d.length = b.length - 12 - 4 * nR b := by
    simp only [sfM, List.length_take, List.length_drop]; omega
  refine ⟨scB_iff.2 ?_, by omega⟩
  rw [scM]
  omega
def sfP (b : List UInt8) : Sg := ⟨bAt b 0, bAt b 1, numAt b 2 2, numAt b 4 2, bAt b 6, decide (bAt b 7 % 2 = 1), decide (bAt b 7 / 2 % 2 = 1), decide (bAt b 7 / 4 % 2 = 1), decide (bAt b 7 / 8 % 2 = 1),
    (List.range (nR b)).map (rgR b), (b.drop (10 + 4 * nR b)).take (b.length - 12 - 4 * nR b)⟩
theorem sfP_eq {b : List UInt8} (h : (b.getD 7 0).toNat ≤ 15) : sfP b = sfM b := by
  have e : decide (bAt b 7 / 8 % 2 = 1) = decide (bAt b 7 / 8 = 1) := decide_eq_decide.2 (by simp only [bAt]; omega)
  rw [sfP, sfM, e]
theorem sfP_iff {b : List UInt8} {a t : Int} (hl : 12 ≤ b.length) : sfOk b a t = true ↔ sgV (sfP b) a t = b := by
  refine ⟨fun h => ?_, fun h => ?_⟩
  · rw [sfP_eq (sf_sc h).2]
    exact sf_sent h
  · cases ho : sgO (sfP b) a t with
    | false =>
      rw [sgV_nil ho] at h
      rw [← h] at hl
      cases hl
    | true =>
      have := (sg_back ho).1
      rwa [h] at this
theorem bit_1 (x : UInt8) : decide (bits .and .u8 (x.toNat : Int) 1 = 1) = decide ((x.toNat : Int) % 2 = 1) := by
  have : ∀ x : Fin 256, decide (bits .and .u8 (x.val : Int) 1 = 1) = decide ((x.val : Int) % 2 = 1) := by decide +kernel
  exact this ⟨x.toNat, x.toNat_lt⟩
theorem bit_2 (x : UInt8) : decide (bits .and .u8 (x.toNat : Int) 2 = 2) = decide ((x.toNat : Int) / 2 % 2 = 1) := by
  have : ∀ x : Fin 256, decide (bits .and .u8 (x.val : Int) 2 = 2) = decide ((x.val : Int) / 2 % 2 = 1) := by decide +kernel
  exact this ⟨x.toNat, x.toNat_lt⟩
theorem bit_4 (x : UInt8) : decide (bits .and .u8 (x.toNat : Int) 4 = 4) = decide ((x.toNat : Int) / 4 % 2 = 1) := by
  have : ∀ x : Fin 256, decide (bits .and .u8 (x.val : Int) 4 = 4) = decide ((x.val : Int) / 4 % 2 = 1) := by decide +kernel
  exact this ⟨x.toNat, x.toNat_lt⟩
theorem bit_8 (x : UInt8) : decide (bits .and .u8 (x.toNat : Int) 8 = 8) = decide ((x.toNat : Int) / 8 % 2 = 1) := by
  have : ∀ x : Fin 256, decide (bits .and .u8 (x.val : Int) 8 = 8) = decide ((x.val : Int) / 8 % 2 = 1) := by decide +kernel
  exact this ⟨x.toNat, x.toNat_lt⟩
def g_segIn : PC := fun args => match args with
  | [.agg [.v (.int .i64 f), .v (.int .i64 t), .v (.int .i64 sq), .v (.int .i64 ak), .v (.int .i64 rm), .v (.bool fi), .v (.bool he), .v (.bool la), .v (.bool re), .l _ rr, .l _ rd]] => some ((∃ l, rr = rgRows l ∧ l.length ≤ 1048576) ∧ ∃ xs, rd = rowsOfBytes xs ∧ xs.length ≤ 140737488355328, .v (.bool (sgIn f t sq ak rm (bytesOfRows rd).length)), [])
  | _ => none
def g_rangesOk : PC := fun args => match args with
  | [.l _ rr] => some (∃ l, rr = rgRows l ∧ l.length ≤ 1048576, .v (.bool (rgsB (rgsOf rr))), [])
  | _ => none
def g_segMarksOk : PC := fun args => match args with
  | [.agg [.v (.int .i64 f), .v (.int .i64 t), .v (.int .i64 sq), .v (.int .i64 ak), .v (.int .i64 rm), .v (.bool fi), .v (.bool he), .v (.bool la), .v (.bool re), .l _ rr, .l _ rd]] => some ((∃ l, rr = rgRows l ∧ l.length ≤ 1048576) ∧ ∃ xs, rd = rowsOfBytes xs ∧ xs.length ≤ 140737488355328, .v (.bool (sgMk fi he la re ak rm (rgsOf rr).length (bytesOfRows rd).length)), [])
  | _ => none
def g_segMarks : PC := fun args => match args with
  | [.agg [.v (.int .i64 f), .v (.int .i64 t), .v (.int .i64 sq), .v (.int .i64 ak), .v (.int .i64 rm), .v (.bool fi), .v (.bool he), .v (.bool la), .v (.bool re), .l _ rr, .l _ rd]] => some ((∃ l, rr = rgRows l ∧ l.length ≤ 1048576) ∧ ∃ xs, rd = rowsOfBytes xs ∧ xs.length ≤ 140737488355328, .v (.int .u8 (IntKind.u8.wrap (mkI fi he la re))), [])
  | _ => none
def g_hasMark : PC := fun args => match args with
  | [.v (.int .u8 x), .v (.int .u8 y)] => some (True, .v (.bool (decide (bits .and .u8 x y = y))), [])
  | _ => none
def g_segCountAt : PC := fun args => match args with
  | [.v (.int .i64 x)] => some (0 ≤ x ∧ x ≤ 1048576, .v (.int .i64 (9 + x * 4)), [])
  | _ => none
def g_segLength : PC := fun args => match args with
  | [.v (.int .i64 x), .v (.int .i64 y)] => some ((0 ≤ x ∧ x ≤ 1048576) ∧ 0 ≤ y ∧ y ≤ 140737488355328, .v (.int .i64 (12 + x * 4 + y)), [])
  | _ => none
def g_segCounts : PC := fun args => match args with
  | [.l _ rows] => some (∃ xs, rows = rowsOfBytes xs ∧ xs.length ≤ 1048576, .v (.bool (scB (bytesOfRows rows))), [])
  | _ => none
def g_rangesBytes : PC := fun args => match args with
  | [.l _ rr] => some (∃ l, rr = rgRows l ∧ l.length ≤ 2 ∧ ∀ r ∈ l, rgB r = true, .own 0, [.sl 5 1 (rowsOfBytes (rgsX (rgsOf rr)))])
  | _ => none
def g_rangesRead : PC := fun args => match args with
  | [.l _ rows, .v (.int .i64 p), .v (.int .i64 n)] => some ((∃ xs, rows = rowsOfBytes xs ∧ xs.length ≤ 1048576) ∧ p = 9 ∧ 0 ≤ n ∧ n ≤ 2, .own 0, [.sl 57 2 (rgRows ((List.range n.toNat).map (rgR (bytesOfRows rows))))])
  | _ => none
def g_segRead : PC := fun args => match args with
  | [.l _ rows] => some (∃ xs, rows = rowsOfBytes xs ∧ xs.length ≤ 1048576 ∧ scB xs = true, .agg [.v (.int .i64 (sfP (bytesOfRows rows)).f), .v (.int .i64 (sfP (bytesOfRows rows)).t), .v (.int .i64 (sfP (bytesOfRows rows)).sq), .v (.int .i64 (sfP (bytesOfRows rows)).ak), .v (.int .i64 (sfP (bytesOfRows rows)).rm), .v (.bool (sfP (bytesOfRows rows)).fi), .v (.bool (sfP (bytesOfRows rows)).he), .v (.bool (sfP (bytesOfRows rows)).la), .v (.bool (sfP (bytesOfRows rows)).re), .own 0, .own 1], [.sl 57 2 (rgRows (sfP (bytesOfRows rows)).rs), .sl 5 1 (rowsOfBytes ((sfP (bytesOfRows rows)).d))])
  | _ => none
def jn1 : List (FuncId × Abs) := [(64, pureAbs g_isPort), (65, pureAbs g_isSeq), (66, pureAbs g_isByte)]
theorem jn1_ok : ∀ p ∈ jn1, CallOk Try.prog p.1 p.2 := by
  intro p hp
  simp only [jn1, List.mem_cons, List.not_mem_nil, or_false] at hp
  rcases hp with rfl | rfl | rfl
  · exact isPort_ok.call
  · exact isSeq_ok.call
  · exact isByte_ok.call
set_option maxHeartbeats 1000000 in
set_option maxRecDepth 100000 in
theorem segIn_ok : PureOk Try.prog 37 g_segIn := by
  refine PureOk.of_vc (G := jn1) jn1_ok mixed Try.func37 (by kernel_rfl) rfl ?_
  intro args cnd r bs hg hc
  unfold g_segIn at hg
  split at hg
  · rename_i f t sq ak rm fi he la re sr rr sd rd
    cases hg
    obtain ⟨⟨l, rfl, hl⟩, xs, rfl, hx⟩ := hc
    rw [bytesOf_rows]
    refine ⟨⟨rfl, by simp, by simp [AV.ids, AV.ids.idsL]⟩, [.agg [.v (.int .i64 f), .v (.int .i64 t), .v (.int .i64 sq), .v (.int .i64 ak), .v (.int .i64 rm), .v (.bool fi), .v (.bool he), .v (.bool la), .v (.bool re), (.l 2 (rgRows l)), (.l 1 (rowsOfBytes xs))]], rfl, fun w vs h => CvL.ok (.cons (.cons (.refl _) (.cons (.refl _) (.cons (.refl _) (.cons (.refl _) (.cons (.refl _) (.cons (.refl _) (.cons (.refl _) (.cons (.refl _) (.cons (.refl _) (.cons (.l _ _ _ (rgRows_w l)) (.cons (.l _ _ _ (rowsOf_w xs)) .nil))))))))))) .nil) h, ?_⟩
    rcases h0 : inZ f 1 255 with _ | _
    · have e : sgIn f t sq ak rm xs.length = false := by rw [sgIn, h0]; simp
      rw [e]
      simp (maxSteps := 3000000) only [Try.f37, jn1, g_isPort, g_isSeq, g_isByte, rowsOf_len, h0, Bool.not_true, Bool.not_false, ↓reduceIte, Bool.false_eq_true, tYs, evL, implies_true, oMin, x_max, oMax, oCopy, oBin, oUn, oLoadKid, oStoreTree, oField, oExtract, oNil, oSliceQ, oSliceE, x_appendZ, oAppendZ, oSliceEnd, endMode, oLoadRow, takeCells, TS.atRow, TS.ex, treeMode, AV.isOwn, TK.isSl, nilTk, nilsB, oLenQ, oLen, nodupB, treeOf, kidAbs, kidRows, TK.isCell, D.toL, oLoad, oStore, oMake, oIndexAddr, ↓reduceIte, reduceCtorEq, Nat.reduceBEq, Nat.reduceAdd, Nat.reduceMul, Nat.reduceLT, Nat.reduceSub, Nat.reduceLeDiff, Nat.reduceEqDiff, Nat.reduceBneDiff, Int.reduceToNat, decide_eq_true_eq, decide_eq_false_iff_not, beq_iff_eq, Int.toNat_natCast]
      exact ⟨_, [], rfl, ⟨⟨⟨rfl, rfl, rfl⟩, trivial⟩, trivial, by simp [rn, hpAt]⟩⟩
    · rcases h1 : inZ t 1 255 with _ | _
      · have e : sgIn f t sq ak rm xs.length = false := by rw [sgIn, h0, h1]; simp
        rw [e]
        simp (maxSteps := 3000000) only [Try.f37, jn1, g_isPort, g_isSeq, g_isByte, rowsOf_len, h0, h1, Bool.not_true, Bool.not_false, ↓reduceIte, Bool.false_eq_true, tYs, evL, implies_true, oMin, x_max, oMax, oCopy, oBin, oUn, oLoadKid, oStoreTree, oField, oExtract, oNil, oSliceQ, oSliceE, x_appendZ, oAppendZ, oSliceEnd, endMode, oLoadRow, takeCells, TS.atRow, TS.ex, treeMode, AV.isOwn, TK.isSl, nilTk, nilsB, oLenQ, oLen, nodupB, treeOf, kidAbs, kidRows, TK.isCell, D.toL, oLoad, oStore, oMake, oIndexAddr, ↓reduceIte, reduceCtorEq, Nat.reduceBEq, Nat.reduceAdd, Nat.reduceMul, Nat.reduceLT, Nat.reduceSub, Nat.reduceLeDiff, Nat.reduceEqDiff, Nat.reduceBneDiff, Int.reduceToNat, decide_eq_true_eq, decide_eq_false_iff_not, beq_iff_eq, Int.toNat_natCast]
        exact ⟨_, [], rfl, ⟨⟨⟨rfl, rfl, rfl⟩, trivial⟩, trivial, by simp [rn, hpAt]⟩⟩
      · rcases h2 : inZ sq 0 65535 with _ | _
        · have e : sgIn f t sq ak rm xs.length = false := by rw [sgIn, h0, h1, h2]; simp
          rw [e]
          simp (maxSteps := 3000000) only [Try.f37, jn1, g_isPort, g_isSeq, g_isByte, rowsOf_len, h0, h1, h2, Bool.not_true, Bool.not_false, ↓reduceIte, Bool.false_eq_true, tYs, evL, implies_true, oMin, x_max, oMax, oCopy, oBin, oUn, oLoadKid, oStoreTree, oField, oExtract, oNil, oSliceQ, oSliceE, x_appendZ, oAppendZ, oSliceEnd, endMode, oLoadRow, takeCells, TS.atRow, TS.ex, treeMode, AV.isOwn, TK.isSl, nilTk, nilsB, oLenQ, oLen, nodupB, treeOf, kidAbs, kidRows, TK.isCell, D.toL, oLoad, oStore, oMake, oIndexAddr, ↓reduceIte, reduceCtorEq, Nat.reduceBEq, Nat.reduceAdd, Nat.reduceMul, Nat.reduceLT, Nat.reduceSub, Nat.reduceLeDiff, Nat.reduceEqDiff, Nat.reduceBneDiff, Int.reduceToNat, decide_eq_true_eq, decide_eq_false_iff_not, beq_iff_eq, Int.toNat_natCast]
          exact ⟨_, [], rfl, ⟨⟨⟨rfl, rfl, rfl⟩, trivial⟩, trivial, by simp [rn, hpAt]⟩⟩
        · rcases h3 : inZ ak 0 65535 with _ | _
          · have e : sgIn f t sq ak rm xs.length = false := by rw [sgIn, h0, h1, h2, h3]; simp
            rw [e]
            simp (maxSteps := 3000000) only [Try.f37, jn1, g_isPort, g_isSeq, g_isByte, rowsOf_len, h0, h1, h2, h3, Bool.not_true, Bool.not_false, ↓reduceIte, Bool.false_eq_true, tYs, evL, implies_true, oMin, x_max, oMax, oCopy, oBin, oUn, oLoadKid, oStoreTree, oField, oExtract, oNil, oSliceQ, oSliceE, x_appendZ, oAppendZ, oSliceEnd, endMode, oLoadRow, takeCells, TS.atRow, TS.ex, treeMode, AV.isOwn, TK.isSl, nilTk, nilsB, oLenQ, oLen, nodupB, treeOf, kidAbs, kidRows, TK.isCell, D.toL, oLoad, oStore, oMake, oIndexAddr, ↓reduceIte, reduceCtorEq, Nat.reduceBEq, Nat.reduceAdd, Nat.reduceMul, Nat.reduceLT, Nat.reduceSub, Nat.reduceLeDiff, Nat.reduceEqDiff, Nat.reduceBneDiff, Int.reduceToNat, decide_eq_true_eq, decide_eq_false_iff_not, beq_iff_eq, Int.toNat_natCast]
            exact ⟨_, [], rfl, ⟨⟨⟨rfl, rfl, rfl⟩, trivial⟩, trivial, by simp [rn, hpAt]⟩⟩
          · rcases h4 : inZ rm 0 255 with _ | _
            · have e : sgIn f t sq ak rm xs.length = false := by rw [sgIn, h0, h1, h2, h3, h4]; simp
              rw [e]
              simp (maxSteps := 3000000) only [Try.f37, jn1, g_isPort, g_isSeq, g_isByte, rowsOf_len, h0, h1, h2, h3, h4, Bool.not_true, Bool.not_false, ↓reduceIte, Bool.false_eq_true, tYs, evL, implies_true, oMin, x_max, oMax, oCopy, oBin, oUn, oLoadKid, oStoreTree, oField, oExtract, oNil, oSliceQ, oSliceE, x_appendZ, oAppendZ, oSliceEnd, endMode, oLoadRow, takeCells, TS.atRow, TS.ex, treeMode, AV.isOwn, TK.isSl, nilTk, nilsB, oLenQ, oLen, nodupB, treeOf, kidAbs, kidRows, TK.isCell, D.toL, oLoad, oStore, oMake, oIndexAddr, ↓reduceIte, reduceCtorEq, Nat.reduceBEq, Nat.reduceAdd, Nat.reduceMul, Nat.reduceLT, Nat.reduceSub, Nat.reduceLeDiff, Nat.reduceEqDiff, Nat.reduceBneDiff, Int.reduceToNat, decide_eq_true_eq, decide_eq_false_iff_not, beq_iff_eq, Int.toNat_natCast]
              exact ⟨_, [], rfl, ⟨⟨⟨rfl, rfl, rfl⟩, trivial⟩, trivial, by simp [rn, hpAt]⟩⟩
            · have e : sgIn f t sq ak rm xs.length = decide ((xs.length : Int) ≤ 12) := by rw [sgIn, h0, h1, h2, h3, h4]; rfl
              rw [e]
              simp (maxSteps := 3000000) only [Try.f37, jn1, g_isPort, g_isSeq, g_isByte, rowsOf_len, h0, h1, h2, h3, h4, Bool.not_true, Bool.not_false, ↓reduceIte, Bool.false_eq_true, tYs, evL, implies_true, oMin, x_max, oMax, oCopy, oBin, oUn, oLoadKid, oStoreTree, oField, oExtract, oNil, oSliceQ, oSliceE, x_appendZ, oAppendZ, oSliceEnd, endMode, oLoadRow, takeCells, TS.atRow, TS.ex, treeMode, AV.isOwn, TK.isSl, nilTk, nilsB, oLenQ, oLen, nodupB, treeOf, kidAbs, kidRows, TK.isCell, D.toL, oLoad, oStore, oMake, oIndexAddr, ↓reduceIte, reduceCtorEq, Nat.reduceBEq, Nat.reduceAdd, Nat.reduceMul, Nat.reduceLT, Nat.reduceSub, Nat.reduceLeDiff, Nat.reduceEqDiff, Nat.reduceBneDiff, Int.reduceToNat, decide_eq_true_eq, decide_eq_false_iff_not, beq_iff_eq, Int.toNat_natCast]
              exact ⟨_, [], rfl, ⟨⟨⟨rfl, rfl, rfl⟩, trivial⟩, trivial, by simp [rn, hpAt]⟩⟩
  · cases hg
set_option maxHeartbeats 1000000 in
set_option maxRecDepth 100000 in
theorem rangesOk_ok : PureOk Try.prog 38 g_rangesOk := by
  refine PureOk.of_vc (G := jn1) jn1_ok mixed Try.func38 (by kernel_rfl) rfl ?_
  intro args cnd r bs hg hc
  unfold g_rangesOk at hg
  split at hg
  · rename_i sr rr
    cases hg
    obtain ⟨l, rfl, hl⟩ := hc
    rw [rgsOf_rows]
    refine ⟨⟨rfl, by simp, by simp [AV.ids, AV.ids.idsL]⟩, [.l 2 (rgRows l)], rfl, fun w vs h => CvL.ok (.cons (.l _ _ _ (rgRows_w l)) .nil) h, ?_⟩
    by_cases n5 : l.length ≤ 2
    · have c5 : ((l.length : Int) > 2) = False := eq_false (by omega)
      simp (maxSteps := 3000000) only [Try.f38, jn1, g_isSeq, rgRows_len, c5, Bool.not_true, Bool.not_false, ↓reduceIte, Bool.false_eq_true, D.toI, tYs, evL, implies_true, oMin, x_max, oMax, oCopy, oBin, oUn, oLoadKid, oStoreTree, oField, oExtract, oNil, oSliceQ, oSliceE, x_appendZ, oAppendZ, oSliceEnd, endMode, oLoadRow, takeCells, TS.atRow, TS.ex, treeMode, AV.isOwn, TK.isSl, nilTk, nilsB, oLenQ, oLen, nodupB, treeOf, kidAbs, kidRows, TK.isCell, D.toL, oLoad, oStore, oMake, oIndexAddr, ↓reduceIte, reduceCtorEq, Nat.reduceBEq, Nat.reduceAdd, Nat.reduceMul, Nat.reduceLT, Nat.reduceSub, Nat.reduceLeDiff, Nat.reduceEqDiff, Nat.reduceBneDiff, Int.reduceToNat, decide_eq_true_eq, decide_eq_false_iff_not, beq_iff_eq, Int.toNat_natCast, loopK_normal, loopK_exit, loopK_ret]
      refine e_loop _ _ _ _ _ _ _ _ (fun k : Nat => [.l 2 (rgRows l), .any, .v (.bool false), .any, .any, .any, .any, .any, .l 2 (rgRows l), .v (.int .i64 (l.length : Int)), .v (.int .i64 (k : Int))] ++ List.replicate (Try.f38.ntmps - 11) .any) (fun k => []) (fun k => k ≤ l.length ∧ (l.take k).all rgB = true) (fun k => l.length - k) 0 (fun k => by simp) ?_ fun k hk' => ?_
      · exact ⟨0, [], ⟨Nat.zero_le _, rfl⟩, ⟨⟨⟨rfl, rfl, rfl⟩, trivial, ⟨rfl, rfl, rfl⟩, trivial, trivial, trivial, trivial, trivial, ⟨rfl, rfl, rfl⟩, ⟨rfl, rfl, rfl⟩, ⟨rfl, rfl, rfl⟩, fitT_rep _ _ rfl⟩, trivial, by simp [rn, hpAt]⟩, by simp [keepIds]⟩
      obtain ⟨hk1, hinv⟩ := hk'
      have w2 : IntKind.i64.wrap ((k : Int) + 1) = ((k + 1 : Nat) : Int) := by rw [wrap_id] <;> omega
      by_cases hk : k < l.length
      · have hrow := rgRows_get l k hk
        have hlt : ((k : Int) < (l.length : Int)) = True := eq_true (by omega)
        have h00 : (0 ≤ (k : Int)) = True := eq_true (by omega)
        rcases q0 : inZ l[k].f 0 65535 with _ | _
        · have e : rgsB l = false := by rw [rgsB, rgs_fault hk (by rw [rgB, q0]; rfl), Bool.and_false]
          rw [e]
          simp (maxSteps := 3000000) only [Try.f38, jn1, g_isSeq, rgRows_len, hrow, hlt, h00, q0, w2, Bool.not_true, Bool.not_false, ↓reduceIte, Bool.false_eq_true, D.toI, tYs, evL, implies_true, oMin, x_max, oMax, oCopy, oBin, oUn, oLoadKid, oStoreTree, oField, oExtract, oNil, oSliceQ, oSliceE, x_appendZ, oAppendZ, oSliceEnd, endMode, oLoadRow, takeCells, TS.atRow, TS.ex, treeMode, AV.isOwn, TK.isSl, nilTk, nilsB, oLenQ, oLen, nodupB, treeOf, kidAbs, kidRows, TK.isCell, D.toL, oLoad, oStore, oMake, oIndexAddr, ↓reduceIte, reduceCtorEq, Nat.reduceBEq, Nat.reduceAdd, Nat.reduceMul, Nat.reduceLT, Nat.reduceSub, Nat.reduceLeDiff, Nat.reduceEqDiff, Nat.reduceBneDiff, Int.reduceToNat, decide_eq_true_eq, decide_eq_false_iff_not, beq_iff_eq, Int.toNat_natCast, loopK_normal, loopK_exit, loopK_ret]
          exact ⟨_, [], rfl, ⟨⟨⟨rfl, rfl, rfl⟩, trivial⟩, trivial, by simp [rn, hpAt]⟩⟩
        · rcases q1 : inZ l[k].t 0 65535 with _ | _
          · have e : rgsB l = false := by rw [rgsB, rgs_fault hk (by rw [rgB, q0, q1]; rfl), Bool.and_false]
            rw [e]
            simp (maxSteps := 3000000) only [Try.f38, jn1, g_isSeq, rgRows_len, hrow, hlt, h00, q0, q1, w2, Bool.not_true, Bool.not_false, ↓reduceIte, Bool.false_eq_true, D.toI, tYs, evL, implies_true, oMin, x_max, oMax, oCopy, oBin, oUn, oLoadKid, oStoreTree, oField, oExtract, oNil, oSliceQ, oSliceE, x_appendZ, oAppendZ, oSliceEnd, endMode, oLoadRow, takeCells, TS.atRow, TS.ex, treeMode, AV.isOwn, TK.isSl, nilTk, nilsB, oLenQ, oLen, nodupB, treeOf, kidAbs, kidRows, TK.isCell, D.toL, oLoad, oStore, oMake, oIndexAddr, ↓reduceIte, reduceCtorEq, Nat.reduceBEq, Nat.reduceAdd, Nat.reduceMul, Nat.reduceLT, Nat.reduceSub, Nat.reduceLeDiff, Nat.reduceEqDiff, Nat.reduceBneDiff, Int.reduceToNat, decide_eq_true_eq, decide_eq_false_iff_not, beq_iff_eq, Int.toNat_natCast, loopK_normal, loopK_exit, loopK_ret]
            exact ⟨_, [], rfl, ⟨⟨⟨rfl, rfl, rfl⟩, trivial⟩, trivial, by simp [rn, hpAt]⟩⟩
          · simp (maxSteps := 3000000) only [Try.f38, jn1, g_isSeq, rgRows_len, hrow, hlt, h00, q0, q1, w2, Bool.not_true, Bool.not_false, ↓reduceIte, Bool.false_eq_true, D.toI, tYs, evL, implies_true, oMin, x_max, oMax, oCopy, oBin, oUn, oLoadKid, oStoreTree, oField, oExtract, oNil, oSliceQ, oSliceE, x_appendZ, oAppendZ, oSliceEnd, endMode, oLoadRow, takeCells, TS.atRow, TS.ex, treeMode, AV.isOwn, TK.isSl, nilTk, nilsB, oLenQ, oLen, nodupB, treeOf, kidAbs, kidRows, TK.isCell, D.toL, oLoad, oStore, oMake, oIndexAddr, ↓reduceIte, reduceCtorEq, Nat.reduceBEq, Nat.reduceAdd, Nat.reduceMul, Nat.reduceLT, Nat.reduceSub, Nat.reduceLeDiff, Nat.reduceEqDiff, Nat.reduceBneDiff, Int.reduceToNat, decide_eq_true_eq, decide_eq_false_iff_not, beq_iff_eq, Int.toNat_natCast, loopK_normal, loopK_exit, loopK_ret]
            exact ⟨k + 1, [], ⟨by omega, rgs_upto hk hinv (by rw [rgB, q0, q1]; rfl)⟩, by omega, ⟨⟨⟨rfl, rfl, rfl⟩, trivial, ⟨rfl, rfl, rfl⟩, trivial, trivial, trivial, trivial, trivial, ⟨rfl, rfl, rfl⟩, ⟨rfl, rfl, rfl⟩, ⟨rfl, rfl, rfl⟩, fitT_rep _ _ rfl⟩, trivial, by simp [rn, hpAt]⟩, by simp [keepIds]⟩
      · have hlt : ((k : Int) < (l.length : Int)) = False := eq_false (by omega)
        have hall : l.all rgB = true := by rw [← List.take_length (l := l)]; exact (show k = l.length by omega) ▸ hinv
        have e : rgsB l = true := by rw [rgsB, hall, decide_eq_true n5]; rfl
        rw [e]
        simp (maxSteps := 3000000) only [Try.f38, jn1, g_isSeq, rgRows_len, hlt, w2, Bool.not_true, Bool.not_false, ↓reduceIte, Bool.false_eq_true, D.toI, tYs, evL, implies_true, oMin, x_max, oMax, oCopy, oBin, oUn, oLoadKid, oStoreTree, oField, oExtract, oNil, oSliceQ, oSliceE, x_appendZ, oAppendZ, oSliceEnd, endMode, oLoadRow, takeCells, TS.atRow, TS.ex, treeMode, AV.isOwn, TK.isSl, nilTk, nilsB, oLenQ, oLen, nodupB, treeOf, kidAbs, kidRows, TK.isCell, D.toL, oLoad, oStore, oMake, oIndexAddr, ↓reduceIte, reduceCtorEq, Nat.reduceBEq, Nat.reduceAdd, Nat.reduceMul, Nat.reduceLT, Nat.reduceSub, Nat.reduceLeDiff, Nat.reduceEqDiff, Nat.reduceBneDiff, Int.reduceToNat, decide_eq_true_eq, decide_eq_false_iff_not, beq_iff_eq, Int.toNat_natCast, loopK_normal, loopK_exit, loopK_ret]
        exact ⟨_, [], rfl, ⟨⟨⟨rfl, rfl, rfl⟩, trivial⟩, trivial, by simp [rn, hpAt]⟩⟩
    · have c5 : ((l.length : Int) > 2) = True := eq_true (by omega)
      have e : rgsB l = false := by rw [rgsB, decide_eq_false n5]; rfl
      rw [e]
      simp (maxSteps := 3000000) only [Try.f38, jn1, g_isSeq, rgRows_len, c5, Bool.not_true, Bool.not_false, ↓reduceIte, Bool.false_eq_true, D.toI, tYs, evL, implies_true, oMin, x_max, oMax, oCopy, oBin, oUn, oLoadKid, oStoreTree, oField, oExtract, oNil, oSliceQ, oSliceE, x_appendZ, oAppendZ, oSliceEnd, endMode, oLoadRow, takeCells, TS.atRow, TS.ex, treeMode, AV.isOwn, TK.isSl, nilTk, nilsB, oLenQ, oLen, nodupB, treeOf, kidAbs, kidRows, TK.isCell, D.toL, oLoad, oStore, oMake, oIndexAddr, ↓reduceIte, reduceCtorEq, Nat.reduceBEq, Nat.reduceAdd, Nat.reduceMul, Nat.reduceLT, Nat.reduceSub, Nat.reduceLeDiff, Nat.reduceEqDiff, Nat.reduceBneDiff, Int.reduceToNat, decide_eq_true_eq, decide_eq_false_iff_not, beq_iff_eq, Int.toNat_natCast, loopK_normal, loopK_exit, loopK_ret]
      exact ⟨_, [], rfl, ⟨⟨⟨rfl, rfl, rfl⟩, trivial⟩, trivial, by simp [rn, hpAt]⟩⟩
  · cases hg
set_option maxRecDepth 100000 in
theorem implSegmentLong_ok : PureOk Try.prog 24 g_segLong := by
  refine PureOk.of_vc (G := []) (by simp) mixed Try.func24 (by kernel_rfl) rfl ?_
  intro args cnd r bs hg hc
  unfold g_segLong at hg
  split at hg
  · rename_i f t sq ak rm fi he la re sr rr sd rd
    cases hg
    obtain ⟨⟨l, rfl, hl⟩, xs, rfl, hx⟩ := hc
    rw [rgsOf_rows, bytesOf_rows]
    have hl' : (xs.length : Int) ≤ 140737488355328 := by omega
    have w1 : IntKind.i64.wrap ((xs.length : Int) + 1) = (xs.length : Int) + 1 := wrap_id (by omega) (by omega)
    have w2 : IntKind.i64.wrap ((xs.length : Int) + 1 + 1) = (xs.length : Int) + 1 + 1 := wrap_id (by omega) (by omega)
    refine ⟨⟨rfl, by simp, by simp [AV.ids, AV.ids.idsL]⟩, [.agg [.v (.int .i64 f), .v (.int .i64 t), .v (.int .i64 sq), .v (.int .i64 ak), .v (.int .i64 rm), .v (.bool fi), .v (.bool he), .v (.bool la), .v (.bool re), (.l 2 (rgRows l)), (.l 1 (rowsOfBytes xs))]], rfl, fun w vs h => CvL.ok (.cons (.cons (.refl _) (.cons (.refl _) (.cons (.refl _) (.cons (.refl _) (.cons (.refl _) (.cons (.refl _) (.cons (.refl _) (.cons (.refl _) (.cons (.refl _) (.cons (.l _ _ _ (rgRows_w l)) (.cons (.l _ _ _ (rowsOf_w xs)) .nil))))))))))) .nil) h, ?_⟩
    cases fi <;> cases la
    · have e : longV ⟨f, t, sq, ak, rm, false, he, false, re, l, xs⟩ = (xs.length : Int) := by simp [longV, bI]
      rw [e]
      simp (maxSteps := 3000000) only [Try.f24, rowsOf_len, w1, w2, ↓reduceIte, Bool.false_eq_true, tYs, evL, implies_true, oMin, x_max, oMax, oCopy, oBin, oUn, oLoadKid, oStoreTree, oField, oExtract, oNil, oSliceQ, oSliceE, x_appendZ, oAppendZ, oSliceEnd, endMode, oLoadRow, takeCells, TS.atRow, TS.ex, treeMode, AV.isOwn, TK.isSl, nilTk, nilsB, oLenQ, oLen, nodupB, treeOf, kidAbs, kidRows, TK.isCell, D.toL, oLoad, oStore, oMake, oIndexAddr, ↓reduceIte, reduceCtorEq, Nat.reduceBEq, Nat.reduceAdd, Nat.reduceMul, Nat.reduceLT, Nat.reduceSub, Nat.reduceLeDiff, Nat.reduceEqDiff, Nat.reduceBneDiff, Int.reduceToNat, decide_eq_true_eq, decide_eq_false_iff_not, beq_iff_eq, Int.toNat_natCast]
      exact ⟨_, [], rfl, ⟨⟨⟨rfl, rfl, rfl⟩, trivial⟩, trivial, by simp [rn, hpAt]⟩⟩
    · have e : longV ⟨f, t, sq, ak, rm, false, he, true, re, l, xs⟩ = (xs.length : Int) + 1 := by simp [longV, bI]
      rw [e]
      simp (maxSteps := 3000000) only [Try.f24, rowsOf_len, w1, w2, ↓reduceIte, Bool.false_eq_true, tYs, evL, implies_true, oMin, x_max, oMax, oCopy, oBin, oUn, oLoadKid, oStoreTree, oField, oExtract, oNil, oSliceQ, oSliceE, x_appendZ, oAppendZ, oSliceEnd, endMode, oLoadRow, takeCells, TS.atRow, TS.ex, treeMode, AV.isOwn, TK.isSl, nilTk, nilsB, oLenQ, oLen, nodupB, treeOf, kidAbs, kidRows, TK.isCell, D.toL, oLoad, oStore, oMake, oIndexAddr, ↓reduceIte, reduceCtorEq, Nat.reduceBEq, Nat.reduceAdd, Nat.reduceMul, Nat.reduceLT, Nat.reduceSub, Nat.reduceLeDiff, Nat.reduceEqDiff, Nat.reduceBneDiff, Int.reduceToNat, decide_eq_true_eq, decide_eq_false_iff_not, beq_iff_eq, Int.toNat_natCast]
      exact ⟨_, [], rfl, ⟨⟨⟨rfl, rfl, rfl⟩, trivial⟩, trivial, by simp [rn, hpAt]⟩⟩
    · have e : longV ⟨f, t, sq, ak, rm, true, he, false, re, l, xs⟩ = (xs.length : Int) + 1 := by simp [longV, bI]
      rw [e]
      simp (maxSteps := 3000000) only [Try.f24, rowsOf_len, w1, w2, ↓reduceIte, Bool.false_eq_true, tYs, evL, implies_true, oMin, x_max, oMax, oCopy, oBin, oUn, oLoadKid, oStoreTree, oField, oExtract, oNil, oSliceQ, oSliceE, x_appendZ, oAppendZ, oSliceEnd, endMode, oLoadRow, takeCells, TS.atRow, TS.ex, treeMode, AV.isOwn, TK.isSl, nilTk, nilsB, oLenQ, oLen, nodupB, treeOf, kidAbs, kidRows, TK.isCell, D.toL, oLoad, oStore, oMake, oIndexAddr, ↓reduceIte, reduceCtorEq, Nat.reduceBEq, Nat.reduceAdd, Nat.reduceMul, Nat.reduceLT, Nat.reduceSub, Nat.reduceLeDiff, Nat.reduceEqDiff, Nat.reduceBneDiff, Int.reduceToNat, decide_eq_true_eq, decide_eq_false_iff_not, beq_iff_eq, Int.toNat_natCast]
      exact ⟨_, [], rfl, ⟨⟨⟨rfl, rfl, rfl⟩, trivial⟩, trivial, by simp [rn, hpAt]⟩⟩
    · have e : longV ⟨f, t, sq, ak, rm, true, he, true, re, l, xs⟩ = (xs.length : Int) + 1 + 1 := by simp [longV, bI]
      rw [e]
      simp (maxSteps := 3000000) only [Try.f24, rowsOf_len, w1, w2, ↓reduceIte, Bool.false_eq_true, tYs, evL, implies_true, oMin, x_max, oMax, oCopy, oBin, oUn, oLoadKid, oStoreTree, oField, oExtract, oNil, oSliceQ, oSliceE, x_appendZ, oAppendZ, oSliceEnd, endMode, oLoadRow, takeCells, TS.atRow, TS.ex, treeMode, AV.isOwn, TK.isSl, nilTk, nilsB, oLenQ, oLen, nodupB, treeOf, kidAbs, kidRows, TK.isCell, D.toL, oLoad, oStore, oMake, oIndexAddr, ↓reduceIte, reduceCtorEq, Nat.reduceBEq, Nat.reduceAdd, Nat.reduceMul, Nat.reduceLT, Nat.reduceSub, Nat.reduceLeDiff, Nat.reduceEqDiff, Nat.reduceBneDiff, Int.reduceToNat, decide_eq_true_eq, decide_eq_false_iff_not, beq_iff_eq, Int.toNat_natCast]
      exact ⟨_, [], rfl, ⟨⟨⟨rfl, rfl, rfl⟩, trivial⟩, trivial, by simp [rn, hpAt]⟩⟩
  · cases hg
def jn2 : List (FuncId × Abs) := [(24, pureAbs g_segLong)]
theorem jn2_ok : ∀ p ∈ jn2, CallOk Try.prog p.1 p.2 := by
  intro p hp
  simp only [jn2, List.mem_cons, List.not_mem_nil, or_false] at hp
  rcases hp with rfl
  · exact implSegmentLong_ok.call
set_option maxHeartbeats 1000000 in
set_option maxRecDepth 100000 in
theorem segMarksOk_ok : PureOk Try.prog 39 g_segMarksOk := by
  refine PureOk.of_vc (G := jn2) jn2_ok mixed Try.func39 (by kernel_rfl) rfl ?_
  intro args cnd r bs hg hc
  unfold g_segMarksOk at hg
  split at hg
  · rename_i f t sq ak rm fi he la re sr rr sd rd
    cases hg
    obtain ⟨⟨l, rfl, hl⟩, xs, rfl, hx⟩ := hc
    rw [rgsOf_rows, bytesOf_rows]
    refine ⟨⟨rfl, by simp, by simp [AV.ids, AV.ids.idsL]⟩, [.agg [.v (.int .i64 f), .v (.int .i64 t), .v (.int .i64 sq), .v (.int .i64 ak), .v (.int .i64 rm), .v (.bool fi), .v (.bool he), .v (.bool la), .v (.bool re), (.l 2 (rgRows l)), (.l 1 (rowsOfBytes xs))]], rfl, fun w vs h => CvL.ok (.cons (.cons (.refl _) (.cons (.refl _) (.cons (.refl _) (.cons (.refl _) (.cons (.refl _) (.cons (.refl _) (.cons (.refl _) (.cons (.refl _) (.cons (.refl _) (.cons (.l _ _ _ (rgRows_w l)) (.cons (.l _ _ _ (rowsOf_w xs)) .nil))))))))))) .nil) h, ?_⟩
    have hlv : longV ⟨f, t, sq, ak, rm, fi, he, la, re, l, xs⟩ = (xs.length : Int) + bI fi 1 + bI la 1 := rfl
    have b1 : 0 ≤ bI fi 1 ∧ (bI fi 1 = 0 ↔ fi = false) := by cases fi <;> decide
    have b2 : 0 ≤ bI la 1 ∧ (bI la 1 = 0 ↔ la = false) := by cases la <;> decide
    obtain ⟨L, hL⟩ : ∃ L, longV ⟨f, t, sq, ak, rm, fi, he, la, re, l, xs⟩ = L := ⟨_, rfl⟩
    have hz : decide (L = 0) = (!fi && !la && decide (xs.length = 0)) := by
      rw [Bool.eq_iff_iff]
      simp only [decide_eq_true_eq, Bool.and_eq_true, Bool.not_eq_eq_eq_not, Bool.not_true, ← b1.2, ← b2.2]
      omega
    have hll : (l.length = 0) = ¬ ((l.length : Int) > 0) := propext ⟨fun h => by omega, fun h => by omega⟩
    rw [sgMk, ← hz]
    rcases he with _ | _
    · by_cases a0 : ak = 0
      · have a1 : (ak != 0) = false := by simp [a0]
        by_cases r0 : rm = 0
        · have r1 : (rm != 0) = false := by simp [r0]
          by_cases l0 : l.length = 0
          · have l1 : ((l.length : Int) > 0) = False := eq_false (by omega)
            rw [decide_eq_true a0, decide_eq_true r0, decide_eq_true l0]
            rcases re with _ | _
            · simp (maxSteps := 3000000) only [Try.f39, jn2, g_segLong, rgRows_len, rowsOf_len, rgsOf_rows, bytesOf_rows, a1, r1, l1, Bool.not_true, Bool.not_false, ↓reduceIte, Bool.false_eq_true, tYs, evL, implies_true, oMin, x_max, oMax, oCopy, oBin, oUn, oLoadKid, oStoreTree, oField, oExtract, oNil, oSliceQ, oSliceE, x_appendZ, oAppendZ, oSliceEnd, endMode, oLoadRow, takeCells, TS.atRow, TS.ex, treeMode, AV.isOwn, TK.isSl, nilTk, nilsB, oLenQ, oLen, nodupB, treeOf, kidAbs, kidRows, TK.isCell, D.toL, oLoad, oStore, oMake, oIndexAddr, ↓reduceIte, reduceCtorEq, Nat.reduceBEq, Nat.reduceAdd, Nat.reduceMul, Nat.reduceLT, Nat.reduceSub, Nat.reduceLeDiff, Nat.reduceEqDiff, Nat.reduceBneDiff, Int.reduceToNat, decide_eq_true_eq, decide_eq_false_iff_not, beq_iff_eq, Int.toNat_natCast]
              exact ⟨_, [], rfl, ⟨⟨⟨rfl, rfl, rfl⟩, trivial⟩, trivial, by simp [rn, hpAt]⟩⟩
            · simp (maxSteps := 3000000) only [Try.f39, jn2, g_segLong, rgRows_len, rowsOf_len, rgsOf_rows, bytesOf_rows, a1, r1, l1, hL, Bool.not_true, Bool.not_false, ↓reduceIte, Bool.false_eq_true, tYs, evL, implies_true, oMin, x_max, oMax, oCopy, oBin, oUn, oLoadKid, oStoreTree, oField, oExtract, oNil, oSliceQ, oSliceE, x_appendZ, oAppendZ, oSliceEnd, endMode, oLoadRow, takeCells, TS.atRow, TS.ex, treeMode, AV.isOwn, TK.isSl, nilTk, nilsB, oLenQ, oLen, nodupB, treeOf, kidAbs, kidRows, TK.isCell, D.toL, oLoad, oStore, oMake, oIndexAddr, ↓reduceIte, reduceCtorEq, Nat.reduceBEq, Nat.reduceAdd, Nat.reduceMul, Nat.reduceLT, Nat.reduceSub, Nat.reduceLeDiff, Nat.reduceEqDiff, Nat.reduceBneDiff, Int.reduceToNat, decide_eq_true_eq, decide_eq_false_iff_not, beq_iff_eq, Int.toNat_natCast]
              refine And.intro ⟨⟨_, rfl, hl⟩, _, rfl, hx⟩ ?_
              exact ⟨_, [], rfl, ⟨⟨⟨rfl, rfl, rfl⟩, trivial⟩, trivial, by simp [rn, hpAt]⟩⟩
          · have l1 : ((l.length : Int) > 0) = True := eq_true (by omega)
            rw [decide_eq_false l0, Bool.and_false, Bool.or_false, Bool.false_and]
            simp (maxSteps := 3000000) only [Try.f39, jn2, g_segLong, rgRows_len, rowsOf_len, rgsOf_rows, bytesOf_rows, a1, r1, l1, Bool.not_true, Bool.not_false, ↓reduceIte, Bool.false_eq_true, tYs, evL, implies_true, oMin, x_max, oMax, oCopy, oBin, oUn, oLoadKid, oStoreTree, oField, oExtract, oNil, oSliceQ, oSliceE, x_appendZ, oAppendZ, oSliceEnd, endMode, oLoadRow, takeCells, TS.atRow, TS.ex, treeMode, AV.isOwn, TK.isSl, nilTk, nilsB, oLenQ, oLen, nodupB, treeOf, kidAbs, kidRows, TK.isCell, D.toL, oLoad, oStore, oMake, oIndexAddr, ↓reduceIte, reduceCtorEq, Nat.reduceBEq, Nat.reduceAdd, Nat.reduceMul, Nat.reduceLT, Nat.reduceSub, Nat.reduceLeDiff, Nat.reduceEqDiff, Nat.reduceBneDiff, Int.reduceToNat, decide_eq_true_eq, decide_eq_false_iff_not, beq_iff_eq, Int.toNat_natCast]
            exact ⟨_, [], rfl, ⟨⟨⟨rfl, rfl, rfl⟩, trivial⟩, trivial, by simp [rn, hpAt]⟩⟩
        · have r1 : (rm != 0) = true := by simp [r0]
          rw [decide_eq_false r0, Bool.and_false, Bool.false_and, Bool.or_false, Bool.false_and]
          simp (maxSteps := 3000000) only [Try.f39, jn2, g_segLong, rgRows_len, rowsOf_len, rgsOf_rows, bytesOf_rows, a1, r1, Bool.not_true, Bool.not_false, ↓reduceIte, Bool.false_eq_true, tYs, evL, implies_true, oMin, x_max, oMax, oCopy, oBin, oUn, oLoadKid, oStoreTree, oField, oExtract, oNil, oSliceQ, oSliceE, x_appendZ, oAppendZ, oSliceEnd, endMode, oLoadRow, takeCells, TS.atRow, TS.ex, treeMode, AV.isOwn, TK.isSl, nilTk, nilsB, oLenQ, oLen, nodupB, treeOf, kidAbs, kidRows, TK.isCell, D.toL, oLoad, oStore, oMake, oIndexAddr, ↓reduceIte, reduceCtorEq, Nat.reduceBEq, Nat.reduceAdd, Nat.reduceMul, Nat.reduceLT, Nat.reduceSub, Nat.reduceLeDiff, Nat.reduceEqDiff, Nat.reduceBneDiff, Int.reduceToNat, decide_eq_true_eq, decide_eq_false_iff_not, beq_iff_eq, Int.toNat_natCast]
          exact ⟨_, [], rfl, ⟨⟨⟨rfl, rfl, rfl⟩, trivial⟩, trivial, by simp [rn, hpAt]⟩⟩
      · have a1 : (ak != 0) = true := by simp [a0]
        rw [decide_eq_false a0, Bool.false_and, Bool.false_and, Bool.or_false, Bool.false_and]
        simp (maxSteps := 3000000) only [Try.f39, jn2, g_segLong, rgRows_len, rowsOf_len, rgsOf_rows, bytesOf_rows, a1, Bool.not_true, Bool.not_false, ↓reduceIte, Bool.false_eq_true, tYs, evL, implies_true, oMin, x_max, oMax, oCopy, oBin, oUn, oLoadKid, oStoreTree, oField, oExtract, oNil, oSliceQ, oSliceE, x_appendZ, oAppendZ, oSliceEnd, endMode, oLoadRow, takeCells, TS.atRow, TS.ex, treeMode, AV.isOwn, TK.isSl, nilTk, nilsB, oLenQ, oLen, nodupB, treeOf, kidAbs, kidRows, TK.isCell, D.toL, oLoad, oStore, oMake, oIndexAddr, ↓reduceIte, reduceCtorEq, Nat.reduceBEq, Nat.reduceAdd, Nat.reduceMul, Nat.reduceLT, Nat.reduceSub, Nat.reduceLeDiff, Nat.reduceEqDiff, Nat.reduceBneDiff, Int.reduceToNat, decide_eq_true_eq, decide_eq_false_iff_not, beq_iff_eq, Int.toNat_natCast]
        exact ⟨_, [], rfl, ⟨⟨⟨rfl, rfl, rfl⟩, trivial⟩, trivial, by simp [rn, hpAt]⟩⟩
    · rcases re with _ | _
      · simp (maxSteps := 3000000) only [Try.f39, jn2, g_segLong, rgRows_len, rowsOf_len, rgsOf_rows, bytesOf_rows, decide_true, Bool.not_true, Bool.not_false, ↓reduceIte, Bool.false_eq_true, tYs, evL, implies_true, oMin, x_max, oMax, oCopy, oBin, oUn, oLoadKid, oStoreTree, oField, oExtract, oNil, oSliceQ, oSliceE, x_appendZ, oAppendZ, oSliceEnd, endMode, oLoadRow, takeCells, TS.atRow, TS.ex, treeMode, AV.isOwn, TK.isSl, nilTk, nilsB, oLenQ, oLen, nodupB, treeOf, kidAbs, kidRows, TK.isCell, D.toL, oLoad, oStore, oMake, oIndexAddr, ↓reduceIte, reduceCtorEq, Nat.reduceBEq, Nat.reduceAdd, Nat.reduceMul, Nat.reduceLT, Nat.reduceSub, Nat.reduceLeDiff, Nat.reduceEqDiff, Nat.reduceBneDiff, Int.reduceToNat, decide_eq_true_eq, decide_eq_false_iff_not, beq_iff_eq, Int.toNat_natCast]
        exact ⟨_, [], rfl, ⟨⟨⟨rfl, rfl, rfl⟩, trivial⟩, trivial, by simp [rn, hpAt]⟩⟩
      · simp (maxSteps := 3000000) only [Try.f39, jn2, g_segLong, rgRows_len, rowsOf_len, rgsOf_rows, bytesOf_rows, hL, Bool.not_true, Bool.not_false, ↓reduceIte, Bool.false_eq_true, tYs, evL, implies_true, oMin, x_max, oMax, oCopy, oBin, oUn, oLoadKid, oStoreTree, oField, oExtract, oNil, oSliceQ, oSliceE, x_appendZ, oAppendZ, oSliceEnd, endMode, oLoadRow, takeCells, TS.atRow, TS.ex, treeMode, AV.isOwn, TK.isSl, nilTk, nilsB, oLenQ, oLen, nodupB, treeOf, kidAbs, kidRows, TK.isCell, D.toL, oLoad, oStore, oMake, oIndexAddr, ↓reduceIte, reduceCtorEq, Nat.reduceBEq, Nat.reduceAdd, Nat.reduceMul, Nat.reduceLT, Nat.reduceSub, Nat.reduceLeDiff, Nat.reduceEqDiff, Nat.reduceBneDiff, Int.reduceToNat, decide_eq_true_eq, decide_eq_false_iff_not, beq_iff_eq, Int.toNat_natCast]
        refine And.intro ⟨⟨_, rfl, hl⟩, _, rfl, hx⟩ ?_
        exact ⟨_, [], rfl, ⟨⟨⟨rfl, rfl, rfl⟩, trivial⟩, trivial, by simp [rn, hpAt]⟩⟩
  · cases hg
def jn3 : List (FuncId × Abs) := [(37, pureAbs g_segIn), (38, pureAbs g_rangesOk), (39, pureAbs g_segMarksOk)]
theorem jn3_ok : ∀ p ∈ jn3, CallOk Try.prog p.1 p.2 := by
  intro p hp
  simp only [jn3, List.mem_cons, List.not_mem_nil, or_false] at hp
  rcases hp with rfl | rfl | rfl
  · exact segIn_ok.call
  · exact rangesOk_ok.call
  · exact segMarksOk_ok.call
set_option maxHeartbeats 1000000 in
set_option maxRecDepth 100000 in
theorem implSegmentOk_ok : PureOk Try.prog 12 g_segOk := by
  refine PureOk.of_vc (G := jn3) jn3_ok mixed Try.func12 (by kernel_rfl) rfl ?_
  intro args cnd r bs hg hc
  unfold g_segOk at hg
  split at hg
  · rename_i f t sq ak rm fi he la re sr rr sd rd
    cases hg
    obtain ⟨⟨l, rfl, hl⟩, xs, rfl, hx⟩ := hc
    rw [rgsOf_rows, bytesOf_rows]
    refine ⟨⟨rfl, by simp, by simp [AV.ids, AV.ids.idsL]⟩, [.agg [.v (.int .i64 f), .v (.int .i64 t), .v (.int .i64 sq), .v (.int .i64 ak), .v (.int .i64 rm), .v (.bool fi), .v (.bool he), .v (.bool la), .v (.bool re), (.l 2 (rgRows l)), (.l 1 (rowsOfBytes xs))]], rfl, fun w vs h => CvL.ok (.cons (.cons (.refl _) (.cons (.refl _) (.cons (.refl _) (.cons (.refl _) (.cons (.refl _) (.cons (.refl _) (.cons (.refl _) (.cons (.refl _) (.cons (.refl _) (.cons (.l _ _ _ (rgRows_w l)) (.cons (.l _ _ _ (rowsOf_w xs)) .nil))))))))))) .nil) h, ?_⟩
    rw [sgK_split]
    rcases h1 : sgIn f t sq ak rm xs.length with _ | _
    · simp (maxSteps := 3000000) only [Try.f12, jn3, g_segIn, g_rangesOk, g_segMarksOk, rgRows_len, rowsOf_len, rgsOf_rows, bytesOf_rows, h1, Bool.not_true, Bool.not_false, ↓reduceIte, Bool.false_eq_true, tYs, evL, implies_true, oMin, x_max, oMax, oCopy, oBin, oUn, oLoadKid, oStoreTree, oField, oExtract, oNil, oSliceQ, oSliceE, x_appendZ, oAppendZ, oSliceEnd, endMode, oLoadRow, takeCells, TS.atRow, TS.ex, treeMode, AV.isOwn, TK.isSl, nilTk, nilsB, oLenQ, oLen, nodupB, treeOf, kidAbs, kidRows, TK.isCell, D.toL, oLoad, oStore, oMake, oIndexAddr, ↓reduceIte, reduceCtorEq, Nat.reduceBEq, Nat.reduceAdd, Nat.reduceMul, Nat.reduceLT, Nat.reduceSub, Nat.reduceLeDiff, Nat.reduceEqDiff, Nat.reduceBneDiff, Int.reduceToNat, decide_eq_true_eq, decide_eq_false_iff_not, beq_iff_eq, Int.toNat_natCast]
      refine And.intro ⟨⟨_, rfl, hl⟩, _, rfl, hx⟩ ?_
      exact ⟨_, [], rfl, ⟨⟨⟨rfl, rfl, rfl⟩, trivial⟩, trivial, by simp [rn, hpAt]⟩⟩
    rcases h2 : rgsB l with _ | _
    · simp (maxSteps := 3000000) only [Try.f12, jn3, g_segIn, g_rangesOk, g_segMarksOk, rgRows_len, rowsOf_len, rgsOf_rows, bytesOf_rows, h1, h2, Bool.not_true, Bool.not_false, ↓reduceIte, Bool.false_eq_true, tYs, evL, implies_true, oMin, x_max, oMax, oCopy, oBin, oUn, oLoadKid, oStoreTree, oField, oExtract, oNil, oSliceQ, oSliceE, x_appendZ, oAppendZ, oSliceEnd, endMode, oLoadRow, takeCells, TS.atRow, TS.ex, treeMode, AV.isOwn, TK.isSl, nilTk, nilsB, oLenQ, oLen, nodupB, treeOf, kidAbs, kidRows, TK.isCell, D.toL, oLoad, oStore, oMake, oIndexAddr, ↓reduceIte, reduceCtorEq, Nat.reduceBEq, Nat.reduceAdd, Nat.reduceMul, Nat.reduceLT, Nat.reduceSub, Nat.reduceLeDiff, Nat.reduceEqDiff, Nat.reduceBneDiff, Int.reduceToNat, decide_eq_true_eq, decide_eq_false_iff_not, beq_iff_eq, Int.toNat_natCast]
      refine And.intro ⟨⟨_, rfl, hl⟩, _, rfl, hx⟩ (And.intro ⟨_, rfl, hl⟩ ?_)
      exact ⟨_, [], rfl, ⟨⟨⟨rfl, rfl, rfl⟩, trivial⟩, trivial, by simp [rn, hpAt]⟩⟩
    simp (maxSteps := 3000000) only [Try.f12, jn3, g_segIn, g_rangesOk, g_segMarksOk, rgRows_len, rowsOf_len, rgsOf_rows, bytesOf_rows, h1, h2, Bool.not_true, Bool.not_false, ↓reduceIte, Bool.false_eq_true, tYs, evL, implies_true, oMin, x_max, oMax, oCopy, oBin, oUn, oLoadKid, oStoreTree, oField, oExtract, oNil, oSliceQ, oSliceE, x_appendZ, oAppendZ, oSliceEnd, endMode, oLoadRow, takeCells, TS.atRow, TS.ex, treeMode, AV.isOwn, TK.isSl, nilTk, nilsB, oLenQ, oLen, nodupB, treeOf, kidAbs, kidRows, TK.isCell, D.toL, oLoad, oStore, oMake, oIndexAddr, ↓reduceIte, reduceCtorEq, Nat.reduceBEq, Nat.reduceAdd, Nat.reduceMul, Nat.reduceLT, Nat.reduceSub, Nat.reduceLeDiff, Nat.reduceEqDiff, Nat.reduceBneDiff, Int.reduceToNat, decide_eq_true_eq, decide_eq_false_iff_not, beq_iff_eq, Int.toNat_natCast]
    refine And.intro ⟨⟨_, rfl, hl⟩, _, rfl, hx⟩ (And.intro ⟨_, rfl, hl⟩ (And.intro ⟨⟨_, rfl, hl⟩, _, rfl, hx⟩ ?_))
    exact ⟨_, [], rfl, ⟨⟨⟨rfl, rfl, rfl⟩, trivial⟩, trivial, by simp [rn, hpAt]⟩⟩
  · cases hg
set_option maxRecDepth 100000 in
theorem segMarks_ok : PureOk Try.prog 45 g_segMarks := by
  refine PureOk.of_vc (G := []) (by simp) mixed Try.func45 (by kernel_rfl) rfl ?_
  intro args cnd r bs hg hc
  unfold g_segMarks at hg
  split at hg
  · rename_i f t sq ak rm fi he la re sr rr sd rd
    cases hg
    obtain ⟨⟨l, rfl, hl⟩, xs, rfl, hx⟩ := hc
    refine ⟨⟨rfl, by simp, by simp [AV.ids, AV.ids.idsL]⟩, [.agg [.v (.int .i64 f), .v (.int .i64 t), .v (.int .i64 sq), .v (.int .i64 ak), .v (.int .i64 rm), .v (.bool fi), .v (.bool he), .v (.bool la), .v (.bool re), (.l 2 (rgRows l)), (.l 1 (rowsOfBytes xs))]], rfl, fun w vs h => CvL.ok (.cons (.cons (.refl _) (.cons (.refl _) (.cons (.refl _) (.cons (.refl _) (.cons (.refl _) (.cons (.refl _) (.cons (.refl _) (.cons (.refl _) (.cons (.refl _) (.cons (.l _ _ _ (rgRows_w l)) (.cons (.l _ _ _ (rowsOf_w xs)) .nil))))))))))) .nil) h, ?_⟩
    cases fi <;> cases he <;> cases la <;> cases re
    all_goals (simp (maxSteps := 3000000) only [Try.f45, ↓reduceIte, Bool.false_eq_true, tYs, evL, implies_true, oMin, x_max, oMax, oCopy, oBin, oUn, oLoadKid, oStoreTree, oField, oExtract, oNil, oSliceQ, oSliceE, x_appendZ, oAppendZ, oSliceEnd, endMode, oLoadRow, takeCells, TS.atRow, TS.ex, treeMode, AV.isOwn, TK.isSl, nilTk, nilsB, oLenQ, oLen, nodupB, treeOf, kidAbs, kidRows, TK.isCell, D.toL, oLoad, oStore, oMake, oIndexAddr, ↓reduceIte, reduceCtorEq, Nat.reduceBEq, Nat.reduceAdd, Nat.reduceMul, Nat.reduceLT, Nat.reduceSub, Nat.reduceLeDiff, Nat.reduceEqDiff, Nat.reduceBneDiff, Int.reduceToNat, decide_eq_true_eq, decide_eq_false_iff_not, beq_iff_eq, Int.toNat_natCast]; exact ⟨_, [], rfl, ⟨⟨⟨rfl, rfl, rfl⟩, trivial⟩, trivial, by simp [rn, hpAt]⟩⟩)
  · cases hg
set_option maxRecDepth 100000 in
theorem hasMark_ok : PureOk Try.prog 73 g_hasMark := by
  refine PureOk.of_vc (G := []) (by simp) mixed Try.func73 (by kernel_rfl) rfl ?_
  intro args cnd r bs hg hc
  unfold g_hasMark at hg
  split at hg
  · rename_i x y
    cases hg
    refine ⟨⟨rfl, by simp, by simp [AV.ids, AV.ids.idsL]⟩, _, rfl, fun w vs h => h, ?_⟩
    simp (maxSteps := 3000000) only [Try.f73, tYs, evL, implies_true, oMin, x_max, oMax, oCopy, oBin, oUn, oLoadKid, oStoreTree, oField, oExtract, oNil, oSliceQ, oSliceE, x_appendZ, oAppendZ, oSliceEnd, endMode, oLoadRow, takeCells, TS.atRow, TS.ex, treeMode, AV.isOwn, TK.isSl, nilTk, nilsB, oLenQ, oLen, nodupB, treeOf, kidAbs, kidRows, TK.isCell, D.toL, oLoad, oStore, oMake, oIndexAddr, ↓reduceIte, reduceCtorEq, Nat.reduceBEq, Nat.reduceAdd, Nat.reduceMul, Nat.reduceLT, Nat.reduceSub, Nat.reduceLeDiff, Nat.reduceEqDiff, Nat.reduceBneDiff, Int.reduceToNat, decide_eq_true_eq, decide_eq_false_iff_not, beq_iff_eq, Int.toNat_natCast]
    exact ⟨_, [], rfl, ⟨⟨⟨rfl, rfl, rfl⟩, trivial⟩, trivial, by simp [rn, hpAt]⟩⟩
  · cases hg
set_option maxRecDepth 100000 in
theorem segCountAt_ok : PureOk Try.prog 69 g_segCountAt := by
  refine PureOk.of_vc (G := []) (by simp) mixed Try.func69 (by kernel_rfl) rfl ?_
  intro args cnd r bs hg hc
  unfold g_segCountAt at hg
  split at hg
  · rename_i x
    cases hg
    have w1 : IntKind.i64.wrap (x * 4) = x * 4 := wrap_id (by omega) (by omega)
    have w2 : IntKind.i64.wrap (9 + x * 4) = 9 + x * 4 := wrap_id (by omega) (by omega)
    refine ⟨⟨rfl, by simp, by simp [AV.ids, AV.ids.idsL]⟩, _, rfl, fun w vs h => h, ?_⟩
    simp (maxSteps := 3000000) only [Try.f69, w1, w2, tYs, evL, implies_true, oMin, x_max, oMax, oCopy, oBin, oUn, oLoadKid, oStoreTree, oField, oExtract, oNil, oSliceQ, oSliceE, x_appendZ, oAppendZ, oSliceEnd, endMode, oLoadRow, takeCells, TS.atRow, TS.ex, treeMode, AV.isOwn, TK.isSl, nilTk, nilsB, oLenQ, oLen, nodupB, treeOf, kidAbs, kidRows, TK.isCell, D.toL, oLoad, oStore, oMake, oIndexAddr, ↓reduceIte, reduceCtorEq, Nat.reduceBEq, Nat.reduceAdd, Nat.reduceMul, Nat.reduceLT, Nat.reduceSub, Nat.reduceLeDiff, Nat.reduceEqDiff, Nat.reduceBneDiff, Int.reduceToNat, decide_eq_true_eq, decide_eq_false_iff_not, beq_iff_eq, Int.toNat_natCast]
    exact ⟨_, [], rfl, ⟨⟨⟨rfl, rfl, rfl⟩, trivial⟩, trivial, by simp [rn, hpAt]⟩⟩
  · cases hg
def jn4 : List (FuncId × Abs) := [(69, pureAbs g_segCountAt)]
theorem jn4_ok : ∀ p ∈ jn4, CallOk Try.prog p.1 p.2 := by
  intro p hp
  simp only [jn4, List.mem_cons, List.not_mem_nil, or_false] at hp
  rcases hp with rfl
  · exact segCountAt_ok.call
set_option maxRecDepth 100000 in
theorem segLength_ok : PureOk Try.prog 44 g_segLength := by
  refine PureOk.of_vc (G := jn4) jn4_ok mixed Try.func44 (by kernel_rfl) rfl ?_
  intro args cnd r bs hg hc
  unfold g_segLength at hg
  split at hg
  · rename_i x y
    cases hg
    obtain ⟨hx, hy⟩ := hc
    have w1 : IntKind.i64.wrap (9 + x * 4 + 1) = 9 + x * 4 + 1 := wrap_id (by omega) (by omega)
    have w2 : IntKind.i64.wrap (9 + x * 4 + 1 + y) = 9 + x * 4 + 1 + y := wrap_id (by omega) (by omega)
    have w3 : IntKind.i64.wrap (9 + x * 4 + 1 + y + 2) = 12 + x * 4 + y := by rw [wrap_id] <;> omega
    refine ⟨⟨rfl, by simp, by simp [AV.ids, AV.ids.idsL]⟩, _, rfl, fun w vs h => h, ?_⟩
    simp (maxSteps := 3000000) only [Try.f44, jn4, g_segCountAt, w1, w2, w3, tYs, evL, implies_true, oMin, x_max, oMax, oCopy, oBin, oUn, oLoadKid, oStoreTree, oField, oExtract, oNil, oSliceQ, oSliceE, x_appendZ, oAppendZ, oSliceEnd, endMode, oLoadRow, takeCells, TS.atRow, TS.ex, treeMode, AV.isOwn, TK.isSl, nilTk, nilsB, oLenQ, oLen, nodupB, treeOf, kidAbs, kidRows, TK.isCell, D.toL, oLoad, oStore, oMake, oIndexAddr, ↓reduceIte, reduceCtorEq, Nat.reduceBEq, Nat.reduceAdd, Nat.reduceMul, Nat.reduceLT, Nat.reduceSub, Nat.reduceLeDiff, Nat.reduceEqDiff, Nat.reduceBneDiff, Int.reduceToNat, decide_eq_true_eq, decide_eq_false_iff_not, beq_iff_eq, Int.toNat_natCast]
    refine ⟨hx, ?_⟩
    exact ⟨_, [], rfl, ⟨⟨⟨rfl, rfl, rfl⟩, trivial⟩, trivial, by simp [rn, hpAt]⟩⟩
  · cases hg
def jn5 : List (FuncId × Abs) := [(69, pureAbs g_segCountAt), (44, pureAbs g_segLength)]
theorem jn5_ok : ∀ p ∈ jn5, CallOk Try.prog p.1 p.2 := by
  intro p hp
  simp only [jn5, List.mem_cons, List.not_mem_nil, or_false] at hp
  rcases hp with rfl | rfl
  · exact segCountAt_ok.call
  · exact segLength_ok.call
set_option maxHeartbeats 1000000 in
set_option maxRecDepth 100000 in
theorem segCounts_ok : PureOk Try.prog 51 g_segCounts := by
  refine PureOk.of_vc (G := jn5) jn5_ok mixed Try.func51 (by kernel_rfl) rfl ?_
  intro args cnd r bs hg hc
  unfold g_segCounts at hg
  split at hg
  · rename_i sz rows
    cases hg
    obtain ⟨xs, rfl, hl⟩ := hc
    rw [bytesOf_rows]
    refine ⟨⟨rfl, by simp, by simp [AV.ids, AV.ids.idsL]⟩, [.l 1 (rowsOfBytes xs)], rfl, fun w vs h => CvL.ok (.cons (.l _ _ _ (rowsOf_w xs)) .nil) h, ?_⟩
    by_cases c0 : xs.length < 12
    · have f0 : ((xs.length : Int) < 12 + 0 * 4 + 0) = True := eq_true (by omega)
      have e : scB xs = false := by rw [scB, decide_eq_false (show ¬ 12 ≤ xs.length by omega)]; rfl
      rw [e]
      simp (maxSteps := 3000000) only [Try.f51, jn5, g_segCountAt, g_segLength, rowsOf_len, bytesOf_rows, row_toI, row_nil, row_head, f0, Bool.not_true, Bool.not_false, ↓reduceIte, Bool.false_eq_true, tYs, evL, implies_true, oMin, x_max, oMax, oCopy, oBin, oUn, oLoadKid, oStoreTree, oField, oExtract, oNil, oSliceQ, oSliceE, x_appendZ, oAppendZ, oSliceEnd, endMode, oLoadRow, takeCells, TS.atRow, TS.ex, treeMode, AV.isOwn, TK.isSl, nilTk, nilsB, oLenQ, oLen, nodupB, treeOf, kidAbs, kidRows, TK.isCell, D.toL, oLoad, oStore, oMake, oIndexAddr, ↓reduceIte, reduceCtorEq, Nat.reduceBEq, Nat.reduceAdd, Nat.reduceMul, Nat.reduceLT, Nat.reduceSub, Nat.reduceLeDiff, Nat.reduceEqDiff, Nat.reduceBneDiff, Int.reduceToNat, decide_eq_true_eq, decide_eq_false_iff_not, beq_iff_eq, Int.toNat_natCast]
      (repeat (refine And.intro ?_ ?_; focus (((repeat' apply And.intro) <;> first | omega | kernel_rfl); done)))
      exact ⟨_, [], rfl, ⟨⟨⟨rfl, rfl, rfl⟩, trivial⟩, trivial, by simp [rn, hpAt]⟩⟩
    have f0 : ((xs.length : Int) < 12 + 0 * 4 + 0) = False := eq_false (by omega)
    have g8 : ((8 : Int) < (xs.length : Int)) = True := eq_true (by omega)
    obtain ⟨n8, hx8⟩ : ∃ n8, (xs.getD 8 0).toNat = n8 := ⟨_, rfl⟩
    have hn : nR xs = n8 := hx8
    have b8 := (xs.getD 8 0).toNat_lt
    rw [hx8] at b8
    have v8 : IntKind.i64.wrap (n8 : Int) = (n8 : Int) := wrap_id (by omega) (by omega)
    by_cases c4 : 2 < n8
    · have f4 : ((n8 : Int) > 2) = True := eq_true (by omega)
      have e : scB xs = false := by rw [scB, hn, decide_eq_false (show ¬ n8 ≤ 2 by omega)]; simp
      rw [e]
      simp (maxSteps := 3000000) only [Try.f51, jn5, g_segCountAt, g_segLength, rowsOf_len, bytesOf_rows, row_toI, row_nil, row_head, f0, g8, hx8, v8, f4, Bool.not_true, Bool.not_false, ↓reduceIte, Bool.false_eq_true, tYs, evL, implies_true, oMin, x_max, oMax, oCopy, oBin, oUn, oLoadKid, oStoreTree, oField, oExtract, oNil, oSliceQ, oSliceE, x_appendZ, oAppendZ, oSliceEnd, endMode, oLoadRow, takeCells, TS.atRow, TS.ex, treeMode, AV.isOwn, TK.isSl, nilTk, nilsB, oLenQ, oLen, nodupB, treeOf, kidAbs, kidRows, TK.isCell, D.toL, oLoad, oStore, oMake, oIndexAddr, ↓reduceIte, reduceCtorEq, Nat.reduceBEq, Nat.reduceAdd, Nat.reduceMul, Nat.reduceLT, Nat.reduceSub, Nat.reduceLeDiff, Nat.reduceEqDiff, Nat.reduceBneDiff, Int.reduceToNat, decide_eq_true_eq, decide_eq_false_iff_not, beq_iff_eq, Int.toNat_natCast]
      (repeat (refine And.intro ?_ ?_; focus (((repeat' apply And.intro) <;> first | omega | kernel_rfl); done)))
      exact ⟨_, [], rfl, ⟨⟨⟨rfl, rfl, rfl⟩, trivial⟩, trivial, by simp [rn, hpAt]⟩⟩
    have f4 : ((n8 : Int) > 2) = False := eq_false (by omega)
    by_cases c5 : xs.length < 12 + 4 * n8
    · have f5 : ((xs.length : Int) < 12 + (n8 : Int) * 4 + 0) = True := eq_true (by omega)
      have e : scB xs = false := by rw [scB, hn, decide_eq_false (show ¬ 12 + 4 * n8 ≤ xs.length by omega)]; simp
      rw [e]
      simp (maxSteps := 3000000) only [Try.f51, jn5, g_segCountAt, g_segLength, rowsOf_len, bytesOf_rows, row_toI, row_nil, row_head, f0, g8, hx8, v8, f4, f5, Bool.not_true, Bool.not_false, ↓reduceIte, Bool.false_eq_true, tYs, evL, implies_true, oMin, x_max, oMax, oCopy, oBin, oUn, oLoadKid, oStoreTree, oField, oExtract, oNil, oSliceQ, oSliceE, x_appendZ, oAppendZ, oSliceEnd, endMode, oLoadRow, takeCells, TS.atRow, TS.ex, treeMode, AV.isOwn, TK.isSl, nilTk, nilsB, oLenQ, oLen, nodupB, treeOf, kidAbs, kidRows, TK.isCell, D.toL, oLoad, oStore, oMake, oIndexAddr, ↓reduceIte, reduceCtorEq, Nat.reduceBEq, Nat.reduceAdd, Nat.reduceMul, Nat.reduceLT, Nat.reduceSub, Nat.reduceLeDiff, Nat.reduceEqDiff, Nat.reduceBneDiff, Int.reduceToNat, decide_eq_true_eq, decide_eq_false_iff_not, beq_iff_eq, Int.toNat_natCast]
      (repeat (refine And.intro ?_ ?_; focus (((repeat' apply And.intro) <;> first | omega | kernel_rfl); done)))
      exact ⟨_, [], rfl, ⟨⟨⟨rfl, rfl, rfl⟩, trivial⟩, trivial, by simp [rn, hpAt]⟩⟩
    have f5 : ((xs.length : Int) < 12 + (n8 : Int) * 4 + 0) = False := eq_false (by omega)
    have p9 : 9 + (n8 : Int) * 4 = ((9 + 4 * n8 : Nat) : Int) := by omega
    have g9 : (((9 + 4 * n8 : Nat) : Int) < (xs.length : Int)) = True := eq_true (by omega)
    have g90 : (0 ≤ ((9 + 4 * n8 : Nat) : Int)) = True := eq_true (by omega)
    obtain ⟨m, hm⟩ : ∃ m, (xs.getD (9 + 4 * n8) 0).toNat = m := ⟨_, rfl⟩
    have hsm : scM xs = m := by rw [scM, hn]; exact hm
    have bm := (xs.getD (9 + 4 * n8) 0).toNat_lt
    rw [hm] at bm
    have v9 : IntKind.i64.wrap (m : Int) = (m : Int) := wrap_id (by omega) (by omega)
    by_cases c6 : m ≤ 12
    · have f6 : ((m : Int) ≤ 12) = True := eq_true (by omega)
      have e : scB xs = decide ((xs.length : Int) = 12 + (n8 : Int) * 4 + (m : Int)) := by
        rw [scB, hn, hsm, decide_eq_true (show 12 ≤ xs.length by omega), decide_eq_true (show n8 ≤ 2 by omega), decide_eq_true (show 12 + 4 * n8 ≤ xs.length by omega), decide_eq_true c6]
        exact decide_eq_decide.2 ⟨fun h => by omega, fun h => by omega⟩
      rw [e]
      simp (maxSteps := 3000000) only [Try.f51, jn5, g_segCountAt, g_segLength, rowsOf_len, bytesOf_rows, row_toI, row_nil, row_head, f0, g8, hx8, v8, f4, f5, p9, g9, g90, hm, v9, f6, decide_true, Bool.not_true, Bool.not_false, ↓reduceIte, Bool.false_eq_true, tYs, evL, implies_true, oMin, x_max, oMax, oCopy, oBin, oUn, oLoadKid, oStoreTree, oField, oExtract, oNil, oSliceQ, oSliceE, x_appendZ, oAppendZ, oSliceEnd, endMode, oLoadRow, takeCells, TS.atRow, TS.ex, treeMode, AV.isOwn, TK.isSl, nilTk, nilsB, oLenQ, oLen, nodupB, treeOf, kidAbs, kidRows, TK.isCell, D.toL, oLoad, oStore, oMake, oIndexAddr, ↓reduceIte, reduceCtorEq, Nat.reduceBEq, Nat.reduceAdd, Nat.reduceMul, Nat.reduceLT, Nat.reduceSub, Nat.reduceLeDiff, Nat.reduceEqDiff, Nat.reduceBneDiff, Int.reduceToNat, decide_eq_true_eq, decide_eq_false_iff_not, beq_iff_eq, Int.toNat_natCast]
      (repeat (refine And.intro ?_ ?_; focus (((repeat' apply And.intro) <;> first | omega | kernel_rfl); done)))
      exact ⟨_, [], rfl, ⟨⟨⟨rfl, rfl, rfl⟩, trivial⟩, trivial, by simp [rn, hpAt]⟩⟩
    · have f6 : ((m : Int) ≤ 12) = False := eq_false (by omega)
      have e : scB xs = false := by rw [scB, hsm, decide_eq_false c6]; simp
      rw [e]
      simp (maxSteps := 3000000) only [Try.f51, jn5, g_segCountAt, g_segLength, rowsOf_len, bytesOf_rows, row_toI, row_nil, row_head, f0, g8, hx8, v8, f4, f5, p9, g9, g90, hm, v9, f6, decide_false, Bool.not_true, Bool.not_false, ↓reduceIte, Bool.false_eq_true, tYs, evL, implies_true, oMin, x_max, oMax, oCopy, oBin, oUn, oLoadKid, oStoreTree, oField, oExtract, oNil, oSliceQ, oSliceE, x_appendZ, oAppendZ, oSliceEnd, endMode, oLoadRow, takeCells, TS.atRow, TS.ex, treeMode, AV.isOwn, TK.isSl, nilTk, nilsB, oLenQ, oLen, nodupB, treeOf, kidAbs, kidRows, TK.isCell, D.toL, oLoad, oStore, oMake, oIndexAddr, ↓reduceIte, reduceCtorEq, Nat.reduceBEq, Nat.reduceAdd, Nat.reduceMul, Nat.reduceLT, Nat.reduceSub, Nat.reduceLeDiff, Nat.reduceEqDiff, Nat.reduceBneDiff, Int.reduceToNat, decide_eq_true_eq, decide_eq_false_iff_not, beq_iff_eq, Int.toNat_natCast]
      (repeat (refine And.intro ?_ ?_; focus (((repeat' apply And.intro) <;> first | omega | kernel_rfl); done)))
      exact ⟨_, [], rfl, ⟨⟨⟨rfl, rfl, rfl⟩, trivial⟩, trivial, by simp [rn, hpAt]⟩⟩
  · cases hg
def jn6 : List (FuncId × Abs) := [(41, pureAbs g_bytesOf)]
theorem jn6_ok : ∀ p ∈ jn6, CallOk Try.prog p.1 p.2 := by
  intro p hp
  simp only [jn6, List.mem_cons, List.not_mem_nil, or_false] at hp
  rcases hp with rfl
  · exact implBytesOf_ok.call
set_option maxHeartbeats 1000000 in
set_option maxRecDepth 100000 in
theorem rangesBytes_ok : PureOk Try.prog 46 g_rangesBytes := by
  refine PureOk.of_vc (G := jn6) jn6_ok mixed Try.func46 (by kernel_rfl) rfl ?_
  intro args cnd r bs hg hc
  unfold g_rangesBytes at hg
  split at hg
  · rename_i sr rr
    cases hg
    obtain ⟨l, rfl, hl, hr0⟩ := hc
    rw [rgsOf_rows]
    refine ⟨⟨rfl, by simpa [flatB] using rowsOf_flat (rgsX l), by simp [AV.ids, AV.ids.idsL]⟩, [.l 2 (rgRows l)], rfl, fun w vs h => CvL.ok (.cons (.l _ _ _ (rgRows_w l)) .nil) h, ?_⟩
    have w1 : IntKind.i64.wrap ((l.length : Int) * 4) = (l.length : Int) * 4 := wrap_id (by omega) (by omega)
    simp (maxSteps := 3000000) only [Try.f46, jn6, g_bytesOf, rgRows_len, rowsOf_len, w1, List.replicate, Bool.not_true, Bool.not_false, ↓reduceIte, Bool.false_eq_true, D.toI, tYs, evL, implies_true, oMin, x_max, oMax, oCopy, oBin, oUn, oLoadKid, oStoreTree, oField, oExtract, oNil, oSliceQ, oSliceE, x_appendZ, oAppendZ, oSliceEnd, endMode, oLoadRow, takeCells, TS.atRow, TS.ex, treeMode, AV.isOwn, TK.isSl, nilTk, nilsB, oLenQ, oLen, nodupB, treeOf, kidAbs, kidRows, TK.isCell, D.toL, oLoad, oStore, oMake, oIndexAddr, ↓reduceIte, reduceCtorEq, Nat.reduceBEq, Nat.reduceAdd, Nat.reduceMul, Nat.reduceLT, Nat.reduceSub, Nat.reduceLeDiff, Nat.reduceEqDiff, Nat.reduceBneDiff, Int.reduceToNat, decide_eq_true_eq, decide_eq_false_iff_not, beq_iff_eq, Int.toNat_natCast, loopK_normal, loopK_exit, loopK_ret]
    repeat' first
      | (refine And.intro ?_ ?_; focus (omega; done))
      | (refine And.intro ?_ ?_; focus (exact rowsOf_w _))
      | (refine And.intro ?_ ?_; focus (exact ⟨by omega, by omega, rowsOf_w _⟩))
      | (refine And.intro ?_ ?_; focus (exact ⟨by omega, by omega, by omega, by omega⟩))
      | (refine And.intro ?_ ?_; focus (kernel_rfl))
    refine e_loop _ _ _ _ _ _ _ _ (fun k : Nat => [.l 2 (rgRows l), .any, .any, .own 0, .any, .any, .any, .any, .any, .any, .l 2 (rgRows l), .v (.int .i64 (l.length : Int)), .v (.int .i64 (k : Int))] ++ List.replicate (Try.f46.ntmps - 13) .any) (fun k => [(0, .sl 5 1 (rowsOfBytes (rgsX (l.take k))))]) (fun k => k ≤ l.length) (fun k => l.length - k) 1 (fun k => by simp) ?_ fun k hk' => ?_
    · exact ⟨0, [(0, some _)], Nat.zero_le _, ⟨⟨⟨rfl, rfl, rfl⟩, trivial, trivial, ⟨rfl, rfl, rfl⟩, trivial, trivial, trivial, trivial, trivial, trivial, ⟨rfl, rfl, rfl⟩, ⟨rfl, rfl, rfl⟩, ⟨rfl, rfl, rfl⟩, fitT_rep _ _ rfl⟩, ⟨.inl rfl, rfl, rfl, rfl, trivial⟩, by simp [rn, hpAt]⟩, by simp [keepIds]⟩
    have hk1 : k ≤ l.length := hk'
    have hv1 := rgsX_len (rs := l.take k) fun r hr => hr0 r (List.mem_of_mem_take hr)
    have hv2 : (l.take k).length ≤ 2 := by rw [List.length_take]; omega
    have w2 : IntKind.i64.wrap ((k : Int) + 1) = ((k + 1 : Nat) : Int) := by rw [wrap_id] <;> omega
    by_cases hk : k < l.length
    · have hrow := rgRows_get l k hk
      have hlt : ((k : Int) < (l.length : Int)) = True := eq_true (by omega)
      have h00 : (0 ≤ (k : Int)) = True := eq_true (by omega)
      have hg := rgB_iff.1 (hr0 _ (List.getElem_mem hk))
      have u3 := bytesOf_two_len hg.1
      have u4 := bytesOf_two_len hg.2
      have hnx : rgsX (l.take k) ++ (bytesOf l[k].f 2 ++ bytesOf l[k].t 2) = rgsX (l.take (k + 1)) := by
        rw [List.take_add_one, List.getElem?_eq_getElem hk, rgsX, rgsX, List.flatMap_append]; simp [rgX]
      simp (maxSteps := 3000000) only [Try.f46, jn6, g_bytesOf, rgRows_len, rowsOf_len, hrow, hlt, h00, w2, u3, u4, hnx, rowsOf_app, List.length_append, List.length_cons, List.length_nil, List.append_assoc, Bool.not_true, Bool.not_false, ↓reduceIte, Bool.false_eq_true, D.toI, tYs, evL, implies_true, oMin, x_max, oMax, oCopy, oBin, oUn, oLoadKid, oStoreTree, oField, oExtract, oNil, oSliceQ, oSliceE, x_appendZ, oAppendZ, oSliceEnd, endMode, oLoadRow, takeCells, TS.atRow, TS.ex, treeMode, AV.isOwn, TK.isSl, nilTk, nilsB, oLenQ, oLen, nodupB, treeOf, kidAbs, kidRows, TK.isCell, D.toL, oLoad, oStore, oMake, oIndexAddr, ↓reduceIte, reduceCtorEq, Nat.reduceBEq, Nat.reduceAdd, Nat.reduceMul, Nat.reduceLT, Nat.reduceSub, Nat.reduceLeDiff, Nat.reduceEqDiff, Nat.reduceBneDiff, Int.reduceToNat, decide_eq_true_eq, decide_eq_false_iff_not, beq_iff_eq, Int.toNat_natCast, loopK_normal, loopK_exit, loopK_ret]
      repeat' first
        | (refine And.intro ?_ ?_; focus (omega; done))
        | (refine And.intro ?_ ?_; focus (exact rowsOf_w _))
        | (refine And.intro ?_ ?_; focus (exact ⟨by omega, by omega, rowsOf_w _⟩))
        | (refine And.intro ?_ ?_; focus (exact ⟨by omega, by omega, by omega, by omega⟩))
        | (refine And.intro ?_ ?_; focus (kernel_rfl))
      exact ⟨k + 1, [(0, some _)], by omega, by omega, ⟨⟨⟨rfl, rfl, rfl⟩, trivial, trivial, ⟨rfl, rfl, rfl⟩, trivial, trivial, trivial, trivial, trivial, trivial, ⟨rfl, rfl, rfl⟩, ⟨rfl, rfl, rfl⟩, ⟨rfl, rfl, rfl⟩, fitT_rep _ _ rfl⟩, ⟨.inl rfl, rfl, rfl, rfl, trivial⟩, by simp [rn, hpAt]⟩, by simp [keepIds, rn]⟩
    · have hlt : ((k : Int) < (l.length : Int)) = False := eq_false (by omega)
      have htk : l.take k = l := List.take_of_length_le (by omega)
      rw [htk]
      simp (maxSteps := 3000000) only [Try.f46, jn6, g_bytesOf, rgRows_len, rowsOf_len, hlt, w2, Bool.not_true, Bool.not_false, ↓reduceIte, Bool.false_eq_true, D.toI, tYs, evL, implies_true, oMin, x_max, oMax, oCopy, oBin, oUn, oLoadKid, oStoreTree, oField, oExtract, oNil, oSliceQ, oSliceE, x_appendZ, oAppendZ, oSliceEnd, endMode, oLoadRow, takeCells, TS.atRow, TS.ex, treeMode, AV.isOwn, TK.isSl, nilTk, nilsB, oLenQ, oLen, nodupB, treeOf, kidAbs, kidRows, TK.isCell, D.toL, oLoad, oStore, oMake, oIndexAddr, ↓reduceIte, reduceCtorEq, Nat.reduceBEq, Nat.reduceAdd, Nat.reduceMul, Nat.reduceLT, Nat.reduceSub, Nat.reduceLeDiff, Nat.reduceEqDiff, Nat.reduceBneDiff, Int.reduceToNat, decide_eq_true_eq, decide_eq_false_iff_not, beq_iff_eq, Int.toNat_natCast, loopK_normal, loopK_exit, loopK_ret]
      exact ⟨_, [(0, some _)], rfl, ⟨⟨⟨rfl, rfl, rfl⟩, trivial⟩, ⟨.inl rfl, rfl, rfl, rfl, trivial⟩, by simp [rn, hpAt]⟩⟩
  · cases hg
def jn7 : List (FuncId × Abs) := [(72, pureAbs g_numberAt)]
theorem jn7_ok : ∀ p ∈ jn7, CallOk Try.prog p.1 p.2 := by
  intro p hp
  simp only [jn7, List.mem_cons, List.not_mem_nil, or_false] at hp
  rcases hp with rfl
  · exact implNumberAt_ok.call
set_option maxHeartbeats 1000000 in
set_option maxRecDepth 100000 in
theorem rangesRead_ok : PureOk Try.prog 74 g_rangesRead := by
  refine PureOk.of_vc (G := jn7) jn7_ok mixed Try.func74 (by kernel_rfl) rfl ?_
  intro args cnd r bs hg hc
  unfold g_rangesRead at hg
  split at hg
  · rename_i sz rows p n
    cases hg
    obtain ⟨⟨xs, rfl, hl⟩, rfl, hn0, hn2⟩ := hc
    rw [bytesOf_rows]
    obtain ⟨m, rfl⟩ := Int.eq_ofNat_of_zero_le hn0
    rw [Int.toNat_natCast]
    refine ⟨⟨rfl, by intro u hu; simp only [List.mem_cons, List.not_mem_nil, or_false] at hu; rcases hu with rfl; exact rgRows_flat _, by simp [AV.ids, AV.ids.idsL]⟩, [.l 1 (rowsOfBytes xs), .v (.int .i64 9), .v (.int .i64 (m : Int))], rfl, fun w vs h => CvL.ok (.cons (.l _ _ _ (rowsOf_w xs)) (.cons (.refl _) (.cons (.refl _) .nil))) h, ?_⟩
    simp (maxSteps := 3000000) only [Try.f74, jn7, g_numberAt, rgRows_len, rowsOf_len, bytesOf_rows, List.replicate, Int.toNat_natCast, Bool.not_true, Bool.not_false, ↓reduceIte, Bool.false_eq_true, tYs, evL, implies_true, oMin, x_max, oMax, oCopy, oBin, oUn, oLoadKid, oStoreTree, oField, oExtract, oNil, oSliceQ, oSliceE, x_appendZ, oAppendZ, oSliceEnd, endMode, oLoadRow, takeCells, TS.atRow, TS.ex, treeMode, AV.isOwn, TK.isSl, nilTk, nilsB, oLenQ, oLen, nodupB, treeOf, kidAbs, kidRows, TK.isCell, D.toL, oLoad, oStore, oMake, oIndexAddr, ↓reduceIte, reduceCtorEq, Nat.reduceBEq, Nat.reduceAdd, Nat.reduceMul, Nat.reduceLT, Nat.reduceSub, Nat.reduceLeDiff, Nat.reduceEqDiff, Nat.reduceBneDiff, Int.reduceToNat, decide_eq_true_eq, decide_eq_false_iff_not, beq_iff_eq, Int.toNat_natCast, loopK_normal, loopK_exit, loopK_ret]
    (repeat (refine And.intro ?_ ?_; focus (((repeat' apply And.intro) <;> first | omega | exact rowsOf_w _ | (refine ⟨_, rfl, ?_⟩; first | omega | (simp only [List.length_map, List.length_range, List.length_take]; omega)) | (intro r hr; simp only [List.mem_cons, List.not_mem_nil, or_false] at hr; rcases hr with rfl; rfl) | kernel_rfl); done)))
    refine e_loop _ _ _ _ _ _ _ _ (fun k : Nat => [.l 1 (rowsOfBytes xs), .v (.int .i64 9), .v (.int .i64 (m : Int)), .any, .any, .any, .any, .own 0, .v (.int .i64 (k : Int))] ++ List.replicate (Try.f74.ntmps - 9) .any) (fun k => [(0, .sl 57 2 (rgRows ((List.range k).map (rgR xs))))]) (fun k => k ≤ m) (fun k => m - k) 1 (fun k => by simp) ?_ fun k hk' => ?_
    · exact ⟨0, [(0, some _)], Nat.zero_le _, ⟨⟨⟨rfl, rfl, rfl⟩, ⟨rfl, rfl, rfl⟩, ⟨rfl, rfl, rfl⟩, trivial, trivial, trivial, trivial, ⟨rfl, rfl, rfl⟩, ⟨rfl, rfl, rfl⟩, fitT_rep _ _ rfl⟩, ⟨.inl rfl, rfl, rfl, rfl, trivial⟩, by simp [rn, hpAt]⟩, by simp [keepIds]⟩
    have hk1 : k ≤ m := hk'
    have w2 : IntKind.i64.wrap ((k : Int) + 1) = ((k + 1 : Nat) : Int) := by rw [wrap_id] <;> omega
    by_cases hk : k < m
    · have hlt : ((k : Int) < (m : Int)) = True := eq_true (by omega)
      have q0 : IntKind.i64.wrap ((k : Int) * 4) = (k : Int) * 4 := wrap_id (by omega) (by omega)
      have q1 : IntKind.i64.wrap (9 + (k : Int) * 4) = ((9 + 4 * k : Nat) : Int) := by rw [wrap_id] <;> omega
      have q2 : IntKind.i64.wrap (((9 + 4 * k : Nat) : Int) + 2) = ((11 + 4 * k : Nat) : Int) := by rw [wrap_id] <;> omega
      have hnx : rgRows ((List.range k).map (rgR xs)) ++ [[.v (.int .i64 (numAt xs ((9 + 4 * k : Nat) : Int) 2)), .v (.int .i64 (numAt xs ((11 + 4 * k : Nat) : Int) 2))]] = rgRows ((List.range (k + 1)).map (rgR xs)) := by
        rw [List.range_succ, List.map_append, ← rgRows_app]; rfl
      simp (maxSteps := 3000000) only [Try.f74, jn7, g_numberAt, rgRows_len, rowsOf_len, bytesOf_rows, hlt, q0, q1, q2, hnx, w2, List.length_map, List.length_range, Bool.not_true, Bool.not_false, ↓reduceIte, Bool.false_eq_true, tYs, evL, implies_true, oMin, x_max, oMax, oCopy, oBin, oUn, oLoadKid, oStoreTree, oField, oExtract, oNil, oSliceQ, oSliceE, x_appendZ, oAppendZ, oSliceEnd, endMode, oLoadRow, takeCells, TS.atRow, TS.ex, treeMode, AV.isOwn, TK.isSl, nilTk, nilsB, oLenQ, oLen, nodupB, treeOf, kidAbs, kidRows, TK.isCell, D.toL, oLoad, oStore, oMake, oIndexAddr, ↓reduceIte, reduceCtorEq, Nat.reduceBEq, Nat.reduceAdd, Nat.reduceMul, Nat.reduceLT, Nat.reduceSub, Nat.reduceLeDiff, Nat.reduceEqDiff, Nat.reduceBneDiff, Int.reduceToNat, decide_eq_true_eq, decide_eq_false_iff_not, beq_iff_eq, Int.toNat_natCast, loopK_normal, loopK_exit, loopK_ret]
      clear hnx q1 q2
      (repeat (refine And.intro ?_ ?_; focus (((repeat' apply And.intro) <;> first | omega | exact rowsOf_w _ | (refine ⟨_, rfl, ?_⟩; first | omega | (simp only [List.length_map, List.length_range, List.length_take]; omega)) | (intro r hr; simp only [List.mem_cons, List.not_mem_nil, or_false] at hr; rcases hr with rfl; rfl) | kernel_rfl); done)))
      exact ⟨k + 1, [(0, some _)], by omega, by omega, ⟨⟨⟨rfl, rfl, rfl⟩, ⟨rfl, rfl, rfl⟩, ⟨rfl, rfl, rfl⟩, trivial, trivial, trivial, trivial, ⟨rfl, rfl, rfl⟩, ⟨rfl, rfl, rfl⟩, fitT_rep _ _ rfl⟩, ⟨.inl rfl, rfl, rfl, rfl, trivial⟩, by simp [rn, hpAt]⟩, by simp [keepIds, rn]⟩
    · have hlt : ((k : Int) < (m : Int)) = False := eq_false (by omega)
      obtain rfl : k = m := by omega
      simp (maxSteps := 3000000) only [Try.f74, jn7, g_numberAt, rgRows_len, rowsOf_len, bytesOf_rows, hlt, w2, Bool.not_true, Bool.not_false, ↓reduceIte, Bool.false_eq_true, tYs, evL, implies_true, oMin, x_max, oMax, oCopy, oBin, oUn, oLoadKid, oStoreTree, oField, oExtract, oNil, oSliceQ, oSliceE, x_appendZ, oAppendZ, oSliceEnd, endMode, oLoadRow, takeCells, TS.atRow, TS.ex, treeMode, AV.isOwn, TK.isSl, nilTk, nilsB, oLenQ, oLen, nodupB, treeOf, kidAbs, kidRows, TK.isCell, D.toL, oLoad, oStore, oMake, oIndexAddr, ↓reduceIte, reduceCtorEq, Nat.reduceBEq, Nat.reduceAdd, Nat.reduceMul, Nat.reduceLT, Nat.reduceSub, Nat.reduceLeDiff, Nat.reduceEqDiff, Nat.reduceBneDiff, Int.reduceToNat, decide_eq_true_eq, decide_eq_false_iff_not, beq_iff_eq, Int.toNat_natCast, loopK_normal, loopK_exit, loopK_ret]
      exact ⟨_, [(0, some _)], rfl, ⟨⟨⟨rfl, rfl, rfl⟩, trivial⟩, ⟨.inl rfl, rfl, rfl, rfl, trivial⟩, by simp [rn, hpAt]⟩⟩
  · cases hg
def jn8 : List (FuncId × Abs) := [(72, pureAbs g_numberAt), (73, pureAbs g_hasMark), (74, pureAbs g_rangesRead), (69, pureAbs g_segCountAt), (75, pureAbs g_bytesCopied)]
theorem jn8_ok : ∀ p ∈ jn8, CallOk Try.prog p.1 p.2 := by
  intro p hp
  simp only [jn8, List.mem_cons, List.not_mem_nil, or_false] at hp
  rcases hp with rfl | rfl | rfl | rfl | rfl
  · exact implNumberAt_ok.call
  · exact hasMark_ok.call
  · exact rangesRead_ok.call
  · exact segCountAt_ok.call
  · exact bytesCopied_ok.call
set_option maxHeartbeats 4000000 in
set_option maxRecDepth 100000 in
theorem segRead_ok : PureOk Try.prog 52 g_segRead := by
  refine PureOk.of_vc (G := jn8) jn8_ok mixed Try.func52 (by kernel_rfl) rfl ?_
  intro args cnd r bs hg hc
  unfold g_segRead at hg
  split at hg
  · rename_i sz rows
    cases hg
    obtain ⟨xs, rfl, hl, hs⟩ := hc
    rw [bytesOf_rows]
    refine ⟨⟨rfl, by intro u hu; simp only [List.mem_cons, List.not_mem_nil, or_false] at hu; rcases hu with rfl | rfl; exact rgRows_flat _; exact rowsOf_flat _, by simp [AV.ids, AV.ids.idsL]⟩, [.l 1 (rowsOfBytes xs)], rfl, fun w vs h => CvL.ok (.cons (.l _ _ _ (rowsOf_w xs)) .nil) h, ?_⟩
    obtain ⟨s1, s2, s3, s4, s5⟩ := scB_iff.1 hs
    have g0 : ((0 : Int) < (xs.length : Int)) = True := eq_true (by omega)
    have g1 : ((1 : Int) < (xs.length : Int)) = True := eq_true (by omega)
    have g6 : ((6 : Int) < (xs.length : Int)) = True := eq_true (by omega)
    have g7 : ((7 : Int) < (xs.length : Int)) = True := eq_true (by omega)
    have g8 : ((8 : Int) < (xs.length : Int)) = True := eq_true (by omega)
    have y0 := (xs.getD 0 0).toNat_lt
    have y1 := (xs.getD 1 0).toNat_lt
    have y6 := (xs.getD 6 0).toNat_lt
    have z0 : IntKind.i64.wrap ((xs.getD 0 0).toNat : Int) = ((xs.getD 0 0).toNat : Int) := wrap_id (by omega) (by omega)
    have z1 : IntKind.i64.wrap ((xs.getD 1 0).toNat : Int) = ((xs.getD 1 0).toNat : Int) := wrap_id (by omega) (by omega)
    have z6 : IntKind.i64.wrap ((xs.getD 6 0).toNat : Int) = ((xs.getD 6 0).toNat : Int) := wrap_id (by omega) (by omega)
    have m1 := bit_1 (xs.getD 7 0)
    have m2 := bit_2 (xs.getD 7 0)
    have m3 := bit_4 (xs.getD 7 0)
    have m4 := bit_8 (xs.getD 7 0)
    obtain ⟨n8, hx8⟩ : ∃ n8, (xs.getD 8 0).toNat = n8 := ⟨_, rfl⟩
    have hn : nR xs = n8 := hx8
    rw [hn] at s2 s3 s5
    have v8 : IntKind.i64.wrap (n8 : Int) = (n8 : Int) := wrap_id (by omega) (by omega)
    have q3 : IntKind.i64.wrap (9 + (n8 : Int) * 4 + 1) = ((10 + 4 * n8 : Nat) : Int) := by rw [wrap_id] <;> omega
    have wl : IntKind.i64.wrap ((xs.length : Int) - 2) = ((xs.length - 2 : Nat) : Int) := by rw [wrap_id] <;> omega
    have hD : List.drop (10 + 4 * n8) (List.take (xs.length - 2) xs) = (xs.drop (10 + 4 * n8)).take (xs.length - 12 - 4 * n8) := by
      rw [List.drop_take]
      congr 1
      omega
    obtain ⟨W, hDv⟩ : ∃ W, W = (xs.drop (10 + 4 * n8)).take (xs.length - 12 - 4 * n8) := ⟨_, rfl⟩
    have hDl : W.length = xs.length - 12 - 4 * n8 := by rw [hDv, List.length_take, List.length_drop]; omega
    rw [← hDv] at hD
    simp (maxSteps := 3000000) only [Try.f52, jn8, g_numberAt, g_hasMark, g_rangesRead, g_segCountAt, g_bytesCopied, rgRows_len, rowsOf_len, bytesOf_rows, rowsOf_take, rowsOf_drop, row_toI, row_nil, row_head, g0, g1, g6, g7, g8, z0, z1, z6, m1, m2, m3, m4, hx8, v8, q3, wl, hD, Int.toNat_natCast, Bool.not_true, Bool.not_false, ↓reduceIte, Bool.false_eq_true, tYs, evL, implies_true, oMin, x_max, oMax, oCopy, oBin, oUn, oLoadKid, oStoreTree, oField, oExtract, oNil, oSliceQ, oSliceE, x_appendZ, oAppendZ, oSliceEnd, endMode, oLoadRow, takeCells, TS.atRow, TS.ex, treeMode, AV.isOwn, TK.isSl, nilTk, nilsB, oLenQ, oLen, nodupB, treeOf, kidAbs, kidRows, TK.isCell, D.toL, oLoad, oStore, oMake, oIndexAddr, ↓reduceIte, reduceCtorEq, Nat.reduceBEq, Nat.reduceAdd, Nat.reduceMul, Nat.reduceLT, Nat.reduceSub, Nat.reduceLeDiff, Nat.reduceEqDiff, Nat.reduceBneDiff, Int.reduceToNat, decide_eq_true_eq, decide_eq_false_iff_not, beq_iff_eq, Int.toNat_natCast]
    clear m1 m2 m3 m4
    (repeat (refine And.intro ?_ ?_; focus (((repeat' apply And.intro) <;> first | omega | exact rowsOf_w _ | (refine ⟨_, rfl, ?_⟩; first | omega | (simp only [List.length_map, List.length_range, List.length_take]; omega)) | kernel_rfl); done)))
    subst hx8 hDv
    exact ⟨_, [(0, some _), (1, some _)], rfl, ⟨⟨⟨rfl, rfl, rfl⟩, trivial⟩, ⟨.inl rfl, rfl, rfl, rfl, .inl rfl, rfl, rfl, rfl, trivial⟩, by simp [rn, hpAt]⟩⟩
  · cases hg
end Go.Proofs.Ytnlhfjdkhkmaeaa
