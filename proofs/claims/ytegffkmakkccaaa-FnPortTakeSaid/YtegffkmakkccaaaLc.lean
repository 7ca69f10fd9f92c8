import Derived.Test.YtegffkmakkccaaaLb
set_option linter.unusedVariables false
set_option linter.unusedSimpArgs false
namespace Go.Proofs.Ytegffkmakkccaaa
open Go.RowKit
set_option linter.unusedSimpArgs false
def mlK (a f t : Int) (n : Nat) : Bool := inZ a 0 65535 && inZ f 1 255 && inZ t 1 255 && decide (n ≤ 40)
theorem mlK_of (a f t : Int) (xs : List UInt8) : mlK a f t xs.length = mlB ⟨a, f, t, xs⟩ := rfl
theorem mlK_bd {a f t : Int} {n : Nat} (h : mlK a f t n = true) : (0 ≤ a ∧ a ≤ 65535) ∧ (1 ≤ f ∧ f ≤ 255) ∧ (1 ≤ t ∧ t ≤ 255) ∧ n ≤ 40 := by
  simp only [mlK, inZ, Bool.and_eq_true, decide_eq_true_eq] at h
  omega
def mfA (a t : Int) (b : List UInt8) : Int := if mfOk a t b = true then a else 0
def mfF (a t : Int) (b : List UInt8) : Int := if mfOk a t b = true then ((b.getD 0 0).toNat : Int) else 0
def mfT (a t : Int) (b : List UInt8) : Int := if mfOk a t b = true then ((b.getD 1 0).toNat : Int) else 0
def mfD (a t : Int) (b : List UInt8) : List UInt8 := if mfOk a t b = true then (b.drop 3).take (b.length - 5) else []
theorem mf_pos {a t : Int} {b : List UInt8} (h : mfOk a t b = true) : mfA a t b = a ∧ mfF a t b = ((b.getD 0 0).toNat : Int) ∧ mfT a t b = ((b.getD 1 0).toNat : Int) ∧ mfD a t b = (b.drop 3).take (b.length - 5) :=
  ⟨if_pos h, if_pos h, if_pos h, if_pos h⟩
theorem mf_neg {a t : Int} {b : List UInt8} (h : mfOk a t b = false) : mfA a t b = 0 ∧ mfF a t b = 0 ∧ mfT a t b = 0 ∧ mfD a t b = [] := by
  have h' : ¬ mfOk a t b = true := by rw [h]; decide
  exact ⟨if_neg h', if_neg h', if_neg h', if_neg h'⟩
theorem mlV_app {m : Ml} {to : Int} (h : (mlB m && inZ to 0 65535) = true) : rowsOfBytes (mlX m) ++ rowsOfBytes (bytesOf (mlS m.a to (mlX m)) 2) = rowsOfBytes (mlV m to) := by
  rw [mlV, if_pos h, rowsOf_app]
theorem mlX_rows (a f t : Int) (xs : List UInt8) : [D.v (.int .u8 (IntKind.u8.wrap f))] :: [D.v (.int .u8 (IntKind.u8.wrap t))] :: [D.v (.int .u8 (IntKind.u8.wrap (xs.length : Int)))] :: rowsOfBytes xs = rowsOfBytes (mlX ⟨a, f, t, xs⟩) := by
  rw [← toU8_val, ← toU8_val, ← toU8_val]
  simp [rowsOfBytes, mlX]
def g_isPort : PC := fun args => match args with
  | [.v (.int .i64 v)] => some (True, .v (.bool (inZ v 1 255)), [])
  | _ => none
def g_mailOk : PC := fun args => match args with
  | [.agg [.v (.int .i64 a), .v (.int .i64 f), .v (.int .i64 t), .l _ rows]] => some (True, .v (.bool (mlK a f t rows.length)), [])
  | _ => none
def g_sumBetween : PC := fun args => match args with
  | [.v (.int .i64 a), .v (.int .i64 t), .l _ rows] => some ((∃ xs, rows = rowsOfBytes xs ∧ xs.length ≤ 1048576) ∧ a ≤ 9223372036854775807 ∧ t ≤ 9223372036854775807, .v (.int .i64 (mlS a t (bytesOfRows rows))), [])
  | _ => none
def g_mailBytes : PC := fun args => match args with
  | [.agg [.v (.int .i64 a), .v (.int .i64 f), .v (.int .i64 t), .l _ rows], .v (.int .i64 to)] => some (∃ xs, rows = rowsOfBytes xs ∧ xs.length ≤ 140737488355328, .own 0, [.sl 5 1 (rowsOfBytes (mlV ⟨a, f, t, bytesOfRows rows⟩ to))])
  | _ => none
def g_mailFrom : PC := fun args => match args with
  | [.v (.int .i64 a), .v (.int .i64 t), .l _ rows] => some (∃ xs, rows = rowsOfBytes xs ∧ xs.length ≤ 1048576, .tup [.agg [.v (.int .i64 (mfA a t (bytesOfRows rows))), .v (.int .i64 (mfF a t (bytesOfRows rows))), .v (.int .i64 (mfT a t (bytesOfRows rows))), .own 0], .v (.bool (mfOk a t (bytesOfRows rows)))], [.sl 5 1 (rowsOfBytes (mfD a t (bytesOfRows rows)))])
  | _ => none
set_option maxRecDepth 100000 in
theorem isPort_ok : PureOk Try.prog 140 g_isPort := by
  refine PureOk.of_vc (G := []) (by simp) mixed Try.func140 (by kernel_rfl) rfl ?_
  intro args cnd r bs hg hc
  unfold g_isPort at hg
  split at hg
  · rename_i v
    cases hg
    refine ⟨⟨rfl, by simp, by simp [AV.ids, AV.ids.idsL]⟩, _, rfl, fun w vs h => h, ?_⟩
    simp (maxSteps := 3000000) only [Try.f140, tYs, evL, implies_true, oMin, oCopy, oBin, oUn, oLoadKid, oStoreTree, oField, oExtract, oNil, oSliceQ, oLoadRow, takeCells, TS.atRow, TS.ex, treeMode, AV.isOwn, TK.isSl, nilTk, nilsB, oLenQ, oLen, nodupB, treeOf, kidAbs, kidRows, TK.isCell, D.toL, oLoad, oStore, oMake, oIndexAddr, ↓reduceIte, reduceCtorEq, Nat.reduceBEq, Nat.reduceAdd, Nat.reduceMul, Nat.reduceLT, Nat.reduceSub, Nat.reduceLeDiff, Nat.reduceEqDiff, Nat.reduceBneDiff, Int.reduceToNat, decide_eq_true_eq, decide_eq_false_iff_not, beq_iff_eq, Int.toNat_natCast]
    repeat' split
    all_goals (refine ⟨_, [], rfl, ⟨⟨⟨?_, rfl, rfl⟩, trivial⟩, by simp [hpAt, fitH], by simp [hpAt]⟩⟩; refine congrArg (fun b => AV.v (Value.bool b)) ?_; first | rfl | (rw [Bool.eq_iff_iff]; simp only [inZ, decide_eq_true_eq, inZ, Bool.and_eq_true, Bool.or_eq_true, bne_iff_ne, Bool.false_eq_true, beq_eq_false_iff_ne, beq_iff_eq, ne_eq, decide_eq_false_iff_not, Bool.not_eq_eq_eq_not, Bool.not_true, Bool.not_false, false_iff, iff_false, true_iff, iff_true] at *; omega))
  · cases hg
def ml1 : List (FuncId × Abs) := [(126, pureAbs g_isPair), (140, pureAbs g_isPort)]
theorem ml1_ok : ∀ p ∈ ml1, CallOk Try.prog p.1 p.2 := by
  intro p hp
  simp only [ml1, List.mem_cons, List.not_mem_nil, or_false] at hp
  rcases hp with rfl | rfl
  · exact isAddr_ok.call
  · exact isPort_ok.call
def ml2 : List (FuncId × Abs) := [(65, pureAbs g_l1In)]
theorem ml2_ok : ∀ p ∈ ml2, CallOk Try.prog p.1 p.2 := by
  intro p hp
  simp only [ml2, List.mem_cons, List.not_mem_nil, or_false] at hp
  rcases hp with rfl
  · exact l1In_ok.call
set_option maxRecDepth 100000 in
theorem implMailOk_ok : PureOk Try.prog 141 g_mailOk := by
  refine PureOk.of_vc (G := ml1) ml1_ok mixed Try.func141 (by kernel_rfl) rfl ?_
  intro args cnd r bs hg hc
  unfold g_mailOk at hg
  split at hg
  · rename_i a f t sz rows
    cases hg
    refine ⟨⟨rfl, by simp, by simp [AV.ids, AV.ids.idsL]⟩, _, rfl, fun w vs h => h, ?_⟩
    simp (maxSteps := 3000000) only [Try.f141, ml1, g_isPair, g_isPort, tYs, evL, implies_true, oMin, oCopy, oBin, oUn, oLoadKid, oStoreTree, oField, oExtract, oNil, oSliceQ, oLoadRow, takeCells, TS.atRow, TS.ex, treeMode, AV.isOwn, TK.isSl, nilTk, nilsB, oLenQ, oLen, nodupB, treeOf, kidAbs, kidRows, TK.isCell, D.toL, oLoad, oStore, oMake, oIndexAddr, ↓reduceIte, reduceCtorEq, Nat.reduceBEq, Nat.reduceAdd, Nat.reduceMul, Nat.reduceLT, Nat.reduceSub, Nat.reduceLeDiff, Nat.reduceEqDiff, Nat.reduceBneDiff, Int.reduceToNat, decide_eq_true_eq, decide_eq_false_iff_not, beq_iff_eq, Int.toNat_natCast]
    repeat' split
    all_goals (refine ⟨_, [], rfl, ⟨⟨⟨?_, rfl, rfl⟩, trivial⟩, by simp [hpAt, fitH], by simp [hpAt]⟩⟩; refine congrArg (fun b => AV.v (Value.bool b)) ?_; first | rfl | (rw [Bool.eq_iff_iff]; simp only [mlK, decide_eq_true_eq, inZ, Bool.and_eq_true, Bool.or_eq_true, bne_iff_ne, Bool.false_eq_true, beq_eq_false_iff_ne, beq_iff_eq, ne_eq, decide_eq_false_iff_not, Bool.not_eq_eq_eq_not, Bool.not_true, Bool.not_false, false_iff, iff_false, true_iff, iff_true] at *; omega))
  · cases hg
set_option maxRecDepth 100000 in
theorem specMailOk_ok : PureOk Try.prog 139 g_mailOk := by
  refine PureOk.of_vc (G := ml2) ml2_ok mixed Try.func139 (by kernel_rfl) rfl ?_
  intro args cnd r bs hg hc
  unfold g_mailOk at hg
  split at hg
  · rename_i a f t sz rows
    cases hg
    refine ⟨⟨rfl, by simp, by simp [AV.ids, AV.ids.idsL]⟩, _, rfl, fun w vs h => h, ?_⟩
    simp (maxSteps := 3000000) only [Try.f139, ml2, g_l1In, tYs, evL, implies_true, oMin, oCopy, oBin, oUn, oLoadKid, oStoreTree, oField, oExtract, oNil, oSliceQ, oLoadRow, takeCells, TS.atRow, TS.ex, treeMode, AV.isOwn, TK.isSl, nilTk, nilsB, oLenQ, oLen, nodupB, treeOf, kidAbs, kidRows, TK.isCell, D.toL, oLoad, oStore, oMake, oIndexAddr, ↓reduceIte, reduceCtorEq, Nat.reduceBEq, Nat.reduceAdd, Nat.reduceMul, Nat.reduceLT, Nat.reduceSub, Nat.reduceLeDiff, Nat.reduceEqDiff, Nat.reduceBneDiff, Int.reduceToNat, decide_eq_true_eq, decide_eq_false_iff_not, beq_iff_eq, Int.toNat_natCast]
    repeat' split
    all_goals (refine ⟨_, [], rfl, ⟨⟨⟨?_, rfl, rfl⟩, trivial⟩, by simp [hpAt, fitH], by simp [hpAt]⟩⟩; refine congrArg (fun b => AV.v (Value.bool b)) ?_; first | rfl | (rw [Bool.eq_iff_iff]; simp only [mlK, decide_eq_true_eq, inZ, Bool.and_eq_true, Bool.or_eq_true, bne_iff_ne, Bool.false_eq_true, beq_eq_false_iff_ne, beq_iff_eq, ne_eq, decide_eq_false_iff_not, Bool.not_eq_eq_eq_not, Bool.not_true, Bool.not_false, false_iff, iff_false, true_iff, iff_true] at *; omega))
  · cases hg
def msspec : List (FuncId × Abs) := [(132, pureAbs g_bytesOf), (170, pureAbs g_sumOf)]
theorem msspec_ok : ∀ p ∈ msspec, CallOk Try.prog p.1 p.2 := by
  intro p hp
  simp only [msspec, List.mem_cons, List.not_mem_nil, or_false] at hp
  rcases hp with rfl | rfl
  · exact specBytesOf_ok.call
  · exact specSumOf_ok.call
set_option maxRecDepth 100000 in
theorem specSum_ok : PureOk Try.prog 161 g_sumBetween := by
  refine PureOk.of_vc (G := msspec) msspec_ok mixed Try.func161 (by kernel_rfl) rfl ?_
  intro args cnd r bs hg hc
  unfold g_sumBetween at hg
  split at hg
  · rename_i a t sz rows
    cases hg
    obtain ⟨⟨xs, rfl, hl⟩, ha, ht⟩ := hc
    rw [bytesOf_rows]
    have h2 := bytesOf_len a 2
    have h3 := bytesOf_len t 2
    have hms : sumOf (bytesOf a 2 ++ (bytesOf t 2 ++ xs)) = mlS a t xs := by rw [mlS, List.append_assoc]
    have e : rowsOfBytes (bytesOf a 2) ++ rowsOfBytes (bytesOf t 2) ++ rowsOfBytes xs = rowsOfBytes (bytesOf a 2 ++ bytesOf t 2 ++ xs) := by rw [rowsOf_app, rowsOf_app]
    refine ⟨⟨rfl, by simp, by simp [AV.ids, AV.ids.idsL]⟩, [.v (.int .i64 a), .v (.int .i64 t), .l 1 (rowsOfBytes xs)], rfl, fun w vs h => CvL.ok (.cons (.refl _) (.cons (.refl _) (.cons (.l _ _ _ (rowsOf_w xs)) .nil))) h, ?_⟩
    simp (maxSteps := 3000000) only [Try.f161, msspec, g_bytesOf, g_sumOf, bytesOf_rows, rowsOf_len, e, hms, tYs, evL, implies_true, oMin, oCopy, oBin, oUn, oLoadKid, oStoreTree, oField, oExtract, oNil, oSliceQ, oLoadRow, takeCells, TS.atRow, TS.ex, treeMode, AV.isOwn, TK.isSl, nilTk, nilsB, oLenQ, oLen, nodupB, treeOf, kidAbs, kidRows, TK.isCell, D.toL, oLoad, oStore, oMake, oIndexAddr, ↓reduceIte, reduceCtorEq, Nat.reduceBEq, Nat.reduceAdd, Nat.reduceMul, Nat.reduceLT, Nat.reduceSub, Nat.reduceLeDiff, Nat.reduceEqDiff, Nat.reduceBneDiff, Int.reduceToNat, decide_eq_true_eq, decide_eq_false_iff_not, beq_iff_eq, Int.toNat_natCast]
    exact ⟨by omega, by omega, ⟨by omega, by omega, rowsOf_w _⟩, ⟨by rw [List.length_append, rowsOf_len, rowsOf_len]; omega, by rw [List.length_append, rowsOf_len, rowsOf_len]; omega, rowsOf_w _⟩, ⟨_, rfl, by simp only [List.length_append]; omega⟩, _, [], rfl, ⟨⟨⟨rfl, rfl, rfl⟩, trivial⟩, trivial, by simp [rn, hpAt]⟩⟩
  · cases hg
def mbs : List (FuncId × Abs) := [(139, pureAbs g_mailOk), (65, pureAbs g_l1In), (161, pureAbs g_sumBetween), (132, pureAbs g_bytesOf)]
theorem mbs_ok : ∀ p ∈ mbs, CallOk Try.prog p.1 p.2 := by
  intro p hp
  simp only [mbs, List.mem_cons, List.not_mem_nil, or_false] at hp
  rcases hp with rfl | rfl | rfl | rfl
  · exact specMailOk_ok.call
  · exact l1In_ok.call
  · exact specSum_ok.call
  · exact specBytesOf_ok.call
set_option maxRecDepth 100000 in
theorem specMailBytes_ok : PureOk Try.prog 137 g_mailBytes := by
  refine PureOk.of_vc (G := mbs) mbs_ok mixed Try.func137 (by kernel_rfl) rfl ?_
  intro args cnd r bs hg hc
  unfold g_mailBytes at hg
  split at hg
  · rename_i a f t sz rows to
    cases hg
    obtain ⟨xs, rfl, hl⟩ := hc
    rw [bytesOf_rows]
    refine ⟨⟨rfl, by simpa [flatB] using rowsOf_flat (mlV ⟨a, f, t, xs⟩ to), by simp [AV.ids, AV.ids.idsL]⟩, [.agg [.v (.int .i64 a), .v (.int .i64 f), .v (.int .i64 t), .l 1 (rowsOfBytes xs)], .v (.int .i64 to)], rfl, fun w vs h => CvL.ok (.cons (.cons (.refl _) (.cons (.refl _) (.cons (.refl _) (.cons (.l _ _ _ (rowsOf_w xs)) .nil)))) (.cons (.refl _) .nil)) h, ?_⟩
    have no : (mlK a f t xs.length && inZ to 0 65535) = false → rowsOfBytes (mlV ⟨a, f, t, xs⟩ to) = [] := fun h => by rw [mlV, if_neg (by rw [← mlK_of, h]; decide)]; rfl
    rcases hk : mlK a f t xs.length with _ | _
    · rw [no (by rw [hk]; rfl)]
      simp (maxSteps := 3000000) only [Try.f137, mbs, g_mailOk, g_isPair, g_l1In, g_sumBetween, g_bytesOf, bytesOf_rows, rowsOf_len, hk, List.singleton_append, List.cons_append, List.nil_append, Bool.not_true, Bool.not_false, ↓reduceIte, Bool.false_eq_true, tYs, evL, implies_true, oMin, oCopy, oBin, oUn, oLoadKid, oStoreTree, oField, oExtract, oNil, oSliceQ, oLoadRow, takeCells, TS.atRow, TS.ex, treeMode, AV.isOwn, TK.isSl, nilTk, nilsB, oLenQ, oLen, nodupB, treeOf, kidAbs, kidRows, TK.isCell, D.toL, oLoad, oStore, oMake, oIndexAddr, ↓reduceIte, reduceCtorEq, Nat.reduceBEq, Nat.reduceAdd, Nat.reduceMul, Nat.reduceLT, Nat.reduceSub, Nat.reduceLeDiff, Nat.reduceEqDiff, Nat.reduceBneDiff, Int.reduceToNat, decide_eq_true_eq, decide_eq_false_iff_not, beq_iff_eq, Int.toNat_natCast]
      exact ⟨_, [(0, some _)], rfl, ⟨⟨⟨rfl, rfl, rfl⟩, trivial⟩, ⟨.inl rfl, rfl, rfl, rfl, trivial⟩, by simp [rn, hpAt]⟩⟩
    · rcases ht : inZ to 0 65535 with _ | _
      · rw [no (by rw [ht, Bool.and_false])]
        simp (maxSteps := 3000000) only [Try.f137, mbs, g_mailOk, g_isPair, g_l1In, g_sumBetween, g_bytesOf, bytesOf_rows, rowsOf_len, hk, ht, List.singleton_append, List.cons_append, List.nil_append, Bool.not_true, Bool.not_false, ↓reduceIte, Bool.false_eq_true, tYs, evL, implies_true, oMin, oCopy, oBin, oUn, oLoadKid, oStoreTree, oField, oExtract, oNil, oSliceQ, oLoadRow, takeCells, TS.atRow, TS.ex, treeMode, AV.isOwn, TK.isSl, nilTk, nilsB, oLenQ, oLen, nodupB, treeOf, kidAbs, kidRows, TK.isCell, D.toL, oLoad, oStore, oMake, oIndexAddr, ↓reduceIte, reduceCtorEq, Nat.reduceBEq, Nat.reduceAdd, Nat.reduceMul, Nat.reduceLT, Nat.reduceSub, Nat.reduceLeDiff, Nat.reduceEqDiff, Nat.reduceBneDiff, Int.reduceToNat, decide_eq_true_eq, decide_eq_false_iff_not, beq_iff_eq, Int.toNat_natCast]
        exact ⟨_, [(0, some _)], rfl, ⟨⟨⟨rfl, rfl, rfl⟩, trivial⟩, ⟨.inl rfl, rfl, rfl, rfl, trivial⟩, by simp [rn, hpAt]⟩⟩
      · have hr := mlV_app (m := ⟨a, f, t, xs⟩) (to := to) (by rw [← mlK_of, hk, ht]; rfl)
        dsimp only at hr
        have hX := mlX_rows a f t xs
        have hb := mlK_bd hk
        have hto := inZ_iff.1 ht
        have w1 : IntKind.i64.wrap (3 + (xs.length : Int)) = 3 + (xs.length : Int) := wrap_id (by omega) (by omega)
        have w3 : IntKind.i64.wrap (3 + (xs.length : Int) + 2) = 3 + (xs.length : Int) + 2 := wrap_id (by omega) (by omega)
        have hXl : (mlX ⟨a, f, t, xs⟩).length = xs.length + 3 := rfl
        have hs := mlS_bd a to (mlX ⟨a, f, t, xs⟩)
        have h2 := bytesOf_len (mlS a to (mlX ⟨a, f, t, xs⟩)) 2
        simp (maxSteps := 3000000) only [Try.f137, mbs, g_mailOk, g_isPair, g_l1In, g_sumBetween, g_bytesOf, bytesOf_rows, rowsOf_len, hk, ht, hX, hr, w1, w3, List.singleton_append, List.cons_append, List.nil_append, Bool.not_true, Bool.not_false, ↓reduceIte, Bool.false_eq_true, tYs, evL, implies_true, oMin, oCopy, oBin, oUn, oLoadKid, oStoreTree, oField, oExtract, oNil, oSliceQ, oLoadRow, takeCells, TS.atRow, TS.ex, treeMode, AV.isOwn, TK.isSl, nilTk, nilsB, oLenQ, oLen, nodupB, treeOf, kidAbs, kidRows, TK.isCell, D.toL, oLoad, oStore, oMake, oIndexAddr, ↓reduceIte, reduceCtorEq, Nat.reduceBEq, Nat.reduceAdd, Nat.reduceMul, Nat.reduceLT, Nat.reduceSub, Nat.reduceLeDiff, Nat.reduceEqDiff, Nat.reduceBneDiff, Int.reduceToNat, decide_eq_true_eq, decide_eq_false_iff_not, beq_iff_eq, Int.toNat_natCast]
        exact ⟨⟨by omega, by omega, rowsOf_w _⟩, ⟨⟨_, rfl, by omega⟩, by omega, by omega⟩, by omega, ⟨by omega, by omega, rowsOf_w _⟩, _, [(0, some _)], rfl, ⟨⟨⟨rfl, rfl, rfl⟩, trivial⟩, ⟨.inl rfl, rfl, rfl, rfl, trivial⟩, by simp [rn, hpAt]⟩⟩
  · cases hg
def mfs : List (FuncId × Abs) := [(139, pureAbs g_mailOk), (65, pureAbs g_l1In), (130, pureAbs g_numberAt), (161, pureAbs g_sumBetween)]
theorem mfs_ok : ∀ p ∈ mfs, CallOk Try.prog p.1 p.2 := by
  intro p hp
  simp only [mfs, List.mem_cons, List.not_mem_nil, or_false] at hp
  rcases hp with rfl | rfl | rfl | rfl
  · exact specMailOk_ok.call
  · exact l1In_ok.call
  · exact specNumberAt_ok.call
  · exact specSum_ok.call
set_option maxHeartbeats 2000000 in
set_option maxRecDepth 100000 in
theorem specMailFrom_ok : PureOk Try.prog 160 g_mailFrom := by
  refine PureOk.of_vc (G := mfs) mfs_ok mixed Try.func160 (by kernel_rfl) rfl ?_
  intro args cnd r bs hg hc
  unfold g_mailFrom at hg
  split at hg
  · rename_i a t sz rows
    cases hg
    obtain ⟨xs, rfl, hl⟩ := hc
    rw [bytesOf_rows]
    have b0 := (xs.getD 0 0).toNat_lt
    have b1 := (xs.getD 1 0).toNat_lt
    have b2 := (xs.getD 2 0).toNat_lt
    have v0 : IntKind.i64.wrap ((xs.getD 0 0).toNat : Int) = ((xs.getD 0 0).toNat : Int) := wrap_id (by omega) (by omega)
    have v1 : IntKind.i64.wrap ((xs.getD 1 0).toNat : Int) = ((xs.getD 1 0).toNat : Int) := wrap_id (by omega) (by omega)
    have v2 : IntKind.i64.wrap ((xs.getD 2 0).toNat : Int) = ((xs.getD 2 0).toNat : Int) := wrap_id (by omega) (by omega)
    have wl : IntKind.i64.wrap ((xs.length : Int) - 2) = (xs.length : Int) - 2 := wrap_id (by omega) (by omega)
    have wm : IntKind.i64.wrap ((xs.length : Int) - 3) = (xs.length : Int) - 3 := wrap_id (by omega) (by omega)
    have wm2 : IntKind.i64.wrap ((xs.length : Int) - 3 - 2) = (xs.length : Int) - 5 := by rw [wrap_id] <;> omega
    have wm3 : IntKind.i64.wrap (3 + ((xs.length : Int) - 5)) = (xs.length : Int) - 2 := by rw [wrap_id] <;> omega
    have wn : ((xs.length : Int) - 2).toNat = xs.length - 2 := by omega
    have hd : List.drop 3 (List.take (xs.length - 2) xs) = (xs.drop 3).take (xs.length - 5) := by
      rw [List.drop_take]
      congr 1
    have hdl : ((xs.drop 3).take (xs.length - 5)).length = min (xs.length - 5) (xs.length - 3) := by rw [List.length_take, List.length_drop]
    have no : mfOk a t xs = false → mfA a t xs = 0 ∧ mfF a t xs = 0 ∧ mfT a t xs = 0 ∧ mfD a t xs = [] := mf_neg
    have yes : mfOk a t xs = true → mfA a t xs = a ∧ mfF a t xs = ((xs.getD 0 0).toNat : Int) ∧ mfT a t xs = ((xs.getD 1 0).toNat : Int) ∧ mfD a t xs = (xs.drop 3).take (xs.length - 5) := mf_pos
    have hK : mlK a ((xs.getD 0 0).toNat : Int) ((xs.getD 1 0).toNat : Int) ((xs.drop 3).take (xs.length - 5)).length = mlB (mfM a xs) := rfl
    have hcast : 2 ≤ xs.length → ((xs.length : Int) - 2) = ((xs.length - 2 : Nat) : Int) := fun h => by omega
    refine ⟨⟨rfl, by simpa [flatB] using rowsOf_flat (mfD a t xs), by simp [AV.ids, AV.ids.idsL]⟩, [.v (.int .i64 a), .v (.int .i64 t), .l 1 (rowsOfBytes xs)], rfl, fun w vs h => CvL.ok (.cons (.refl _) (.cons (.refl _) (.cons (.l _ _ _ (rowsOf_w xs)) .nil))) h, ?_⟩
    by_cases h5 : xs.length < 5
    · have f5 : ((xs.length : Int) < 5) = True := eq_true (by omega)
      have e : mfOk a t xs = false := by rw [mfOk, decide_eq_false (by omega)]; rfl
      obtain ⟨n1, n2, n3, n4⟩ := no e
      rw [e, n1, n2, n3, n4, rowsOf_nil]
      simp (maxSteps := 3000000) only [Try.f160, mfs, f5, g_mailOk, g_mailBytes, g_bytesCopied, g_l1In, g_sumBetween, g_numberAt, bytesOf_rows, rowsOf_len, rowsOf_take, rowsOf_drop, row_toI, row_nil, row_head, v0, v1, v2, wl, wm, wm2, wm3, wn, hd, Bool.not_true, Bool.not_false, ↓reduceIte, Bool.false_eq_true, tYs, evL, implies_true, oMin, oCopy, oBin, oUn, oLoadKid, oStoreTree, oField, oExtract, oNil, oSliceQ, oLoadRow, takeCells, TS.atRow, TS.ex, treeMode, AV.isOwn, TK.isSl, nilTk, nilsB, oLenQ, oLen, nodupB, treeOf, kidAbs, kidRows, TK.isCell, D.toL, oLoad, oStore, oMake, oIndexAddr, ↓reduceIte, reduceCtorEq, Nat.reduceBEq, Nat.reduceAdd, Nat.reduceMul, Nat.reduceLT, Nat.reduceSub, Nat.reduceLeDiff, Nat.reduceEqDiff, Nat.reduceBneDiff, Int.reduceToNat, decide_eq_true_eq, decide_eq_false_iff_not, beq_iff_eq, Int.toNat_natCast]
      exact ⟨_, [(0, none)], rfl, ⟨⟨⟨rfl, rfl, rfl⟩, trivial⟩, ⟨⟨by omega, rfl⟩, rfl, rfl, rfl, trivial⟩, by simp [rn, hpAt]⟩⟩
    · have f5 : ((xs.length : Int) < 5) = False := eq_false (by omega)
      have hcast := hcast (by omega)
      have wl2 : IntKind.i64.wrap ((xs.length - 2 : Nat) : Int) = ((xs.length - 2 : Nat) : Int) := wrap_id (by omega) (by omega)
      rcases ha : inZ a 0 65535 with _ | _
      · have e : mfOk a t xs = false := by rw [mfOk, ha]; simp
        obtain ⟨n1, n2, n3, n4⟩ := no e
        rw [e, n1, n2, n3, n4, rowsOf_nil]
        simp (maxSteps := 3000000) only [Try.f160, mfs, f5, ha, g_mailOk, g_mailBytes, g_bytesCopied, g_l1In, g_sumBetween, g_numberAt, bytesOf_rows, rowsOf_len, rowsOf_take, rowsOf_drop, row_toI, row_nil, row_head, v0, v1, v2, wl, wm, wm2, wm3, wn, hd, Bool.not_true, Bool.not_false, ↓reduceIte, Bool.false_eq_true, tYs, evL, implies_true, oMin, oCopy, oBin, oUn, oLoadKid, oStoreTree, oField, oExtract, oNil, oSliceQ, oLoadRow, takeCells, TS.atRow, TS.ex, treeMode, AV.isOwn, TK.isSl, nilTk, nilsB, oLenQ, oLen, nodupB, treeOf, kidAbs, kidRows, TK.isCell, D.toL, oLoad, oStore, oMake, oIndexAddr, ↓reduceIte, reduceCtorEq, Nat.reduceBEq, Nat.reduceAdd, Nat.reduceMul, Nat.reduceLT, Nat.reduceSub, Nat.reduceLeDiff, Nat.reduceEqDiff, Nat.reduceBneDiff, Int.reduceToNat, decide_eq_true_eq, decide_eq_false_iff_not, beq_iff_eq, Int.toNat_natCast]
        exact ⟨_, [(0, none)], rfl, ⟨⟨⟨rfl, rfl, rfl⟩, trivial⟩, ⟨⟨by omega, rfl⟩, rfl, rfl, rfl, trivial⟩, by simp [rn, hpAt]⟩⟩
      · have ha' := inZ_iff.1 ha
        rcases ht : inZ t 0 65535 with _ | _
        · have e : mfOk a t xs = false := by rw [mfOk, ht]; simp
          obtain ⟨n1, n2, n3, n4⟩ := no e
          rw [e, n1, n2, n3, n4, rowsOf_nil]
          simp (maxSteps := 3000000) only [Try.f160, mfs, f5, ha, ht, g_mailOk, g_mailBytes, g_bytesCopied, g_l1In, g_sumBetween, g_numberAt, bytesOf_rows, rowsOf_len, rowsOf_take, rowsOf_drop, row_toI, row_nil, row_head, v0, v1, v2, wl, wm, wm2, wm3, wn, hd, Bool.not_true, Bool.not_false, ↓reduceIte, Bool.false_eq_true, tYs, evL, implies_true, oMin, oCopy, oBin, oUn, oLoadKid, oStoreTree, oField, oExtract, oNil, oSliceQ, oLoadRow, takeCells, TS.atRow, TS.ex, treeMode, AV.isOwn, TK.isSl, nilTk, nilsB, oLenQ, oLen, nodupB, treeOf, kidAbs, kidRows, TK.isCell, D.toL, oLoad, oStore, oMake, oIndexAddr, ↓reduceIte, reduceCtorEq, Nat.reduceBEq, Nat.reduceAdd, Nat.reduceMul, Nat.reduceLT, Nat.reduceSub, Nat.reduceLeDiff, Nat.reduceEqDiff, Nat.reduceBneDiff, Int.reduceToNat, decide_eq_true_eq, decide_eq_false_iff_not, beq_iff_eq, Int.toNat_natCast]
          exact ⟨_, [(0, none)], rfl, ⟨⟨⟨rfl, rfl, rfl⟩, trivial⟩, ⟨⟨by omega, rfl⟩, rfl, rfl, rfl, trivial⟩, by simp [rn, hpAt]⟩⟩
        · have ht' := inZ_iff.1 ht
          rcases hB : mlB (mfM a xs) with _ | _
          · have e : mfOk a t xs = false := by rw [mfOk, hB]; simp
            obtain ⟨n1, n2, n3, n4⟩ := no e
            rw [e, n1, n2, n3, n4, rowsOf_nil]
            simp (maxSteps := 3000000) only [Try.f160, mfs, f5, ha, ht, hK, hB, g_mailOk, g_mailBytes, g_bytesCopied, g_l1In, g_sumBetween, g_numberAt, bytesOf_rows, rowsOf_len, rowsOf_take, rowsOf_drop, row_toI, row_nil, row_head, v0, v1, v2, wl, wm, wm2, wm3, wn, hd, Bool.not_true, Bool.not_false, ↓reduceIte, Bool.false_eq_true, tYs, evL, implies_true, oMin, oCopy, oBin, oUn, oLoadKid, oStoreTree, oField, oExtract, oNil, oSliceQ, oLoadRow, takeCells, TS.atRow, TS.ex, treeMode, AV.isOwn, TK.isSl, nilTk, nilsB, oLenQ, oLen, nodupB, treeOf, kidAbs, kidRows, TK.isCell, D.toL, oLoad, oStore, oMake, oIndexAddr, ↓reduceIte, reduceCtorEq, Nat.reduceBEq, Nat.reduceAdd, Nat.reduceMul, Nat.reduceLT, Nat.reduceSub, Nat.reduceLeDiff, Nat.reduceEqDiff, Nat.reduceBneDiff, Int.reduceToNat, decide_eq_true_eq, decide_eq_false_iff_not, beq_iff_eq, Int.toNat_natCast]
            repeat' first | refine And.intro ⟨by omega, by omega⟩ ?_ | refine And.intro ⟨by omega, ⟨by omega, by omega⟩, by omega⟩ ?_ | refine And.intro ⟨by rw [hdl]; omega, by rw [hdl]; omega, rowsOf_w _⟩ ?_ | refine And.intro ⟨_, rfl, by omega⟩ ?_ | refine And.intro ⟨⟨_, rfl, by rw [List.length_take]; omega⟩, by omega, by omega⟩ ?_ | refine And.intro (by kernel_rfl) ?_
            exact ⟨_, [(0, none)], rfl, ⟨⟨⟨rfl, rfl, rfl⟩, trivial⟩, ⟨⟨by omega, rfl⟩, rfl, rfl, rfl, trivial⟩, by simp [rn, hpAt]⟩⟩
          · by_cases hx : (xs.getD 2 0).toNat = ((xs.drop 3).take (xs.length - 5)).length
            · have hx2 : (((xs.getD 2 0).toNat : Int) != (((xs.drop 3).take (xs.length - 5)).length : Int)) = false := by simp only [bne_eq_false_iff_eq]; omega
              by_cases hs : numAt xs ((xs.length - 2 : Nat) : Int) 2 = mlS a t (xs.take (xs.length - 2))
              · have hs2 : (numAt xs ((xs.length - 2 : Nat) : Int) 2 != mlS a t (xs.take (xs.length - 2))) = false := by simp [hs]
                have e : mfOk a t xs = true := by rw [mfOk, ha, ht, hB, decide_eq_true (show 5 ≤ xs.length by omega), decide_eq_true (show (xs.getD 2 0).toNat = (mfM a xs).d.length from hx), decide_eq_true hs]; rfl
                obtain ⟨n1, n2, n3, n4⟩ := yes e
                rw [e, n1, n2, n3, n4]
                simp (maxSteps := 3000000) only [Try.f160, mfs, f5, ha, ht, hK, hB, hx2, hs2, hcast, wl2, Int.toNat_natCast, g_mailOk, g_mailBytes, g_bytesCopied, g_l1In, g_sumBetween, g_numberAt, bytesOf_rows, rowsOf_len, rowsOf_take, rowsOf_drop, row_toI, row_nil, row_head, v0, v1, v2, wl, wm, wm2, wm3, wn, hd, Bool.not_true, Bool.not_false, ↓reduceIte, Bool.false_eq_true, tYs, evL, implies_true, oMin, oCopy, oBin, oUn, oLoadKid, oStoreTree, oField, oExtract, oNil, oSliceQ, oLoadRow, takeCells, TS.atRow, TS.ex, treeMode, AV.isOwn, TK.isSl, nilTk, nilsB, oLenQ, oLen, nodupB, treeOf, kidAbs, kidRows, TK.isCell, D.toL, oLoad, oStore, oMake, oIndexAddr, ↓reduceIte, reduceCtorEq, Nat.reduceBEq, Nat.reduceAdd, Nat.reduceMul, Nat.reduceLT, Nat.reduceSub, Nat.reduceLeDiff, Nat.reduceEqDiff, Nat.reduceBneDiff, Int.reduceToNat, decide_eq_true_eq, decide_eq_false_iff_not, beq_iff_eq, Int.toNat_natCast]
                repeat' first | refine And.intro ⟨by omega, by omega⟩ ?_ | refine And.intro ⟨by omega, ⟨by omega, by omega⟩, by omega⟩ ?_ | refine And.intro ⟨by rw [hdl]; omega, by rw [hdl]; omega, rowsOf_w _⟩ ?_ | refine And.intro ⟨_, rfl, by omega⟩ ?_ | refine And.intro ⟨⟨_, rfl, by rw [List.length_take]; omega⟩, by omega, by omega⟩ ?_ | refine And.intro (by kernel_rfl) ?_
                exact ⟨_, [(0, some _)], rfl, ⟨⟨⟨rfl, rfl, rfl⟩, trivial⟩, ⟨.inl rfl, rfl, rfl, rfl, trivial⟩, by simp [rn, hpAt]⟩⟩
              · have hs2 : (numAt xs ((xs.length - 2 : Nat) : Int) 2 != mlS a t (xs.take (xs.length - 2))) = true := by simp [hs]
                have e : mfOk a t xs = false := by rw [mfOk, decide_eq_false hs, Bool.and_false]
                obtain ⟨n1, n2, n3, n4⟩ := no e
                rw [e, n1, n2, n3, n4, rowsOf_nil]
                simp (maxSteps := 3000000) only [Try.f160, mfs, f5, ha, ht, hK, hB, hx2, hs2, hcast, wl2, Int.toNat_natCast, g_mailOk, g_mailBytes, g_bytesCopied, g_l1In, g_sumBetween, g_numberAt, bytesOf_rows, rowsOf_len, rowsOf_take, rowsOf_drop, row_toI, row_nil, row_head, v0, v1, v2, wl, wm, wm2, wm3, wn, hd, Bool.not_true, Bool.not_false, ↓reduceIte, Bool.false_eq_true, tYs, evL, implies_true, oMin, oCopy, oBin, oUn, oLoadKid, oStoreTree, oField, oExtract, oNil, oSliceQ, oLoadRow, takeCells, TS.atRow, TS.ex, treeMode, AV.isOwn, TK.isSl, nilTk, nilsB, oLenQ, oLen, nodupB, treeOf, kidAbs, kidRows, TK.isCell, D.toL, oLoad, oStore, oMake, oIndexAddr, ↓reduceIte, reduceCtorEq, Nat.reduceBEq, Nat.reduceAdd, Nat.reduceMul, Nat.reduceLT, Nat.reduceSub, Nat.reduceLeDiff, Nat.reduceEqDiff, Nat.reduceBneDiff, Int.reduceToNat, decide_eq_true_eq, decide_eq_false_iff_not, beq_iff_eq, Int.toNat_natCast]
                repeat' first | refine And.intro ⟨by omega, by omega⟩ ?_ | refine And.intro ⟨by omega, ⟨by omega, by omega⟩, by omega⟩ ?_ | refine And.intro ⟨by rw [hdl]; omega, by rw [hdl]; omega, rowsOf_w _⟩ ?_ | refine And.intro ⟨_, rfl, by omega⟩ ?_ | refine And.intro ⟨⟨_, rfl, by rw [List.length_take]; omega⟩, by omega, by omega⟩ ?_ | refine And.intro (by kernel_rfl) ?_
                exact ⟨_, [(0, none)], rfl, ⟨⟨⟨rfl, rfl, rfl⟩, trivial⟩, ⟨⟨by omega, rfl⟩, rfl, rfl, rfl, trivial⟩, by simp [rn, hpAt]⟩⟩
            · have hx2 : (((xs.getD 2 0).toNat : Int) != (((xs.drop 3).take (xs.length - 5)).length : Int)) = true := by simp only [bne_iff_ne, ne_eq]; omega
              have e : mfOk a t xs = false := by rw [mfOk, decide_eq_false (show ¬ (xs.getD 2 0).toNat = (mfM a xs).d.length from hx), Bool.and_false, Bool.false_and]
              obtain ⟨n1, n2, n3, n4⟩ := no e
              rw [e, n1, n2, n3, n4, rowsOf_nil]
              simp (maxSteps := 3000000) only [Try.f160, mfs, f5, ha, ht, hK, hB, hx2, g_mailOk, g_mailBytes, g_bytesCopied, g_l1In, g_sumBetween, g_numberAt, bytesOf_rows, rowsOf_len, rowsOf_take, rowsOf_drop, row_toI, row_nil, row_head, v0, v1, v2, wl, wm, wm2, wm3, wn, hd, Bool.not_true, Bool.not_false, ↓reduceIte, Bool.false_eq_true, tYs, evL, implies_true, oMin, oCopy, oBin, oUn, oLoadKid, oStoreTree, oField, oExtract, oNil, oSliceQ, oLoadRow, takeCells, TS.atRow, TS.ex, treeMode, AV.isOwn, TK.isSl, nilTk, nilsB, oLenQ, oLen, nodupB, treeOf, kidAbs, kidRows, TK.isCell, D.toL, oLoad, oStore, oMake, oIndexAddr, ↓reduceIte, reduceCtorEq, Nat.reduceBEq, Nat.reduceAdd, Nat.reduceMul, Nat.reduceLT, Nat.reduceSub, Nat.reduceLeDiff, Nat.reduceEqDiff, Nat.reduceBneDiff, Int.reduceToNat, decide_eq_true_eq, decide_eq_false_iff_not, beq_iff_eq, Int.toNat_natCast]
              repeat' first | refine And.intro ⟨by omega, by omega⟩ ?_ | refine And.intro ⟨by omega, ⟨by omega, by omega⟩, by omega⟩ ?_ | refine And.intro ⟨by rw [hdl]; omega, by rw [hdl]; omega, rowsOf_w _⟩ ?_ | refine And.intro ⟨_, rfl, by omega⟩ ?_ | refine And.intro ⟨⟨_, rfl, by rw [List.length_take]; omega⟩, by omega, by omega⟩ ?_ | refine And.intro (by kernel_rfl) ?_
              exact ⟨_, [(0, none)], rfl, ⟨⟨⟨rfl, rfl, rfl⟩, trivial⟩, ⟨⟨by omega, rfl⟩, rfl, rfl, rfl, trivial⟩, by simp [rn, hpAt]⟩⟩
  · cases hg
end Go.Proofs.Ytegffkmakkccaaa
