import Derived.Test.YtdjnndicbndfmaaMb
import Derived.Test.YtdjnndicbndfmaaVf
import Derived.Test.YtdjnndicbndfmaaR7
set_option linter.unusedVariables false
set_option linter.unusedSimpArgs false
namespace Go.Proofs.Ytdjnndicbndfmaa
open Go.RowKit
set_option linter.unusedSimpArgs false
theorem litI (L : List Int) (k : Nat) (h : k < L.length) : (L.map fun x => [D.v (.int .i64 x)]).getD k [] = [D.v (.int .i64 (L.getD k 0))] := by
  simp [List.getD, h]
theorem allI (P : Int → Prop) (h0 : P 0) : ∀ (L : List Int) (k : Nat), (∀ x ∈ L, P x) → P (L.getD k 0)
  | [], k, _ => by simpa using h0
  | x :: L, 0, h => by simpa using h x (List.mem_cons_self ..)
  | x :: L, k + 1, h => by simpa using allI P h0 L k fun y hy => h y (List.mem_cons_of_mem _ hy)
def seqW (xs : List UInt8) (p : Int) : Int := [pickV xs p 9, 65535 - pickV xs (p + 1) 9, 32768 + pickV xs (p + 1 + 1) 5 - 2, pickV xs (p + 1 + 1 + 1) 256 * 256 + pickV xs (p + 1 + 1 + 1 + 1) 256].getD (pickV xs (p + 1 + 1 + 1 + 1 + 1) 4).toNat 0
theorem seqW_bd (xs : List UInt8) (p : Int) (h : p < 100000000000) : 0 ≤ seqW xs p ∧ seqW xs p ≤ 65535 := by
  have a1 := pickV_nonneg xs p 9 (by omega)
  have a2 := pickV_lt xs p 9 (by omega)
  have a3 := pickV_nonneg xs (p + 1) 9 (by omega)
  have a4 := pickV_lt xs (p + 1) 9 (by omega)
  have a5 := pickV_nonneg xs (p + 1 + 1) 5 (by omega)
  have a6 := pickV_lt xs (p + 1 + 1) 5 (by omega)
  have a7 := pickV_nonneg xs (p + 1 + 1 + 1) 256 (by omega)
  have a8 := pickV_lt xs (p + 1 + 1 + 1) 256 (by omega)
  have a9 := pickV_nonneg xs (p + 1 + 1 + 1 + 1) 256 (by omega)
  have a0 := pickV_lt xs (p + 1 + 1 + 1 + 1) 256 (by omega)
  refine allI (fun x => 0 ≤ x ∧ x ≤ 65535) (by omega) _ _ fun x hx => ?_
  simp only [List.mem_cons, List.not_mem_nil, or_false] at hx
  omega
def g_seq : OC := fun args B0 => match args, B0 with
  | [.ptr r o], [.var T [.l 1 rows, .v (.int .i64 p)]] => some (T = 39 ∧ r = 0 ∧ o = 0 ∧ (∃ xs, rows = rowsOfBytes xs ∧ xs.length ≤ 2000) ∧ 0 ≤ p ∧ p < 10000000000, .v (.int .i64 (seqW (bytesOfRows rows) p)), [.var T [.l 1 rows, .v (.int .i64 (p + 1 + 1 + 1 + 1 + 1 + 1))]], [])
  | _, _ => none
set_option maxHeartbeats 4000000 in
set_option maxRecDepth 100000 in
theorem seq_ok : OwnOk Try.prog 20 g_seq := by
  refine OwnOk.of_vcL (G := picks) picks_ok mixed Try.func20 (by kernel_rfl) rfl ?_
  intro args B0 cnd r B1 bs hg hc hlive
  unfold g_seq at hg
  split at hg
  · rename_i r o T rows p
    cases hg
    obtain ⟨rfl, rfl, rfl, ⟨xs, rfl, hl⟩, hp0, hp1⟩ := hc
    rw [bytesOf_rows]
    have a1 := pickV_nonneg xs p 9 (by omega)
    have a2 := pickV_lt xs p 9 (by omega)
    have a3 := pickV_nonneg xs (p + 1) 9 (by omega)
    have a4 := pickV_lt xs (p + 1) 9 (by omega)
    have a5 := pickV_nonneg xs (p + 1 + 1) 5 (by omega)
    have a6 := pickV_lt xs (p + 1 + 1) 5 (by omega)
    have a7 := pickV_nonneg xs (p + 1 + 1 + 1) 256 (by omega)
    have a8 := pickV_lt xs (p + 1 + 1 + 1) 256 (by omega)
    have a9 := pickV_nonneg xs (p + 1 + 1 + 1 + 1) 256 (by omega)
    have a0 := pickV_lt xs (p + 1 + 1 + 1 + 1) 256 (by omega)
    have k1 := pickV_nonneg xs (p + 1 + 1 + 1 + 1 + 1) 4 (by omega)
    have k2 := pickV_lt xs (p + 1 + 1 + 1 + 1 + 1) 4 (by omega)
    have w1 : IntKind.i64.wrap (65535 - pickV xs (p + 1) 9) = 65535 - pickV xs (p + 1) 9 := wrap_id (by omega) (by omega)
    have w2 : IntKind.i64.wrap (32768 + pickV xs (p + 1 + 1) 5) = 32768 + pickV xs (p + 1 + 1) 5 := wrap_id (by omega) (by omega)
    have w3 : IntKind.i64.wrap (32768 + pickV xs (p + 1 + 1) 5 - 2) = 32768 + pickV xs (p + 1 + 1) 5 - 2 := wrap_id (by omega) (by omega)
    have w4 : IntKind.i64.wrap (pickV xs (p + 1 + 1 + 1) 256 * 256) = pickV xs (p + 1 + 1 + 1) 256 * 256 := wrap_id (by omega) (by omega)
    have w5 : IntKind.i64.wrap (pickV xs (p + 1 + 1 + 1) 256 * 256 + pickV xs (p + 1 + 1 + 1 + 1) 256) = pickV xs (p + 1 + 1 + 1) 256 * 256 + pickV xs (p + 1 + 1 + 1 + 1) 256 := wrap_id (by omega) (by omega)
    have r1 := litI [pickV xs p 9, 65535 - pickV xs (p + 1) 9, 32768 + pickV xs (p + 1 + 1) 5 - 2, pickV xs (p + 1 + 1 + 1) 256 * 256 + pickV xs (p + 1 + 1 + 1 + 1) 256] (pickV xs (p + 1 + 1 + 1 + 1 + 1) 4).toNat (by simp only [List.length_cons, List.length_nil]; omega)
    simp only [List.map_cons, List.map_nil] at r1
    rw [← seqW] at r1
    have c4 : (pickV xs (p + 1 + 1 + 1 + 1 + 1) 4 < 4) = True := eq_true k2
    have c0 : (0 ≤ pickV xs (p + 1 + 1 + 1 + 1 + 1) 4) = True := eq_true k1
    refine ⟨⟨by simp [likeBs, likeB], rfl, fun b hb => by simp at hb; subst hb; exact ⟨_, _, rfl, rfl⟩, by simp [AV.ids, AV.ids.idsL]⟩, _, rfl, fun w Z s vs h => h, ?_⟩
    clear hlive
    have hx : (∃ ys, rowsOfBytes xs = rowsOfBytes ys ∧ ys.length ≤ 2000) = True := eq_true ⟨xs, rfl, hl⟩
    simp (maxSteps := 3000000) only [Try.f20, picks, g_pick, w1, w2, w3, w4, w5, r1, c4, c0, D.toI, bytesOf_rows, rowsOf_len, hx, doneL_ret, doneL_normal, tYs, evL, implies_true, oMin, oCopy, oBin, oUn, oLoadKid, oStoreTree, oField, oExtract, oNil, oSliceQ, oLoadRow, takeCells, TS.atRow, TS.ex, treeMode, AV.isOwn, TK.isSl, nilTk, nilsB, oLenQ, oLen, nodupB, treeOf, kidAbs, kidRows, TK.isCell, D.toL, oLoad, oStore, oMake, oIndexAddr, ↓reduceIte, reduceCtorEq, Nat.reduceBEq, Nat.reduceAdd, Nat.reduceMul, Nat.reduceLT, Nat.reduceSub, Nat.reduceLeDiff, Nat.reduceEqDiff, Nat.reduceBneDiff, Int.reduceToNat, decide_eq_true_eq, decide_eq_false_iff_not, beq_iff_eq, Int.toNat_natCast]
    clear w1 w2 w3 w4 w5 r1 c4 c0
    (repeat (refine And.intro ?_ ?_; focus (((repeat' apply And.intro) <;> first | exact rowsOf_w _ | omega | (simp only [List.length_append, rowsOf_len, List.length_cons, List.length_nil, marks_len, List.length_take, List.length_drop, List.length_set]; omega) | exact ⟨_, rfl⟩ | (refine ⟨_, rfl, ?_⟩; omega) | (refine ⟨_, rfl, ?_⟩; simp only [List.length_append, rowsOf_len, List.length_cons, List.length_nil, marks_len, List.length_take, List.length_drop, List.length_set]; omega) | kernel_rfl | (simp; done)); done)))
    exact ⟨_, rfl, rfl, rfl⟩
  · cases hg
def dsoV (xs : List UInt8) : Int := seqW xs 0 * (pickV xs (0 + 1 + 1 + 1 + 1 + 1 + 1) 7 - 3) + seqW xs (0 + 1 + 1 + 1 + 1 + 1 + 1 + 1)
def dslA (xs : List UInt8) : Int := seqW xs 0
def dslB (xs : List UInt8) : Int := if pickV xs (0 + 1 + 1 + 1 + 1 + 1 + 1) 2 = 0 then seqW xs 0 + pickV xs (0 + 1 + 1 + 1 + 1 + 1 + 1 + 1) 9 - 4 else seqW xs (0 + 1 + 1 + 1 + 1 + 1 + 1 + 1)
def dspN (xs : List UInt8) : Int := seqW xs 0 + pickV xs (0 + 1 + 1 + 1 + 1 + 1 + 1) 14 * 65536
def dspS (xs : List UInt8) : Int := seqW xs (0 + 1 + 1 + 1 + 1 + 1 + 1 + 1) - pickV xs (0 + 1 + 1 + 1 + 1 + 1 + 1 + 1 + 1 + 1 + 1 + 1 + 1 + 1) 20 / 19 * 70000
theorem dso_bd (xs : List UInt8) : -1000000 ≤ dsoV xs ∧ dsoV xs ≤ 1000000 := by
  have h1 := seqW_bd xs 0 (by omega)
  have h2 := seqW_bd xs (0 + 1 + 1 + 1 + 1 + 1 + 1 + 1) (by omega)
  have a1 := pickV_nonneg xs (0 + 1 + 1 + 1 + 1 + 1 + 1) 7 (by omega)
  have a2 := pickV_lt xs (0 + 1 + 1 + 1 + 1 + 1 + 1) 7 (by omega)
  unfold dsoV
  generalize seqW xs 0 = u at *
  generalize pickV xs (0 + 1 + 1 + 1 + 1 + 1 + 1) 7 = v at *
  have m1 : u * (v - 3) ≤ u * 3 := Int.mul_le_mul_of_nonneg_left (by omega) h1.1
  have m2 : u * (-3) ≤ u * (v - 3) := Int.mul_le_mul_of_nonneg_left (by omega) h1.1
  omega
theorem dsl_bd (xs : List UInt8) : (0 ≤ dslA xs ∧ dslA xs ≤ 65535) ∧ -4 ≤ dslB xs ∧ dslB xs ≤ 65540 := by
  have h1 := seqW_bd xs 0 (by omega)
  have h2 := seqW_bd xs (0 + 1 + 1 + 1 + 1 + 1 + 1 + 1) (by omega)
  have a1 := pickV_nonneg xs (0 + 1 + 1 + 1 + 1 + 1 + 1 + 1) 9 (by omega)
  have a2 := pickV_lt xs (0 + 1 + 1 + 1 + 1 + 1 + 1 + 1) 9 (by omega)
  unfold dslA dslB
  split <;> omega
theorem dsp_bd (xs : List UInt8) : (0 ≤ dspN xs ∧ dspN xs ≤ 1000000) ∧ -70000 ≤ dspS xs ∧ dspS xs ≤ 65535 := by
  have h1 := seqW_bd xs 0 (by omega)
  have h2 := seqW_bd xs (0 + 1 + 1 + 1 + 1 + 1 + 1 + 1) (by omega)
  have a1 := pickV_nonneg xs (0 + 1 + 1 + 1 + 1 + 1 + 1) 14 (by omega)
  have a2 := pickV_lt xs (0 + 1 + 1 + 1 + 1 + 1 + 1) 14 (by omega)
  have a3 := pickV_nonneg xs (0 + 1 + 1 + 1 + 1 + 1 + 1 + 1 + 1 + 1 + 1 + 1 + 1 + 1) 20 (by omega)
  have a4 := pickV_lt xs (0 + 1 + 1 + 1 + 1 + 1 + 1 + 1 + 1 + 1 + 1 + 1 + 1 + 1) 20 (by omega)
  unfold dspN dspS
  omega
def g_drawSo : PC := fun args => match args with
  | [.l _ rows] => some (∃ xs, rows = rowsOfBytes xs, .v (.int .i64 (dsoV ((bytesOfRows rows).take 2000))), [])
  | _ => none
def g_drawSl : PC := fun args => match args with
  | [.l _ rows] => some (∃ xs, rows = rowsOfBytes xs, .tup [.v (.int .i64 (dslA ((bytesOfRows rows).take 2000))), .v (.int .i64 (dslB ((bytesOfRows rows).take 2000)))], [])
  | _ => none
def g_drawSp : PC := fun args => match args with
  | [.l _ rows] => some (∃ xs, rows = rowsOfBytes xs, .tup [.v (.int .i64 (dspN ((bytesOfRows rows).take 2000))), .v (.int .i64 (dspS ((bytesOfRows rows).take 2000)))], [])
  | _ => none
def sqd : List (FuncId × Abs) := [(19, ownAbs g_open), (21, ownAbs g_pick), (20, ownAbs g_seq)]
theorem sqd_ok : ∀ p ∈ sqd, CallOk Try.prog p.1 p.2 := by
  intro p hp
  simp only [sqd, List.mem_cons, List.not_mem_nil, or_false] at hp
  rcases hp with rfl | rfl | rfl
  · exact open_ok.call
  · exact pick_ok.call
  · exact seq_ok.call
set_option maxHeartbeats 4000000 in
set_option maxRecDepth 100000 in
theorem drawSeqOf_ok : OwnOk Try.prog 9 (ocOf g_drawSo) := by
  refine OwnOk.of_vcD (G := sqd) sqd_ok mixed Try.func9 (by kernel_rfl) rfl ?_
  intro args cnd r bs hg hc
  unfold g_drawSo at hg
  split at hg
  · rename_i sz rows
    cases hg
    obtain ⟨xs, rfl⟩ := hc
    rw [bytesOf_rows]
    have hx : (∃ ys, rowsOfBytes (List.take 2000 xs) = rowsOfBytes ys ∧ ys.length ≤ 2000) = True := eq_true ⟨_, rfl, by rw [List.length_take]; omega⟩
    obtain ⟨ys, hys⟩ : ∃ ys, ys = List.take 2000 xs := ⟨_, rfl⟩
    rw [← hys] at hx ⊢
    have hb := dso_bd ys
    unfold dsoV at hb
    have h1 := seqW_bd ys 0 (by omega)
    have h2 := seqW_bd ys (0 + 1 + 1 + 1 + 1 + 1 + 1 + 1) (by omega)
    have a1 := pickV_nonneg ys (0 + 1 + 1 + 1 + 1 + 1 + 1) 7 (by omega)
    have a2 := pickV_lt ys (0 + 1 + 1 + 1 + 1 + 1 + 1) 7 (by omega)
    have w1 : IntKind.i64.wrap (pickV ys (0 + 1 + 1 + 1 + 1 + 1 + 1) 7 - 3) = pickV ys (0 + 1 + 1 + 1 + 1 + 1 + 1) 7 - 3 := wrap_id (by omega) (by omega)
    have w2 : IntKind.i64.wrap (seqW ys 0 * (pickV ys (0 + 1 + 1 + 1 + 1 + 1 + 1) 7 - 3)) = seqW ys 0 * (pickV ys (0 + 1 + 1 + 1 + 1 + 1 + 1) 7 - 3) := wrap_id (by omega) (by omega)
    have w3 : IntKind.i64.wrap (seqW ys 0 * (pickV ys (0 + 1 + 1 + 1 + 1 + 1 + 1) 7 - 3) + seqW ys (0 + 1 + 1 + 1 + 1 + 1 + 1 + 1)) = seqW ys 0 * (pickV ys (0 + 1 + 1 + 1 + 1 + 1 + 1) 7 - 3) + seqW ys (0 + 1 + 1 + 1 + 1 + 1 + 1 + 1) := wrap_id (by omega) (by omega)
    refine ⟨⟨rfl, by simp [AV.ids, AV.ids.idsL]⟩, [.l 1 (rowsOfBytes xs)], rfl, fun w Z s vs h => CvL.ok (.cons (.l _ _ _ (rowsOf_w xs)) .nil) h, ?_⟩
    simp (maxSteps := 3000000) only [Try.f9, sqd, g_open, g_pick, g_seq, bytesOf_rows, rowsOf_len, hx, ← hys, w1, w2, w3, tYs, evL, implies_true, oMin, oCopy, oBin, oUn, oLoadKid, oStoreTree, oField, oExtract, oNil, oSliceQ, oLoadRow, takeCells, TS.atRow, TS.ex, treeMode, AV.isOwn, TK.isSl, nilTk, nilsB, oLenQ, oLen, nodupB, treeOf, kidAbs, kidRows, TK.isCell, D.toL, oLoad, oStore, oMake, oIndexAddr, ↓reduceIte, reduceCtorEq, Nat.reduceBEq, Nat.reduceAdd, Nat.reduceMul, Nat.reduceLT, Nat.reduceSub, Nat.reduceLeDiff, Nat.reduceEqDiff, Nat.reduceBneDiff, Int.reduceToNat, decide_eq_true_eq, decide_eq_false_iff_not, beq_iff_eq, Int.toNat_natCast, doneD_ret, doneD_normal]
    clear w1 w2 w3
    (repeat (refine And.intro ?_ ?_; focus (((repeat' apply And.intro) <;> first | exact rowsOf_w _ | omega | (simp only [List.length_append, rowsOf_len, List.length_cons, List.length_nil, marks_len, List.length_take, List.length_drop, List.length_set]; omega) | exact ⟨_, rfl⟩ | (refine ⟨_, rfl, ?_⟩; omega) | (refine ⟨_, rfl, ?_⟩; simp only [List.length_append, rowsOf_len, List.length_cons, List.length_nil, marks_len, List.length_take, List.length_drop, List.length_set]; omega) | kernel_rfl | (simp; done)); done)))
    exact ⟨_, rfl, rfl⟩
  · cases hg
set_option maxHeartbeats 4000000 in
set_option maxRecDepth 100000 in
theorem drawSeqLess_ok : OwnOk Try.prog 13 (ocOf g_drawSl) := by
  refine OwnOk.of_vcD (G := sqd) sqd_ok mixed Try.func13 (by kernel_rfl) rfl ?_
  intro args cnd r bs hg hc
  unfold g_drawSl at hg
  split at hg
  · rename_i sz rows
    cases hg
    obtain ⟨xs, rfl⟩ := hc
    rw [bytesOf_rows]
    have hx : (∃ ys, rowsOfBytes (List.take 2000 xs) = rowsOfBytes ys ∧ ys.length ≤ 2000) = True := eq_true ⟨_, rfl, by rw [List.length_take]; omega⟩
    obtain ⟨ys, hys⟩ : ∃ ys, ys = List.take 2000 xs := ⟨_, rfl⟩
    rw [← hys] at hx ⊢
    have h1 := seqW_bd ys 0 (by omega)
    have h2 := seqW_bd ys (0 + 1 + 1 + 1 + 1 + 1 + 1 + 1) (by omega)
    have a1 := pickV_nonneg ys (0 + 1 + 1 + 1 + 1 + 1 + 1 + 1) 9 (by omega)
    have a2 := pickV_lt ys (0 + 1 + 1 + 1 + 1 + 1 + 1 + 1) 9 (by omega)
    have w1 : IntKind.i64.wrap (seqW ys 0 + pickV ys (0 + 1 + 1 + 1 + 1 + 1 + 1 + 1) 9) = seqW ys 0 + pickV ys (0 + 1 + 1 + 1 + 1 + 1 + 1 + 1) 9 := wrap_id (by omega) (by omega)
    have w2 : IntKind.i64.wrap (seqW ys 0 + pickV ys (0 + 1 + 1 + 1 + 1 + 1 + 1 + 1) 9 - 4) = seqW ys 0 + pickV ys (0 + 1 + 1 + 1 + 1 + 1 + 1 + 1) 9 - 4 := wrap_id (by omega) (by omega)
    refine ⟨⟨rfl, by simp [AV.ids, AV.ids.idsL]⟩, [.l 1 (rowsOfBytes xs)], rfl, fun w Z s vs h => CvL.ok (.cons (.l _ _ _ (rowsOf_w xs)) .nil) h, ?_⟩
    by_cases hp : pickV ys (0 + 1 + 1 + 1 + 1 + 1 + 1) 2 = 0
    · have c : (pickV ys (0 + 1 + 1 + 1 + 1 + 1 + 1) 2 = 0) = True := eq_true hp
      have e : dslB ys = seqW ys 0 + pickV ys (0 + 1 + 1 + 1 + 1 + 1 + 1 + 1) 9 - 4 := by rw [dslB, if_pos hp]
      rw [e, dslA]
      simp (maxSteps := 3000000) only [Try.f13, sqd, g_open, g_pick, g_seq, bytesOf_rows, rowsOf_len, hx, ← hys, c, w1, w2, tYs, evL, implies_true, oMin, oCopy, oBin, oUn, oLoadKid, oStoreTree, oField, oExtract, oNil, oSliceQ, oLoadRow, takeCells, TS.atRow, TS.ex, treeMode, AV.isOwn, TK.isSl, nilTk, nilsB, oLenQ, oLen, nodupB, treeOf, kidAbs, kidRows, TK.isCell, D.toL, oLoad, oStore, oMake, oIndexAddr, ↓reduceIte, reduceCtorEq, Nat.reduceBEq, Nat.reduceAdd, Nat.reduceMul, Nat.reduceLT, Nat.reduceSub, Nat.reduceLeDiff, Nat.reduceEqDiff, Nat.reduceBneDiff, Int.reduceToNat, decide_eq_true_eq, decide_eq_false_iff_not, beq_iff_eq, Int.toNat_natCast, doneD_ret, doneD_normal]
      (repeat (refine And.intro ?_ ?_; focus (((repeat' apply And.intro) <;> first | exact rowsOf_w _ | omega | (simp only [List.length_append, rowsOf_len, List.length_cons, List.length_nil, marks_len, List.length_take, List.length_drop, List.length_set]; omega) | exact ⟨_, rfl⟩ | (refine ⟨_, rfl, ?_⟩; omega) | (refine ⟨_, rfl, ?_⟩; simp only [List.length_append, rowsOf_len, List.length_cons, List.length_nil, marks_len, List.length_take, List.length_drop, List.length_set]; omega) | kernel_rfl | (simp; done)); done)))
      exact ⟨_, rfl, rfl⟩
    · have c : (pickV ys (0 + 1 + 1 + 1 + 1 + 1 + 1) 2 = 0) = False := eq_false hp
      have e : dslB ys = seqW ys (0 + 1 + 1 + 1 + 1 + 1 + 1 + 1) := by rw [dslB, if_neg hp]
      rw [e, dslA]
      simp (maxSteps := 3000000) only [Try.f13, sqd, g_open, g_pick, g_seq, bytesOf_rows, rowsOf_len, hx, ← hys, c, tYs, evL, implies_true, oMin, oCopy, oBin, oUn, oLoadKid, oStoreTree, oField, oExtract, oNil, oSliceQ, oLoadRow, takeCells, TS.atRow, TS.ex, treeMode, AV.isOwn, TK.isSl, nilTk, nilsB, oLenQ, oLen, nodupB, treeOf, kidAbs, kidRows, TK.isCell, D.toL, oLoad, oStore, oMake, oIndexAddr, ↓reduceIte, reduceCtorEq, Nat.reduceBEq, Nat.reduceAdd, Nat.reduceMul, Nat.reduceLT, Nat.reduceSub, Nat.reduceLeDiff, Nat.reduceEqDiff, Nat.reduceBneDiff, Int.reduceToNat, decide_eq_true_eq, decide_eq_false_iff_not, beq_iff_eq, Int.toNat_natCast, doneD_ret, doneD_normal]
      (repeat (refine And.intro ?_ ?_; focus (((repeat' apply And.intro) <;> first | exact rowsOf_w _ | omega | (simp only [List.length_append, rowsOf_len, List.length_cons, List.length_nil, marks_len, List.length_take, List.length_drop, List.length_set]; omega) | exact ⟨_, rfl⟩ | (refine ⟨_, rfl, ?_⟩; omega) | (refine ⟨_, rfl, ?_⟩; simp only [List.length_append, rowsOf_len, List.length_cons, List.length_nil, marks_len, List.length_take, List.length_drop, List.length_set]; omega) | kernel_rfl | (simp; done)); done)))
      exact ⟨_, rfl, rfl⟩
  · cases hg
set_option maxHeartbeats 4000000 in
set_option maxRecDepth 100000 in
theorem drawSeqPlace_ok : OwnOk Try.prog 16 (ocOf g_drawSp) := by
  refine OwnOk.of_vcD (G := sqd) sqd_ok mixed Try.func16 (by kernel_rfl) rfl ?_
  intro args cnd r bs hg hc
  unfold g_drawSp at hg
  split at hg
  · rename_i sz rows
    cases hg
    obtain ⟨xs, rfl⟩ := hc
    rw [bytesOf_rows]
    have hx : (∃ ys, rowsOfBytes (List.take 2000 xs) = rowsOfBytes ys ∧ ys.length ≤ 2000) = True := eq_true ⟨_, rfl, by rw [List.length_take]; omega⟩
    obtain ⟨ys, hys⟩ : ∃ ys, ys = List.take 2000 xs := ⟨_, rfl⟩
    rw [← hys] at hx ⊢
    have h1 := seqW_bd ys 0 (by omega)
    have h2 := seqW_bd ys (0 + 1 + 1 + 1 + 1 + 1 + 1 + 1) (by omega)
    have a1 := pickV_nonneg ys (0 + 1 + 1 + 1 + 1 + 1 + 1) 14 (by omega)
    have a2 := pickV_lt ys (0 + 1 + 1 + 1 + 1 + 1 + 1) 14 (by omega)
    have a3 := pickV_nonneg ys (0 + 1 + 1 + 1 + 1 + 1 + 1 + 1 + 1 + 1 + 1 + 1 + 1 + 1) 20 (by omega)
    have a4 := pickV_lt ys (0 + 1 + 1 + 1 + 1 + 1 + 1 + 1 + 1 + 1 + 1 + 1 + 1 + 1) 20 (by omega)
    have t1 : (pickV ys (0 + 1 + 1 + 1 + 1 + 1 + 1 + 1 + 1 + 1 + 1 + 1 + 1 + 1) 20).tdiv 19 = pickV ys (0 + 1 + 1 + 1 + 1 + 1 + 1 + 1 + 1 + 1 + 1 + 1 + 1 + 1) 20 / 19 := Int.tdiv_eq_ediv_of_nonneg a3
    have w1 : IntKind.i64.wrap (pickV ys (0 + 1 + 1 + 1 + 1 + 1 + 1) 14 * 65536) = pickV ys (0 + 1 + 1 + 1 + 1 + 1 + 1) 14 * 65536 := wrap_id (by omega) (by omega)
    have w2 : IntKind.i64.wrap (seqW ys 0 + pickV ys (0 + 1 + 1 + 1 + 1 + 1 + 1) 14 * 65536) = seqW ys 0 + pickV ys (0 + 1 + 1 + 1 + 1 + 1 + 1) 14 * 65536 := wrap_id (by omega) (by omega)
    have w3 : IntKind.i64.wrap (pickV ys (0 + 1 + 1 + 1 + 1 + 1 + 1 + 1 + 1 + 1 + 1 + 1 + 1 + 1) 20 / 19) = pickV ys (0 + 1 + 1 + 1 + 1 + 1 + 1 + 1 + 1 + 1 + 1 + 1 + 1 + 1) 20 / 19 := wrap_id (by omega) (by omega)
    have w4 : IntKind.i64.wrap (pickV ys (0 + 1 + 1 + 1 + 1 + 1 + 1 + 1 + 1 + 1 + 1 + 1 + 1 + 1) 20 / 19 * 70000) = pickV ys (0 + 1 + 1 + 1 + 1 + 1 + 1 + 1 + 1 + 1 + 1 + 1 + 1 + 1) 20 / 19 * 70000 := wrap_id (by omega) (by omega)
    have w5 : IntKind.i64.wrap (seqW ys (0 + 1 + 1 + 1 + 1 + 1 + 1 + 1) - pickV ys (0 + 1 + 1 + 1 + 1 + 1 + 1 + 1 + 1 + 1 + 1 + 1 + 1 + 1) 20 / 19 * 70000) = seqW ys (0 + 1 + 1 + 1 + 1 + 1 + 1 + 1) - pickV ys (0 + 1 + 1 + 1 + 1 + 1 + 1 + 1 + 1 + 1 + 1 + 1 + 1 + 1) 20 / 19 * 70000 := wrap_id (by omega) (by omega)
    refine ⟨⟨rfl, by simp [AV.ids, AV.ids.idsL]⟩, [.l 1 (rowsOfBytes xs)], rfl, fun w Z s vs h => CvL.ok (.cons (.l _ _ _ (rowsOf_w xs)) .nil) h, ?_⟩
    simp (maxSteps := 3000000) only [Try.f16, sqd, g_open, g_pick, g_seq, bytesOf_rows, rowsOf_len, hx, ← hys, t1, w1, w2, w3, w4, w5, tYs, evL, implies_true, oMin, oCopy, oBin, oUn, oLoadKid, oStoreTree, oField, oExtract, oNil, oSliceQ, oLoadRow, takeCells, TS.atRow, TS.ex, treeMode, AV.isOwn, TK.isSl, nilTk, nilsB, oLenQ, oLen, nodupB, treeOf, kidAbs, kidRows, TK.isCell, D.toL, oLoad, oStore, oMake, oIndexAddr, ↓reduceIte, reduceCtorEq, Nat.reduceBEq, Nat.reduceAdd, Nat.reduceMul, Nat.reduceLT, Nat.reduceSub, Nat.reduceLeDiff, Nat.reduceEqDiff, Nat.reduceBneDiff, Int.reduceToNat, decide_eq_true_eq, decide_eq_false_iff_not, beq_iff_eq, Int.toNat_natCast, doneD_ret, doneD_normal]
    clear t1 w1 w2 w3 w4 w5
    (repeat (refine And.intro ?_ ?_; focus (((repeat' apply And.intro) <;> first | exact rowsOf_w _ | omega | (simp only [List.length_append, rowsOf_len, List.length_cons, List.length_nil, marks_len, List.length_take, List.length_drop, List.length_set]; omega) | exact ⟨_, rfl⟩ | (refine ⟨_, rfl, ?_⟩; omega) | (refine ⟨_, rfl, ?_⟩; simp only [List.length_append, rowsOf_len, List.length_cons, List.length_nil, marks_len, List.length_take, List.length_drop, List.length_set]; omega) | kernel_rfl | (simp; done)); done)))
    exact ⟨_, rfl, rfl⟩
  · cases hg
def lsa : List (FuncId × Abs) := [(12, pureAbs g_alive), (10, pureAbs g_seqOf), (11, pureAbs g_seqOf), (9, ownAbs (ocOf g_drawSo))]
theorem lsa_ok : ∀ p ∈ lsa, CallOk Try.prog p.1 p.2 := by
  intro p hp
  simp only [lsa, List.mem_cons, List.not_mem_nil, or_false] at hp
  rcases hp with rfl | rfl | rfl | rfl
  · exact alive_ok.call
  · exact implSeqOf_ok.call
  · exact specSeqOf_ok.call
  · exact drawSeqOf_ok.call
set_option maxHeartbeats 8000000 in
set_option maxRecDepth 100000 in
theorem lawSeqOf_ok : PureOk Try.prog 3 g_true := by
  refine PureOk.of_vc (G := lsa) lsa_ok mixed Try.func3 (by kernel_rfl) rfl ?_
  intro args cnd r bs hg hc
  unfold g_true at hg
  split at hg
  · rename_i sz rows
    cases hg
    obtain ⟨xs, rfl⟩ := hc
    refine ⟨⟨rfl, by simp, by simp [AV.ids, AV.ids.idsL]⟩, [.l 1 (rowsOfBytes xs)], rfl, fun w vs h => CvL.ok (.cons (.l _ _ _ (rowsOf_w xs)) .nil) h, ?_⟩
    obtain ⟨ys, hys⟩ : ∃ ys, ys = List.take 2000 xs := ⟨_, rfl⟩
    by_cases h20 : (xs.length : Int) > 1048576
    · have e20 : ((xs.length : Int) > 1048576) = True := eq_true h20
      simp (maxSteps := 3000000) only [Try.f3, lsa, e20, g_alive, g_seqOf, ocOf, g_drawSo, bytesOf_rows, rowsOf_len, ↓reduceIte, Bool.false_eq_true, D.toI, D.toL, tYs, evL, implies_true, oMin, oCopy, oBin, oUn, oLoadKid, oStoreTree, oField, oExtract, oNil, oSliceQ, oLoadRow, takeCells, TS.atRow, TS.ex, treeMode, AV.isOwn, TK.isSl, nilTk, nilsB, oLenQ, oLen, nodupB, treeOf, kidAbs, kidRows, TK.isCell, D.toL, oLoad, oStore, oMake, oIndexAddr, ↓reduceIte, reduceCtorEq, Nat.reduceBEq, Nat.reduceAdd, Nat.reduceMul, Nat.reduceLT, Nat.reduceSub, Nat.reduceLeDiff, Nat.reduceEqDiff, Nat.reduceBneDiff, Int.reduceToNat, decide_eq_true_eq, decide_eq_false_iff_not, beq_iff_eq, Int.toNat_natCast, loopK_normal, loopK_exit, loopK_ret, bne_self_eq_false]
      exact ⟨_, [], rfl, ⟨⟨⟨rfl, rfl, rfl⟩, trivial⟩, trivial, by simp [rn, hpAt]⟩⟩
    have e20 : ((xs.length : Int) > 1048576) = False := eq_false h20
    have hb := dso_bd ys
    obtain ⟨x, hx⟩ : ∃ x, dsoV ys = x := ⟨_, rfl⟩
    rw [hx] at hb
    have i1 : I64 x := by unfold I64; omega
    have w1 : IntKind.i64.wrap (x + 65536) = x + 65536 := wrap_id (by omega) (by omega)
    have w2 : IntKind.i64.wrap (x - 65536) = x - 65536 := wrap_id (by omega) (by omega)
    have i2 : I64 (x + 65536) := by unfold I64; omega
    have i3 : I64 (x - 65536) := by unfold I64; omega
    obtain ⟨⟨b1, b2⟩, e1, e2, e3⟩ := sq_round x
    have i4 : I64 (sqV x) := by unfold I64; omega
    have c1 : (sqV x ≥ 0) = True := eq_true b1
    have c2 : (sqV x < 65536) = True := eq_true b2
    simp (maxSteps := 3000000) only [Try.f3, lsa, e20, ← hys, hx, w1, w2, e1, e2, e3, c1, c2, beq_self_eq_true, g_alive, g_seqOf, ocOf, g_drawSo, bytesOf_rows, rowsOf_len, ↓reduceIte, Bool.false_eq_true, D.toI, D.toL, tYs, evL, implies_true, oMin, oCopy, oBin, oUn, oLoadKid, oStoreTree, oField, oExtract, oNil, oSliceQ, oLoadRow, takeCells, TS.atRow, TS.ex, treeMode, AV.isOwn, TK.isSl, nilTk, nilsB, oLenQ, oLen, nodupB, treeOf, kidAbs, kidRows, TK.isCell, D.toL, oLoad, oStore, oMake, oIndexAddr, ↓reduceIte, reduceCtorEq, Nat.reduceBEq, Nat.reduceAdd, Nat.reduceMul, Nat.reduceLT, Nat.reduceSub, Nat.reduceLeDiff, Nat.reduceEqDiff, Nat.reduceBneDiff, Int.reduceToNat, decide_eq_true_eq, decide_eq_false_iff_not, beq_iff_eq, Int.toNat_natCast, loopK_normal, loopK_exit, loopK_ret, bne_self_eq_false]
    refine ⟨⟨xs, rfl⟩, i1, i1, i4, i2, i3, ?_⟩
    exact ⟨_, [], rfl, ⟨⟨⟨rfl, rfl, rfl⟩, trivial⟩, trivial, by simp [rn, hpAt]⟩⟩
  · cases hg
theorem walk_SeqOf (A : Option Addr) (n c : Nat) (xs : List UInt8) (w : World) (h : Rd w w.heap.size A n (bv xs)) (hc : n ≤ c) :
    Calls Try.prog 3 #[.slice A n c] w fun e w' => e = .returned (.bool true) ∧ Below w.heap.size w w' :=
  lawSeqOf_ok.walk (vs := [_]) (arel_cons (.l _ _ _ (rep_of_rd h hc)) arel_nil) rfl ⟨xs, rfl⟩
def lsb : List (FuncId × Abs) := [(10, pureAbs g_seqOf), (14, pureAbs g_seqLess), (15, pureAbs g_seqLess), (13, ownAbs (ocOf g_drawSl))]
theorem lsb_ok : ∀ p ∈ lsb, CallOk Try.prog p.1 p.2 := by
  intro p hp
  simp only [lsb, List.mem_cons, List.not_mem_nil, or_false] at hp
  rcases hp with rfl | rfl | rfl | rfl
  · exact implSeqOf_ok.call
  · exact implSeqLess_ok.call
  · exact specSeqLess_ok.call
  · exact drawSeqLess_ok.call
set_option maxHeartbeats 8000000 in
set_option maxRecDepth 100000 in
theorem lawSeqLess_ok : PureOk Try.prog 4 g_true := by
  refine PureOk.of_vc (G := lsb) lsb_ok mixed Try.func4 (by kernel_rfl) rfl ?_
  intro args cnd r bs hg hc
  unfold g_true at hg
  split at hg
  · rename_i sz rows
    cases hg
    obtain ⟨xs, rfl⟩ := hc
    refine ⟨⟨rfl, by simp, by simp [AV.ids, AV.ids.idsL]⟩, [.l 1 (rowsOfBytes xs)], rfl, fun w vs h => CvL.ok (.cons (.l _ _ _ (rowsOf_w xs)) .nil) h, ?_⟩
    obtain ⟨ys, hys⟩ : ∃ ys, ys = List.take 2000 xs := ⟨_, rfl⟩
    by_cases h20 : (xs.length : Int) > 1048576
    · have e20 : ((xs.length : Int) > 1048576) = True := eq_true h20
      simp (maxSteps := 3000000) only [Try.f4, lsb, e20, g_seqOf, g_seqLess, ocOf, g_drawSl, bytesOf_rows, rowsOf_len, ↓reduceIte, Bool.false_eq_true, D.toI, D.toL, tYs, evL, implies_true, oMin, oCopy, oBin, oUn, oLoadKid, oStoreTree, oField, oExtract, oNil, oSliceQ, oLoadRow, takeCells, TS.atRow, TS.ex, treeMode, AV.isOwn, TK.isSl, nilTk, nilsB, oLenQ, oLen, nodupB, treeOf, kidAbs, kidRows, TK.isCell, D.toL, oLoad, oStore, oMake, oIndexAddr, ↓reduceIte, reduceCtorEq, Nat.reduceBEq, Nat.reduceAdd, Nat.reduceMul, Nat.reduceLT, Nat.reduceSub, Nat.reduceLeDiff, Nat.reduceEqDiff, Nat.reduceBneDiff, Int.reduceToNat, decide_eq_true_eq, decide_eq_false_iff_not, beq_iff_eq, Int.toNat_natCast, loopK_normal, loopK_exit, loopK_ret, bne_self_eq_false]
      exact ⟨_, [], rfl, ⟨⟨⟨rfl, rfl, rfl⟩, trivial⟩, trivial, by simp [rn, hpAt]⟩⟩
    have e20 : ((xs.length : Int) > 1048576) = False := eq_false h20
    have hb := dsl_bd ys
    obtain ⟨a, ha⟩ : ∃ a, dslA ys = a := ⟨_, rfl⟩
    obtain ⟨b, hb'⟩ : ∃ b, dslB ys = b := ⟨_, rfl⟩
    rw [ha, hb'] at hb
    have ia : I64 a := by unfold I64; omega
    have ib : I64 b := by unfold I64; omega
    have w1 : IntKind.i64.wrap (a + 40000) = a + 40000 := wrap_id (by omega) (by omega)
    have w2 : IntKind.i64.wrap (b + 40000) = b + 40000 := wrap_id (by omega) (by omega)
    have ic : I64 (a + 40000) := by unfold I64; omega
    have id' : I64 (b + 40000) := by unfold I64; omega
    have i0 : I64 0 := by unfold I64; omega
    have i1 : I64 1 := by unfold I64; omega
    have s1 := sqV_bd a
    have s2 := sqV_bd b
    have w3 : IntKind.i64.wrap (sqV b - sqV a) = sqV b - sqV a := wrap_id (by omega) (by omega)
    have ie : I64 (sqV b - sqV a) := by unfold I64; omega
    obtain ⟨e1, e2, e3, e4⟩ := sq_less a b
    obtain ⟨d, hd⟩ : ∃ d, sqV (sqV b - sqV a) = d := ⟨_, rfl⟩
    rw [hd] at e2
    rcases hl : sqL a b with _ | _ <;> rcases hm : sqL b a with _ | _
    · rw [hl, hm] at e2
      have hz : d = 0 ∨ d = 32768 := by
        rcases Decidable.em (d = 0) with h | h
        · exact Or.inl h
        · rcases Decidable.em (d = 32768) with h' | h'
          · exact Or.inr h'
          · exfalso; simp [h, h'] at e2
      rcases hz with rfl | rfl
      · simp (maxSteps := 3000000) only [Try.f4, lsb, e20, ← hys, ha, hb', w1, w2, w3, hd, hl, hm, e3, e4, g_seqOf, g_seqLess, ocOf, g_drawSl, bytesOf_rows, rowsOf_len, ↓reduceIte, Bool.false_eq_true, D.toI, D.toL, tYs, evL, implies_true, oMin, oCopy, oBin, oUn, oLoadKid, oStoreTree, oField, oExtract, oNil, oSliceQ, oLoadRow, takeCells, TS.atRow, TS.ex, treeMode, AV.isOwn, TK.isSl, nilTk, nilsB, oLenQ, oLen, nodupB, treeOf, kidAbs, kidRows, TK.isCell, D.toL, oLoad, oStore, oMake, oIndexAddr, ↓reduceIte, reduceCtorEq, Nat.reduceBEq, Nat.reduceAdd, Nat.reduceMul, Nat.reduceLT, Nat.reduceSub, Nat.reduceLeDiff, Nat.reduceEqDiff, Nat.reduceBneDiff, Int.reduceToNat, decide_eq_true_eq, decide_eq_false_iff_not, beq_iff_eq, Int.toNat_natCast, loopK_normal, loopK_exit, loopK_ret, bne_self_eq_false]
        (repeat' (first | refine And.intro ⟨xs, rfl⟩ ?_ | refine And.intro ⟨by assumption, by assumption⟩ ?_ | refine And.intro (by assumption) ?_)); exact ⟨_, [], rfl, ⟨⟨⟨rfl, rfl, rfl⟩, trivial⟩, trivial, by simp [rn, hpAt]⟩⟩
      · simp (maxSteps := 3000000) only [Try.f4, lsb, e20, ← hys, ha, hb', w1, w2, w3, hd, hl, hm, e3, e4, g_seqOf, g_seqLess, ocOf, g_drawSl, bytesOf_rows, rowsOf_len, ↓reduceIte, Bool.false_eq_true, D.toI, D.toL, tYs, evL, implies_true, oMin, oCopy, oBin, oUn, oLoadKid, oStoreTree, oField, oExtract, oNil, oSliceQ, oLoadRow, takeCells, TS.atRow, TS.ex, treeMode, AV.isOwn, TK.isSl, nilTk, nilsB, oLenQ, oLen, nodupB, treeOf, kidAbs, kidRows, TK.isCell, D.toL, oLoad, oStore, oMake, oIndexAddr, ↓reduceIte, reduceCtorEq, Nat.reduceBEq, Nat.reduceAdd, Nat.reduceMul, Nat.reduceLT, Nat.reduceSub, Nat.reduceLeDiff, Nat.reduceEqDiff, Nat.reduceBneDiff, Int.reduceToNat, decide_eq_true_eq, decide_eq_false_iff_not, beq_iff_eq, Int.toNat_natCast, loopK_normal, loopK_exit, loopK_ret, bne_self_eq_false]
        (repeat' (first | refine And.intro ⟨xs, rfl⟩ ?_ | refine And.intro ⟨by assumption, by assumption⟩ ?_ | refine And.intro (by assumption) ?_)); exact ⟨_, [], rfl, ⟨⟨⟨rfl, rfl, rfl⟩, trivial⟩, trivial, by simp [rn, hpAt]⟩⟩
    · have hz : d ≠ 0 ∧ d ≠ 32768 := by rw [hl, hm] at e2; simpa [and_comm] using e2.symm
      have z1 : (d = 0) = False := eq_false hz.1
      have z2 : (d = 32768) = False := eq_false hz.2
      have z3 : (d != 0) = true := by simp [hz.1]
      have z4 : (d != 32768) = true := by simp [hz.2]
      simp (maxSteps := 3000000) only [Try.f4, lsb, e20, ← hys, ha, hb', w1, w2, w3, hd, hl, hm, e3, e4, z1, z2, z3, z4, g_seqOf, g_seqLess, ocOf, g_drawSl, bytesOf_rows, rowsOf_len, ↓reduceIte, Bool.false_eq_true, D.toI, D.toL, tYs, evL, implies_true, oMin, oCopy, oBin, oUn, oLoadKid, oStoreTree, oField, oExtract, oNil, oSliceQ, oLoadRow, takeCells, TS.atRow, TS.ex, treeMode, AV.isOwn, TK.isSl, nilTk, nilsB, oLenQ, oLen, nodupB, treeOf, kidAbs, kidRows, TK.isCell, D.toL, oLoad, oStore, oMake, oIndexAddr, ↓reduceIte, reduceCtorEq, Nat.reduceBEq, Nat.reduceAdd, Nat.reduceMul, Nat.reduceLT, Nat.reduceSub, Nat.reduceLeDiff, Nat.reduceEqDiff, Nat.reduceBneDiff, Int.reduceToNat, decide_eq_true_eq, decide_eq_false_iff_not, beq_iff_eq, Int.toNat_natCast, loopK_normal, loopK_exit, loopK_ret, bne_self_eq_false]
      (repeat' (first | refine And.intro ⟨xs, rfl⟩ ?_ | refine And.intro ⟨by assumption, by assumption⟩ ?_ | refine And.intro (by assumption) ?_)); exact ⟨_, [], rfl, ⟨⟨⟨rfl, rfl, rfl⟩, trivial⟩, trivial, by simp [rn, hpAt]⟩⟩
    · have hz : d ≠ 0 ∧ d ≠ 32768 := by rw [hl, hm] at e2; simpa [and_comm] using e2.symm
      have z1 : (d = 0) = False := eq_false hz.1
      have z2 : (d = 32768) = False := eq_false hz.2
      have z3 : (d != 0) = true := by simp [hz.1]
      have z4 : (d != 32768) = true := by simp [hz.2]
      simp (maxSteps := 3000000) only [Try.f4, lsb, e20, ← hys, ha, hb', w1, w2, w3, hd, hl, hm, e3, e4, z1, z2, z3, z4, g_seqOf, g_seqLess, ocOf, g_drawSl, bytesOf_rows, rowsOf_len, ↓reduceIte, Bool.false_eq_true, D.toI, D.toL, tYs, evL, implies_true, oMin, oCopy, oBin, oUn, oLoadKid, oStoreTree, oField, oExtract, oNil, oSliceQ, oLoadRow, takeCells, TS.atRow, TS.ex, treeMode, AV.isOwn, TK.isSl, nilTk, nilsB, oLenQ, oLen, nodupB, treeOf, kidAbs, kidRows, TK.isCell, D.toL, oLoad, oStore, oMake, oIndexAddr, ↓reduceIte, reduceCtorEq, Nat.reduceBEq, Nat.reduceAdd, Nat.reduceMul, Nat.reduceLT, Nat.reduceSub, Nat.reduceLeDiff, Nat.reduceEqDiff, Nat.reduceBneDiff, Int.reduceToNat, decide_eq_true_eq, decide_eq_false_iff_not, beq_iff_eq, Int.toNat_natCast, loopK_normal, loopK_exit, loopK_ret, bne_self_eq_false]
      (repeat' (first | refine And.intro ⟨xs, rfl⟩ ?_ | refine And.intro ⟨by assumption, by assumption⟩ ?_ | refine And.intro (by assumption) ?_)); exact ⟨_, [], rfl, ⟨⟨⟨rfl, rfl, rfl⟩, trivial⟩, trivial, by simp [rn, hpAt]⟩⟩
    · rw [hl, hm] at e1
      exact absurd e1 (by decide)
  · cases hg
theorem walk_SeqLess (A : Option Addr) (n c : Nat) (xs : List UInt8) (w : World) (h : Rd w w.heap.size A n (bv xs)) (hc : n ≤ c) :
    Calls Try.prog 4 #[.slice A n c] w fun e w' => e = .returned (.bool true) ∧ Below w.heap.size w w' :=
  lawSeqLess_ok.walk (vs := [_]) (arel_cons (.l _ _ _ (rep_of_rd h hc)) arel_nil) rfl ⟨xs, rfl⟩
def lsc : List (FuncId × Abs) := [(12, pureAbs g_alive), (10, pureAbs g_seqOf), (17, pureAbs g_seqPlace), (18, pureAbs g_seqPlace), (16, ownAbs (ocOf g_drawSp))]
theorem lsc_ok : ∀ p ∈ lsc, CallOk Try.prog p.1 p.2 := by
  intro p hp
  simp only [lsc, List.mem_cons, List.not_mem_nil, or_false] at hp
  rcases hp with rfl | rfl | rfl | rfl | rfl
  · exact alive_ok.call
  · exact implSeqOf_ok.call
  · exact implSeqPlace_ok.call
  · exact specSeqPlace_ok.call
  · exact drawSeqPlace_ok.call
set_option maxHeartbeats 8000000 in
set_option maxRecDepth 100000 in
theorem lawSeqPlace_ok : PureOk Try.prog 5 g_true := by
  refine PureOk.of_vc (G := lsc) lsc_ok mixed Try.func5 (by kernel_rfl) rfl ?_
  intro args cnd r bs hg hc
  unfold g_true at hg
  split at hg
  · rename_i sz rows
    cases hg
    obtain ⟨xs, rfl⟩ := hc
    refine ⟨⟨rfl, by simp, by simp [AV.ids, AV.ids.idsL]⟩, [.l 1 (rowsOfBytes xs)], rfl, fun w vs h => CvL.ok (.cons (.l _ _ _ (rowsOf_w xs)) .nil) h, ?_⟩
    obtain ⟨ys, hys⟩ : ∃ ys, ys = List.take 2000 xs := ⟨_, rfl⟩
    by_cases h20 : (xs.length : Int) > 1048576
    · have e20 : ((xs.length : Int) > 1048576) = True := eq_true h20
      simp (maxSteps := 3000000) only [Try.f5, lsc, e20, g_alive, g_seqOf, g_seqPlace, ocOf, g_drawSp, bytesOf_rows, rowsOf_len, ↓reduceIte, Bool.false_eq_true, D.toI, D.toL, tYs, evL, implies_true, oMin, oCopy, oBin, oUn, oLoadKid, oStoreTree, oField, oExtract, oNil, oSliceQ, oLoadRow, takeCells, TS.atRow, TS.ex, treeMode, AV.isOwn, TK.isSl, nilTk, nilsB, oLenQ, oLen, nodupB, treeOf, kidAbs, kidRows, TK.isCell, D.toL, oLoad, oStore, oMake, oIndexAddr, ↓reduceIte, reduceCtorEq, Nat.reduceBEq, Nat.reduceAdd, Nat.reduceMul, Nat.reduceLT, Nat.reduceSub, Nat.reduceLeDiff, Nat.reduceEqDiff, Nat.reduceBneDiff, Int.reduceToNat, decide_eq_true_eq, decide_eq_false_iff_not, beq_iff_eq, Int.toNat_natCast, loopK_normal, loopK_exit, loopK_ret, bne_self_eq_false]
      exact ⟨_, [], rfl, ⟨⟨⟨rfl, rfl, rfl⟩, trivial⟩, trivial, by simp [rn, hpAt]⟩⟩
    have e20 : ((xs.length : Int) > 1048576) = False := eq_false h20
    have hb := dsp_bd ys
    obtain ⟨a, ha⟩ : ∃ a, dspN ys = a := ⟨_, rfl⟩
    obtain ⟨b, hb'⟩ : ∃ b, dspS ys = b := ⟨_, rfl⟩
    rw [ha, hb'] at hb
    have ia : I64 a := by unfold I64; omega
    have ib : I64 b := by unfold I64; omega
    have c0 : (a > 1000000) = False := eq_false (by omega)
    have na : inZ a 0 1000000 = true := by rw [inZ, decide_eq_true_eq]; omega
    by_cases h1 : b < 0
    · have c1 : (b < 0) = True := eq_true h1
      have e1 : sqP a b = a := sq_no (by rw [na, show inZ b 0 65535 = false by rw [inZ, decide_eq_false_iff_not]; omega]; rfl)
      simp (maxSteps := 3000000) only [Try.f5, lsc, e20, ← hys, ha, hb', c0, c1, e1, beq_self_eq_true, g_alive, g_seqOf, g_seqPlace, ocOf, g_drawSp, bytesOf_rows, rowsOf_len, ↓reduceIte, Bool.false_eq_true, D.toI, D.toL, tYs, evL, implies_true, oMin, oCopy, oBin, oUn, oLoadKid, oStoreTree, oField, oExtract, oNil, oSliceQ, oLoadRow, takeCells, TS.atRow, TS.ex, treeMode, AV.isOwn, TK.isSl, nilTk, nilsB, oLenQ, oLen, nodupB, treeOf, kidAbs, kidRows, TK.isCell, D.toL, oLoad, oStore, oMake, oIndexAddr, ↓reduceIte, reduceCtorEq, Nat.reduceBEq, Nat.reduceAdd, Nat.reduceMul, Nat.reduceLT, Nat.reduceSub, Nat.reduceLeDiff, Nat.reduceEqDiff, Nat.reduceBneDiff, Int.reduceToNat, decide_eq_true_eq, decide_eq_false_iff_not, beq_iff_eq, Int.toNat_natCast, loopK_normal, loopK_exit, loopK_ret, bne_self_eq_false]
      refine ⟨⟨xs, rfl⟩, ⟨ia, ib⟩, ⟨ia, ib⟩, ?_⟩
      exact ⟨_, [], rfl, ⟨⟨⟨rfl, rfl, rfl⟩, trivial⟩, trivial, by simp [rn, hpAt]⟩⟩
    have c1 : (b < 0) = False := eq_false h1
    by_cases h2 : b ≥ 65536
    · have c2 : (b ≥ 65536) = True := eq_true h2
      have e1 : sqP a b = a := sq_no (by rw [na, show inZ b 0 65535 = false by rw [inZ, decide_eq_false_iff_not]; omega]; rfl)
      simp (maxSteps := 3000000) only [Try.f5, lsc, e20, ← hys, ha, hb', c0, c1, c2, e1, beq_self_eq_true, g_alive, g_seqOf, g_seqPlace, ocOf, g_drawSp, bytesOf_rows, rowsOf_len, ↓reduceIte, Bool.false_eq_true, D.toI, D.toL, tYs, evL, implies_true, oMin, oCopy, oBin, oUn, oLoadKid, oStoreTree, oField, oExtract, oNil, oSliceQ, oLoadRow, takeCells, TS.atRow, TS.ex, treeMode, AV.isOwn, TK.isSl, nilTk, nilsB, oLenQ, oLen, nodupB, treeOf, kidAbs, kidRows, TK.isCell, D.toL, oLoad, oStore, oMake, oIndexAddr, ↓reduceIte, reduceCtorEq, Nat.reduceBEq, Nat.reduceAdd, Nat.reduceMul, Nat.reduceLT, Nat.reduceSub, Nat.reduceLeDiff, Nat.reduceEqDiff, Nat.reduceBneDiff, Int.reduceToNat, decide_eq_true_eq, decide_eq_false_iff_not, beq_iff_eq, Int.toNat_natCast, loopK_normal, loopK_exit, loopK_ret, bne_self_eq_false]
      refine ⟨⟨xs, rfl⟩, ⟨ia, ib⟩, ⟨ia, ib⟩, ?_⟩
      exact ⟨_, [], rfl, ⟨⟨⟨rfl, rfl, rfl⟩, trivial⟩, trivial, by simp [rn, hpAt]⟩⟩
    have c2 : (b ≥ 65536) = False := eq_false h2
    have hin : (inZ a 0 1000000 && inZ b 0 65535) = true := by rw [na, show inZ b 0 65535 = true by rw [inZ, decide_eq_true_eq]; omega]; rfl
    obtain ⟨p1, p2, p3⟩ := sq_place hin
    obtain ⟨u, hu⟩ : ∃ u, sqP a b = u := ⟨_, rfl⟩
    rw [hu] at p1 p2 p3
    have iu : I64 u := by unfold I64; omega
    simp (maxSteps := 3000000) only [Try.f5, lsc, e20, ← hys, ha, hb', c0, c1, c2, hu, g_alive, g_seqOf, g_seqPlace, ocOf, g_drawSp, bytesOf_rows, rowsOf_len, ↓reduceIte, Bool.false_eq_true, D.toI, D.toL, tYs, evL, implies_true, oMin, oCopy, oBin, oUn, oLoadKid, oStoreTree, oField, oExtract, oNil, oSliceQ, oLoadRow, takeCells, TS.atRow, TS.ex, treeMode, AV.isOwn, TK.isSl, nilTk, nilsB, oLenQ, oLen, nodupB, treeOf, kidAbs, kidRows, TK.isCell, D.toL, oLoad, oStore, oMake, oIndexAddr, ↓reduceIte, reduceCtorEq, Nat.reduceBEq, Nat.reduceAdd, Nat.reduceMul, Nat.reduceLT, Nat.reduceSub, Nat.reduceLeDiff, Nat.reduceEqDiff, Nat.reduceBneDiff, Int.reduceToNat, decide_eq_true_eq, decide_eq_false_iff_not, beq_iff_eq, Int.toNat_natCast, loopK_normal, loopK_exit, loopK_ret, bne_self_eq_false]
    refine ⟨⟨xs, rfl⟩, ⟨ia, ib⟩, ⟨ia, ib⟩, ?_⟩
    refine e_loop _ _ _ _ _ _ _ _ (fun k : Nat => [.any, .any, .any, .v (.int .i64 a), .v (.int .i64 b), .v (.int .i64 u)] ++ List.replicate 34 .any ++ [.own 0, .v (.int .i64 6), .v (.int .i64 (k : Int))] ++ List.replicate (Try.f5.ntmps - 43) .any) (fun k => [(0, .sl 3 1 (([-32767, -5, 0, 1, 300, 32767] : List Int).map fun x => [D.v (.int .i64 x)]))]) (fun k => k ≤ 6) (fun k => 6 - k) 1 (fun k => by simp) ?_ fun k hk' => ?_
    · exact ⟨0, [(0, some _)], by omega, ⟨⟨trivial, trivial, trivial, ⟨rfl, rfl, rfl⟩, ⟨rfl, rfl, rfl⟩, ⟨rfl, rfl, rfl⟩, trivial, trivial, trivial, trivial, trivial, trivial, trivial, trivial, trivial, trivial, trivial, trivial, trivial, trivial, trivial, trivial, trivial, trivial, trivial, trivial, trivial, trivial, trivial, trivial, trivial, trivial, trivial, trivial, trivial, trivial, trivial, trivial, trivial, trivial, ⟨rfl, rfl, rfl⟩, ⟨rfl, rfl, rfl⟩, ⟨rfl, rfl, rfl⟩, fitT_rep _ _ rfl⟩, ⟨.inl rfl, rfl, rfl, rfl, trivial⟩, by simp [rn, hpAt]⟩, by simp [keepIds]⟩
    have w2 : IntKind.i64.wrap ((k : Int) + 1) = ((k + 1 : Nat) : Int) := wrap_id (by omega) (by omega)
    by_cases hk : k < 6
    · have hlt : ((k : Int) < 6) = True := eq_true (by omega)
      have h0 : (0 ≤ (k : Int)) = True := eq_true (by omega)
      have hg := litI [-32767, -5, 0, 1, 300, 32767] k (by simpa using hk)
      simp only [List.map_cons, List.map_nil] at hg
      obtain ⟨y, hy⟩ : ∃ y, ([-32767, -5, 0, 1, 300, 32767] : List Int).getD k 0 = y := ⟨_, rfl⟩
      have yb : -32768 ≤ y ∧ y < 32768 := by
        rw [← hy]
        refine allI (fun x => -32768 ≤ x ∧ x < 32768) (by omega) _ _ fun x hx => ?_
        simp only [List.mem_cons, List.not_mem_nil, or_false] at hx
        omega
      rw [hy] at hg
      have w3 : IntKind.i64.wrap (a + y) = a + y := wrap_id (by omega) (by omega)
      have iy : I64 (a + y) := by unfold I64; omega
      have by' := sqV_bd (a + y)
      have iz : I64 (sqV (a + y)) := by unfold I64; omega
      have hbk := sq_back na yb.1 yb.2
      simp (maxSteps := 3000000) only [Try.f5, lsc, hlt, h0, hg, w2, w3, hbk, List.map_cons, List.map_nil, List.replicate, List.cons_append, List.nil_append, g_alive, g_seqOf, g_seqPlace, ocOf, g_drawSp, bytesOf_rows, rowsOf_len, ↓reduceIte, Bool.false_eq_true, D.toI, D.toL, tYs, evL, implies_true, oMin, oCopy, oBin, oUn, oLoadKid, oStoreTree, oField, oExtract, oNil, oSliceQ, oLoadRow, takeCells, TS.atRow, TS.ex, treeMode, AV.isOwn, TK.isSl, nilTk, nilsB, oLenQ, oLen, nodupB, treeOf, kidAbs, kidRows, TK.isCell, D.toL, oLoad, oStore, oMake, oIndexAddr, ↓reduceIte, reduceCtorEq, Nat.reduceBEq, Nat.reduceAdd, Nat.reduceMul, Nat.reduceLT, Nat.reduceSub, Nat.reduceLeDiff, Nat.reduceEqDiff, Nat.reduceBneDiff, Int.reduceToNat, decide_eq_true_eq, decide_eq_false_iff_not, beq_iff_eq, Int.toNat_natCast, loopK_normal, loopK_exit, loopK_ret, bne_self_eq_false]
      exact ⟨by omega, by omega, iy, ⟨ia, iz⟩, k + 1, [(0, some _)], by omega, by omega, ⟨⟨trivial, trivial, trivial, ⟨rfl, rfl, rfl⟩, ⟨rfl, rfl, rfl⟩, ⟨rfl, rfl, rfl⟩, trivial, trivial, trivial, trivial, trivial, trivial, trivial, trivial, trivial, trivial, trivial, trivial, trivial, trivial, trivial, trivial, trivial, trivial, trivial, trivial, trivial, trivial, trivial, trivial, trivial, trivial, trivial, trivial, trivial, trivial, trivial, trivial, trivial, trivial, ⟨rfl, rfl, rfl⟩, ⟨rfl, rfl, rfl⟩, ⟨rfl, rfl, rfl⟩, fitT_rep _ _ rfl⟩, ⟨.inl rfl, rfl, rfl, rfl, trivial⟩, by simp [rn, hpAt]⟩, by simp [keepIds, rn]⟩
    · have hlt : ((k : Int) < 6) = False := eq_false (by omega)
      have w4 : IntKind.i64.wrap (u - a) = u - a := wrap_id (by omega) (by omega)
      have w5 : IntKind.i64.wrap (a - u) = a - u := wrap_id (by omega) (by omega)
      have c3 : (u - a ≤ 32768) = True := eq_true p2
      have c4 : (a - u ≤ 32768) = True := eq_true p3
      simp (maxSteps := 3000000) only [Try.f5, lsc, hlt, w4, w5, c3, c4, p1, List.map_cons, List.map_nil, List.replicate, List.cons_append, List.nil_append, beq_self_eq_true, g_alive, g_seqOf, g_seqPlace, ocOf, g_drawSp, bytesOf_rows, rowsOf_len, ↓reduceIte, Bool.false_eq_true, D.toI, D.toL, tYs, evL, implies_true, oMin, oCopy, oBin, oUn, oLoadKid, oStoreTree, oField, oExtract, oNil, oSliceQ, oLoadRow, takeCells, TS.atRow, TS.ex, treeMode, AV.isOwn, TK.isSl, nilTk, nilsB, oLenQ, oLen, nodupB, treeOf, kidAbs, kidRows, TK.isCell, D.toL, oLoad, oStore, oMake, oIndexAddr, ↓reduceIte, reduceCtorEq, Nat.reduceBEq, Nat.reduceAdd, Nat.reduceMul, Nat.reduceLT, Nat.reduceSub, Nat.reduceLeDiff, Nat.reduceEqDiff, Nat.reduceBneDiff, Int.reduceToNat, decide_eq_true_eq, decide_eq_false_iff_not, beq_iff_eq, Int.toNat_natCast, loopK_normal, loopK_exit, loopK_ret, bne_self_eq_false]
      refine ⟨iu, ?_⟩
      exact ⟨_, [], rfl, ⟨⟨⟨rfl, rfl, rfl⟩, trivial⟩, trivial, by simp [rn, hpAt]⟩⟩
  · cases hg
theorem walk_SeqPlace (A : Option Addr) (n c : Nat) (xs : List UInt8) (w : World) (h : Rd w w.heap.size A n (bv xs)) (hc : n ≤ c) :
    Calls Try.prog 5 #[.slice A n c] w fun e w' => e = .returned (.bool true) ∧ Below w.heap.size w w' :=
  lawSeqPlace_ok.walk (vs := [_]) (arel_cons (.l _ _ _ (rep_of_rd h hc)) arel_nil) rfl ⟨xs, rfl⟩
def g_i1 : PC := fun args => match args with
  | [.v (.int .i64 a)] => some (I64 a, .v (.bool true), [])
  | _ => none
def g_i2 : PC := fun args => match args with
  | [.v (.int .i64 a), .v (.int .i64 b)] => some (I64 a ∧ I64 b, .v (.bool true), [])
  | _ => none
theorem i64_of {a : Int} (h : (Lit.int .i64 a).wf = true) : I64 a := by
  have e1 : IntKind.i64.min = -9223372036854775808 := by decide
  have e2 : IntKind.i64.max = 9223372036854775807 := by decide
  simpa [Lit.wf, e1, e2, I64] using h
def xsseqof : List (FuncId × Abs) := [(11, pureAbs g_seqOf), (10, pureAbs g_seqOf)]
theorem xsseqof_ok : ∀ p ∈ xsseqof, CallOk Try.prog p.1 p.2 := by
  intro p hp
  simp only [xsseqof, List.mem_cons, List.not_mem_nil, or_false] at hp
  rcases hp with rfl | rfl
  · exact specSeqOf_ok.call
  · exact implSeqOf_ok.call
set_option maxRecDepth 100000 in
theorem lawExactSeqOf_ok : PureOk Try.prog 6 g_i1 := by
  refine PureOk.of_vc (G := xsseqof) xsseqof_ok mixed Try.func6 (by kernel_rfl) rfl ?_
  intro args cnd r bs hg hc
  unfold g_i1 at hg
  split at hg
  · rename_i a
    cases hg
    refine ⟨⟨rfl, by simp, by simp [AV.ids, AV.ids.idsL]⟩, _, rfl, fun w vs h => h, ?_⟩
    simp (maxSteps := 3000000) only [Try.f6, xsseqof, g_seqOf, bne_self_eq_false, tYs, evL, implies_true, oMin, oCopy, oBin, oUn, oLoadKid, oStoreTree, oField, oExtract, oNil, oSliceQ, oLoadRow, takeCells, TS.atRow, TS.ex, treeMode, AV.isOwn, TK.isSl, nilTk, nilsB, oLenQ, oLen, nodupB, treeOf, kidAbs, kidRows, TK.isCell, D.toL, oLoad, oStore, oMake, oIndexAddr, ↓reduceIte, reduceCtorEq, Nat.reduceBEq, Nat.reduceAdd, Nat.reduceMul, Nat.reduceLT, Nat.reduceSub, Nat.reduceLeDiff, Nat.reduceEqDiff, Nat.reduceBneDiff, Int.reduceToNat, decide_eq_true_eq, decide_eq_false_iff_not, beq_iff_eq, Int.toNat_natCast]
    repeat' first
      | refine And.intro hc ?_
      | refine And.intro (by kernel_rfl) ?_
    exact ⟨_, [], rfl, ⟨⟨⟨rfl, rfl, rfl⟩, trivial⟩, trivial, by simp [rn, hpAt]⟩⟩
  · cases hg
theorem walk_ExactSeqOf (a : Int) (w : World) (h : (Lit.int .i64 a).wf = true) :
    Calls Try.prog 6 #[.int .i64 a] w fun e w' => e = .returned (.bool true) ∧ Below w.heap.size w w' :=
  lawExactSeqOf_ok.walk (vs := [_]) (arel_cons (.v _) arel_nil) rfl (i64_of h)
def xsseqless : List (FuncId × Abs) := [(15, pureAbs g_seqLess), (14, pureAbs g_seqLess)]
theorem xsseqless_ok : ∀ p ∈ xsseqless, CallOk Try.prog p.1 p.2 := by
  intro p hp
  simp only [xsseqless, List.mem_cons, List.not_mem_nil, or_false] at hp
  rcases hp with rfl | rfl
  · exact specSeqLess_ok.call
  · exact implSeqLess_ok.call
set_option maxRecDepth 100000 in
theorem lawExactSeqLess_ok : PureOk Try.prog 7 g_i2 := by
  refine PureOk.of_vc (G := xsseqless) xsseqless_ok mixed Try.func7 (by kernel_rfl) rfl ?_
  intro args cnd r bs hg hc
  unfold g_i2 at hg
  split at hg
  · rename_i a b
    cases hg
    refine ⟨⟨rfl, by simp, by simp [AV.ids, AV.ids.idsL]⟩, _, rfl, fun w vs h => h, ?_⟩
    simp (maxSteps := 3000000) only [Try.f7, xsseqless, g_seqLess, bne_self_eq_false, tYs, evL, implies_true, oMin, oCopy, oBin, oUn, oLoadKid, oStoreTree, oField, oExtract, oNil, oSliceQ, oLoadRow, takeCells, TS.atRow, TS.ex, treeMode, AV.isOwn, TK.isSl, nilTk, nilsB, oLenQ, oLen, nodupB, treeOf, kidAbs, kidRows, TK.isCell, D.toL, oLoad, oStore, oMake, oIndexAddr, ↓reduceIte, reduceCtorEq, Nat.reduceBEq, Nat.reduceAdd, Nat.reduceMul, Nat.reduceLT, Nat.reduceSub, Nat.reduceLeDiff, Nat.reduceEqDiff, Nat.reduceBneDiff, Int.reduceToNat, decide_eq_true_eq, decide_eq_false_iff_not, beq_iff_eq, Int.toNat_natCast]
    repeat' first
      | refine And.intro hc ?_
      | refine And.intro (by kernel_rfl) ?_
    exact ⟨_, [], rfl, ⟨⟨⟨rfl, rfl, rfl⟩, trivial⟩, trivial, by simp [rn, hpAt]⟩⟩
  · cases hg
theorem walk_ExactSeqLess (a b : Int) (w : World) (h : (Lit.int .i64 a).wf = true) (h' : (Lit.int .i64 b).wf = true) :
    Calls Try.prog 7 #[.int .i64 a, .int .i64 b] w fun e w' => e = .returned (.bool true) ∧ Below w.heap.size w w' :=
  lawExactSeqLess_ok.walk (vs := [_, _]) (arel_cons (.v _) (arel_cons (.v _) arel_nil)) rfl ⟨i64_of h, i64_of h'⟩
def xsseqplace : List (FuncId × Abs) := [(18, pureAbs g_seqPlace), (17, pureAbs g_seqPlace)]
theorem xsseqplace_ok : ∀ p ∈ xsseqplace, CallOk Try.prog p.1 p.2 := by
  intro p hp
  simp only [xsseqplace, List.mem_cons, List.not_mem_nil, or_false] at hp
  rcases hp with rfl | rfl
  · exact specSeqPlace_ok.call
  · exact implSeqPlace_ok.call
set_option maxRecDepth 100000 in
theorem lawExactSeqPlace_ok : PureOk Try.prog 8 g_i2 := by
  refine PureOk.of_vc (G := xsseqplace) xsseqplace_ok mixed Try.func8 (by kernel_rfl) rfl ?_
  intro args cnd r bs hg hc
  unfold g_i2 at hg
  split at hg
  · rename_i a b
    cases hg
    refine ⟨⟨rfl, by simp, by simp [AV.ids, AV.ids.idsL]⟩, _, rfl, fun w vs h => h, ?_⟩
    simp (maxSteps := 3000000) only [Try.f8, xsseqplace, g_seqPlace, bne_self_eq_false, tYs, evL, implies_true, oMin, oCopy, oBin, oUn, oLoadKid, oStoreTree, oField, oExtract, oNil, oSliceQ, oLoadRow, takeCells, TS.atRow, TS.ex, treeMode, AV.isOwn, TK.isSl, nilTk, nilsB, oLenQ, oLen, nodupB, treeOf, kidAbs, kidRows, TK.isCell, D.toL, oLoad, oStore, oMake, oIndexAddr, ↓reduceIte, reduceCtorEq, Nat.reduceBEq, Nat.reduceAdd, Nat.reduceMul, Nat.reduceLT, Nat.reduceSub, Nat.reduceLeDiff, Nat.reduceEqDiff, Nat.reduceBneDiff, Int.reduceToNat, decide_eq_true_eq, decide_eq_false_iff_not, beq_iff_eq, Int.toNat_natCast]
    repeat' first
      | refine And.intro hc ?_
      | refine And.intro (by kernel_rfl) ?_
    exact ⟨_, [], rfl, ⟨⟨⟨rfl, rfl, rfl⟩, trivial⟩, trivial, by simp [rn, hpAt]⟩⟩
  · cases hg
theorem walk_ExactSeqPlace (a b : Int) (w : World) (h : (Lit.int .i64 a).wf = true) (h' : (Lit.int .i64 b).wf = true) :
    Calls Try.prog 8 #[.int .i64 a, .int .i64 b] w fun e w' => e = .returned (.bool true) ∧ Below w.heap.size w w' :=
  lawExactSeqPlace_ok.walk (vs := [_, _]) (arel_cons (.v _) (arel_cons (.v _) arel_nil)) rfl ⟨i64_of h, i64_of h'⟩
end Go.Proofs.Ytdjnndicbndfmaa
