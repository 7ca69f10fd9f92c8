import Derived.Test.YtegffkmakkccaaaVk
import Derived.Test.YtegffkmakkccaaaTv
import Derived.Test.YtegffkmakkccaaaR7
namespace Go.Proofs.Ytegffkmakkccaaa
open Go.RowKit
set_option linter.unusedSimpArgs false
set_option linter.unusedVariables false
def g_bytesCopiedT : PC := fun args => match args with
  | [.l _ rows] => some (∃ xs, rows = rowsOfBytes xs ∧ xs.length ≤ 1048576, .own 0, [.tr .whole 5 1 [.cell] rows])
  | _ => none
theorem bytesCopiedT_ok : PureOk Try.prog 80 g_bytesCopiedT := bytesCopied_ok.toTree fun args c r bs' h => by
  unfold g_bytesCopiedT at h
  split at h
  · cases h; exact ⟨_, rfl, rfl⟩
  · cases h
def g_packetCopied : PC := fun args => match args with
  | [.agg [.v (.int .i64 f), .v (.int .i64 t), .v (.int .i64 p), .v (.int .i64 h), .v (.int .i64 i), .v (.int .i64 a), .v (.bool m), .v (.bool u), .l _ rows]] => some (∃ xs, rows = rowsOfBytes xs ∧ xs.length ≤ 1048576, .agg [.v (.int .i64 f), .v (.int .i64 t), .v (.int .i64 p), .v (.int .i64 h), .v (.int .i64 i), .v (.int .i64 a), .v (.bool m), .v (.bool u), .own 0], [.tr .whole 5 1 [.cell] rows])
  | _ => none
def g_packetPiece : PC := fun args => match args with
  | [.agg [.v (.int .i64 f), .v (.int .i64 t), .v (.int .i64 p), .v (.int .i64 h), .v (.int .i64 i), .v (.int .i64 a), .v (.bool m), .v (.bool u), .l _ rows], .v (.int .i64 n), .v (.int .i64 l)] => some ((∃ xs, rows = rowsOfBytes xs ∧ xs.length ≤ 1048576) ∧ (0 ≤ n ∧ n ≤ (rows.length : Int)) ∧ (1 ≤ l ∧ l ≤ 1048576) ∧ 0 ≤ a ∧ a ≤ 1048576,
      .agg [.v (.int .i64 f), .v (.int .i64 t), .v (.int .i64 p), .v (.int .i64 h), .v (.int .i64 i), .v (.int .i64 (a + n)), .v (.bool (m || decide (l < (rows.length : Int) - n))), .v (.bool u), .own 0], [.tr .whole 5 1 [.cell] ((rows.drop n.toNat).take l.toNat)])
  | _ => none
def pcs : List (FuncId × Abs) := [(80, pureAbs g_bytesCopiedT)]
theorem pcs_ok : ∀ p ∈ pcs, CallOk Try.prog p.1 p.2 := by
  intro p hp
  simp only [pcs, List.mem_cons, List.not_mem_nil, or_false] at hp
  rcases hp with rfl
  · exact bytesCopiedT_ok.call
set_option maxRecDepth 100000 in
theorem packetCopied_ok : PureOk Try.prog 61 g_packetCopied := by
  refine PureOk.of_vc (G := pcs) pcs_ok mixed Try.func61 (by kernel_rfl) rfl ?_
  intro args cnd r bs hg hc
  unfold g_packetCopied at hg
  split at hg
  · rename_i f t p h i a m u sz rows
    cases hg
    obtain ⟨xs, rfl, hl⟩ := hc
    refine ⟨⟨rfl, by simp [flatB], by simp [AV.ids, AV.ids.idsL]⟩, [.agg [.v (.int .i64 f), .v (.int .i64 t), .v (.int .i64 p), .v (.int .i64 h), .v (.int .i64 i), .v (.int .i64 a), .v (.bool m), .v (.bool u), .l 1 (rowsOfBytes xs)]], rfl, fun w vs h => CvL.ok (.cons (.cons (.refl _) (.cons (.refl _) (.cons (.refl _) (.cons (.refl _) (.cons (.refl _) (.cons (.refl _) (.cons (.refl _) (.cons (.refl _) (.cons (.l _ _ _ (rowsOf_w xs)) .nil))))))))) .nil) h, ?_⟩
    simp (maxSteps := 3000000) only [Try.f61, pcs, g_bytesCopiedT, tYs, evL, implies_true, oMin, oCopy, oBin, oUn, oLoadKid, oStoreTree, oField, oExtract, oNil, oSliceQ, oLoadRow, takeCells, TS.atRow, TS.ex, treeMode, AV.isOwn, TK.isSl, nilTk, nilsB, oLenQ, oLen, nodupB, treeOf, kidAbs, kidRows, TK.isCell, D.toL, oLoad, oStore, oMake, oIndexAddr, ↓reduceIte, reduceCtorEq, Nat.reduceBEq, Nat.reduceAdd, Nat.reduceMul, Nat.reduceLT, Nat.reduceSub, Nat.reduceLeDiff, Nat.reduceEqDiff, Nat.reduceBneDiff, Int.reduceToNat, decide_eq_true_eq, decide_eq_false_iff_not, beq_iff_eq, Int.toNat_natCast]
    exact ⟨⟨_, rfl, hl⟩, _, [(0, some _)], rfl, ⟨⟨⟨rfl, rfl, rfl⟩, trivial⟩, ⟨.inl rfl, rfl, rfl, rfl, trivial⟩, by simp [rn, hpAt]⟩⟩
  · cases hg
set_option maxRecDepth 100000 in
theorem packetPiece_ok : PureOk Try.prog 176 g_packetPiece := by
  refine PureOk.of_vc (G := pcs) pcs_ok mixed Try.func176 (by kernel_rfl) rfl ?_
  intro args cnd r bs hg hc
  unfold g_packetPiece at hg
  split at hg
  · rename_i f t p h i a m u sz rows n l
    cases hg
    obtain ⟨⟨xs, rfl, hl⟩, ⟨hn0, hn⟩, ⟨hl1, hl2⟩, ha0, ha⟩ := hc
    rw [rowsOf_len] at hn ⊢
    have w1 : IntKind.i64.wrap (a + n) = a + n := by rw [wrap_id] <;> omega
    refine ⟨⟨rfl, by simp [flatB], by simp [AV.ids, AV.ids.idsL]⟩, [.agg [.v (.int .i64 f), .v (.int .i64 t), .v (.int .i64 p), .v (.int .i64 h), .v (.int .i64 i), .v (.int .i64 a), .v (.bool m), .v (.bool u), .l 1 (rowsOfBytes xs)], .v (.int .i64 n), .v (.int .i64 l)], rfl, fun w vs h => CvL.ok (.cons (.cons (.refl _) (.cons (.refl _) (.cons (.refl _) (.cons (.refl _) (.cons (.refl _) (.cons (.refl _) (.cons (.refl _) (.cons (.refl _) (.cons (.l _ _ _ (rowsOf_w xs)) .nil))))))))) (.cons (.refl _) (.cons (.refl _) .nil))) h, ?_⟩
    simp (maxSteps := 3000000) only [Try.f176, pcs, g_bytesCopiedT, rowsOf_take, rowsOf_drop, rowsOf_len, w1, List.take_length, tYs, evL, implies_true, oMin, oCopy, oBin, oUn, oLoadKid, oStoreTree, oField, oExtract, oNil, oSliceQ, oLoadRow, takeCells, TS.atRow, TS.ex, treeMode, AV.isOwn, TK.isSl, nilTk, nilsB, oLenQ, oLen, nodupB, treeOf, kidAbs, kidRows, TK.isCell, D.toL, oLoad, oStore, oMake, oIndexAddr, ↓reduceIte, reduceCtorEq, Nat.reduceBEq, Nat.reduceAdd, Nat.reduceMul, Nat.reduceLT, Nat.reduceSub, Nat.reduceLeDiff, Nat.reduceEqDiff, Nat.reduceBneDiff, Int.reduceToNat, decide_eq_true_eq, decide_eq_false_iff_not, beq_iff_eq, Int.toNat_natCast]
    refine ⟨⟨hn0, by omega⟩, ?_⟩
    have hdl : (List.drop n.toNat xs).length = xs.length - n.toNat := List.length_drop
    by_cases hb : ((List.drop n.toNat xs).length : Int) > l
    · have e : (m || decide (l < (xs.length : Int) - n)) = true := by rw [Bool.or_eq_true, decide_eq_true_eq]; right; omega
      rw [if_pos hb, e]
      exact ⟨⟨by omega, by omega⟩, ⟨_, rfl, by rw [List.length_take]; omega⟩, _, [(0, some _)], rfl, ⟨⟨⟨rfl, rfl, rfl⟩, trivial⟩, ⟨.inl rfl, rfl, rfl, rfl, trivial⟩, by simp [rn, hpAt]⟩⟩
    · have e : (m || decide (l < (xs.length : Int) - n)) = m := by rw [decide_eq_false (by omega), Bool.or_false]
      rw [if_neg hb, e, List.take_of_length_le (by omega)]
      exact ⟨⟨_, rfl, by omega⟩, _, [(0, some _)], rfl, ⟨⟨⟨rfl, rfl, rfl⟩, trivial⟩, ⟨.inl rfl, rfl, rfl, rfl, trivial⟩, by simp [rn, hpAt]⟩⟩
  · cases hg
def pieceAt (x : Pk) (n l : Nat) : Pk := { x with a := x.a + (n : Int), m := x.m || decide ((l : Int) < (x.d.length : Int) - (n : Int)), d := (x.d.drop n).take l }
def pieceN (n l : Nat) : Nat := (n + l - 1) / l
def piecesK (x : Pk) (l k : Nat) : List Pk := (List.range k).map fun j => pieceAt x (l * j) l
theorem pieceN_lt {n l k : Nat} (hl : 1 ≤ l) : l * k < n ↔ k < pieceN n l := by
  unfold pieceN
  rw [Nat.mul_comm]
  rw [Nat.lt_iff_add_one_le, Nat.lt_iff_add_one_le, Nat.le_div_iff_mul_le (by omega), Nat.add_mul]
  omega
theorem pieceN_le {n l : Nat} (hl : 1 ≤ l) : pieceN n l ≤ n := by
  unfold pieceN
  refine Nat.le_of_lt_succ ((Nat.div_lt_iff_lt_mul (by omega)).2 ?_)
  have : n * 1 ≤ n * l := Nat.mul_le_mul_left _ hl
  rw [Nat.succ_mul]
  omega
def g_packetPieces : PC := fun args => match args with
  | [.agg [.v (.int .i64 f), .v (.int .i64 t), .v (.int .i64 p), .v (.int .i64 h), .v (.int .i64 i), .v (.int .i64 a), .v (.bool m), .v (.bool u), .l _ rows], .v (.int .i64 l)] => some ((∃ xs, rows = rowsOfBytes xs ∧ xs.length ≤ 1048576) ∧ (1 ≤ l ∧ l ≤ 1048576) ∧ 0 ≤ a ∧ a ≤ 1048576, .own 0, [.tr .whole 29 9 [.cell, .cell, .cell, .cell, .cell, .cell, .cell, .cell, .sl 5 1 [.cell]] (pRows (piecesK ⟨f, t, p, h, i, a, m, u, bytesOfRows rows⟩ l.toNat (pieceN rows.length l.toNat)))])
  | _ => none
def pcs2 : List (FuncId × Abs) := [(176, pureAbs g_packetPiece)]
theorem pcs2_ok : ∀ p ∈ pcs2, CallOk Try.prog p.1 p.2 := by
  intro p hp
  simp only [pcs2, List.mem_cons, List.not_mem_nil, or_false] at hp
  rcases hp with rfl
  · exact packetPiece_ok.call
set_option maxRecDepth 100000 in
theorem packetPieces_ok : PureOk Try.prog 172 g_packetPieces := by
  refine PureOk.of_vc (G := pcs2) pcs2_ok mixed Try.func172 (by kernel_rfl) rfl ?_
  intro args cnd r bs hg hc
  unfold g_packetPieces at hg
  split at hg
  · rename_i f t p h i a m u sz rows l
    cases hg
    obtain ⟨⟨xs, rfl, hl⟩, ⟨hl1, hl2⟩, ha0, ha⟩ := hc
    rw [bytesOf_rows, rowsOf_len]
    obtain ⟨n, rfl⟩ : ∃ n : Nat, l = (n : Int) := ⟨l.toNat, by omega⟩
    rw [Int.toNat_natCast]
    have hN := pieceN_le (n := xs.length) (l := n) (by omega)
    have hqn : xs.length / n ≤ xs.length := Nat.div_le_self _ _
    have hq : ((xs.length : Int).tdiv (n : Int)) = ((xs.length / n : Nat) : Int) := (Int.ofNat_tdiv _ _).symm
    generalize xs.length / n = qq at hqn hq
    have w3 : IntKind.i64.wrap (qq : Int) = (qq : Int) := by rw [wrap_id] <;> omega
    have w4 : IntKind.i64.wrap ((qq : Int) + 1) = ((qq + 1 : Nat) : Int) := by rw [wrap_id] <;> omega
    refine ⟨⟨rfl, by simp [flatB], by simp [AV.ids, AV.ids.idsL]⟩, [.agg [.v (.int .i64 f), .v (.int .i64 t), .v (.int .i64 p), .v (.int .i64 h), .v (.int .i64 i), .v (.int .i64 a), .v (.bool m), .v (.bool u), .l 1 (rowsOfBytes xs)], .v (.int .i64 (n : Int))], rfl, fun w vs h => CvL.ok (.cons (.cons (.refl _) (.cons (.refl _) (.cons (.refl _) (.cons (.refl _) (.cons (.refl _) (.cons (.refl _) (.cons (.refl _) (.cons (.refl _) (.cons (.l _ _ _ (rowsOf_w xs)) .nil))))))))) (.cons (.refl _) .nil)) h, ?_⟩
    simp (maxSteps := 3000000) only [Try.f172, pcs2, rowsOf_len, hq, w3, w4, tYs, evL, implies_true, oMin, oCopy, oBin, oUn, oLoadKid, oStoreTree, oField, oExtract, oNil, oSliceQ, oLoadRow, takeCells, TS.atRow, TS.ex, treeMode, AV.isOwn, TK.isSl, nilTk, nilsB, oLenQ, oLen, nodupB, treeOf, kidAbs, kidRows, TK.isCell, D.toL, oLoad, oStore, oMake, oIndexAddr, ↓reduceIte, reduceCtorEq, Nat.reduceBEq, Nat.reduceAdd, Nat.reduceMul, Nat.reduceLT, Nat.reduceSub, Nat.reduceLeDiff, Nat.reduceEqDiff, Nat.reduceBneDiff, Int.reduceToNat, decide_eq_true_eq, decide_eq_false_iff_not, beq_iff_eq, Int.toNat_natCast]
    refine ⟨by omega, by omega, ?_⟩
    refine e_loop _ _ _ _ _ _ _ _ (fun k : Nat => [.any, .v (.int .i64 (n : Int)), .ptr 0 0, .any, .any, .own 1, .v (.int .i64 ((n * k : Nat) : Int))] ++ List.replicate (Try.f172.ntmps - 7) .any) (fun k => [(0, .var 29 [.v (.int .i64 f), .v (.int .i64 t), .v (.int .i64 p), .v (.int .i64 h), .v (.int .i64 i), .v (.int .i64 a), .v (.bool m), .v (.bool u), .l 1 (rowsOfBytes xs)]), (1, .tr .whole 29 9 [.cell, .cell, .cell, .cell, .cell, .cell, .cell, .cell, .sl 5 1 [.cell]] (pRows (piecesK ⟨f, t, p, h, i, a, m, u, xs⟩ n k)))]) (fun k => k ≤ pieceN xs.length n) (fun k => pieceN xs.length n - k) 2 (fun k => by simp) ?_ fun k hk' => ?_
    · exact ⟨0, [(0, some 0), (1, some _)], by omega, ⟨⟨trivial, ⟨rfl, rfl, rfl⟩, ⟨rfl, rfl, rfl⟩, trivial, trivial, ⟨rfl, rfl, rfl⟩, ⟨rfl, rfl, rfl⟩, fitT_rep _ _ rfl⟩, ⟨.inl rfl, rfl, rfl, rfl, .inr (.inl ⟨rfl, rfl, rfl⟩), rfl, rfl, rfl, trivial⟩, by simp [rn, hpAt]⟩, by simp [keepIds]⟩
    have hkn : n * k < xs.length ↔ k < pieceN xs.length n := pieceN_lt (by omega)
    by_cases hk : k < pieceN xs.length n
    · have hlt : (((n * k : Nat) : Int) < (xs.length : Int)) = True := eq_true (by omega)
      have w2 : IntKind.i64.wrap (((n * k : Nat) : Int) + (n : Int)) = ((n * (k + 1) : Nat) : Int) := by rw [Nat.mul_succ, wrap_id] <;> omega
      have e1 : pRows (piecesK ⟨f, t, p, h, i, a, m, u, xs⟩ n k) ++ [[D.v (.int .i64 f), D.v (.int .i64 t), D.v (.int .i64 p), D.v (.int .i64 h), D.v (.int .i64 i), D.v (.int .i64 (a + ((n * k : Nat) : Int))), D.v (.bool (m || decide ((n : Int) < (xs.length : Int) - ((n * k : Nat) : Int)))), D.v (.bool u), D.l 1 (rowsOfBytes ((xs.drop (n * k)).take n))]] = pRows (piecesK ⟨f, t, p, h, i, a, m, u, xs⟩ n (k + 1)) := by
        rw [piecesK, piecesK, List.range_succ, List.map_append, ← pRows_app]; rfl
      have hpl : (pRows (piecesK ⟨f, t, p, h, i, a, m, u, xs⟩ n k)).length = k := by simp [pRows_len, piecesK]
      simp (maxSteps := 3000000) only [Try.f172, pcs2, g_packetPiece, rowsOf_len, bytesOf_rows, hlt, hpl, rowsOf_take, rowsOf_drop, D.toI, tYs, evL, implies_true, oMin, oCopy, oBin, oUn, oLoadKid, oStoreTree, oField, oExtract, oNil, oSliceQ, oLoadRow, takeCells, TS.atRow, TS.ex, treeMode, AV.isOwn, TK.isSl, nilTk, nilsB, oLenQ, oLen, nodupB, treeOf, kidAbs, kidRows, TK.isCell, D.toL, oLoad, oStore, oMake, oIndexAddr, ↓reduceIte, reduceCtorEq, Nat.reduceBEq, Nat.reduceAdd, Nat.reduceMul, Nat.reduceLT, Nat.reduceSub, Nat.reduceLeDiff, Nat.reduceEqDiff, Nat.reduceBneDiff, Int.reduceToNat, decide_eq_true_eq, decide_eq_false_iff_not, beq_iff_eq, Int.toNat_natCast, loopK_normal, loopK_exit, loopK_ret, w2, e1]
      exact ⟨⟨⟨_, rfl, hl⟩, ⟨by omega, by omega⟩, ⟨by omega, by omega⟩, ha0, ha⟩, ⟨by omega, by omega⟩, k + 1, [(0, some 0), (1, some _)], by omega, by omega, ⟨⟨trivial, ⟨rfl, rfl, rfl⟩, ⟨rfl, rfl, rfl⟩, trivial, trivial, ⟨rfl, rfl, rfl⟩, ⟨rfl, rfl, rfl⟩, fitT_rep _ _ rfl⟩, ⟨.inl rfl, rfl, rfl, rfl, .inl rfl, rfl, rfl, rfl, trivial⟩, by simp [rn, hpAt]⟩, by simp [keepIds]⟩
    · have hlt : (((n * k : Nat) : Int) < (xs.length : Int)) = False := eq_false (by omega)
      simp (maxSteps := 3000000) only [Try.f172, pcs2, rowsOf_len, hlt, tYs, evL, implies_true, oMin, oCopy, oBin, oUn, oLoadKid, oStoreTree, oField, oExtract, oNil, oSliceQ, oLoadRow, takeCells, TS.atRow, TS.ex, treeMode, AV.isOwn, TK.isSl, nilTk, nilsB, oLenQ, oLen, nodupB, treeOf, kidAbs, kidRows, TK.isCell, D.toL, oLoad, oStore, oMake, oIndexAddr, ↓reduceIte, reduceCtorEq, Nat.reduceBEq, Nat.reduceAdd, Nat.reduceMul, Nat.reduceLT, Nat.reduceSub, Nat.reduceLeDiff, Nat.reduceEqDiff, Nat.reduceBneDiff, Int.reduceToNat, decide_eq_true_eq, decide_eq_false_iff_not, beq_iff_eq, Int.toNat_natCast, loopK_normal, loopK_exit, loopK_ret]
      obtain rfl : k = pieceN xs.length n := by omega
      exact ⟨_, [(0, some _)], rfl, ⟨⟨⟨rfl, rfl, rfl⟩, trivial⟩, ⟨.inl rfl, rfl, rfl, rfl, trivial⟩, by simp [rn, hpAt]⟩⟩
  · cases hg
def cutB (x : Pk) (l : Int) : Bool := x.ok && decide (1 ≤ l ∧ l ≤ 48) && (decide ((x.d.length : Int) ≤ l) || (!x.u && decide (x.a + (((x.d.length - 1) / l.toNat * l.toNat : Nat) : Int) ≤ 255)))
def cutL (x : Pk) (l : Int) : List Pk := if cutB x l = true then (if (x.d.length : Int) ≤ l then [x] else piecesK x l.toNat (pieceN x.d.length l.toNat)) else []
def g_packetCut : PC := fun args => match args with
  | [.agg [.v (.int .i64 f), .v (.int .i64 t), .v (.int .i64 p), .v (.int .i64 h), .v (.int .i64 i), .v (.int .i64 a), .v (.bool m), .v (.bool u), .l _ rows], .v (.int .i64 l)] => some (∃ xs, rows = rowsOfBytes xs ∧ xs.length ≤ 1048576, .tup [.own 0, .v (.bool (cutB ⟨f, t, p, h, i, a, m, u, bytesOfRows rows⟩ l))], [.tr .whole 29 9 [.cell, .cell, .cell, .cell, .cell, .cell, .cell, .cell, .sl 5 1 [.cell]] (pRows (cutL ⟨f, t, p, h, i, a, m, u, bytesOfRows rows⟩ l))])
  | _ => none
def pcs3 : List (FuncId × Abs) := [(19, pureAbs g_packetOk), (61, pureAbs g_packetCopied), (127, pureAbs g_isByte), (172, pureAbs g_packetPieces)]
theorem pcs3_ok : ∀ p ∈ pcs3, CallOk Try.prog p.1 p.2 := by
  intro p hp
  simp only [pcs3, List.mem_cons, List.not_mem_nil, or_false] at hp
  rcases hp with rfl | rfl | rfl | rfl
  · exact implPacketOk_ok.call
  · exact packetCopied_ok.call
  · exact isByte_ok.call
  · exact packetPieces_ok.call
set_option maxRecDepth 100000 in
theorem implPacketCut_ok : PureOk Try.prog 166 g_packetCut := by
  refine PureOk.of_vc (G := pcs3) pcs3_ok mixed Try.func166 (by kernel_rfl) rfl ?_
  intro args cnd r bs hg hc
  unfold g_packetCut at hg
  split at hg
  · rename_i f t p h i a m u sz rows l
    cases hg
    obtain ⟨xs, rfl, hl⟩ := hc
    rw [bytesOf_rows]
    refine ⟨⟨rfl, by simp [flatB], by simp [AV.ids, AV.ids.idsL]⟩, [.agg [.v (.int .i64 f), .v (.int .i64 t), .v (.int .i64 p), .v (.int .i64 h), .v (.int .i64 i), .v (.int .i64 a), .v (.bool m), .v (.bool u), .l 1 (rowsOfBytes xs)], .v (.int .i64 l)], rfl, fun w vs h => CvL.ok (.cons (.cons (.refl _) (.cons (.refl _) (.cons (.refl _) (.cons (.refl _) (.cons (.refl _) (.cons (.refl _) (.cons (.refl _) (.cons (.refl _) (.cons (.l _ _ _ (rowsOf_w xs)) .nil))))))))) (.cons (.refl _) .nil)) h, ?_⟩
    simp (maxSteps := 3000000) only [Try.f166, pcs3, g_packetOk, g_packetCopied, g_isByte, g_packetPieces, rowsOf_len, bytesOf_rows, tYs, evL, implies_true, oMin, oCopy, oBin, oUn, oLoadKid, oStoreTree, oField, oExtract, oNil, oSliceQ, oLoadRow, takeCells, TS.atRow, TS.ex, treeMode, AV.isOwn, TK.isSl, nilTk, nilsB, oLenQ, oLen, nodupB, treeOf, kidAbs, kidRows, TK.isCell, D.toL, oLoad, oStore, oMake, oIndexAddr, ↓reduceIte, reduceCtorEq, Nat.reduceBEq, Nat.reduceAdd, Nat.reduceMul, Nat.reduceLT, Nat.reduceSub, Nat.reduceLeDiff, Nat.reduceEqDiff, Nat.reduceBneDiff, Int.reduceToNat, decide_eq_true_eq, decide_eq_false_iff_not, beq_iff_eq, Int.toNat_natCast]
    have hB : cutB ⟨f, t, p, h, i, a, m, u, xs⟩ l = (pkB f t p h i a m u xs.length && decide (1 ≤ l ∧ l ≤ 48) && (decide ((xs.length : Int) ≤ l) || (!u && decide (a + (((xs.length - 1) / l.toNat * l.toNat : Nat) : Int) ≤ 255)))) := rfl
    have no : cutB ⟨f, t, p, h, i, a, m, u, xs⟩ l = false → pRows (cutL ⟨f, t, p, h, i, a, m, u, xs⟩ l) = [] := fun e => by rw [cutL, e]; rfl
    by_cases ok : pkB f t p h i a m u xs.length = true
    · rw [if_pos (by simp [ok])]
      have hr : (0 ≤ a ∧ a ≤ 255) ∧ xs.length ≤ 48 := by
        simp only [pkB, pkR, Bool.and_eq_true, decide_eq_true_eq] at ok
        omega
      by_cases l1 : l < 1
      · have e : cutB ⟨f, t, p, h, i, a, m, u, xs⟩ l = false := by rw [hB, decide_eq_false (p := 1 ≤ l ∧ l ≤ 48) (by omega)]; simp
        rw [if_neg (by omega), e, no e]
        exact ⟨_, [(0, none)], rfl, ⟨⟨⟨rfl, rfl, rfl⟩, trivial⟩, ⟨⟨by omega, rfl, rfl⟩, rfl, rfl, rfl, trivial⟩, by simp [rn, hpAt]⟩⟩
      · rw [if_pos l1]
        by_cases l2 : l > 48
        · have e : cutB ⟨f, t, p, h, i, a, m, u, xs⟩ l = false := by rw [hB, decide_eq_false (p := 1 ≤ l ∧ l ≤ 48) (by omega)]; simp
          rw [if_pos l2, e, no e]
          exact ⟨_, [(0, none)], rfl, ⟨⟨⟨rfl, rfl, rfl⟩, trivial⟩, ⟨⟨by omega, rfl, rfl⟩, rfl, rfl, rfl, trivial⟩, by simp [rn, hpAt]⟩⟩
        · rw [if_neg l2]
          by_cases l3 : (xs.length : Int) ≤ l
          · have e : cutB ⟨f, t, p, h, i, a, m, u, xs⟩ l = true := by rw [hB, ok, decide_eq_true (p := 1 ≤ l ∧ l ≤ 48) (by omega), decide_eq_true (p := (xs.length : Int) ≤ l) l3]; rfl
            rw [if_pos l3, cutL, e, if_pos rfl, if_pos l3]
            exact ⟨⟨_, rfl, hl⟩, _, [(0, some _)], rfl, ⟨⟨⟨rfl, rfl, rfl⟩, trivial⟩, ⟨.inl rfl, rfl, rfl, rfl, trivial⟩, by simp [rn, hpAt]⟩⟩
          · rw [if_neg l3]
            obtain ⟨n, rfl⟩ : ∃ n : Nat, l = (n : Int) := ⟨l.toNat, by omega⟩
            have hq : (((xs.length - 1 : Nat) : Int).tdiv (n : Int)) = (((xs.length - 1) / n : Nat) : Int) := (Int.ofNat_tdiv _ _).symm
            have hqn : (xs.length - 1) / n * n ≤ xs.length - 1 := Nat.div_mul_le_self _ _
            have hqq : (xs.length - 1) / n ≤ xs.length - 1 := Nat.div_le_self _ _
            have w1 : IntKind.i64.wrap ((xs.length : Int) - 1) = ((xs.length - 1 : Nat) : Int) := by rw [wrap_id] <;> omega
            rw [Int.toNat_natCast] at hB
            rw [w1, hq]
            generalize (xs.length - 1) / n = qq at hB hqn hqq
            have w2 : IntKind.i64.wrap (qq : Int) = (qq : Int) := by rw [wrap_id] <;> omega
            have w3 : IntKind.i64.wrap ((qq : Int) * (n : Int)) = ((qq * n : Nat) : Int) := by rw [← Int.natCast_mul, wrap_id] <;> omega
            have w4 : IntKind.i64.wrap (a + ((qq * n : Nat) : Int)) = a + ((qq * n : Nat) : Int) := by rw [wrap_id] <;> omega
            rw [w2, w3, w4]
            refine ⟨by omega, ?_⟩
            rw [ok, decide_eq_true (p := 1 ≤ (n : Int) ∧ (n : Int) ≤ 48) (by omega), decide_eq_false (p := (xs.length : Int) ≤ (n : Int)) l3] at hB
            cases u with
            | true =>
              have e : cutB ⟨f, t, p, h, i, a, m, true, xs⟩ (n : Int) = false := by rw [hB]; rfl
              rw [if_neg (by simp), e, no e]
              exact ⟨_, [(0, none)], rfl, ⟨⟨⟨rfl, rfl, rfl⟩, trivial⟩, ⟨⟨by omega, rfl, rfl⟩, rfl, rfl, rfl, trivial⟩, by simp [rn, hpAt]⟩⟩
            | false =>
              rw [if_pos rfl]
              by_cases l4 : a + ((qq * n : Nat) : Int) ≤ 255
              · have e : cutB ⟨f, t, p, h, i, a, m, false, xs⟩ (n : Int) = true := by rw [hB, decide_eq_true l4]; rfl
                rw [if_neg (by simp [inZ]; omega), cutL, e, if_pos rfl, if_neg l3]
                exact ⟨⟨⟨_, rfl, hl⟩, ⟨by omega, by omega⟩, by omega, by omega⟩, _, [(0, some _)], rfl, ⟨⟨⟨rfl, rfl, rfl⟩, trivial⟩, ⟨.inl rfl, rfl, rfl, rfl, trivial⟩, by simp [rn, hpAt]⟩⟩
              · have e : cutB ⟨f, t, p, h, i, a, m, false, xs⟩ (n : Int) = false := by rw [hB, decide_eq_false l4]; rfl
                rw [if_pos (by simp [inZ]; omega), e, no e]
                exact ⟨_, [(0, none)], rfl, ⟨⟨⟨rfl, rfl, rfl⟩, trivial⟩, ⟨⟨by omega, rfl, rfl⟩, rfl, rfl, rfl, trivial⟩, by simp [rn, hpAt]⟩⟩
    · have e : cutB ⟨f, t, p, h, i, a, m, u, xs⟩ l = false := by rw [hB, Bool.eq_false_iff.2 ok]; rfl
      rw [if_neg (by simp [ok]), e, no e]
      exact ⟨_, [(0, none)], rfl, ⟨⟨⟨rfl, rfl, rfl⟩, trivial⟩, ⟨⟨by omega, rfl, rfl⟩, rfl, rfl, rfl, trivial⟩, by simp [rn, hpAt]⟩⟩
  · cases hg
end Go.Proofs.Ytegffkmakkccaaa
