import Derived.Test.YtegffkmakkccaaaXa
namespace Go.Proofs.Ytegffkmakkccaaa
open Go.RowKit
set_option linter.unusedSimpArgs false
set_option linter.unusedVariables false
theorem piece_one {x : Pk} {n : Nat} (h : x.d.length ≤ n) : pieceAt x (n * 0) n = x := by
  have e : decide ((n : Int) < (x.d.length : Int) - ((n * 0 : Nat) : Int)) = false := decide_eq_false (by omega)
  rw [pieceAt, e, Bool.or_false, Nat.mul_zero, List.drop_zero, List.take_of_length_le h]
  simp
theorem piecesK_one (x : Pk) (n : Nat) : piecesK x n 1 = [pieceAt x (n * 0) n] := rfl
theorem cut_last {n len k : Nat} (hn : 1 ≤ n) (h : n * k < len) : n * k ≤ (len - 1) / n * n := by
  have : k ≤ (len - 1) / n := (Nat.le_div_iff_mul_le (by omega)).2 (by rw [Nat.mul_comm]; omega)
  rw [Nat.mul_comm n k]
  exact Nat.mul_le_mul_right _ this
theorem cut_end {n len k : Nat} (hn : 1 ≤ n) (hk : 0 < k) (h1 : n * (k - 1) < len) (h2 : ¬ n * k < len) : (len - 1) / n = k - 1 := by
  refine (Nat.div_eq_iff (by omega)).2 ⟨?_, ?_⟩
  · rw [Nat.mul_comm]; omega
  · obtain ⟨j, rfl⟩ : ∃ j, k = j + 1 := ⟨k - 1, by omega⟩
    rw [Nat.mul_succ] at h2
    rw [Nat.add_sub_cancel, Nat.mul_comm j n]
    omega
def g_sPacketCut : PC := fun args => match args with
  | [.agg [.v (.int .i64 f), .v (.int .i64 t), .v (.int .i64 p), .v (.int .i64 h), .v (.int .i64 i), .v (.int .i64 a), .v (.bool m), .v (.bool u), .l _ rows], .v (.int .i64 l)] => some (∃ xs, rows = rowsOfBytes xs ∧ xs.length ≤ 1048576, .tup [.l 9 (pRows (cutL ⟨f, t, p, h, i, a, m, u, bytesOfRows rows⟩ l)), .v (.bool (cutB ⟨f, t, p, h, i, a, m, u, bytesOfRows rows⟩ l))], [])
  | _ => none
def spc : List (FuncId × Abs) := [(64, pureAbs g_packetOk), (65, pureAbs g_l1In)]
theorem spc_ok : ∀ p ∈ spc, CallOk Try.prog p.1 p.2 := by
  intro p hp
  simp only [spc, List.mem_cons, List.not_mem_nil, or_false] at hp
  rcases hp with rfl | rfl
  · exact specPacketOk_ok.call
  · exact l1In_ok.call
set_option maxHeartbeats 4000000 in
set_option maxRecDepth 100000 in
theorem specPacketCut_ok : OwnOk Try.prog 113 (ocOf g_sPacketCut) := by
  refine OwnOk.of_vcD (G := spc) spc_ok mixed Try.func113 (by kernel_rfl) rfl ?_
  intro args cnd r bs hg hc
  unfold g_sPacketCut at hg
  split at hg
  · rename_i f t p h i a m u sz rows l
    cases hg
    obtain ⟨xs, rfl, hl⟩ := hc
    rw [bytesOf_rows]
    refine ⟨⟨rfl, by simp [AV.ids, AV.ids.idsL]⟩, [.agg [.v (.int .i64 f), .v (.int .i64 t), .v (.int .i64 p), .v (.int .i64 h), .v (.int .i64 i), .v (.int .i64 a), .v (.bool m), .v (.bool u), .l 1 (rowsOfBytes xs)], .v (.int .i64 l)], rfl, fun w Z s vs h => CvL.ok (.cons (.cons (.refl _) (.cons (.refl _) (.cons (.refl _) (.cons (.refl _) (.cons (.refl _) (.cons (.refl _) (.cons (.refl _) (.cons (.refl _) (.cons (.l _ _ _ (rowsOf_w xs)) .nil))))))))) (.cons (.refl _) .nil)) h, ?_⟩
    simp (maxSteps := 3000000) only [Try.f113, spc, g_packetOk, g_l1In, rowsOf_len, bytesOf_rows, tYs, evL, implies_true, oMin, oCopy, oBin, oUn, oLoadKid, oStoreTree, oField, oExtract, oNil, oSliceQ, oLoadRow, takeCells, TS.atRow, TS.ex, treeMode, AV.isOwn, TK.isSl, nilTk, nilsB, oLenQ, oLen, nodupB, treeOf, kidAbs, kidRows, TK.isCell, D.toL, oLoad, oStore, oMake, oIndexAddr, ↓reduceIte, reduceCtorEq, Nat.reduceBEq, Nat.reduceAdd, Nat.reduceMul, Nat.reduceLT, Nat.reduceSub, Nat.reduceLeDiff, Nat.reduceEqDiff, Nat.reduceBneDiff, Int.reduceToNat, decide_eq_true_eq, decide_eq_false_iff_not, beq_iff_eq, Int.toNat_natCast, doneD_ret, doneD_normal]
    have hB : cutB ⟨f, t, p, h, i, a, m, u, xs⟩ l = (pkB f t p h i a m u xs.length && decide (1 ≤ l ∧ l ≤ 48) && (decide ((xs.length : Int) ≤ l) || (!u && decide (a + (((xs.length - 1) / l.toNat * l.toNat : Nat) : Int) ≤ 255)))) := rfl
    have no : cutB ⟨f, t, p, h, i, a, m, u, xs⟩ l = false → pRows (cutL ⟨f, t, p, h, i, a, m, u, xs⟩ l) = [] := fun e => by rw [cutL, e]; rfl
    cases ok : pkB f t p h i a m u xs.length with
    | false =>
      have e : cutB ⟨f, t, p, h, i, a, m, u, xs⟩ l = false := by rw [hB, ok]; rfl
      rw [e, no e]
      first | rw [if_neg (by decide)] | rw [if_pos (by decide)]
      exact ⟨_, rfl, rfl⟩
    | true =>
      first | rw [if_pos (by decide)] | rw [if_neg (by decide)]
      have hr : (0 ≤ a ∧ a ≤ 255) ∧ xs.length ≤ 48 := by
        simp only [pkB, pkR, Bool.and_eq_true, decide_eq_true_eq] at ok
        omega
      by_cases hl1 : 1 ≤ l ∧ l ≤ 48
      · obtain ⟨n, rfl⟩ : ∃ n : Nat, l = (n : Int) := ⟨l.toNat, by omega⟩
        rw [ok, decide_eq_true hl1, Int.toNat_natCast, Bool.true_and, Bool.true_and] at hB
        have hz : inZ (n : Int) 1 48 = true := by rw [inZ, decide_eq_true hl1]
        rw [hz]
        first | rw [if_pos (by decide)] | rw [if_neg (by decide)]
        by_cases hbig : (xs.length : Int) > (n : Int)
        · rw [if_pos hbig]
          cases u with
          | true =>
            have e : cutB ⟨f, t, p, h, i, a, m, true, xs⟩ n = false := by rw [hB, decide_eq_false (by omega)]; rfl
            rw [e, no e]
            first | rw [if_pos rfl] | rw [if_neg (by decide)]
            exact ⟨_, rfl, rfl⟩
          | false =>
            first | rw [if_neg (by decide)] | rw [if_pos rfl]
            refine e_loop _ _ _ _ _ _ _ _ (fun k : Nat => [.any, .v (.int .i64 (n : Int)), .ptr 0 0, .any, .any, .any, .own 1, .v (.int .i64 ((n * k : Nat) : Int))] ++ List.replicate (Try.f113.ntmps - 8) .any) (fun k => [(0, .var 29 [.v (.int .i64 f), .v (.int .i64 t), .v (.int .i64 p), .v (.int .i64 h), .v (.int .i64 i), .v (.int .i64 a), .v (.bool m), .v (.bool false), .l 1 (rowsOfBytes xs)]), (1, .sl 29 9 (pRows (piecesK ⟨f, t, p, h, i, a, m, false, xs⟩ n k)))]) (fun k => k ≤ xs.length + 1 ∧ (0 < k → a + ((n * (k - 1) : Nat) : Int) ≤ 255 ∧ (n * (k - 1) < xs.length ∨ k = 1))) (fun k => xs.length + 1 - k) 2 (fun k => by simp) ?_ fun k hk' => ?_
            · exact ⟨0, [(0, some 0), (1, some _)], ⟨Nat.zero_le _, fun h => by omega⟩, ⟨⟨trivial, ⟨rfl, rfl, rfl⟩, ⟨rfl, rfl, rfl⟩, trivial, trivial, trivial, ⟨rfl, rfl, rfl⟩, ⟨rfl, rfl, rfl⟩, fitT_rep _ _ rfl⟩, ⟨.inl rfl, rfl, rfl, rfl, .inl rfl, rfl, rfl, rfl, trivial⟩, by simp [rn, hpAt]⟩, by simp [keepIds]⟩
            obtain ⟨hk1, hk2⟩ := hk'
            have hpl : (pRows (piecesK ⟨f, t, p, h, i, a, m, false, xs⟩ n k)).length = k := by simp [pRows_len, piecesK]
            by_cases hk : k = 0 ∨ n * k < xs.length
            · have hnk : n * k < xs.length + 1 := by
                rcases hk with rfl | hk
                · omega
                · omega
              have hkl : k ≤ xs.length := by
                rcases hk with rfl | hk
                · omega
                · have : 1 * k ≤ n * k := Nat.mul_le_mul_right _ (by omega)
                  omega
              have w1 : IntKind.i64.wrap (((n * k : Nat) : Int) + (n : Int)) = ((n * (k + 1) : Nat) : Int) := by rw [Nat.mul_succ, wrap_id] <;> omega
              have wa : IntKind.i64.wrap (a + ((n * k : Nat) : Int)) = a + ((n * k : Nat) : Int) := by rw [wrap_id] <;> omega
              have hms : n * (k + 1) = n * k + n := Nat.mul_succ n k
              have hle : n * k ≤ xs.length := by
                rcases hk with rfl | hk
                · simp
                · omega
              obtain ⟨z, hE, hz2⟩ : ∃ z : Nat, (if (xs.length : Int) < ((n * (k + 1) : Nat) : Int) then (xs.length : Int) else ((n * (k + 1) : Nat) : Int)) = (z : Int) ∧ z = min (n * (k + 1)) xs.length := by
                by_cases c : (xs.length : Int) < ((n * (k + 1) : Nat) : Int)
                · exact ⟨xs.length, if_pos c, by omega⟩
                · exact ⟨n * (k + 1), if_neg c, by omega⟩
              have hdt : List.drop (n * k) (List.take z xs) = List.take n (List.drop (n * k) xs) := by
                rw [List.drop_take, hz2]
                by_cases c : n * (k + 1) ≤ xs.length
                · congr 1; omega
                · rw [List.take_of_length_le (by rw [List.length_drop]; omega), List.take_of_length_le (by rw [List.length_drop]; omega)]
              have hdl : (List.take n (List.drop (n * k) xs)).length ≤ xs.length := by rw [List.length_take, List.length_drop]; omega
              have hlt2 : ((z : Int) < (xs.length : Int)) = ((n : Int) < (xs.length : Int) - ((n * k : Nat) : Int)) := propext (by constructor <;> intro h <;> omega)
              by_cases hk0 : k = 0
              · have gz : (((n * k : Nat) : Int) == 0) = true := by subst hk0; simp
                have gz2 : (((n * k : Nat) : Int) = 0) = True := eq_true (by subst hk0; simp)
                cases m with
                | false =>
                  have e1 : pRows (piecesK ⟨f, t, p, h, i, a, false, false, xs⟩ n k) ++ [[D.v (.int .i64 f), D.v (.int .i64 t), D.v (.int .i64 p), D.v (.int .i64 h), D.v (.int .i64 i), D.v (.int .i64 (a + ((n * k : Nat) : Int))), D.v (.bool (decide ((n : Int) < (xs.length : Int) - ((n * k : Nat) : Int)))), D.v (.bool false), D.l 1 (rowsOfBytes ((xs.drop (n * k)).take n))]] = pRows (piecesK ⟨f, t, p, h, i, a, false, false, xs⟩ n (k + 1)) := by
                    rw [piecesK, piecesK, List.range_succ, List.map_append, ← pRows_app]; rfl
                  simp (maxSteps := 3000000) only [Try.f113, spc, rowsOf_len, bytesOf_rows, rowsOf_take, rowsOf_drop, gz, gz2, hpl, w1, wa, hE, hdt, hlt2, e1, D.toI, tYs, evL, implies_true, oMin, oCopy, oBin, oUn, oLoadKid, oStoreTree, oField, oExtract, oNil, oSliceQ, oLoadRow, takeCells, TS.atRow, TS.ex, treeMode, AV.isOwn, TK.isSl, nilTk, nilsB, oLenQ, oLen, nodupB, treeOf, kidAbs, kidRows, TK.isCell, D.toL, oLoad, oStore, oMake, oIndexAddr, ↓reduceIte, reduceCtorEq, Nat.reduceBEq, Nat.reduceAdd, Nat.reduceMul, Nat.reduceLT, Nat.reduceSub, Nat.reduceLeDiff, Nat.reduceEqDiff, Nat.reduceBneDiff, Int.reduceToNat, decide_eq_true_eq, decide_eq_false_iff_not, beq_iff_eq, Int.toNat_natCast, loopK_normal, loopK_exit, loopK_ret, doneD_ret, doneD_normal]
                  refine ⟨⟨by omega, ⟨by omega, by omega⟩, by omega⟩, ⟨by omega, by omega, rowsOf_w _⟩, ?_⟩
                  by_cases g255 : a + ((n * k : Nat) : Int) > 255
                  · rw [if_pos g255]
                    have e : cutB ⟨f, t, p, h, i, a, false, false, xs⟩ n = false := by
                      rcases hk with rfl | hk
                      · exfalso; simp at g255; omega
                      · have hcl := cut_last (by omega) hk
                        have hnl : ¬ ((xs.length : Int) ≤ (n : Int)) := by
                          intro hle
                          have : k = 0 := by
                            rcases Nat.eq_zero_or_pos k with h | h
                            · exact h
                            · have : n * 1 ≤ n * k := Nat.mul_le_mul_left _ h
                              omega
                          subst this
                          simp at g255; omega
                        rw [hB, decide_eq_false hnl, decide_eq_false (by omega), Bool.and_false]; rfl
                    rw [e, no e]
                    exact ⟨_, rfl, rfl⟩
                  · rw [if_neg g255]
                    refine ⟨⟨by omega, by omega, by simp⟩, k + 1, [(0, some 0), (1, some _)], ⟨by omega, fun _ => ⟨by rw [Nat.add_sub_cancel]; omega, by rw [Nat.add_sub_cancel]; omega⟩⟩, by omega, ⟨⟨trivial, ⟨rfl, rfl, rfl⟩, ⟨rfl, rfl, rfl⟩, trivial, trivial, trivial, ⟨rfl, rfl, rfl⟩, ⟨rfl, rfl, rfl⟩, fitT_rep _ _ rfl⟩, ⟨.inl rfl, rfl, rfl, rfl, .inl rfl, rfl, rfl, rfl, trivial⟩, by simp [rn, hpAt]⟩, by simp [keepIds]⟩
                | true =>
                  have e1 : pRows (piecesK ⟨f, t, p, h, i, a, true, false, xs⟩ n k) ++ [[D.v (.int .i64 f), D.v (.int .i64 t), D.v (.int .i64 p), D.v (.int .i64 h), D.v (.int .i64 i), D.v (.int .i64 (a + ((n * k : Nat) : Int))), D.v (.bool (true)), D.v (.bool false), D.l 1 (rowsOfBytes ((xs.drop (n * k)).take n))]] = pRows (piecesK ⟨f, t, p, h, i, a, true, false, xs⟩ n (k + 1)) := by
                    rw [piecesK, piecesK, List.range_succ, List.map_append, ← pRows_app]; rfl
                  simp (maxSteps := 3000000) only [Try.f113, spc, rowsOf_len, bytesOf_rows, rowsOf_take, rowsOf_drop, gz, gz2, hpl, w1, wa, hE, hdt, hlt2, e1, D.toI, tYs, evL, implies_true, oMin, oCopy, oBin, oUn, oLoadKid, oStoreTree, oField, oExtract, oNil, oSliceQ, oLoadRow, takeCells, TS.atRow, TS.ex, treeMode, AV.isOwn, TK.isSl, nilTk, nilsB, oLenQ, oLen, nodupB, treeOf, kidAbs, kidRows, TK.isCell, D.toL, oLoad, oStore, oMake, oIndexAddr, ↓reduceIte, reduceCtorEq, Nat.reduceBEq, Nat.reduceAdd, Nat.reduceMul, Nat.reduceLT, Nat.reduceSub, Nat.reduceLeDiff, Nat.reduceEqDiff, Nat.reduceBneDiff, Int.reduceToNat, decide_eq_true_eq, decide_eq_false_iff_not, beq_iff_eq, Int.toNat_natCast, loopK_normal, loopK_exit, loopK_ret, doneD_ret, doneD_normal]
                  refine ⟨⟨by omega, ⟨by omega, by omega⟩, by omega⟩, ⟨by omega, by omega, rowsOf_w _⟩, ?_⟩
                  by_cases g255 : a + ((n * k : Nat) : Int) > 255
                  · rw [if_pos g255]
                    have e : cutB ⟨f, t, p, h, i, a, true, false, xs⟩ n = false := by
                      rcases hk with rfl | hk
                      · exfalso; simp at g255; omega
                      · have hcl := cut_last (by omega) hk
                        have hnl : ¬ ((xs.length : Int) ≤ (n : Int)) := by
                          intro hle
                          have : k = 0 := by
                            rcases Nat.eq_zero_or_pos k with h | h
                            · exact h
                            · have : n * 1 ≤ n * k := Nat.mul_le_mul_left _ h
                              omega
                          subst this
                          simp at g255; omega
                        rw [hB, decide_eq_false hnl, decide_eq_false (by omega), Bool.and_false]; rfl
                    rw [e, no e]
                    exact ⟨_, rfl, rfl⟩
                  · rw [if_neg g255]
                    refine ⟨⟨by omega, by omega, by simp⟩, k + 1, [(0, some 0), (1, some _)], ⟨by omega, fun _ => ⟨by rw [Nat.add_sub_cancel]; omega, by rw [Nat.add_sub_cancel]; omega⟩⟩, by omega, ⟨⟨trivial, ⟨rfl, rfl, rfl⟩, ⟨rfl, rfl, rfl⟩, trivial, trivial, trivial, ⟨rfl, rfl, rfl⟩, ⟨rfl, rfl, rfl⟩, fitT_rep _ _ rfl⟩, ⟨.inl rfl, rfl, rfl, rfl, .inl rfl, rfl, rfl, rfl, trivial⟩, by simp [rn, hpAt]⟩, by simp [keepIds]⟩
              · have hnp : 1 * 1 ≤ n * k := Nat.mul_le_mul (by omega) (by omega)
                have gz : (((n * k : Nat) : Int) == 0) = false := by rw [beq_eq_false_iff_ne]; omega
                have gz2 : (((n * k : Nat) : Int) = 0) = False := eq_false (by omega)
                have glt : (((n * k : Nat) : Int) < (xs.length : Int)) = True := eq_true (by omega)
                cases m with
                | false =>
                  have e1 : pRows (piecesK ⟨f, t, p, h, i, a, false, false, xs⟩ n k) ++ [[D.v (.int .i64 f), D.v (.int .i64 t), D.v (.int .i64 p), D.v (.int .i64 h), D.v (.int .i64 i), D.v (.int .i64 (a + ((n * k : Nat) : Int))), D.v (.bool (decide ((n : Int) < (xs.length : Int) - ((n * k : Nat) : Int)))), D.v (.bool false), D.l 1 (rowsOfBytes ((xs.drop (n * k)).take n))]] = pRows (piecesK ⟨f, t, p, h, i, a, false, false, xs⟩ n (k + 1)) := by
                    rw [piecesK, piecesK, List.range_succ, List.map_append, ← pRows_app]; rfl
                  simp (maxSteps := 3000000) only [Try.f113, spc, rowsOf_len, bytesOf_rows, rowsOf_take, rowsOf_drop, gz, gz2, glt, hpl, w1, wa, hE, hdt, hlt2, e1, D.toI, tYs, evL, implies_true, oMin, oCopy, oBin, oUn, oLoadKid, oStoreTree, oField, oExtract, oNil, oSliceQ, oLoadRow, takeCells, TS.atRow, TS.ex, treeMode, AV.isOwn, TK.isSl, nilTk, nilsB, oLenQ, oLen, nodupB, treeOf, kidAbs, kidRows, TK.isCell, D.toL, oLoad, oStore, oMake, oIndexAddr, ↓reduceIte, reduceCtorEq, Nat.reduceBEq, Nat.reduceAdd, Nat.reduceMul, Nat.reduceLT, Nat.reduceSub, Nat.reduceLeDiff, Nat.reduceEqDiff, Nat.reduceBneDiff, Int.reduceToNat, decide_eq_true_eq, decide_eq_false_iff_not, beq_iff_eq, Int.toNat_natCast, loopK_normal, loopK_exit, loopK_ret, doneD_ret, doneD_normal]
                  refine ⟨⟨by omega, ⟨by omega, by omega⟩, by omega⟩, ⟨by omega, by omega, rowsOf_w _⟩, ?_⟩
                  by_cases g255 : a + ((n * k : Nat) : Int) > 255
                  · rw [if_pos g255]
                    have e : cutB ⟨f, t, p, h, i, a, false, false, xs⟩ n = false := by
                      rcases hk with rfl | hk
                      · exfalso; simp at g255; omega
                      · have hcl := cut_last (by omega) hk
                        have hnl : ¬ ((xs.length : Int) ≤ (n : Int)) := by
                          intro hle
                          have : k = 0 := by
                            rcases Nat.eq_zero_or_pos k with h | h
                            · exact h
                            · have : n * 1 ≤ n * k := Nat.mul_le_mul_left _ h
                              omega
                          subst this
                          simp at g255; omega
                        rw [hB, decide_eq_false hnl, decide_eq_false (by omega), Bool.and_false]; rfl
                    rw [e, no e]
                    exact ⟨_, rfl, rfl⟩
                  · rw [if_neg g255]
                    refine ⟨⟨by omega, by omega, by simp⟩, k + 1, [(0, some 0), (1, some _)], ⟨by omega, fun _ => ⟨by rw [Nat.add_sub_cancel]; omega, by rw [Nat.add_sub_cancel]; omega⟩⟩, by omega, ⟨⟨trivial, ⟨rfl, rfl, rfl⟩, ⟨rfl, rfl, rfl⟩, trivial, trivial, trivial, ⟨rfl, rfl, rfl⟩, ⟨rfl, rfl, rfl⟩, fitT_rep _ _ rfl⟩, ⟨.inl rfl, rfl, rfl, rfl, .inl rfl, rfl, rfl, rfl, trivial⟩, by simp [rn, hpAt]⟩, by simp [keepIds]⟩
                | true =>
                  have e1 : pRows (piecesK ⟨f, t, p, h, i, a, true, false, xs⟩ n k) ++ [[D.v (.int .i64 f), D.v (.int .i64 t), D.v (.int .i64 p), D.v (.int .i64 h), D.v (.int .i64 i), D.v (.int .i64 (a + ((n * k : Nat) : Int))), D.v (.bool (true)), D.v (.bool false), D.l 1 (rowsOfBytes ((xs.drop (n * k)).take n))]] = pRows (piecesK ⟨f, t, p, h, i, a, true, false, xs⟩ n (k + 1)) := by
                    rw [piecesK, piecesK, List.range_succ, List.map_append, ← pRows_app]; rfl
                  simp (maxSteps := 3000000) only [Try.f113, spc, rowsOf_len, bytesOf_rows, rowsOf_take, rowsOf_drop, gz, gz2, glt, hpl, w1, wa, hE, hdt, hlt2, e1, D.toI, tYs, evL, implies_true, oMin, oCopy, oBin, oUn, oLoadKid, oStoreTree, oField, oExtract, oNil, oSliceQ, oLoadRow, takeCells, TS.atRow, TS.ex, treeMode, AV.isOwn, TK.isSl, nilTk, nilsB, oLenQ, oLen, nodupB, treeOf, kidAbs, kidRows, TK.isCell, D.toL, oLoad, oStore, oMake, oIndexAddr, ↓reduceIte, reduceCtorEq, Nat.reduceBEq, Nat.reduceAdd, Nat.reduceMul, Nat.reduceLT, Nat.reduceSub, Nat.reduceLeDiff, Nat.reduceEqDiff, Nat.reduceBneDiff, Int.reduceToNat, decide_eq_true_eq, decide_eq_false_iff_not, beq_iff_eq, Int.toNat_natCast, loopK_normal, loopK_exit, loopK_ret, doneD_ret, doneD_normal]
                  refine ⟨⟨by omega, ⟨by omega, by omega⟩, by omega⟩, ⟨by omega, by omega, rowsOf_w _⟩, ?_⟩
                  by_cases g255 : a + ((n * k : Nat) : Int) > 255
                  · rw [if_pos g255]
                    have e : cutB ⟨f, t, p, h, i, a, true, false, xs⟩ n = false := by
                      rcases hk with rfl | hk
                      · exfalso; simp at g255; omega
                      · have hcl := cut_last (by omega) hk
                        have hnl : ¬ ((xs.length : Int) ≤ (n : Int)) := by
                          intro hle
                          have : k = 0 := by
                            rcases Nat.eq_zero_or_pos k with h | h
                            · exact h
                            · have : n * 1 ≤ n * k := Nat.mul_le_mul_left _ h
                              omega
                          subst this
                          simp at g255; omega
                        rw [hB, decide_eq_false hnl, decide_eq_false (by omega), Bool.and_false]; rfl
                    rw [e, no e]
                    exact ⟨_, rfl, rfl⟩
                  · rw [if_neg g255]
                    refine ⟨⟨by omega, by omega, by simp⟩, k + 1, [(0, some 0), (1, some _)], ⟨by omega, fun _ => ⟨by rw [Nat.add_sub_cancel]; omega, by rw [Nat.add_sub_cancel]; omega⟩⟩, by omega, ⟨⟨trivial, ⟨rfl, rfl, rfl⟩, ⟨rfl, rfl, rfl⟩, trivial, trivial, trivial, ⟨rfl, rfl, rfl⟩, ⟨rfl, rfl, rfl⟩, fitT_rep _ _ rfl⟩, ⟨.inl rfl, rfl, rfl, rfl, .inl rfl, rfl, rfl, rfl, trivial⟩, by simp [rn, hpAt]⟩, by simp [keepIds]⟩
            · have hk0 : 0 < k := by omega
              obtain ⟨h2a, h2b⟩ := hk2 hk0
              have hnp : 1 * 1 ≤ n * k := Nat.mul_le_mul (by omega) (by omega)
              have gz : (((n * k : Nat) : Int) == 0) = false := by rw [beq_eq_false_iff_ne]; omega
              have gz2 : (((n * k : Nat) : Int) = 0) = False := eq_false (by omega)
              have glt : (((n * k : Nat) : Int) < (xs.length : Int)) = False := eq_false (by omega)
              simp (maxSteps := 3000000) only [Try.f113, spc, rowsOf_len, bytesOf_rows, gz, gz2, glt, D.toI, tYs, evL, implies_true, oMin, oCopy, oBin, oUn, oLoadKid, oStoreTree, oField, oExtract, oNil, oSliceQ, oLoadRow, takeCells, TS.atRow, TS.ex, treeMode, AV.isOwn, TK.isSl, nilTk, nilsB, oLenQ, oLen, nodupB, treeOf, kidAbs, kidRows, TK.isCell, D.toL, oLoad, oStore, oMake, oIndexAddr, ↓reduceIte, reduceCtorEq, Nat.reduceBEq, Nat.reduceAdd, Nat.reduceMul, Nat.reduceLT, Nat.reduceSub, Nat.reduceLeDiff, Nat.reduceEqDiff, Nat.reduceBneDiff, Int.reduceToNat, decide_eq_true_eq, decide_eq_false_iff_not, beq_iff_eq, Int.toNat_natCast, loopK_normal, loopK_exit, loopK_ret, doneD_ret, doneD_normal]
              have hcut : cutB ⟨f, t, p, h, i, a, m, false, xs⟩ n = true ∧ cutL ⟨f, t, p, h, i, a, m, false, xs⟩ n = piecesK ⟨f, t, p, h, i, a, m, false, xs⟩ n k := by
                by_cases hln : (xs.length : Int) ≤ (n : Int)
                · have e : cutB ⟨f, t, p, h, i, a, m, false, xs⟩ n = true := by rw [hB, decide_eq_true hln]; rfl
                  have k1 : k = 1 := by
                    rcases h2b with h2b | h2b
                    · rcases Nat.eq_zero_or_pos (k - 1) with h | h
                      · omega
                      · have : n * 1 ≤ n * (k - 1) := Nat.mul_le_mul_left _ h
                        omega
                    · exact h2b
                  refine ⟨e, ?_⟩
                  rw [cutL, if_pos e, if_pos hln, k1, piecesK_one, piece_one (by dsimp only; omega)]
                · have h3 : n * (k - 1) < xs.length := by
                    rcases h2b with h2b | h2b
                    · exact h2b
                    · subst h2b; simp at hk; omega
                  have h4 := cut_end (by omega) hk0 h3 (by omega)
                  have e : cutB ⟨f, t, p, h, i, a, m, false, xs⟩ n = true := by
                    rw [hB, decide_eq_false hln, h4, decide_eq_true (by rw [Nat.mul_comm]; exact h2a)]; rfl
                  refine ⟨e, ?_⟩
                  have hN : pieceN xs.length n = k := by
                    have p1 := (pieceN_lt (n := xs.length) (l := n) (k := k - 1) (by omega)).1 h3
                    have p2 := (not_congr (pieceN_lt (n := xs.length) (l := n) (k := k) (by omega))).1 (by omega)
                    omega
                  rw [cutL, if_pos e, if_neg hln, Int.toNat_natCast, hN]
              rw [hcut.1, hcut.2]
              exact ⟨_, rfl, rfl⟩
        · rw [if_neg hbig]
          refine e_loop _ _ _ _ _ _ _ _ (fun k : Nat => [.any, .v (.int .i64 (n : Int)), .ptr 0 0, .any, .any, .any, .own 1, .v (.int .i64 ((n * k : Nat) : Int))] ++ List.replicate (Try.f113.ntmps - 8) .any) (fun k => [(0, .var 29 [.v (.int .i64 f), .v (.int .i64 t), .v (.int .i64 p), .v (.int .i64 h), .v (.int .i64 i), .v (.int .i64 a), .v (.bool m), .v (.bool u), .l 1 (rowsOfBytes xs)]), (1, .sl 29 9 (pRows (piecesK ⟨f, t, p, h, i, a, m, u, xs⟩ n k)))]) (fun k => k ≤ xs.length + 1 ∧ (0 < k → a + ((n * (k - 1) : Nat) : Int) ≤ 255 ∧ (n * (k - 1) < xs.length ∨ k = 1))) (fun k => xs.length + 1 - k) 2 (fun k => by simp) ?_ fun k hk' => ?_
          · exact ⟨0, [(0, some 0), (1, some _)], ⟨Nat.zero_le _, fun h => by omega⟩, ⟨⟨trivial, ⟨rfl, rfl, rfl⟩, ⟨rfl, rfl, rfl⟩, trivial, trivial, trivial, ⟨rfl, rfl, rfl⟩, ⟨rfl, rfl, rfl⟩, fitT_rep _ _ rfl⟩, ⟨.inl rfl, rfl, rfl, rfl, .inl rfl, rfl, rfl, rfl, trivial⟩, by simp [rn, hpAt]⟩, by simp [keepIds]⟩
          obtain ⟨hk1, hk2⟩ := hk'
          have hpl : (pRows (piecesK ⟨f, t, p, h, i, a, m, u, xs⟩ n k)).length = k := by simp [pRows_len, piecesK]
          by_cases hk : k = 0 ∨ n * k < xs.length
          · have hnk : n * k < xs.length + 1 := by
              rcases hk with rfl | hk
              · omega
              · omega
            have hkl : k ≤ xs.length := by
              rcases hk with rfl | hk
              · omega
              · have : 1 * k ≤ n * k := Nat.mul_le_mul_right _ (by omega)
                omega
            have w1 : IntKind.i64.wrap (((n * k : Nat) : Int) + (n : Int)) = ((n * (k + 1) : Nat) : Int) := by rw [Nat.mul_succ, wrap_id] <;> omega
            have wa : IntKind.i64.wrap (a + ((n * k : Nat) : Int)) = a + ((n * k : Nat) : Int) := by rw [wrap_id] <;> omega
            have hms : n * (k + 1) = n * k + n := Nat.mul_succ n k
            have hle : n * k ≤ xs.length := by
              rcases hk with rfl | hk
              · simp
              · omega
            obtain ⟨z, hE, hz2⟩ : ∃ z : Nat, (if (xs.length : Int) < ((n * (k + 1) : Nat) : Int) then (xs.length : Int) else ((n * (k + 1) : Nat) : Int)) = (z : Int) ∧ z = min (n * (k + 1)) xs.length := by
              by_cases c : (xs.length : Int) < ((n * (k + 1) : Nat) : Int)
              · exact ⟨xs.length, if_pos c, by omega⟩
              · exact ⟨n * (k + 1), if_neg c, by omega⟩
            have hdt : List.drop (n * k) (List.take z xs) = List.take n (List.drop (n * k) xs) := by
              rw [List.drop_take, hz2]
              by_cases c : n * (k + 1) ≤ xs.length
              · congr 1; omega
              · rw [List.take_of_length_le (by rw [List.length_drop]; omega), List.take_of_length_le (by rw [List.length_drop]; omega)]
            have hdl : (List.take n (List.drop (n * k) xs)).length ≤ xs.length := by rw [List.length_take, List.length_drop]; omega
            have hlt2 : ((z : Int) < (xs.length : Int)) = ((n : Int) < (xs.length : Int) - ((n * k : Nat) : Int)) := propext (by constructor <;> intro h <;> omega)
            by_cases hk0 : k = 0
            · have gz : (((n * k : Nat) : Int) == 0) = true := by subst hk0; simp
              have gz2 : (((n * k : Nat) : Int) = 0) = True := eq_true (by subst hk0; simp)
              cases m with
              | false =>
                have e1 : pRows (piecesK ⟨f, t, p, h, i, a, false, u, xs⟩ n k) ++ [[D.v (.int .i64 f), D.v (.int .i64 t), D.v (.int .i64 p), D.v (.int .i64 h), D.v (.int .i64 i), D.v (.int .i64 (a + ((n * k : Nat) : Int))), D.v (.bool (decide ((n : Int) < (xs.length : Int) - ((n * k : Nat) : Int)))), D.v (.bool u), D.l 1 (rowsOfBytes ((xs.drop (n * k)).take n))]] = pRows (piecesK ⟨f, t, p, h, i, a, false, u, xs⟩ n (k + 1)) := by
                  rw [piecesK, piecesK, List.range_succ, List.map_append, ← pRows_app]; rfl
                simp (maxSteps := 3000000) only [Try.f113, spc, rowsOf_len, bytesOf_rows, rowsOf_take, rowsOf_drop, gz, gz2, hpl, w1, wa, hE, hdt, hlt2, e1, D.toI, tYs, evL, implies_true, oMin, oCopy, oBin, oUn, oLoadKid, oStoreTree, oField, oExtract, oNil, oSliceQ, oLoadRow, takeCells, TS.atRow, TS.ex, treeMode, AV.isOwn, TK.isSl, nilTk, nilsB, oLenQ, oLen, nodupB, treeOf, kidAbs, kidRows, TK.isCell, D.toL, oLoad, oStore, oMake, oIndexAddr, ↓reduceIte, reduceCtorEq, Nat.reduceBEq, Nat.reduceAdd, Nat.reduceMul, Nat.reduceLT, Nat.reduceSub, Nat.reduceLeDiff, Nat.reduceEqDiff, Nat.reduceBneDiff, Int.reduceToNat, decide_eq_true_eq, decide_eq_false_iff_not, beq_iff_eq, Int.toNat_natCast, loopK_normal, loopK_exit, loopK_ret, doneD_ret, doneD_normal]
                refine ⟨⟨by omega, ⟨by omega, by omega⟩, by omega⟩, ⟨by omega, by omega, rowsOf_w _⟩, ?_⟩
                by_cases g255 : a + ((n * k : Nat) : Int) > 255
                · rw [if_pos g255]
                  have e : cutB ⟨f, t, p, h, i, a, false, u, xs⟩ n = false := by
                    rcases hk with rfl | hk
                    · exfalso; simp at g255; omega
                    · have hcl := cut_last (by omega) hk
                      have hnl : ¬ ((xs.length : Int) ≤ (n : Int)) := by
                        intro hle
                        have : k = 0 := by
                          rcases Nat.eq_zero_or_pos k with h | h
                          · exact h
                          · have : n * 1 ≤ n * k := Nat.mul_le_mul_left _ h
                            omega
                        subst this
                        simp at g255; omega
                      rw [hB, decide_eq_false hnl, decide_eq_false (by omega), Bool.and_false]; rfl
                  rw [e, no e]
                  exact ⟨_, rfl, rfl⟩
                · rw [if_neg g255]
                  refine ⟨⟨by omega, by omega, by simp⟩, k + 1, [(0, some 0), (1, some _)], ⟨by omega, fun _ => ⟨by rw [Nat.add_sub_cancel]; omega, by rw [Nat.add_sub_cancel]; omega⟩⟩, by omega, ⟨⟨trivial, ⟨rfl, rfl, rfl⟩, ⟨rfl, rfl, rfl⟩, trivial, trivial, trivial, ⟨rfl, rfl, rfl⟩, ⟨rfl, rfl, rfl⟩, fitT_rep _ _ rfl⟩, ⟨.inl rfl, rfl, rfl, rfl, .inl rfl, rfl, rfl, rfl, trivial⟩, by simp [rn, hpAt]⟩, by simp [keepIds]⟩
              | true =>
                have e1 : pRows (piecesK ⟨f, t, p, h, i, a, true, u, xs⟩ n k) ++ [[D.v (.int .i64 f), D.v (.int .i64 t), D.v (.int .i64 p), D.v (.int .i64 h), D.v (.int .i64 i), D.v (.int .i64 (a + ((n * k : Nat) : Int))), D.v (.bool (true)), D.v (.bool u), D.l 1 (rowsOfBytes ((xs.drop (n * k)).take n))]] = pRows (piecesK ⟨f, t, p, h, i, a, true, u, xs⟩ n (k + 1)) := by
                  rw [piecesK, piecesK, List.range_succ, List.map_append, ← pRows_app]; rfl
                simp (maxSteps := 3000000) only [Try.f113, spc, rowsOf_len, bytesOf_rows, rowsOf_take, rowsOf_drop, gz, gz2, hpl, w1, wa, hE, hdt, hlt2, e1, D.toI, tYs, evL, implies_true, oMin, oCopy, oBin, oUn, oLoadKid, oStoreTree, oField, oExtract, oNil, oSliceQ, oLoadRow, takeCells, TS.atRow, TS.ex, treeMode, AV.isOwn, TK.isSl, nilTk, nilsB, oLenQ, oLen, nodupB, treeOf, kidAbs, kidRows, TK.isCell, D.toL, oLoad, oStore, oMake, oIndexAddr, ↓reduceIte, reduceCtorEq, Nat.reduceBEq, Nat.reduceAdd, Nat.reduceMul, Nat.reduceLT, Nat.reduceSub, Nat.reduceLeDiff, Nat.reduceEqDiff, Nat.reduceBneDiff, Int.reduceToNat, decide_eq_true_eq, decide_eq_false_iff_not, beq_iff_eq, Int.toNat_natCast, loopK_normal, loopK_exit, loopK_ret, doneD_ret, doneD_normal]
                refine ⟨⟨by omega, ⟨by omega, by omega⟩, by omega⟩, ⟨by omega, by omega, rowsOf_w _⟩, ?_⟩
                by_cases g255 : a + ((n * k : Nat) : Int) > 255
                · rw [if_pos g255]
                  have e : cutB ⟨f, t, p, h, i, a, true, u, xs⟩ n = false := by
                    rcases hk with rfl | hk
                    · exfalso; simp at g255; omega
                    · have hcl := cut_last (by omega) hk
                      have hnl : ¬ ((xs.length : Int) ≤ (n : Int)) := by
                        intro hle
                        have : k = 0 := by
                          rcases Nat.eq_zero_or_pos k with h | h
                          · exact h
                          · have : n * 1 ≤ n * k := Nat.mul_le_mul_left _ h
                            omega
                        subst this
                        simp at g255; omega
                      rw [hB, decide_eq_false hnl, decide_eq_false (by omega), Bool.and_false]; rfl
                  rw [e, no e]
                  exact ⟨_, rfl, rfl⟩
                · rw [if_neg g255]
                  refine ⟨⟨by omega, by omega, by simp⟩, k + 1, [(0, some 0), (1, some _)], ⟨by omega, fun _ => ⟨by rw [Nat.add_sub_cancel]; omega, by rw [Nat.add_sub_cancel]; omega⟩⟩, by omega, ⟨⟨trivial, ⟨rfl, rfl, rfl⟩, ⟨rfl, rfl, rfl⟩, trivial, trivial, trivial, ⟨rfl, rfl, rfl⟩, ⟨rfl, rfl, rfl⟩, fitT_rep _ _ rfl⟩, ⟨.inl rfl, rfl, rfl, rfl, .inl rfl, rfl, rfl, rfl, trivial⟩, by simp [rn, hpAt]⟩, by simp [keepIds]⟩
            · have hnp : 1 * 1 ≤ n * k := Nat.mul_le_mul (by omega) (by omega)
              have gz : (((n * k : Nat) : Int) == 0) = false := by rw [beq_eq_false_iff_ne]; omega
              have gz2 : (((n * k : Nat) : Int) = 0) = False := eq_false (by omega)
              have glt : (((n * k : Nat) : Int) < (xs.length : Int)) = True := eq_true (by omega)
              cases m with
              | false =>
                have e1 : pRows (piecesK ⟨f, t, p, h, i, a, false, u, xs⟩ n k) ++ [[D.v (.int .i64 f), D.v (.int .i64 t), D.v (.int .i64 p), D.v (.int .i64 h), D.v (.int .i64 i), D.v (.int .i64 (a + ((n * k : Nat) : Int))), D.v (.bool (decide ((n : Int) < (xs.length : Int) - ((n * k : Nat) : Int)))), D.v (.bool u), D.l 1 (rowsOfBytes ((xs.drop (n * k)).take n))]] = pRows (piecesK ⟨f, t, p, h, i, a, false, u, xs⟩ n (k + 1)) := by
                  rw [piecesK, piecesK, List.range_succ, List.map_append, ← pRows_app]; rfl
                simp (maxSteps := 3000000) only [Try.f113, spc, rowsOf_len, bytesOf_rows, rowsOf_take, rowsOf_drop, gz, gz2, glt, hpl, w1, wa, hE, hdt, hlt2, e1, D.toI, tYs, evL, implies_true, oMin, oCopy, oBin, oUn, oLoadKid, oStoreTree, oField, oExtract, oNil, oSliceQ, oLoadRow, takeCells, TS.atRow, TS.ex, treeMode, AV.isOwn, TK.isSl, nilTk, nilsB, oLenQ, oLen, nodupB, treeOf, kidAbs, kidRows, TK.isCell, D.toL, oLoad, oStore, oMake, oIndexAddr, ↓reduceIte, reduceCtorEq, Nat.reduceBEq, Nat.reduceAdd, Nat.reduceMul, Nat.reduceLT, Nat.reduceSub, Nat.reduceLeDiff, Nat.reduceEqDiff, Nat.reduceBneDiff, Int.reduceToNat, decide_eq_true_eq, decide_eq_false_iff_not, beq_iff_eq, Int.toNat_natCast, loopK_normal, loopK_exit, loopK_ret, doneD_ret, doneD_normal]
                refine ⟨⟨by omega, ⟨by omega, by omega⟩, by omega⟩, ⟨by omega, by omega, rowsOf_w _⟩, ?_⟩
                by_cases g255 : a + ((n * k : Nat) : Int) > 255
                · rw [if_pos g255]
                  have e : cutB ⟨f, t, p, h, i, a, false, u, xs⟩ n = false := by
                    rcases hk with rfl | hk
                    · exfalso; simp at g255; omega
                    · have hcl := cut_last (by omega) hk
                      have hnl : ¬ ((xs.length : Int) ≤ (n : Int)) := by
                        intro hle
                        have : k = 0 := by
                          rcases Nat.eq_zero_or_pos k with h | h
                          · exact h
                          · have : n * 1 ≤ n * k := Nat.mul_le_mul_left _ h
                            omega
                        subst this
                        simp at g255; omega
                      rw [hB, decide_eq_false hnl, decide_eq_false (by omega), Bool.and_false]; rfl
                  rw [e, no e]
                  exact ⟨_, rfl, rfl⟩
                · rw [if_neg g255]
                  refine ⟨⟨by omega, by omega, by simp⟩, k + 1, [(0, some 0), (1, some _)], ⟨by omega, fun _ => ⟨by rw [Nat.add_sub_cancel]; omega, by rw [Nat.add_sub_cancel]; omega⟩⟩, by omega, ⟨⟨trivial, ⟨rfl, rfl, rfl⟩, ⟨rfl, rfl, rfl⟩, trivial, trivial, trivial, ⟨rfl, rfl, rfl⟩, ⟨rfl, rfl, rfl⟩, fitT_rep _ _ rfl⟩, ⟨.inl rfl, rfl, rfl, rfl, .inl rfl, rfl, rfl, rfl, trivial⟩, by simp [rn, hpAt]⟩, by simp [keepIds]⟩
              | true =>
                have e1 : pRows (piecesK ⟨f, t, p, h, i, a, true, u, xs⟩ n k) ++ [[D.v (.int .i64 f), D.v (.int .i64 t), D.v (.int .i64 p), D.v (.int .i64 h), D.v (.int .i64 i), D.v (.int .i64 (a + ((n * k : Nat) : Int))), D.v (.bool (true)), D.v (.bool u), D.l 1 (rowsOfBytes ((xs.drop (n * k)).take n))]] = pRows (piecesK ⟨f, t, p, h, i, a, true, u, xs⟩ n (k + 1)) := by
                  rw [piecesK, piecesK, List.range_succ, List.map_append, ← pRows_app]; rfl
                simp (maxSteps := 3000000) only [Try.f113, spc, rowsOf_len, bytesOf_rows, rowsOf_take, rowsOf_drop, gz, gz2, glt, hpl, w1, wa, hE, hdt, hlt2, e1, D.toI, tYs, evL, implies_true, oMin, oCopy, oBin, oUn, oLoadKid, oStoreTree, oField, oExtract, oNil, oSliceQ, oLoadRow, takeCells, TS.atRow, TS.ex, treeMode, AV.isOwn, TK.isSl, nilTk, nilsB, oLenQ, oLen, nodupB, treeOf, kidAbs, kidRows, TK.isCell, D.toL, oLoad, oStore, oMake, oIndexAddr, ↓reduceIte, reduceCtorEq, Nat.reduceBEq, Nat.reduceAdd, Nat.reduceMul, Nat.reduceLT, Nat.reduceSub, Nat.reduceLeDiff, Nat.reduceEqDiff, Nat.reduceBneDiff, Int.reduceToNat, decide_eq_true_eq, decide_eq_false_iff_not, beq_iff_eq, Int.toNat_natCast, loopK_normal, loopK_exit, loopK_ret, doneD_ret, doneD_normal]
                refine ⟨⟨by omega, ⟨by omega, by omega⟩, by omega⟩, ⟨by omega, by omega, rowsOf_w _⟩, ?_⟩
                by_cases g255 : a + ((n * k : Nat) : Int) > 255
                · rw [if_pos g255]
                  have e : cutB ⟨f, t, p, h, i, a, true, u, xs⟩ n = false := by
                    rcases hk with rfl | hk
                    · exfalso; simp at g255; omega
                    · have hcl := cut_last (by omega) hk
                      have hnl : ¬ ((xs.length : Int) ≤ (n : Int)) := by
                        intro hle
                        have : k = 0 := by
                          rcases Nat.eq_zero_or_pos k with h | h
                          · exact h
                          · have : n * 1 ≤ n * k := Nat.mul_le_mul_left _ h
                            omega
                        subst this
                        simp at g255; omega
                      rw [hB, decide_eq_false hnl, decide_eq_false (by omega), Bool.and_false]; rfl
                  rw [e, no e]
                  exact ⟨_, rfl, rfl⟩
                · rw [if_neg g255]
                  refine ⟨⟨by omega, by omega, by simp⟩, k + 1, [(0, some 0), (1, some _)], ⟨by omega, fun _ => ⟨by rw [Nat.add_sub_cancel]; omega, by rw [Nat.add_sub_cancel]; omega⟩⟩, by omega, ⟨⟨trivial, ⟨rfl, rfl, rfl⟩, ⟨rfl, rfl, rfl⟩, trivial, trivial, trivial, ⟨rfl, rfl, rfl⟩, ⟨rfl, rfl, rfl⟩, fitT_rep _ _ rfl⟩, ⟨.inl rfl, rfl, rfl, rfl, .inl rfl, rfl, rfl, rfl, trivial⟩, by simp [rn, hpAt]⟩, by simp [keepIds]⟩
          · have hk0 : 0 < k := by omega
            obtain ⟨h2a, h2b⟩ := hk2 hk0
            have hnp : 1 * 1 ≤ n * k := Nat.mul_le_mul (by omega) (by omega)
            have gz : (((n * k : Nat) : Int) == 0) = false := by rw [beq_eq_false_iff_ne]; omega
            have gz2 : (((n * k : Nat) : Int) = 0) = False := eq_false (by omega)
            have glt : (((n * k : Nat) : Int) < (xs.length : Int)) = False := eq_false (by omega)
            simp (maxSteps := 3000000) only [Try.f113, spc, rowsOf_len, bytesOf_rows, gz, gz2, glt, D.toI, tYs, evL, implies_true, oMin, oCopy, oBin, oUn, oLoadKid, oStoreTree, oField, oExtract, oNil, oSliceQ, oLoadRow, takeCells, TS.atRow, TS.ex, treeMode, AV.isOwn, TK.isSl, nilTk, nilsB, oLenQ, oLen, nodupB, treeOf, kidAbs, kidRows, TK.isCell, D.toL, oLoad, oStore, oMake, oIndexAddr, ↓reduceIte, reduceCtorEq, Nat.reduceBEq, Nat.reduceAdd, Nat.reduceMul, Nat.reduceLT, Nat.reduceSub, Nat.reduceLeDiff, Nat.reduceEqDiff, Nat.reduceBneDiff, Int.reduceToNat, decide_eq_true_eq, decide_eq_false_iff_not, beq_iff_eq, Int.toNat_natCast, loopK_normal, loopK_exit, loopK_ret, doneD_ret, doneD_normal]
            have hcut : cutB ⟨f, t, p, h, i, a, m, u, xs⟩ n = true ∧ cutL ⟨f, t, p, h, i, a, m, u, xs⟩ n = piecesK ⟨f, t, p, h, i, a, m, u, xs⟩ n k := by
              by_cases hln : (xs.length : Int) ≤ (n : Int)
              · have e : cutB ⟨f, t, p, h, i, a, m, u, xs⟩ n = true := by rw [hB, decide_eq_true hln]; rfl
                have k1 : k = 1 := by
                  rcases h2b with h2b | h2b
                  · rcases Nat.eq_zero_or_pos (k - 1) with h | h
                    · omega
                    · have : n * 1 ≤ n * (k - 1) := Nat.mul_le_mul_left _ h
                      omega
                  · exact h2b
                refine ⟨e, ?_⟩
                rw [cutL, if_pos e, if_pos hln, k1, piecesK_one, piece_one (by dsimp only; omega)]
              · exact (hbig (by omega)).elim
            rw [hcut.1, hcut.2]
            exact ⟨_, rfl, rfl⟩
      · have e : cutB ⟨f, t, p, h, i, a, m, u, xs⟩ l = false := by rw [hB, ok, decide_eq_false hl1]; rfl
        rw [e, no e]
        have hz : inZ l 1 48 = false := by rw [inZ, decide_eq_false hl1]
        rw [hz]
        first | rw [if_neg (by decide)] | rw [if_pos (by decide)]
        exact ⟨_, rfl, rfl⟩
  · cases hg
end Go.Proofs.Ytegffkmakkccaaa
