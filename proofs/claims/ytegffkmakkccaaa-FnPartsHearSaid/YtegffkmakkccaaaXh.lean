import Derived.Test.YtegffkmakkccaaaXg
namespace Go.Proofs.Ytegffkmakkccaaa
open Go.RowKit
set_option linter.unusedSimpArgs false
set_option linter.unusedVariables false
def putK (ps : List Pk) (q : Pk) (k : Nat) : List Pk := if (haveB ps q || decide (k ≤ wAt ps q.a)) = true then ps.take k else ps.take (wAt ps q.a) ++ q :: (ps.take k).drop (wAt ps q.a)
def doneK (ps : List Pk) (q : Pk) (k : Nat) : Bool := haveB ps q || decide (wAt ps q.a < k)
def finL (ps : List Pk) (q : Pk) : List Pk := if haveB ps q = true then ps else insK ps q
theorem wAt_lt {a : Int} : ∀ {ps : List Pk} {k : Nat}, k < wAt ps a → (ps.getD k pk0).a ≤ a
  | [], k, h => by simp [wAt] at h
  | x :: r, k, h => by
    simp only [wAt] at h
    split at h
    · rename_i h1
      cases k with
      | zero => simpa using h1
      | succ k => simpa using wAt_lt (ps := r) (k := k) (by omega)
    · omega
theorem wAt_ge {a : Int} : ∀ {ps : List Pk}, wAt ps a < ps.length → ¬ (ps.getD (wAt ps a) pk0).a ≤ a
  | [], h => by simp at h
  | x :: r, h => by
    simp only [wAt] at h ⊢
    split
    · rename_i h1
      rw [if_pos h1] at h
      simpa using wAt_ge (ps := r) (by simpa using h)
    · rename_i h1
      simpa using h1
theorem putK_len (ps : List Pk) (q : Pk) (k : Nat) : (putK ps q k).length ≤ ps.length + 1 := by
  unfold putK
  have := wAt_le ps q.a
  split <;> simp only [List.length_take, List.length_append, List.length_cons, List.length_drop] <;> omega
theorem putK_done {ps : List Pk} {q : Pk} {k : Nat} (h : k < ps.length) (hd : doneK ps q k = true) : putK ps q k ++ [ps[k]] = putK ps q (k + 1) ∧ doneK ps q (k + 1) = true := by
  unfold putK doneK at *
  cases hh : haveB ps q
  · rw [hh, Bool.false_or, decide_eq_true_eq] at hd
    rw [Bool.false_or, Bool.false_or, Bool.false_or, decide_eq_false (by omega), decide_eq_false (by omega), if_neg (by simp), if_neg (by simp), decide_eq_true (by omega), List.take_add_one, List.getElem?_eq_getElem h]
    refine ⟨?_, rfl⟩
    rw [List.drop_append_of_le_length (by rw [List.length_take]; omega)]
    simp
  · rw [Bool.true_or, Bool.true_or, if_pos rfl, if_pos rfl, List.take_add_one, List.getElem?_eq_getElem h]
    exact ⟨rfl, rfl⟩
theorem putK_here {ps : List Pk} {q : Pk} {k : Nat} (h : k < ps.length) (hd : doneK ps q k = false) (hq : q.a < ps[k].a) : putK ps q k ++ [q] ++ [ps[k]] = putK ps q (k + 1) ∧ doneK ps q (k + 1) = true := by
  unfold putK doneK at *
  rw [Bool.or_eq_false_iff, decide_eq_false_iff_not] at hd
  obtain ⟨hh, hd⟩ := hd
  have hw : wAt ps q.a = k := by
    rcases Nat.lt_or_ge k (wAt ps q.a) with h1 | h1
    · have := wAt_lt h1
      rw [pk_get h] at this
      omega
    · omega
  rw [hh, Bool.false_or, Bool.false_or, Bool.false_or, hw, decide_eq_true (by omega), decide_eq_false (by omega), if_pos rfl, if_neg (by simp), decide_eq_true (by omega), List.take_add_one, List.getElem?_eq_getElem h]
  refine ⟨?_, rfl⟩
  rw [List.drop_append_of_le_length (by rw [List.length_take]; omega), List.drop_of_length_le (by rw [List.length_take]; omega)]
  simp
theorem putK_past {ps : List Pk} {q : Pk} {k : Nat} (h : k < ps.length) (hd : doneK ps q k = false) (hq : ¬ q.a < ps[k].a) : putK ps q k ++ [ps[k]] = putK ps q (k + 1) ∧ doneK ps q (k + 1) = false := by
  unfold putK doneK at *
  rw [Bool.or_eq_false_iff, decide_eq_false_iff_not] at hd
  obtain ⟨hh, hd⟩ := hd
  have hw : k < wAt ps q.a := by
    rcases Nat.lt_or_ge k (wAt ps q.a) with h1 | h1
    · exact h1
    · have he : wAt ps q.a = k := by omega
      have := wAt_ge (ps := ps) (a := q.a) (by omega)
      rw [he, pk_get h] at this
      omega
  rw [hh, Bool.false_or, Bool.false_or, Bool.false_or, decide_eq_true (by omega), decide_eq_true (by omega), if_pos rfl, if_pos rfl, decide_eq_false (by omega), List.take_add_one, List.getElem?_eq_getElem h]
  exact ⟨rfl, rfl⟩
theorem putK_end {ps : List Pk} {q : Pk} : (doneK ps q ps.length = true → putK ps q ps.length = finL ps q) ∧ (doneK ps q ps.length = false → putK ps q ps.length ++ [q] = finL ps q) := by
  unfold putK doneK finL
  have := wAt_le ps q.a
  cases hh : haveB ps q
  · by_cases h1 : wAt ps q.a < ps.length
    · have h2 : ¬ ps.length ≤ wAt ps q.a := by omega
      simp only [Bool.false_or, decide_eq_true h1, decide_eq_false h2, Bool.false_eq_true, if_false, List.take_length, insK, List.append_assoc, List.cons_append, List.nil_append, implies_true, and_true, Bool.true_eq_false, false_implies, reduceCtorEq]
    · have h2 : wAt ps q.a = ps.length := by omega
      simp only [Bool.false_or, h2, Nat.lt_irrefl, Nat.le_refl, decide_true, decide_false, Bool.false_eq_true, if_false, if_true, List.take_length, List.drop_length, insK, List.append_nil, implies_true, and_true, Bool.true_eq_false, false_implies, reduceCtorEq]
  · rw [Bool.true_or, Bool.true_or, if_pos rfl, if_pos rfl, List.take_length]
    exact ⟨fun _ => rfl, fun h => by cases h⟩
theorem putK_zero (ps : List Pk) (q : Pk) : putK ps q 0 = [] := by simp [putK]
theorem doneK_zero (ps : List Pk) (q : Pk) : doneK ps q 0 = haveB ps q := by simp [doneK]
theorem finL_len (ps : List Pk) (q : Pk) : (finL ps q).length ≤ ps.length + 1 := by
  unfold finL
  split
  · omega
  · rw [insK_len]; omega
theorem finL_mid {ps : List Pk} {q : Pk} (h : pMid ps) (hl : ps.length ≤ 49) (hq : q.d.length ≤ 1048576) : pMid (finL ps q) := by
  unfold finL
  split
  · exact h
  · exact insK_mid h hl hq
theorem putO_fin {ps : List Pk} {u : Int} {q : Pk} (h : (partB ps u && q.ok && same4 (ps.getD 0 pk0) q) = true) : putO ps u q = if partB (finL ps q) u = true then some (finL ps q) else none := by
  rw [putO, if_pos h, finL]
  by_cases hh : haveB ps q = true
  · simp only [Bool.and_eq_true] at h
    rw [if_pos hh, if_pos hh, if_pos h.1.1]
  · rw [if_neg hh, if_neg hh]
def spp : List (FuncId × Abs) := [(55, pureAbs g_partOk), (64, pureAbs g_packetOk), (56, pureAbs g_ofOne), (69, pureAbs g_packetCopied)]
theorem spp_ok : ∀ p ∈ spp, CallOk Try.prog p.1 p.2 := by
  intro p hp
  simp only [spp, List.mem_cons, List.not_mem_nil, or_false] at hp
  rcases hp with rfl | rfl | rfl | rfl
  · exact specPartOk_ok.call
  · exact specPacketOk_ok.call
  · exact l5Same_ok.call
  · exact l5Copy_ok.call
set_option maxHeartbeats 1000000 in
set_option maxRecDepth 100000 in
theorem specPartPut_ok : PureOk Try.prog 66 g_partPut := by
  refine PureOk.of_vc (G := spp) spp_ok mixed Try.func66 (by kernel_rfl) rfl ?_
  intro args cnd r bs hg hc
  unfold g_partPut at hg
  split at hg
  · rename_i sz' rows' un f t p h i a m u sz rows
    cases hg
    obtain ⟨⟨ps, rfl, hm⟩, xs, rfl, hl⟩ := hc
    rw [psOf_rows, bytesOf_rows]
    have no : putO ps un ⟨f, t, p, h, i, a, m, u, xs⟩ = none → putU ps un ⟨f, t, p, h, i, a, m, u, xs⟩ = 0 ∧ putL ps un ⟨f, t, p, h, i, a, m, u, xs⟩ = [] := fun e => by rw [putU, putL, e]; exact ⟨rfl, rfl⟩
    have yes : ∀ l, putO ps un ⟨f, t, p, h, i, a, m, u, xs⟩ = some l → putU ps un ⟨f, t, p, h, i, a, m, u, xs⟩ = un ∧ putL ps un ⟨f, t, p, h, i, a, m, u, xs⟩ = l := fun l e => by rw [putU, putL, e]; exact ⟨rfl, rfl⟩
    have nil1 : (partB ps un && pkB f t p h i a m u xs.length && same4 (ps.getD 0 pk0) ⟨f, t, p, h, i, a, m, u, xs⟩) = false → putO ps un ⟨f, t, p, h, i, a, m, u, xs⟩ = none := fun e => by
      have e : (partB ps un && (Pk.ok ⟨f, t, p, h, i, a, m, u, xs⟩) && same4 (ps.getD 0 pk0) ⟨f, t, p, h, i, a, m, u, xs⟩) = false := e
      rw [putO, if_neg (by rw [e]; simp)]
    refine ⟨⟨rfl, by simp [flatB], by simp [AV.ids, AV.ids.idsL]⟩, [.agg [.l 9 (pRows ps), .v (.int .i64 un)], .agg [.v (.int .i64 f), .v (.int .i64 t), .v (.int .i64 p), .v (.int .i64 h), .v (.int .i64 i), .v (.int .i64 a), .v (.bool m), .v (.bool u), .l 1 (rowsOfBytes xs)]], rfl, fun w vs h => CvL.ok (.cons (.cons (.l _ _ _ (pRows_w ps)) (.cons (.refl _) .nil)) (.cons (.cons (.refl _) (.cons (.refl _) (.cons (.refl _) (.cons (.refl _) (.cons (.refl _) (.cons (.refl _) (.cons (.refl _) (.cons (.refl _) (.cons (.l _ _ _ (rowsOf_w xs)) .nil))))))))) .nil)) h, ?_⟩
    by_cases h1 : partB ps un = true
    · obtain ⟨q1, q2, q3, q4, q5⟩ := partB_all h1
      have hrow := pRows_get ps 0 q3
      have w1 : ((0 : Int) < (ps.length : Int)) = True := eq_true (by omega)
      have hpq := partB_len h1
      simp (maxSteps := 3000000) only [Try.f66, spp, g_partOk, g_packetOk, g_ofOne, g_packetCopied, psOf_rows, bytesOf_rows, pRows_len, rowsOf_len, h1, hrow, w1, pk_eta, Int.le_refl, D.toI, dB, D.toB, D.toL, pRow, tYs, evL, implies_true, oMin, oCopy, oBin, oUn, oLoadKid, oStoreTree, oField, oExtract, oNil, oSliceQ, oLoadRow, takeCells, TS.atRow, TS.ex, treeMode, AV.isOwn, TK.isSl, nilTk, nilsB, oLenQ, oLen, nodupB, treeOf, kidAbs, kidRows, TK.isCell, D.toL, oLoad, oStore, oMake, oIndexAddr, ↓reduceIte, reduceCtorEq, Nat.reduceBEq, Nat.reduceAdd, Nat.reduceMul, Nat.reduceLT, Nat.reduceSub, Nat.reduceLeDiff, Nat.reduceEqDiff, Nat.reduceBneDiff, Int.reduceToNat, decide_eq_true_eq, decide_eq_false_iff_not, beq_iff_eq, Int.toNat_natCast]
      refine ⟨⟨_, rfl, hm⟩, ?_⟩
      rw [h1, Bool.true_and, pk_get q3] at nil1
      by_cases h2 : pkB f t p h i a m u xs.length = true
      · rw [h2, Bool.true_and] at nil1
        rw [if_pos (by simp [h2])]
        by_cases h3 : same4 ps[0] ⟨f, t, p, h, i, a, m, u, xs⟩ = true
        · have hO : putO ps un ⟨f, t, p, h, i, a, m, u, xs⟩ = if partB (finL ps ⟨f, t, p, h, i, a, m, u, xs⟩) un = true then some (finL ps ⟨f, t, p, h, i, a, m, u, xs⟩) else none := putO_fin (by
            rw [h1, show Pk.ok ⟨f, t, p, h, i, a, m, u, xs⟩ = true from h2, pk_get q3, h3]; rfl)
          rw [if_neg (by simp [h3])]
          refine ⟨by kernel_rfl, ?_⟩
          refine e_loop _ _ _ _ _ _ _ _ (fun x : Nat × Bool => [.any, .any, .ptr 0 0, .ptr 1 0, .ptr 2 0, .any, .ptr 3 0, .v (.bool x.2), .v (.int .i64 (x.1 : Int))] ++ List.replicate (Try.f66.ntmps - 9) .any) (fun x => [(0, .var 38 [.l 9 (pRows ps), .v (.int .i64 un)]), (1, .var 29 [.v (.int .i64 f), .v (.int .i64 t), .v (.int .i64 p), .v (.int .i64 h), .v (.int .i64 i), .v (.int .i64 a), .v (.bool m), .v (.bool u), .l 1 (rowsOfBytes xs)]), (2, .var 38 [.v nilS, .v (.int .i64 0)]), (3, .var 38 [.v nilS, .v (.int .i64 un)])]) (fun x => x.1 ≤ ps.length ∧ x.2 = haveB (ps.take x.1) ⟨f, t, p, h, i, a, m, u, xs⟩) (fun x => ps.length - x.1) 4 (fun x => by simp) ?_ fun x hk' => ?_
          · exact ⟨(0, false), [(0, some 0), (1, some _), (2, some _), (3, some _)], ⟨Nat.zero_le _, rfl⟩, ⟨⟨trivial, trivial, ⟨rfl, rfl, rfl⟩, ⟨rfl, rfl, rfl⟩, ⟨rfl, rfl, rfl⟩, trivial, ⟨rfl, rfl, rfl⟩, ⟨rfl, rfl, rfl⟩, ⟨rfl, rfl, rfl⟩, fitT_rep _ _ rfl⟩, ⟨.inl rfl, rfl, rfl, rfl, .inl rfl, rfl, rfl, rfl, .inl rfl, rfl, rfl, rfl, .inl rfl, rfl, rfl, rfl, trivial⟩, by simp [rn, hpAt]⟩, by simp [keepIds]⟩
          obtain ⟨k, dn⟩ := x
          obtain ⟨hk1, hk2⟩ := hk'
          simp only at hk1 hk2
          have w2 : IntKind.i64.wrap ((k : Int) + 1) = ((k + 1 : Nat) : Int) := by rw [wrap_id] <;> omega
          by_cases hk : k < ps.length
          · have hrow := pRows_get ps k hk
            have hlt : ((k : Int) < (ps.length : Int)) = True := eq_true (by omega)
            have h0 : (0 ≤ (k : Int)) = True := eq_true (by omega)
            have hx := ok_rng (q1 ps[k] (List.getElem_mem hk))
            have hs : haveB (ps.take (k + 1)) ⟨f, t, p, h, i, a, m, u, xs⟩ = (haveB (ps.take k) ⟨f, t, p, h, i, a, m, u, xs⟩ || (decide (ps[k].a = a) && (ps[k].m == m) && decide (ps[k].d = xs))) := by
              rw [haveB, List.take_add_one, List.getElem?_eq_getElem hk, List.any_append, ← haveB]; simp
            simp (maxSteps := 3000000) only [Try.f66, spp, g_partOk, g_packetOk, g_ofOne, g_packetCopied, psOf_rows, bytesOf_rows, pRows_len, rowsOf_len, hrow, hlt, h0, ByteArray.toList_mk, D.toI, dB, D.toB, D.toL, pRow, tYs, evL, implies_true, oMin, oCopy, oBin, oUn, oLoadKid, oStoreTree, oField, oExtract, oNil, oSliceQ, oLoadRow, takeCells, TS.atRow, TS.ex, treeMode, AV.isOwn, TK.isSl, nilTk, nilsB, oLenQ, oLen, nodupB, treeOf, kidAbs, kidRows, TK.isCell, D.toL, oLoad, oStore, oMake, oIndexAddr, ↓reduceIte, reduceCtorEq, Nat.reduceBEq, Nat.reduceAdd, Nat.reduceMul, Nat.reduceLT, Nat.reduceSub, Nat.reduceLeDiff, Nat.reduceEqDiff, Nat.reduceBneDiff, Int.reduceToNat, decide_eq_true_eq, decide_eq_false_iff_not, beq_iff_eq, Int.toNat_natCast, loopK_normal, loopK_exit, loopK_ret, w2]
            have stay : (decide (ps[k].a = a) && (ps[k].m == m) && decide (ps[k].d = xs)) = false → dn = haveB (ps.take (k + 1)) ⟨f, t, p, h, i, a, m, u, xs⟩ := fun e => by rw [hs, e, Bool.or_false]; exact hk2
            by_cases e1 : ps[k].a = a
            · rw [if_pos e1]
              by_cases e2 : ps[k].m = m
              · rw [if_pos e2]
                by_cases e3 : ps[k].d = xs
                · rw [if_pos e3]
                  exact ⟨(k + 1, true), [(0, some 0), (1, some _), (2, some _), (3, some _)], ⟨by omega, by rw [hs]; simp [e1, e2, e3]⟩, by simp only; omega, ⟨⟨trivial, trivial, ⟨rfl, rfl, rfl⟩, ⟨rfl, rfl, rfl⟩, ⟨rfl, rfl, rfl⟩, trivial, ⟨rfl, rfl, rfl⟩, ⟨rfl, rfl, rfl⟩, ⟨rfl, rfl, rfl⟩, fitT_rep _ _ rfl⟩, ⟨.inl rfl, rfl, rfl, rfl, .inl rfl, rfl, rfl, rfl, .inl rfl, rfl, rfl, rfl, .inl rfl, rfl, rfl, rfl, trivial⟩, by simp [rn, hpAt]⟩, by simp [keepIds]⟩
                · rw [if_neg e3]
                  exact ⟨(k + 1, dn), [(0, some 0), (1, some _), (2, some _), (3, some _)], ⟨by omega, stay (by simp [e3])⟩, by simp only; omega, ⟨⟨trivial, trivial, ⟨rfl, rfl, rfl⟩, ⟨rfl, rfl, rfl⟩, ⟨rfl, rfl, rfl⟩, trivial, ⟨rfl, rfl, rfl⟩, ⟨rfl, rfl, rfl⟩, ⟨rfl, rfl, rfl⟩, fitT_rep _ _ rfl⟩, ⟨.inl rfl, rfl, rfl, rfl, .inl rfl, rfl, rfl, rfl, .inl rfl, rfl, rfl, rfl, .inl rfl, rfl, rfl, rfl, trivial⟩, by simp [rn, hpAt]⟩, by simp [keepIds]⟩
              · rw [if_neg e2]
                exact ⟨(k + 1, dn), [(0, some 0), (1, some _), (2, some _), (3, some _)], ⟨by omega, stay (by simp [e2])⟩, by simp only; omega, ⟨⟨trivial, trivial, ⟨rfl, rfl, rfl⟩, ⟨rfl, rfl, rfl⟩, ⟨rfl, rfl, rfl⟩, trivial, ⟨rfl, rfl, rfl⟩, ⟨rfl, rfl, rfl⟩, ⟨rfl, rfl, rfl⟩, fitT_rep _ _ rfl⟩, ⟨.inl rfl, rfl, rfl, rfl, .inl rfl, rfl, rfl, rfl, .inl rfl, rfl, rfl, rfl, .inl rfl, rfl, rfl, rfl, trivial⟩, by simp [rn, hpAt]⟩, by simp [keepIds]⟩
            · rw [if_neg e1]
              exact ⟨(k + 1, dn), [(0, some 0), (1, some _), (2, some _), (3, some _)], ⟨by omega, stay (by simp [e1])⟩, by simp only; omega, ⟨⟨trivial, trivial, ⟨rfl, rfl, rfl⟩, ⟨rfl, rfl, rfl⟩, ⟨rfl, rfl, rfl⟩, trivial, ⟨rfl, rfl, rfl⟩, ⟨rfl, rfl, rfl⟩, ⟨rfl, rfl, rfl⟩, fitT_rep _ _ rfl⟩, ⟨.inl rfl, rfl, rfl, rfl, .inl rfl, rfl, rfl, rfl, .inl rfl, rfl, rfl, rfl, .inl rfl, rfl, rfl, rfl, trivial⟩, by simp [rn, hpAt]⟩, by simp [keepIds]⟩
          · have hlt : ((k : Int) < (ps.length : Int)) = False := eq_false (by omega)
            obtain rfl : k = ps.length := by omega
            rw [List.take_length] at hk2
            simp (maxSteps := 3000000) only [Try.f66, spp, g_partOk, g_packetOk, g_ofOne, g_packetCopied, psOf_rows, bytesOf_rows, pRows_len, rowsOf_len, hlt, D.toI, dB, D.toB, D.toL, pRow, tYs, evL, implies_true, oMin, oCopy, oBin, oUn, oLoadKid, oStoreTree, oField, oExtract, oNil, oSliceQ, oLoadRow, takeCells, TS.atRow, TS.ex, treeMode, AV.isOwn, TK.isSl, nilTk, nilsB, oLenQ, oLen, nodupB, treeOf, kidAbs, kidRows, TK.isCell, D.toL, oLoad, oStore, oMake, oIndexAddr, ↓reduceIte, reduceCtorEq, Nat.reduceBEq, Nat.reduceAdd, Nat.reduceMul, Nat.reduceLT, Nat.reduceSub, Nat.reduceLeDiff, Nat.reduceEqDiff, Nat.reduceBneDiff, Int.reduceToNat, decide_eq_true_eq, decide_eq_false_iff_not, beq_iff_eq, Int.toNat_natCast, loopK_normal, loopK_exit, loopK_ret]
            refine e_loop _ _ _ _ _ _ _ _ (fun x : Nat × Bool => [.any, .any, .ptr 0 0, .ptr 1 0, .ptr 2 0, .any, .ptr 3 0, .v (.bool x.2), .any, .any, .v (.int .i64 (x.1 : Int))] ++ List.replicate (Try.f66.ntmps - 11) .any) (fun x => [(0, .var 38 [.l 9 (pRows ps), .v (.int .i64 un)]), (1, .var 29 [.v (.int .i64 f), .v (.int .i64 t), .v (.int .i64 p), .v (.int .i64 h), .v (.int .i64 i), .v (.int .i64 a), .v (.bool m), .v (.bool u), .l 1 (rowsOfBytes xs)]), (2, .var 38 [.v nilS, .v (.int .i64 0)]), (3, .var 38 [.own 4, .v (.int .i64 un)]), (4, .tr .whole 29 9 [.cell, .cell, .cell, .cell, .cell, .cell, .cell, .cell, .sl 5 1 [.cell]] (pRows (putK ps ⟨f, t, p, h, i, a, m, u, xs⟩ x.1)))]) (fun x => x.1 ≤ ps.length ∧ x.2 = doneK ps ⟨f, t, p, h, i, a, m, u, xs⟩ x.1) (fun x => ps.length - x.1) 5 (fun x => by simp) ?_ fun x hk' => ?_
            · exact ⟨(0, dn), [(0, some 0), (1, some _), (2, some _), (3, some _), (4, none)], ⟨Nat.zero_le _, by rw [doneK_zero]; exact hk2⟩, ⟨⟨trivial, trivial, ⟨rfl, rfl, rfl⟩, ⟨rfl, rfl, rfl⟩, ⟨rfl, rfl, rfl⟩, trivial, ⟨rfl, rfl, rfl⟩, ⟨rfl, rfl, rfl⟩, trivial, trivial, ⟨rfl, rfl, rfl⟩, fitT_rep _ _ rfl⟩, ⟨.inl rfl, rfl, rfl, rfl, .inl rfl, rfl, rfl, rfl, .inl rfl, rfl, rfl, rfl, .inl rfl, rfl, rfl, rfl, ⟨by omega, by simp only [putK_zero]; rfl, rfl⟩, rfl, rfl, rfl, trivial⟩, by simp [rn, hpAt]⟩, by simp [keepIds]⟩
            clear hk1 hk2 hlt w2
            obtain ⟨k, dn⟩ := x
            obtain ⟨hk1, hk2⟩ := hk'
            simp only at hk1 hk2
            have w2 : IntKind.i64.wrap ((k : Int) + 1) = ((k + 1 : Nat) : Int) := by rw [wrap_id] <;> omega
            by_cases hk : k < ps.length
            · have hrow := pRows_get ps k hk
              have hlt : ((k : Int) < (ps.length : Int)) = True := eq_true (by omega)
              have h0 : (0 ≤ (k : Int)) = True := eq_true (by omega)
              have hx := ok_rng (q1 ps[k] (List.getElem_mem hk))
              have hpl := putK_len ps ⟨f, t, p, h, i, a, m, u, xs⟩ k
              have hpl1 := putK_len ps ⟨f, t, p, h, i, a, m, u, xs⟩ (k + 1)
              have app : ∀ l (y : Pk), pRows l ++ [pRow y] = pRows (l ++ [y]) := fun l y => by rw [← pRows_app]; rfl
              cases dn with
              | true =>
                obtain ⟨p1, p2⟩ := putK_done hk hk2.symm
                have e1 := app (putK ps ⟨f, t, p, h, i, a, m, u, xs⟩ k) ps[k]
                rw [pRow, p1] at e1
                simp (maxSteps := 3000000) only [Try.f66, spp, g_partOk, g_packetOk, g_ofOne, g_packetCopied, psOf_rows, bytesOf_rows, pRows_len, rowsOf_len, hrow, hlt, h0, e1, D.toI, dB, D.toB, D.toL, pRow, tYs, evL, implies_true, oMin, oCopy, oBin, oUn, oLoadKid, oStoreTree, oField, oExtract, oNil, oSliceQ, oLoadRow, takeCells, TS.atRow, TS.ex, treeMode, AV.isOwn, TK.isSl, nilTk, nilsB, oLenQ, oLen, nodupB, treeOf, kidAbs, kidRows, TK.isCell, D.toL, oLoad, oStore, oMake, oIndexAddr, ↓reduceIte, reduceCtorEq, Nat.reduceBEq, Nat.reduceAdd, Nat.reduceMul, Nat.reduceLT, Nat.reduceSub, Nat.reduceLeDiff, Nat.reduceEqDiff, Nat.reduceBneDiff, Int.reduceToNat, decide_eq_true_eq, decide_eq_false_iff_not, beq_iff_eq, Int.toNat_natCast, loopK_normal, loopK_exit, loopK_ret, w2]
                exact ⟨by kernel_rfl, ⟨_, rfl, show (ps[k].d).length ≤ 1048576 by omega⟩, ⟨by omega, by omega⟩, by kernel_rfl, (k + 1, true), [(0, some 0), (1, some _), (2, some _), (3, some _), (4, some _)], ⟨by omega, p2.symm⟩, by simp only; omega, ⟨⟨trivial, trivial, ⟨rfl, rfl, rfl⟩, ⟨rfl, rfl, rfl⟩, ⟨rfl, rfl, rfl⟩, trivial, ⟨rfl, rfl, rfl⟩, ⟨rfl, rfl, rfl⟩, trivial, trivial, ⟨rfl, rfl, rfl⟩, fitT_rep _ _ rfl⟩, ⟨.inl rfl, rfl, rfl, rfl, .inl rfl, rfl, rfl, rfl, .inl rfl, rfl, rfl, rfl, .inl rfl, rfl, rfl, rfl, .inl rfl, rfl, rfl, rfl, trivial⟩, by simp [rn, hpAt]⟩, by simp [keepIds]⟩
              | false =>
                by_cases hq : a < ps[k].a
                · obtain ⟨p1, p2⟩ := putK_here (q := ⟨f, t, p, h, i, a, m, u, xs⟩) hk hk2.symm hq
                  have e0 := app (putK ps ⟨f, t, p, h, i, a, m, u, xs⟩ k) ⟨f, t, p, h, i, a, m, u, xs⟩
                  have e1 := app (putK ps ⟨f, t, p, h, i, a, m, u, xs⟩ k ++ [⟨f, t, p, h, i, a, m, u, xs⟩]) ps[k]
                  rw [pRow] at e0
                  rw [pRow, p1] at e1
                  have hpl2 : (putK ps ⟨f, t, p, h, i, a, m, u, xs⟩ k ++ ([⟨f, t, p, h, i, a, m, u, xs⟩] : List Pk)).length = (putK ps ⟨f, t, p, h, i, a, m, u, xs⟩ k).length + 1 := by rw [List.length_append]; rfl
                  simp (maxSteps := 3000000) only [Try.f66, spp, g_partOk, g_packetOk, g_ofOne, g_packetCopied, psOf_rows, bytesOf_rows, pRows_len, rowsOf_len, hrow, hlt, h0, hq, e0, e1, D.toI, dB, D.toB, D.toL, pRow, tYs, evL, implies_true, oMin, oCopy, oBin, oUn, oLoadKid, oStoreTree, oField, oExtract, oNil, oSliceQ, oLoadRow, takeCells, TS.atRow, TS.ex, treeMode, AV.isOwn, TK.isSl, nilTk, nilsB, oLenQ, oLen, nodupB, treeOf, kidAbs, kidRows, TK.isCell, D.toL, oLoad, oStore, oMake, oIndexAddr, ↓reduceIte, reduceCtorEq, Nat.reduceBEq, Nat.reduceAdd, Nat.reduceMul, Nat.reduceLT, Nat.reduceSub, Nat.reduceLeDiff, Nat.reduceEqDiff, Nat.reduceBneDiff, Int.reduceToNat, decide_eq_true_eq, decide_eq_false_iff_not, beq_iff_eq, Int.toNat_natCast, loopK_normal, loopK_exit, loopK_ret, w2]
                  exact ⟨by kernel_rfl, ⟨_, rfl, hl⟩, ⟨by omega, by omega⟩, by kernel_rfl, ⟨_, rfl, show (ps[k].d).length ≤ 1048576 by omega⟩, ⟨by omega, by omega⟩, by kernel_rfl, (k + 1, true), [(0, some 0), (1, some _), (2, some _), (3, some _), (4, some _)], ⟨by omega, p2.symm⟩, by simp only; omega, ⟨⟨trivial, trivial, ⟨rfl, rfl, rfl⟩, ⟨rfl, rfl, rfl⟩, ⟨rfl, rfl, rfl⟩, trivial, ⟨rfl, rfl, rfl⟩, ⟨rfl, rfl, rfl⟩, trivial, trivial, ⟨rfl, rfl, rfl⟩, fitT_rep _ _ rfl⟩, ⟨.inl rfl, rfl, rfl, rfl, .inl rfl, rfl, rfl, rfl, .inl rfl, rfl, rfl, rfl, .inl rfl, rfl, rfl, rfl, .inl rfl, rfl, rfl, rfl, trivial⟩, by simp [rn, hpAt]⟩, by simp [keepIds]⟩
                · obtain ⟨p1, p2⟩ := putK_past (q := ⟨f, t, p, h, i, a, m, u, xs⟩) hk hk2.symm hq
                  have e1 := app (putK ps ⟨f, t, p, h, i, a, m, u, xs⟩ k) ps[k]
                  rw [pRow, p1] at e1
                  simp (maxSteps := 3000000) only [Try.f66, spp, g_partOk, g_packetOk, g_ofOne, g_packetCopied, psOf_rows, bytesOf_rows, pRows_len, rowsOf_len, hrow, hlt, h0, hq, e1, D.toI, dB, D.toB, D.toL, pRow, tYs, evL, implies_true, oMin, oCopy, oBin, oUn, oLoadKid, oStoreTree, oField, oExtract, oNil, oSliceQ, oLoadRow, takeCells, TS.atRow, TS.ex, treeMode, AV.isOwn, TK.isSl, nilTk, nilsB, oLenQ, oLen, nodupB, treeOf, kidAbs, kidRows, TK.isCell, D.toL, oLoad, oStore, oMake, oIndexAddr, ↓reduceIte, reduceCtorEq, Nat.reduceBEq, Nat.reduceAdd, Nat.reduceMul, Nat.reduceLT, Nat.reduceSub, Nat.reduceLeDiff, Nat.reduceEqDiff, Nat.reduceBneDiff, Int.reduceToNat, decide_eq_true_eq, decide_eq_false_iff_not, beq_iff_eq, Int.toNat_natCast, loopK_normal, loopK_exit, loopK_ret, w2]
                  exact ⟨by kernel_rfl, ⟨_, rfl, show (ps[k].d).length ≤ 1048576 by omega⟩, ⟨by omega, by omega⟩, by kernel_rfl, (k + 1, false), [(0, some 0), (1, some _), (2, some _), (3, some _), (4, some _)], ⟨by omega, p2.symm⟩, by simp only; omega, ⟨⟨trivial, trivial, ⟨rfl, rfl, rfl⟩, ⟨rfl, rfl, rfl⟩, ⟨rfl, rfl, rfl⟩, trivial, ⟨rfl, rfl, rfl⟩, ⟨rfl, rfl, rfl⟩, trivial, trivial, ⟨rfl, rfl, rfl⟩, fitT_rep _ _ rfl⟩, ⟨.inl rfl, rfl, rfl, rfl, .inl rfl, rfl, rfl, rfl, .inl rfl, rfl, rfl, rfl, .inl rfl, rfl, rfl, rfl, .inl rfl, rfl, rfl, rfl, trivial⟩, by simp [rn, hpAt]⟩, by simp [keepIds]⟩
            · have hlt : ((k : Int) < (ps.length : Int)) = False := eq_false (by omega)
              obtain rfl : k = ps.length := by omega
              have hpl := putK_len ps ⟨f, t, p, h, i, a, m, u, xs⟩ ps.length
              have app : ∀ l (y : Pk), pRows l ++ [pRow y] = pRows (l ++ [y]) := fun l y => by rw [← pRows_app]; rfl
              have hfl := finL_len ps ⟨f, t, p, h, i, a, m, u, xs⟩
              have hfm := finL_mid (q := ⟨f, t, p, h, i, a, m, u, xs⟩) hm hpq hl
              cases dn with
              | true =>
                rw [putK_end.1 hk2.symm]
                simp (maxSteps := 3000000) only [Try.f66, spp, g_partOk, g_packetOk, g_ofOne, g_packetCopied, psOf_rows, bytesOf_rows, pRows_len, rowsOf_len, hlt, D.toI, dB, D.toB, D.toL, pRow, tYs, evL, implies_true, oMin, oCopy, oBin, oUn, oLoadKid, oStoreTree, oField, oExtract, oNil, oSliceQ, oLoadRow, takeCells, TS.atRow, TS.ex, treeMode, AV.isOwn, TK.isSl, nilTk, nilsB, oLenQ, oLen, nodupB, treeOf, kidAbs, kidRows, TK.isCell, D.toL, oLoad, oStore, oMake, oIndexAddr, ↓reduceIte, reduceCtorEq, Nat.reduceBEq, Nat.reduceAdd, Nat.reduceMul, Nat.reduceLT, Nat.reduceSub, Nat.reduceLeDiff, Nat.reduceEqDiff, Nat.reduceBneDiff, Int.reduceToNat, decide_eq_true_eq, decide_eq_false_iff_not, beq_iff_eq, Int.toNat_natCast, loopK_normal, loopK_exit, loopK_ret]
                refine ⟨⟨_, rfl, hfm⟩, ?_⟩
                by_cases h5 : partB (finL ps ⟨f, t, p, h, i, a, m, u, xs⟩) un = true
                · rw [if_pos h5] at hO
                  obtain ⟨e1, e2⟩ := yes _ hO
                  rw [if_neg (by simp [h5]), e1, e2, hO]
                  exact ⟨_, [(0, some _)], rfl, ⟨⟨⟨rfl, rfl, rfl⟩, trivial⟩, ⟨.inl rfl, rfl, rfl, rfl, trivial⟩, by simp [rn, hpAt]⟩⟩
                · rw [if_neg h5] at hO
                  obtain ⟨e1, e2⟩ := no hO
                  rw [if_pos (by simp [h5]), e1, e2, hO]
                  exact ⟨_, [(0, none)], rfl, ⟨⟨⟨rfl, rfl, rfl⟩, trivial⟩, ⟨⟨by omega, rfl, rfl⟩, rfl, rfl, rfl, trivial⟩, by simp [rn, hpAt]⟩⟩
              | false =>
                have e1 := app (putK ps ⟨f, t, p, h, i, a, m, u, xs⟩ ps.length) ⟨f, t, p, h, i, a, m, u, xs⟩
                rw [pRow, putK_end.2 hk2.symm] at e1
                simp (maxSteps := 3000000) only [Try.f66, spp, g_partOk, g_packetOk, g_ofOne, g_packetCopied, psOf_rows, bytesOf_rows, pRows_len, rowsOf_len, hlt, e1, D.toI, dB, D.toB, D.toL, pRow, tYs, evL, implies_true, oMin, oCopy, oBin, oUn, oLoadKid, oStoreTree, oField, oExtract, oNil, oSliceQ, oLoadRow, takeCells, TS.atRow, TS.ex, treeMode, AV.isOwn, TK.isSl, nilTk, nilsB, oLenQ, oLen, nodupB, treeOf, kidAbs, kidRows, TK.isCell, D.toL, oLoad, oStore, oMake, oIndexAddr, ↓reduceIte, reduceCtorEq, Nat.reduceBEq, Nat.reduceAdd, Nat.reduceMul, Nat.reduceLT, Nat.reduceSub, Nat.reduceLeDiff, Nat.reduceEqDiff, Nat.reduceBneDiff, Int.reduceToNat, decide_eq_true_eq, decide_eq_false_iff_not, beq_iff_eq, Int.toNat_natCast, loopK_normal, loopK_exit, loopK_ret]
                refine ⟨⟨_, rfl, hl⟩, ⟨by omega, by omega⟩, by kernel_rfl, ⟨_, rfl, hfm⟩, ?_⟩
                by_cases h5 : partB (finL ps ⟨f, t, p, h, i, a, m, u, xs⟩) un = true
                · rw [if_pos h5] at hO
                  obtain ⟨e1, e2⟩ := yes _ hO
                  rw [if_neg (by simp [h5]), e1, e2, hO]
                  exact ⟨_, [(0, some _)], rfl, ⟨⟨⟨rfl, rfl, rfl⟩, trivial⟩, ⟨.inl rfl, rfl, rfl, rfl, trivial⟩, by simp [rn, hpAt]⟩⟩
                · rw [if_neg h5] at hO
                  obtain ⟨e1, e2⟩ := no hO
                  rw [if_pos (by simp [h5]), e1, e2, hO]
                  exact ⟨_, [(0, none)], rfl, ⟨⟨⟨rfl, rfl, rfl⟩, trivial⟩, ⟨⟨by omega, rfl, rfl⟩, rfl, rfl, rfl, trivial⟩, by simp [rn, hpAt]⟩⟩
        · obtain ⟨e1, e2⟩ := no (nil1 (Bool.eq_false_iff.2 h3))
          rw [if_pos (by simp [h3]), e1, e2, nil1 (Bool.eq_false_iff.2 h3)]
          exact ⟨by kernel_rfl, _, [(0, none)], rfl, ⟨⟨⟨rfl, rfl, rfl⟩, trivial⟩, ⟨⟨by omega, rfl, rfl⟩, rfl, rfl, rfl, trivial⟩, by simp [rn, hpAt]⟩⟩
      · have h2 := Bool.eq_false_iff.2 h2
        obtain ⟨e1, e2⟩ := no (nil1 (by rw [h2]; rfl))
        rw [if_neg (by simp [h2]), e1, e2, nil1 (by rw [h2]; rfl)]
        exact ⟨by kernel_rfl, _, [(0, none)], rfl, ⟨⟨⟨rfl, rfl, rfl⟩, trivial⟩, ⟨⟨by omega, rfl, rfl⟩, rfl, rfl, rfl, trivial⟩, by simp [rn, hpAt]⟩⟩
    · have h1 := Bool.eq_false_iff.2 h1
      obtain ⟨e1, e2⟩ := no (nil1 (by rw [h1]; rfl))
      simp (maxSteps := 3000000) only [Try.f66, spp, g_partOk, g_packetOk, g_ofOne, g_packetCopied, psOf_rows, bytesOf_rows, pRows_len, rowsOf_len, h1, e1, e2, nil1 (by rw [h1]; rfl), Option.isSome_none, tYs, evL, implies_true, oMin, oCopy, oBin, oUn, oLoadKid, oStoreTree, oField, oExtract, oNil, oSliceQ, oLoadRow, takeCells, TS.atRow, TS.ex, treeMode, AV.isOwn, TK.isSl, nilTk, nilsB, oLenQ, oLen, nodupB, treeOf, kidAbs, kidRows, TK.isCell, D.toL, oLoad, oStore, oMake, oIndexAddr, ↓reduceIte, reduceCtorEq, Nat.reduceBEq, Nat.reduceAdd, Nat.reduceMul, Nat.reduceLT, Nat.reduceSub, Nat.reduceLeDiff, Nat.reduceEqDiff, Nat.reduceBneDiff, Int.reduceToNat, decide_eq_true_eq, decide_eq_false_iff_not, beq_iff_eq, Int.toNat_natCast]
      exact ⟨⟨_, rfl, hm⟩, by kernel_rfl, _, [(0, none)], rfl, ⟨⟨⟨rfl, rfl, rfl⟩, trivial⟩, ⟨⟨by omega, rfl, rfl⟩, rfl, rfl, rfl, trivial⟩, by simp [rn, hpAt]⟩⟩
  · cases hg
end Go.Proofs.Ytegffkmakkccaaa
