import Derived.Test.YtegffkmakkccaaaKx
import Derived.Test.YtegffkmakkccaaaKl
set_option linter.unusedVariables false
set_option linter.unusedSimpArgs false
namespace Go.Proofs.Ytegffkmakkccaaa
open Go.RowKit
set_option linter.unusedSimpArgs false
theorem putV_rs (l : List RE) (r : RE) : rsB (putV l r) = true := by
  cases h : putB l r with
  | true => exact (put_rs h).2.2
  | false => rw [putV, h]; rfl
theorem njK_rs (xs : List UInt8) (many k p : Int) : ∀ j, rsB (njK xs many k p j).1 = true
  | 0 => rfl
  | j + 1 => by
    rw [njK, njStep]
    split
    · exact njK_rs xs many k p j
    · split
      · exact putV_rs _ _
      · exact njK_rs xs many k p j
theorem nkEnd_rs (xs : List UInt8) (many : Int) {s : List RE × Int} (h : rsB s.1 = true) : rsB (nkEnd xs many s).1 = true := by
  rw [nkEnd]
  split
  · exact putV_rs _ _
  · exact h
theorem nkK_rs (xs : List UInt8) (many p : Int) : ∀ k, ∀ s ∈ (nkK xs many p k).1, rsB s.rs = true
  | 0 => fun s hs => by cases hs
  | k + 1 => fun s hs => by
    rw [nkK] at hs
    rcases List.mem_append.1 hs with hs | hs
    · exact nkK_rs xs many p k s hs
    · rw [List.mem_singleton.1 hs]
      exact nkEnd_rs xs many (njK_rs _ _ _ _ _)
theorem netV_rs (xs : List UInt8) (p n : Int) : ∀ s ∈ netV xs p n, rsB s.rs = true := by
  have h : ∀ s ∈ (netL xs p).1, rsB s.rs = true := nkK_rs _ _ _ _
  intro s hs
  rw [netV] at hs
  split at hs
  · rcases List.mem_append.1 hs with hs | hs
    · exact h s hs
    · rw [List.mem_singleton.1 hs]; exact get_rs h 0
  · exact h s hs
def wyA (i : Int) : Int := [0, 8, 10, 12].getD i.toNat 0
def wyT (i : Int) : Int := [14, 15, 16].getD i.toNat 0
def wyR (xs : List UInt8) (u : Int) : RE := ⟨wyA (pickV xs u 4), wyT (pickV xs (u + 1) 3), 10 + pickV xs (u + 1 + 1) 5, 3 + pickV xs (u + 1 + 1 + 1) 2 * 8⟩
def wyStep (xs : List UInt8) (s : List RE × Int) : List RE × Int := if putB s.1 (wyR xs s.2) = true then (putV s.1 (wyR xs s.2), s.2 + 1 + 1 + 1 + 1) else (s.1, s.2 + 1 + 1 + 1 + 1)
def wyJ (xs : List UInt8) (s : List RE × Int) : Nat → List RE × Int
  | 0 => s
  | j + 1 => wyStep xs (wyJ xs s j)
def wyC (xs : List UInt8) (q : Int) : Nat := (pickV xs q 4).toNat
def wyN (xs : List UInt8) (net : List St) (q : Int) : Nat → List St × Int
  | 0 => (net, q)
  | k + 1 => ((wyN xs net q k).1.set k ⟨((wyN xs net q k).1.getD k st0).a, (wyJ xs (((wyN xs net q k).1.getD k st0).rs, (wyN xs net q k).2 + 1) (wyC xs (wyN xs net q k).2)).1⟩, (wyJ xs (((wyN xs net q k).1.getD k st0).rs, (wyN xs net q k).2 + 1) (wyC xs (wyN xs net q k).2)).2)
theorem wyJ_bd (xs : List UInt8) (s : List RE × Int) (h : rsB s.1 = true) : ∀ j : Nat, rsB (wyJ xs s j).1 = true ∧ s.2 ≤ (wyJ xs s j).2 ∧ (wyJ xs s j).2 ≤ s.2 + 4 * (j : Int)
  | 0 => ⟨h, by simp [wyJ], by simp [wyJ]⟩
  | j + 1 => by
    obtain ⟨h1, h2, h3⟩ := wyJ_bd xs s h j
    rw [wyJ, wyStep]
    split
    · exact ⟨putV_rs _ _, by dsimp only; omega, by dsimp only; omega⟩
    · exact ⟨h1, by dsimp only; omega, by dsimp only; omega⟩
theorem wyC_le (xs : List UInt8) (q : Int) (hq : q < 1000000000) : wyC xs q ≤ 3 ∧ pickV xs q 4 = (wyC xs q : Int) := by
  have a1 := pickV_nonneg xs q 4 (by omega)
  have a2 := pickV_lt xs q 4 (by omega)
  unfold wyC; omega
theorem wyN_bd (xs : List UInt8) {net : List St} {q : Int} (h : ∀ s ∈ net, rsB s.rs = true) (hq : q < 100000) : ∀ k : Nat, k ≤ 1000 → (wyN xs net q k).1.length = net.length ∧ (∀ s ∈ (wyN xs net q k).1, rsB s.rs = true) ∧ q ≤ (wyN xs net q k).2 ∧ (wyN xs net q k).2 ≤ q + 13 * (k : Int)
  | 0, _ => ⟨rfl, h, by simp [wyN], by simp [wyN]⟩
  | k + 1, hk => by
    obtain ⟨h1, h2, h3, h4⟩ := wyN_bd xs h hq k (by omega)
    have hc := (wyC_le xs (wyN xs net q k).2 (by omega)).1
    have hj := wyJ_bd xs (((wyN xs net q k).1.getD k st0).rs, (wyN xs net q k).2 + 1) (get_rs h2 k) (wyC xs (wyN xs net q k).2)
    dsimp only at hj
    rw [wyN]
    refine ⟨by dsimp only; rw [List.length_set]; exact h1, fun s hs => ?_, by dsimp only; omega, by dsimp only; omega⟩
    rcases List.mem_or_eq_of_mem_set hs with hs | rfl
    · exact h2 s hs
    · exact hj.1
def waysS (xs : List UInt8) : List St × Int := wyN xs (netV xs 0 0) (netQ xs 0 0) (netV xs 0 0).length
def waysF (xs : List UInt8) : Int := pickV xs (waysS xs).2 (waysS xs).1.length
def waysP (xs : List UInt8) : PkV := sentV xs ((waysS xs).2 + 1)
def g_drawWy : PC := fun args => match args with
  | [.l _ rows] => some (∃ xs, rows = rowsOfBytes xs, .tup [.l 2 (stRows (waysS ((bytesOfRows rows).take 2000)).1), .v (.int .i64 (waysF ((bytesOfRows rows).take 2000))), .agg [.v (.int .i64 (waysP ((bytesOfRows rows).take 2000)).f), .v (.int .i64 (waysP ((bytesOfRows rows).take 2000)).t), .v (.int .i64 (waysP ((bytesOfRows rows).take 2000)).pr), .v (.int .i64 (waysP ((bytesOfRows rows).take 2000)).h), .v (.int .i64 (waysP ((bytesOfRows rows).take 2000)).i), .v (.int .i64 (waysP ((bytesOfRows rows).take 2000)).a), .v (.bool (waysP ((bytesOfRows rows).take 2000)).m), .v (.bool (waysP ((bytesOfRows rows).take 2000)).u), .l 1 (rowsOfBytes (waysP ((bytesOfRows rows).take 2000)).d)]], [])
  | _ => none
def g_netO : OC := fun args B0 => match args, B0 with
  | [.ptr r o, .v (.int .i64 n)], [.var T [.l 1 rows, .v (.int .i64 p)]] => some (T = 148 ∧ r = 0 ∧ o = 0 ∧ (∃ xs, rows = rowsOfBytes xs ∧ xs.length ≤ 2000) ∧ 0 ≤ p ∧ p < 10000000000 ∧ 0 ≤ n ∧ n ≤ 1000000, .own 1, [.var T [.l 1 rows, .v (.int .i64 (netQ (bytesOfRows rows) p n))]], [.sl 68 2 (stRows (netV (bytesOfRows rows) p n))])
  | _, _ => none
def g_sentO : OC := fun args B0 => match args, B0 with
  | [.ptr r o, .own s], [.var T [.l 1 rows, .v (.int .i64 p)], .sl TT sz nr] => some (s = 1 ∧ T = 148 ∧ r = 0 ∧ o = 0 ∧ (∃ xs, rows = rowsOfBytes xs ∧ xs.length ≤ 2000) ∧ 0 ≤ p ∧ p < 10000000000, .agg [.v (.int .i64 (sentV (bytesOfRows rows) p).f), .v (.int .i64 (sentV (bytesOfRows rows) p).t), .v (.int .i64 (sentV (bytesOfRows rows) p).pr), .v (.int .i64 (sentV (bytesOfRows rows) p).h), .v (.int .i64 (sentV (bytesOfRows rows) p).i), .v (.int .i64 (sentV (bytesOfRows rows) p).a), .v (.bool (sentV (bytesOfRows rows) p).m), .v (.bool (sentV (bytesOfRows rows) p).u), .l 1 (rowsOfBytes (sentV (bytesOfRows rows) p).d)], [.var T [.l 1 rows, .v (.int .i64 (sentV (bytesOfRows rows) p).q)], .sl TT sz nr], [])
  | _, _ => none
set_option maxHeartbeats 8000000 in
set_option maxRecDepth 100000 in
theorem l20NetO_ok : OwnOk Try.prog 90 g_netO := by
  refine OwnOk.of_vc (G := knl) knl_ok mixed Try.func90 (by kernel_rfl) rfl ?_
  intro args B0 cnd r B1 bs hg hc hlive
  unfold g_netO at hg
  split at hg
  · rename_i r o n T rows p
    cases hg
    obtain ⟨rfl, rfl, rfl, ⟨xs, rfl, hl⟩, hp0, hp1, hn0, hn1⟩ := hc
    rw [bytesOf_rows]
    have hMb := manyV_bd xs p (by omega)
    obtain ⟨M, hM⟩ : ∃ M : Nat, manyV xs p = (M : Int) := ⟨(manyV xs p).toNat, by omega⟩
    have hM2 : 1 + pickV xs p 5 = (M : Int) := hM
    rw [hM] at hMb
    have hNL : netL xs p = nkK xs (M : Int) (p + 1) M := by rw [netL, hM, Int.toNat_natCast]
    have w0 : IntKind.i64.wrap (1 + pickV xs p 5) = (M : Int) := by rw [hM2]; exact wrap_id (by omega) (by omega)
    refine ⟨⟨by simp [likeBs, likeB], by simp [Blk.liveB, blkIds, AV.ids.idsL, AV.ids], by simp [AV.ids, AV.ids.idsL]⟩, _, rfl, fun w Z s vs h => h, ?_⟩
    clear hlive
    have hx : (∃ ys, rowsOfBytes xs = rowsOfBytes ys ∧ ys.length ≤ 2000) = True := eq_true ⟨xs, rfl, hl⟩
    simp (maxSteps := 3000000) only [Try.f90, knl, g_pick, g_odd, g_routePut, bytesOf_rows, rtsOf_rows, rtRows_len, stRows_len, w0, hx, D.toI, D.toL, ↓reduceIte, Bool.false_eq_true, tYs, evL, implies_true, oMin, oCopy, oBin, oUn, oLoadKid, oStoreTree, oField, oExtract, oNil, oSliceQ, oLoadRow, takeCells, TS.atRow, TS.ex, treeMode, AV.isOwn, TK.isSl, nilTk, nilsB, oLenQ, oLen, nodupB, treeOf, kidAbs, kidRows, TK.isCell, D.toL, oLoad, oStore, oMake, oIndexAddr, ↓reduceIte, reduceCtorEq, Nat.reduceBEq, Nat.reduceAdd, Nat.reduceMul, Nat.reduceLT, Nat.reduceSub, Nat.reduceLeDiff, Nat.reduceEqDiff, Nat.reduceBneDiff, Int.reduceToNat, decide_eq_true_eq, decide_eq_false_iff_not, beq_iff_eq, Int.toNat_natCast, loopK_normal, loopK_exit, loopK_ret]
    (repeat (refine And.intro ?_ ?_; focus (((repeat' apply And.intro) <;> first | exact rowsOf_w _ | omega | (simp only [List.length_append, rowsOf_len, List.length_cons, List.length_nil, marks_len, List.length_take, List.length_drop, List.length_set]; omega) | exact ⟨_, rfl⟩ | (refine ⟨_, rfl, ?_⟩; omega) | (refine ⟨_, rfl, ?_⟩; simp only [List.length_append, rowsOf_len, List.length_cons, List.length_nil, marks_len, List.length_take, List.length_drop, List.length_set]; omega) | kernel_rfl | (simp; done)); done)))
    refine e_loop _ _ _ _ _ _ _ _ (fun x : Nat × List St × Int => [.ptr 0 0, .v (.int .i64 n), .any, .any, .any, .v (.int .i64 (M : Int)), .own 1, .v (.int .i64 (x.1 : Int))] ++ List.replicate (Try.f90.ntmps - 8) .any) (fun x => [(0, .var 148 [.l 1 (rowsOfBytes xs), .v (.int .i64 x.2.2)]), (1, .sl 68 2 (stRows x.2.1))]) (fun x => x.1 ≤ M ∧ (x.2.1, x.2.2) = nkK xs (M : Int) (p + 1) x.1) (fun x => M - x.1) 2 (fun x => by simp) ?_ fun x hk' => ?_
    · exact ⟨(0, [], p + 1), [(0, some 0), (1, some _)], ⟨Nat.zero_le _, rfl⟩, ⟨⟨⟨rfl, rfl, rfl⟩, ⟨rfl, rfl, rfl⟩, trivial, trivial, trivial, ⟨rfl, rfl, rfl⟩, ⟨rfl, rfl, rfl⟩, ⟨rfl, rfl, rfl⟩, fitT_rep _ _ rfl⟩, ⟨.inl rfl, rfl, rfl, rfl, .inl rfl, rfl, rfl, rfl, trivial⟩, by simp [rn, hpAt]⟩, by simp [keepIds, rn]⟩
    obtain ⟨k, L, q⟩ := x
    obtain ⟨hk1, hLq⟩ := hk'
    dsimp only at hk1 hLq
    have hbd := nkK_bd xs (M : Int) (p + 1) (by omega) k
    rw [← hLq] at hbd
    dsimp only at hbd
    obtain ⟨hL1, hL2, hq0, hq1⟩ := hbd
    have w2 : IntKind.i64.wrap ((k : Int) + 1) = ((k + 1 : Nat) : Int) := wrap_id (by omega) (by omega)
    have w3 : IntKind.i64.wrap (10 + (k : Int)) = 10 + (k : Int) := wrap_id (by omega) (by omega)
    by_cases hk : k < M
    · have hg1 : ((k : Int) < (M : Int)) = True := eq_true (by omega)
      simp (maxSteps := 3000000) only [Try.f90, knl, g_pick, g_odd, g_routePut, bytesOf_rows, rtsOf_rows, rtRows_len, stRows_len, hg1, w2, w3, hx, D.toI, D.toL, ↓reduceIte, Bool.false_eq_true, tYs, evL, implies_true, oMin, oCopy, oBin, oUn, oLoadKid, oStoreTree, oField, oExtract, oNil, oSliceQ, oLoadRow, takeCells, TS.atRow, TS.ex, treeMode, AV.isOwn, TK.isSl, nilTk, nilsB, oLenQ, oLen, nodupB, treeOf, kidAbs, kidRows, TK.isCell, D.toL, oLoad, oStore, oMake, oIndexAddr, ↓reduceIte, reduceCtorEq, Nat.reduceBEq, Nat.reduceAdd, Nat.reduceMul, Nat.reduceLT, Nat.reduceSub, Nat.reduceLeDiff, Nat.reduceEqDiff, Nat.reduceBneDiff, Int.reduceToNat, decide_eq_true_eq, decide_eq_false_iff_not, beq_iff_eq, Int.toNat_natCast, loopK_normal, loopK_exit, loopK_ret]
      refine e_loop _ _ _ _ _ _ _ _ (fun y : Nat × List RE × Int => [.ptr 0 0, .v (.int .i64 n), .any, .any, .any, .v (.int .i64 (M : Int)), .own 1, .v (.int .i64 (k : Int)), .ptr 2 0, .v (.int .i64 (y.1 : Int))] ++ List.replicate (Try.f90.ntmps - 10) .any) (fun y => [(0, .var 148 [.l 1 (rowsOfBytes xs), .v (.int .i64 y.2.2)]), (1, .sl 68 2 (stRows L)), (2, .var 68 [.v (.int .i64 (10 + (k : Int))), .own 3]), (3, .sl 120 4 (rtRows y.2.1))]) (fun y => y.1 ≤ M ∧ (y.2.1, y.2.2) = njK xs (M : Int) (k : Int) q y.1) (fun y => M - y.1) 4 (fun y => by simp) ?_ fun y hj' => ?_
      · exact ⟨(0, [], q), [(0, some 0), (1, some _), (2, some _), (3, none)], ⟨Nat.zero_le _, rfl⟩, ⟨⟨⟨rfl, rfl, rfl⟩, ⟨rfl, rfl, rfl⟩, trivial, trivial, trivial, ⟨rfl, rfl, rfl⟩, ⟨rfl, rfl, rfl⟩, ⟨rfl, rfl, rfl⟩, ⟨rfl, rfl, rfl⟩, ⟨rfl, rfl, rfl⟩, fitT_rep _ _ rfl⟩, ⟨.inl rfl, rfl, rfl, rfl, .inl rfl, rfl, rfl, rfl, .inl rfl, rfl, rfl, rfl, ⟨by omega, rfl⟩, rfl, rfl, rfl, trivial⟩, by simp [rn, hpAt]⟩, by simp [keepIds, rn]⟩
      obtain ⟨j, R, u⟩ := y
      obtain ⟨hj1, hRu⟩ := hj'
      dsimp only at hj1 hRu
      have hbj := njK_bd xs (M : Int) (k : Int) q j
      rw [← hRu] at hbj
      dsimp only at hbj
      obtain ⟨hR8, hu0, hu1⟩ := hbj
      have v2 : IntKind.i64.wrap ((j : Int) + 1) = ((j + 1 : Nat) : Int) := wrap_id (by omega) (by omega)
      by_cases hj : j < M
      · have hh1 : ((j : Int) < (M : Int)) = True := eq_true (by omega)
        by_cases hjk : j = k
        · have hn1 : ((j : Int) != (k : Int)) = false := by simp [hjk]
          simp (maxSteps := 3000000) only [Try.f90, knl, g_pick, g_odd, g_routePut, bytesOf_rows, rtsOf_rows, rtRows_len, stRows_len, hh1, hn1, v2, hx, D.toI, D.toL, ↓reduceIte, Bool.false_eq_true, tYs, evL, implies_true, oMin, oCopy, oBin, oUn, oLoadKid, oStoreTree, oField, oExtract, oNil, oSliceQ, oLoadRow, takeCells, TS.atRow, TS.ex, treeMode, AV.isOwn, TK.isSl, nilTk, nilsB, oLenQ, oLen, nodupB, treeOf, kidAbs, kidRows, TK.isCell, D.toL, oLoad, oStore, oMake, oIndexAddr, ↓reduceIte, reduceCtorEq, Nat.reduceBEq, Nat.reduceAdd, Nat.reduceMul, Nat.reduceLT, Nat.reduceSub, Nat.reduceLeDiff, Nat.reduceEqDiff, Nat.reduceBneDiff, Int.reduceToNat, decide_eq_true_eq, decide_eq_false_iff_not, beq_iff_eq, Int.toNat_natCast, loopK_normal, loopK_exit, loopK_ret]
          exact ⟨(j + 1, R, u), [(0, some 0), (1, some _), (2, some _), (3, some _)], ⟨by dsimp only; omega, by dsimp only; rw [njK, ← hRu]; exact (nj_skip xs (M : Int) (k : Int) R u (j : Int) (by omega)).symm⟩, by dsimp only; omega, ⟨⟨⟨rfl, rfl, rfl⟩, ⟨rfl, rfl, rfl⟩, trivial, trivial, trivial, ⟨rfl, rfl, rfl⟩, ⟨rfl, rfl, rfl⟩, ⟨rfl, rfl, rfl⟩, ⟨rfl, rfl, rfl⟩, ⟨rfl, rfl, rfl⟩, fitT_rep _ _ rfl⟩, ⟨.inl rfl, rfl, rfl, rfl, .inl rfl, rfl, rfl, rfl, .inl rfl, rfl, rfl, rfl, .inl rfl, rfl, rfl, rfl, trivial⟩, by simp [rn, hpAt]⟩, by simp [keepIds, rn]⟩
        · have hn1 : ((j : Int) != (k : Int)) = true := by
            rw [bne_iff_ne]; omega
          by_cases h12 : 0 < pickV xs u 12
          · have c12 : (pickV xs u 12 > 0) = True := eq_true h12
            have v3 : IntKind.i64.wrap (10 + (j : Int)) = 10 + (j : Int) := wrap_id (by omega) (by omega)
            have v4 : IntKind.i64.wrap (10 + (k : Int) + 1) = 10 + (k : Int) + 1 := wrap_id (by omega) (by omega)
            have v5 : IntKind.i64.wrap (10 + (k : Int) - 1) = 10 + (k : Int) - 1 := wrap_id (by omega) (by omega)
            have v6 : IntKind.i64.wrap ((M : Int) + 1) = (M : Int) + 1 := wrap_id (by omega) (by omega)
            have a1 := pickV_nonneg xs (u + 1 + 1) ((M : Int) + 1) (by omega)
            have a2 := pickV_lt xs (u + 1 + 1) ((M : Int) + 1) (by omega)
            have v7 : IntKind.i64.wrap (10 + pickV xs (u + 1 + 1) ((M : Int) + 1)) = 10 + pickV xs (u + 1 + 1) ((M : Int) + 1) := wrap_id (by omega) (by omega)
            by_cases hz : pickV xs (u + 1) 20 = 0
            · have c20 : (pickV xs (u + 1) 20 = 0) = True := eq_true hz
              by_cases hl : (j : Int) < (k : Int)
              · have hlt : ((j : Int) < (k : Int)) = True := eq_true hl
                have hvp : viaP xs u = u + 1 + 1 + 1 := by rw [viaP, if_pos hz]
                have hvv : viaV xs (M : Int) (k : Int) (j : Int) u = 10 + pickV xs (u + 1 + 1) ((M : Int) + 1) := by rw [viaV, if_pos hz]
                have b1 := pickV_nonneg xs (u + 1 + 1 + 1) 4 (by omega)
                have b2 := pickV_lt xs (u + 1 + 1 + 1) 4 (by omega)
                have w5 : IntKind.i64.wrap (pickV xs (u + 1 + 1 + 1) 4 * 4) = pickV xs (u + 1 + 1 + 1) 4 * 4 := wrap_id (by omega) (by omega)
                have w6 : IntKind.i64.wrap (3 + pickV xs (u + 1 + 1 + 1) 4 * 4) = 3 + pickV xs (u + 1 + 1 + 1) 4 * 4 := wrap_id (by omega) (by omega)
                simp (maxSteps := 3000000) only [Try.f90, knl, g_pick, g_odd, g_routePut, bytesOf_rows, rtsOf_rows, rtRows_len, stRows_len, hh1, hn1, c12, v2, w3, v3, v4, v5, v6, v7, hlt, c20, w5, w6, hx, D.toI, D.toL, ↓reduceIte, Bool.false_eq_true, tYs, evL, implies_true, oMin, oCopy, oBin, oUn, oLoadKid, oStoreTree, oField, oExtract, oNil, oSliceQ, oLoadRow, takeCells, TS.atRow, TS.ex, treeMode, AV.isOwn, TK.isSl, nilTk, nilsB, oLenQ, oLen, nodupB, treeOf, kidAbs, kidRows, TK.isCell, D.toL, oLoad, oStore, oMake, oIndexAddr, ↓reduceIte, reduceCtorEq, Nat.reduceBEq, Nat.reduceAdd, Nat.reduceMul, Nat.reduceLT, Nat.reduceSub, Nat.reduceLeDiff, Nat.reduceEqDiff, Nat.reduceBneDiff, Int.reduceToNat, decide_eq_true_eq, decide_eq_false_iff_not, beq_iff_eq, Int.toNat_natCast, loopK_normal, loopK_exit, loopK_ret]
                clear w5 w6
                repeat' first
                  | refine And.intro (by omega) ?_
                  | refine And.intro ⟨by omega, by omega⟩ ?_
                  | refine And.intro ⟨by omega, by omega, by omega⟩ ?_
                  | refine And.intro ⟨by omega, by omega, by omega, by omega⟩ ?_
                  | refine And.intro ⟨R, rfl, by omega⟩ ?_
                  | refine And.intro (by kernel_rfl) ?_
                exact ⟨(j + 1, putV R ⟨10 + (j : Int), 16, 10 + pickV xs (u + 1 + 1) ((M : Int) + 1), 3 + pickV xs (u + 1 + 1 + 1) 4 * 4⟩, u + 1 + 1 + 1 + 1), [(0, some 0), (1, some _), (2, some _), (3, some _)], ⟨by dsimp only; omega, by dsimp only; rw [njK, ← hRu]; exact (nj_put xs (M : Int) (k : Int) R u (j : Int) (by omega) h12 hvv hvp).symm⟩, by dsimp only; omega, ⟨⟨⟨rfl, rfl, rfl⟩, ⟨rfl, rfl, rfl⟩, trivial, trivial, trivial, ⟨rfl, rfl, rfl⟩, ⟨rfl, rfl, rfl⟩, ⟨rfl, rfl, rfl⟩, ⟨rfl, rfl, rfl⟩, ⟨rfl, rfl, rfl⟩, fitT_rep _ _ rfl⟩, ⟨.inl rfl, rfl, rfl, rfl, .inl rfl, rfl, rfl, rfl, .inl rfl, rfl, rfl, rfl, .inl rfl, rfl, rfl, rfl, trivial⟩, by simp [rn, hpAt]⟩, by simp [keepIds, rn]⟩
              · have hlt : ((j : Int) < (k : Int)) = False := eq_false hl
                have hvp : viaP xs u = u + 1 + 1 + 1 := by rw [viaP, if_pos hz]
                have hvv : viaV xs (M : Int) (k : Int) (j : Int) u = 10 + pickV xs (u + 1 + 1) ((M : Int) + 1) := by rw [viaV, if_pos hz]
                have b1 := pickV_nonneg xs (u + 1 + 1 + 1) 4 (by omega)
                have b2 := pickV_lt xs (u + 1 + 1 + 1) 4 (by omega)
                have w5 : IntKind.i64.wrap (pickV xs (u + 1 + 1 + 1) 4 * 4) = pickV xs (u + 1 + 1 + 1) 4 * 4 := wrap_id (by omega) (by omega)
                have w6 : IntKind.i64.wrap (3 + pickV xs (u + 1 + 1 + 1) 4 * 4) = 3 + pickV xs (u + 1 + 1 + 1) 4 * 4 := wrap_id (by omega) (by omega)
                simp (maxSteps := 3000000) only [Try.f90, knl, g_pick, g_odd, g_routePut, bytesOf_rows, rtsOf_rows, rtRows_len, stRows_len, hh1, hn1, c12, v2, w3, v3, v4, v5, v6, v7, hlt, c20, w5, w6, hx, D.toI, D.toL, ↓reduceIte, Bool.false_eq_true, tYs, evL, implies_true, oMin, oCopy, oBin, oUn, oLoadKid, oStoreTree, oField, oExtract, oNil, oSliceQ, oLoadRow, takeCells, TS.atRow, TS.ex, treeMode, AV.isOwn, TK.isSl, nilTk, nilsB, oLenQ, oLen, nodupB, treeOf, kidAbs, kidRows, TK.isCell, D.toL, oLoad, oStore, oMake, oIndexAddr, ↓reduceIte, reduceCtorEq, Nat.reduceBEq, Nat.reduceAdd, Nat.reduceMul, Nat.reduceLT, Nat.reduceSub, Nat.reduceLeDiff, Nat.reduceEqDiff, Nat.reduceBneDiff, Int.reduceToNat, decide_eq_true_eq, decide_eq_false_iff_not, beq_iff_eq, Int.toNat_natCast, loopK_normal, loopK_exit, loopK_ret]
                clear w5 w6
                repeat' first
                  | refine And.intro (by omega) ?_
                  | refine And.intro ⟨by omega, by omega⟩ ?_
                  | refine And.intro ⟨by omega, by omega, by omega⟩ ?_
                  | refine And.intro ⟨by omega, by omega, by omega, by omega⟩ ?_
                  | refine And.intro ⟨R, rfl, by omega⟩ ?_
                  | refine And.intro (by kernel_rfl) ?_
                exact ⟨(j + 1, putV R ⟨10 + (j : Int), 16, 10 + pickV xs (u + 1 + 1) ((M : Int) + 1), 3 + pickV xs (u + 1 + 1 + 1) 4 * 4⟩, u + 1 + 1 + 1 + 1), [(0, some 0), (1, some _), (2, some _), (3, some _)], ⟨by dsimp only; omega, by dsimp only; rw [njK, ← hRu]; exact (nj_put xs (M : Int) (k : Int) R u (j : Int) (by omega) h12 hvv hvp).symm⟩, by dsimp only; omega, ⟨⟨⟨rfl, rfl, rfl⟩, ⟨rfl, rfl, rfl⟩, trivial, trivial, trivial, ⟨rfl, rfl, rfl⟩, ⟨rfl, rfl, rfl⟩, ⟨rfl, rfl, rfl⟩, ⟨rfl, rfl, rfl⟩, ⟨rfl, rfl, rfl⟩, fitT_rep _ _ rfl⟩, ⟨.inl rfl, rfl, rfl, rfl, .inl rfl, rfl, rfl, rfl, .inl rfl, rfl, rfl, rfl, .inl rfl, rfl, rfl, rfl, trivial⟩, by simp [rn, hpAt]⟩, by simp [keepIds, rn]⟩
            · have c20 : (pickV xs (u + 1) 20 = 0) = False := eq_false hz
              by_cases hl : (j : Int) < (k : Int)
              · have hlt : ((j : Int) < (k : Int)) = True := eq_true hl
                have hvp : viaP xs u = u + 1 + 1 := by rw [viaP, if_neg hz]
                have hvv : viaV xs (M : Int) (k : Int) (j : Int) u = 10 + (k : Int) - 1 := by rw [viaV, if_neg hz, if_pos hl]
                have b1 := pickV_nonneg xs (u + 1 + 1) 4 (by omega)
                have b2 := pickV_lt xs (u + 1 + 1) 4 (by omega)
                have w5 : IntKind.i64.wrap (pickV xs (u + 1 + 1) 4 * 4) = pickV xs (u + 1 + 1) 4 * 4 := wrap_id (by omega) (by omega)
                have w6 : IntKind.i64.wrap (3 + pickV xs (u + 1 + 1) 4 * 4) = 3 + pickV xs (u + 1 + 1) 4 * 4 := wrap_id (by omega) (by omega)
                simp (maxSteps := 3000000) only [Try.f90, knl, g_pick, g_odd, g_routePut, bytesOf_rows, rtsOf_rows, rtRows_len, stRows_len, hh1, hn1, c12, v2, w3, v3, v4, v5, v6, v7, hlt, c20, w5, w6, hx, D.toI, D.toL, ↓reduceIte, Bool.false_eq_true, tYs, evL, implies_true, oMin, oCopy, oBin, oUn, oLoadKid, oStoreTree, oField, oExtract, oNil, oSliceQ, oLoadRow, takeCells, TS.atRow, TS.ex, treeMode, AV.isOwn, TK.isSl, nilTk, nilsB, oLenQ, oLen, nodupB, treeOf, kidAbs, kidRows, TK.isCell, D.toL, oLoad, oStore, oMake, oIndexAddr, ↓reduceIte, reduceCtorEq, Nat.reduceBEq, Nat.reduceAdd, Nat.reduceMul, Nat.reduceLT, Nat.reduceSub, Nat.reduceLeDiff, Nat.reduceEqDiff, Nat.reduceBneDiff, Int.reduceToNat, decide_eq_true_eq, decide_eq_false_iff_not, beq_iff_eq, Int.toNat_natCast, loopK_normal, loopK_exit, loopK_ret]
                clear w5 w6
                repeat' first
                  | refine And.intro (by omega) ?_
                  | refine And.intro ⟨by omega, by omega⟩ ?_
                  | refine And.intro ⟨by omega, by omega, by omega⟩ ?_
                  | refine And.intro ⟨by omega, by omega, by omega, by omega⟩ ?_
                  | refine And.intro ⟨R, rfl, by omega⟩ ?_
                  | refine And.intro (by kernel_rfl) ?_
                exact ⟨(j + 1, putV R ⟨10 + (j : Int), 16, 10 + (k : Int) - 1, 3 + pickV xs (u + 1 + 1) 4 * 4⟩, u + 1 + 1 + 1), [(0, some 0), (1, some _), (2, some _), (3, some _)], ⟨by dsimp only; omega, by dsimp only; rw [njK, ← hRu]; exact (nj_put xs (M : Int) (k : Int) R u (j : Int) (by omega) h12 hvv hvp).symm⟩, by dsimp only; omega, ⟨⟨⟨rfl, rfl, rfl⟩, ⟨rfl, rfl, rfl⟩, trivial, trivial, trivial, ⟨rfl, rfl, rfl⟩, ⟨rfl, rfl, rfl⟩, ⟨rfl, rfl, rfl⟩, ⟨rfl, rfl, rfl⟩, ⟨rfl, rfl, rfl⟩, fitT_rep _ _ rfl⟩, ⟨.inl rfl, rfl, rfl, rfl, .inl rfl, rfl, rfl, rfl, .inl rfl, rfl, rfl, rfl, .inl rfl, rfl, rfl, rfl, trivial⟩, by simp [rn, hpAt]⟩, by simp [keepIds, rn]⟩
              · have hlt : ((j : Int) < (k : Int)) = False := eq_false hl
                have hvp : viaP xs u = u + 1 + 1 := by rw [viaP, if_neg hz]
                have hvv : viaV xs (M : Int) (k : Int) (j : Int) u = 10 + (k : Int) + 1 := by rw [viaV, if_neg hz, if_neg hl]
                have b1 := pickV_nonneg xs (u + 1 + 1) 4 (by omega)
                have b2 := pickV_lt xs (u + 1 + 1) 4 (by omega)
                have w5 : IntKind.i64.wrap (pickV xs (u + 1 + 1) 4 * 4) = pickV xs (u + 1 + 1) 4 * 4 := wrap_id (by omega) (by omega)
                have w6 : IntKind.i64.wrap (3 + pickV xs (u + 1 + 1) 4 * 4) = 3 + pickV xs (u + 1 + 1) 4 * 4 := wrap_id (by omega) (by omega)
                simp (maxSteps := 3000000) only [Try.f90, knl, g_pick, g_odd, g_routePut, bytesOf_rows, rtsOf_rows, rtRows_len, stRows_len, hh1, hn1, c12, v2, w3, v3, v4, v5, v6, v7, hlt, c20, w5, w6, hx, D.toI, D.toL, ↓reduceIte, Bool.false_eq_true, tYs, evL, implies_true, oMin, oCopy, oBin, oUn, oLoadKid, oStoreTree, oField, oExtract, oNil, oSliceQ, oLoadRow, takeCells, TS.atRow, TS.ex, treeMode, AV.isOwn, TK.isSl, nilTk, nilsB, oLenQ, oLen, nodupB, treeOf, kidAbs, kidRows, TK.isCell, D.toL, oLoad, oStore, oMake, oIndexAddr, ↓reduceIte, reduceCtorEq, Nat.reduceBEq, Nat.reduceAdd, Nat.reduceMul, Nat.reduceLT, Nat.reduceSub, Nat.reduceLeDiff, Nat.reduceEqDiff, Nat.reduceBneDiff, Int.reduceToNat, decide_eq_true_eq, decide_eq_false_iff_not, beq_iff_eq, Int.toNat_natCast, loopK_normal, loopK_exit, loopK_ret]
                clear w5 w6
                repeat' first
                  | refine And.intro (by omega) ?_
                  | refine And.intro ⟨by omega, by omega⟩ ?_
                  | refine And.intro ⟨by omega, by omega, by omega⟩ ?_
                  | refine And.intro ⟨by omega, by omega, by omega, by omega⟩ ?_
                  | refine And.intro ⟨R, rfl, by omega⟩ ?_
                  | refine And.intro (by kernel_rfl) ?_
                exact ⟨(j + 1, putV R ⟨10 + (j : Int), 16, 10 + (k : Int) + 1, 3 + pickV xs (u + 1 + 1) 4 * 4⟩, u + 1 + 1 + 1), [(0, some 0), (1, some _), (2, some _), (3, some _)], ⟨by dsimp only; omega, by dsimp only; rw [njK, ← hRu]; exact (nj_put xs (M : Int) (k : Int) R u (j : Int) (by omega) h12 hvv hvp).symm⟩, by dsimp only; omega, ⟨⟨⟨rfl, rfl, rfl⟩, ⟨rfl, rfl, rfl⟩, trivial, trivial, trivial, ⟨rfl, rfl, rfl⟩, ⟨rfl, rfl, rfl⟩, ⟨rfl, rfl, rfl⟩, ⟨rfl, rfl, rfl⟩, ⟨rfl, rfl, rfl⟩, fitT_rep _ _ rfl⟩, ⟨.inl rfl, rfl, rfl, rfl, .inl rfl, rfl, rfl, rfl, .inl rfl, rfl, rfl, rfl, .inl rfl, rfl, rfl, rfl, trivial⟩, by simp [rn, hpAt]⟩, by simp [keepIds, rn]⟩
          · have c12 : (pickV xs u 12 > 0) = False := eq_false h12
            simp (maxSteps := 3000000) only [Try.f90, knl, g_pick, g_odd, g_routePut, bytesOf_rows, rtsOf_rows, rtRows_len, stRows_len, hh1, hn1, c12, v2, hx, D.toI, D.toL, ↓reduceIte, Bool.false_eq_true, tYs, evL, implies_true, oMin, oCopy, oBin, oUn, oLoadKid, oStoreTree, oField, oExtract, oNil, oSliceQ, oLoadRow, takeCells, TS.atRow, TS.ex, treeMode, AV.isOwn, TK.isSl, nilTk, nilsB, oLenQ, oLen, nodupB, treeOf, kidAbs, kidRows, TK.isCell, D.toL, oLoad, oStore, oMake, oIndexAddr, ↓reduceIte, reduceCtorEq, Nat.reduceBEq, Nat.reduceAdd, Nat.reduceMul, Nat.reduceLT, Nat.reduceSub, Nat.reduceLeDiff, Nat.reduceEqDiff, Nat.reduceBneDiff, Int.reduceToNat, decide_eq_true_eq, decide_eq_false_iff_not, beq_iff_eq, Int.toNat_natCast, loopK_normal, loopK_exit, loopK_ret]
            refine ⟨⟨by omega, by omega⟩, ?_⟩
            exact ⟨(j + 1, R, u + 1), [(0, some 0), (1, some _), (2, some _), (3, some _)], ⟨by dsimp only; omega, by dsimp only; rw [njK, ← hRu]; exact (nj_none xs (M : Int) (k : Int) R u (j : Int) (by omega) h12).symm⟩, by dsimp only; omega, ⟨⟨⟨rfl, rfl, rfl⟩, ⟨rfl, rfl, rfl⟩, trivial, trivial, trivial, ⟨rfl, rfl, rfl⟩, ⟨rfl, rfl, rfl⟩, ⟨rfl, rfl, rfl⟩, ⟨rfl, rfl, rfl⟩, ⟨rfl, rfl, rfl⟩, fitT_rep _ _ rfl⟩, ⟨.inl rfl, rfl, rfl, rfl, .inl rfl, rfl, rfl, rfl, .inl rfl, rfl, rfl, rfl, .inl rfl, rfl, rfl, rfl, trivial⟩, by simp [rn, hpAt]⟩, by simp [keepIds, rn]⟩
      · have hh1 : ((j : Int) < (M : Int)) = False := eq_false (by omega)
        obtain rfl : j = M := by omega
        have a1 := pickV_nonneg xs (u + 1) (j : Int) (by omega)
        have a2 := pickV_lt xs (u + 1) (j : Int) (by omega)
        have v3 : IntKind.i64.wrap (10 + pickV xs (u + 1) (j : Int)) = 10 + pickV xs (u + 1) (j : Int) := wrap_id (by omega) (by omega)
        have hst : ∀ R' u', nkEnd xs (j : Int) (R, u) = (R', u') → (L ++ [⟨10 + (k : Int), R'⟩], u') = nkK xs (j : Int) (p + 1) (k + 1) := fun R' u' h => by
          rw [nkK, ← hLq]
          dsimp only
          rw [Int.toNat_natCast, ← hRu, h]
        by_cases h4 : pickV xs u 4 = 0
        · have c4 : (pickV xs u 4 = 0) = True := eq_true h4
          have eS : stRows L ++ [[D.v (.int .i64 (10 + (k : Int))), D.l 4 (rtRows (putV R ⟨0, 0, 10 + pickV xs (u + 1) (j : Int), 8⟩))]] = stRows (L ++ [⟨10 + (k : Int), putV R ⟨0, 0, 10 + pickV xs (u + 1) (j : Int), 8⟩⟩]) := stRows_app L [⟨10 + (k : Int), putV R ⟨0, 0, 10 + pickV xs (u + 1) (j : Int), 8⟩⟩]
          simp (maxSteps := 3000000) only [Try.f90, knl, g_pick, g_odd, g_routePut, bytesOf_rows, rtsOf_rows, rtRows_len, stRows_len, hh1, c4, v3, w2, eS, hx, D.toI, D.toL, ↓reduceIte, Bool.false_eq_true, tYs, evL, implies_true, oMin, oCopy, oBin, oUn, oLoadKid, oStoreTree, oField, oExtract, oNil, oSliceQ, oLoadRow, takeCells, TS.atRow, TS.ex, treeMode, AV.isOwn, TK.isSl, nilTk, nilsB, oLenQ, oLen, nodupB, treeOf, kidAbs, kidRows, TK.isCell, D.toL, oLoad, oStore, oMake, oIndexAddr, ↓reduceIte, reduceCtorEq, Nat.reduceBEq, Nat.reduceAdd, Nat.reduceMul, Nat.reduceLT, Nat.reduceSub, Nat.reduceLeDiff, Nat.reduceEqDiff, Nat.reduceBneDiff, Int.reduceToNat, decide_eq_true_eq, decide_eq_false_iff_not, beq_iff_eq, Int.toNat_natCast, loopK_normal, loopK_exit, loopK_ret]
          refine ⟨⟨by omega, by omega⟩, ⟨by omega, by omega⟩, ⟨R, rfl, by omega⟩, by kernel_rfl, ⟨by omega, by omega, by simp⟩, ?_⟩
          exact ⟨(k + 1, L ++ [⟨10 + (k : Int), putV R ⟨0, 0, 10 + pickV xs (u + 1) (j : Int), 8⟩⟩], u + 1 + 1), [(0, some 0), (1, some _)], ⟨by dsimp only; omega, hst _ _ (by rw [nkEnd, if_pos h4])⟩, by dsimp only; omega, ⟨⟨⟨rfl, rfl, rfl⟩, ⟨rfl, rfl, rfl⟩, trivial, trivial, trivial, ⟨rfl, rfl, rfl⟩, ⟨rfl, rfl, rfl⟩, ⟨rfl, rfl, rfl⟩, fitT_rep _ _ rfl⟩, ⟨.inl rfl, rfl, rfl, rfl, .inl rfl, rfl, rfl, rfl, trivial⟩, by simp [rn, hpAt]⟩, by simp [keepIds, rn]⟩
        · have c4 : (pickV xs u 4 = 0) = False := eq_false h4
          have eS : stRows L ++ [[D.v (.int .i64 (10 + (k : Int))), D.l 4 (rtRows R)]] = stRows (L ++ [⟨10 + (k : Int), R⟩]) := stRows_app L [⟨10 + (k : Int), R⟩]
          simp (maxSteps := 3000000) only [Try.f90, knl, g_pick, g_odd, g_routePut, bytesOf_rows, rtsOf_rows, rtRows_len, stRows_len, hh1, c4, w2, eS, hx, D.toI, D.toL, ↓reduceIte, Bool.false_eq_true, tYs, evL, implies_true, oMin, oCopy, oBin, oUn, oLoadKid, oStoreTree, oField, oExtract, oNil, oSliceQ, oLoadRow, takeCells, TS.atRow, TS.ex, treeMode, AV.isOwn, TK.isSl, nilTk, nilsB, oLenQ, oLen, nodupB, treeOf, kidAbs, kidRows, TK.isCell, D.toL, oLoad, oStore, oMake, oIndexAddr, ↓reduceIte, reduceCtorEq, Nat.reduceBEq, Nat.reduceAdd, Nat.reduceMul, Nat.reduceLT, Nat.reduceSub, Nat.reduceLeDiff, Nat.reduceEqDiff, Nat.reduceBneDiff, Int.reduceToNat, decide_eq_true_eq, decide_eq_false_iff_not, beq_iff_eq, Int.toNat_natCast, loopK_normal, loopK_exit, loopK_ret]
          refine ⟨⟨by omega, by omega⟩, ⟨by omega, by omega, by simp⟩, ?_⟩
          exact ⟨(k + 1, L ++ [⟨10 + (k : Int), R⟩], u + 1), [(0, some 0), (1, some _)], ⟨by dsimp only; omega, hst _ _ (by rw [nkEnd, if_neg h4])⟩, by dsimp only; omega, ⟨⟨⟨rfl, rfl, rfl⟩, ⟨rfl, rfl, rfl⟩, trivial, trivial, trivial, ⟨rfl, rfl, rfl⟩, ⟨rfl, rfl, rfl⟩, ⟨rfl, rfl, rfl⟩, fitT_rep _ _ rfl⟩, ⟨.inl rfl, rfl, rfl, rfl, .inl rfl, rfl, rfl, rfl, trivial⟩, by simp [rn, hpAt]⟩, by simp [keepIds, rn]⟩
    · have hg1 : ((k : Int) < (M : Int)) = False := eq_false (by omega)
      obtain rfl : k = M := by omega
      have hL0 : 0 < L.length := by omega
      have hrow := stRows_get L 0 hL0
      have hL0' : (0 < (L.length : Int)) = True := eq_true (by omega)
      have hNL' : netL xs p = (L, q) := by rw [hNL, hLq]
      obtain ⟨e, he⟩ : ∃ e, e = oneIf n := ⟨_, rfl⟩
      have he' : (if 0 < n then (1 : Int) else 0) = e := he.symm
      have hq2 : netQ xs p n = q + e := by rw [netQ, hNL', he]
      rw [hq2]
      have eS : stRows L ++ [[D.v (.int .i64 L[0].a), D.l 4 (rtRows L[0].rs)]] = stRows (L ++ [L[0]]) := stRows_app L [_]
      simp (maxSteps := 3000000) only [Try.f90, knl, g_pick, g_odd, g_routePut, bytesOf_rows, rtsOf_rows, rtRows_len, stRows_len, hg1, w2, w3, hrow, hL0', he', eS, hx, D.toI, D.toL, ↓reduceIte, Bool.false_eq_true, tYs, evL, implies_true, oMin, oCopy, oBin, oUn, oLoadKid, oStoreTree, oField, oExtract, oNil, oSliceQ, oLoadRow, takeCells, TS.atRow, TS.ex, treeMode, AV.isOwn, TK.isSl, nilTk, nilsB, oLenQ, oLen, nodupB, treeOf, kidAbs, kidRows, TK.isCell, D.toL, oLoad, oStore, oMake, oIndexAddr, ↓reduceIte, reduceCtorEq, Nat.reduceBEq, Nat.reduceAdd, Nat.reduceMul, Nat.reduceLT, Nat.reduceSub, Nat.reduceLeDiff, Nat.reduceEqDiff, Nat.reduceBneDiff, Int.reduceToNat, decide_eq_true_eq, decide_eq_false_iff_not, beq_iff_eq, Int.toNat_natCast, loopK_normal, loopK_exit, loopK_ret]
      refine ⟨⟨by omega, by omega, by omega, by omega⟩, ?_⟩
      by_cases ho : (decide (0 < n) && pickV xs q n == n - 1) = true
      · have e2 : netV xs p n = L ++ [L[0]] := by rw [netV, hNL']; dsimp only; rw [oddB, if_pos ho, st_get hL0]
        rw [if_pos ho, e2]
        refine ⟨by omega, hL0, ⟨by omega, by omega, by simp⟩, ?_⟩
        exact ⟨[(0, some 0), (1, some _)], ⟨⟨⟨rfl, rfl, rfl⟩, trivial⟩, ⟨.inl rfl, rfl, rfl, rfl, .inl rfl, rfl, rfl, rfl, trivial⟩, by simp [rn, hpAt]⟩, by simp [keepIds, rn, List.range, List.range.loop]⟩
      · have e2 : netV xs p n = L := by rw [netV, hNL']; dsimp only; rw [oddB, if_neg ho]
        rw [if_neg ho, e2]
        exact ⟨[(0, some 0), (1, some _)], ⟨⟨⟨rfl, rfl, rfl⟩, trivial⟩, ⟨.inl rfl, rfl, rfl, rfl, .inl rfl, rfl, rfl, rfl, trivial⟩, by simp [rn, hpAt]⟩, by simp [keepIds, rn, List.range, List.range.loop]⟩
  · cases hg
set_option maxHeartbeats 8000000 in
set_option maxRecDepth 100000 in
theorem l20SentO_ok : OwnOk Try.prog 92 g_sentO := by
  refine OwnOk.of_vc (G := kns) kns_ok mixed Try.func92 (by kernel_rfl) rfl ?_
  intro args B0 cnd r B1 bs hg hc hlive
  unfold g_sentO at hg
  split at hg
  · rename_i r o s T rows p TT sz nr
    cases hg
    obtain ⟨rfl, rfl, rfl, rfl, ⟨xs, rfl, hl⟩, hp0, hp1⟩ := hc
    rw [bytesOf_rows]
    have hb := pktV_q xs p 0
    obtain ⟨V, hV⟩ : ∃ V, V = pktV xs p 0 := ⟨_, rfl⟩
    have hV' := hV.symm
    rw [hV'] at hb
    have a1 := pickV_nonneg xs V.q 6 (by omega)
    have a2 := pickV_lt xs V.q 6 (by omega)
    have a3 := pickV_nonneg xs (V.q + 1) 6 (by omega)
    have a4 := pickV_lt xs (V.q + 1) 6 (by omega)
    have w1 : IntKind.i64.wrap (10 + pickV xs V.q 6) = 10 + pickV xs V.q 6 := wrap_id (by omega) (by omega)
    have r1 := lit_get [64, 64, 1, 2, 3, 4] (pickV xs (V.q + 1) 6).toNat (by simp only [List.length_cons, List.length_nil]; omega)
    simp only [List.map_cons, List.map_nil] at r1
    rw [← hopsV] at r1
    have h6 : (pickV xs (V.q + 1) 6 < 6) = True := eq_true a4
    refine ⟨⟨by simp [likeBs, likeB], by simp [Blk.liveB, blkIds, AV.ids.idsL, AV.ids], by simp [AV.ids, AV.ids.idsL]⟩, _, rfl, fun w Z s vs h => h, ?_⟩
    clear hlive
    have hx : (∃ ys, rowsOfBytes xs = rowsOfBytes ys ∧ ys.length ≤ 2000) = True := eq_true ⟨xs, rfl, hl⟩
    by_cases h3 : 0 < pickV xs (V.q + 1 + 1) 3
    · have c3 : (pickV xs (V.q + 1 + 1) 3 > 0) = True := eq_true h3
      have hv : sentV xs p = { V with t := 10 + pickV xs V.q 6, h := hopsV (pickV xs (V.q + 1) 6), a := 0, m := false, q := V.q + 1 + 1 + 1 } := by rw [sentV, hV', if_pos h3]
      rw [hv]
      simp (maxSteps := 3000000) only [Try.f92, kns, g_pick, g_packet, bytesOf_rows, rowsOf_len, hV', w1, r1, c3, hx, D.toI, D.toL, ↓reduceIte, Bool.false_eq_true, tYs, evL, implies_true, oMin, oCopy, oBin, oUn, oLoadKid, oStoreTree, oField, oExtract, oNil, oSliceQ, oLoadRow, takeCells, TS.atRow, TS.ex, treeMode, AV.isOwn, TK.isSl, nilTk, nilsB, oLenQ, oLen, nodupB, treeOf, kidAbs, kidRows, TK.isCell, D.toL, oLoad, oStore, oMake, oIndexAddr, ↓reduceIte, reduceCtorEq, Nat.reduceBEq, Nat.reduceAdd, Nat.reduceMul, Nat.reduceLT, Nat.reduceSub, Nat.reduceLeDiff, Nat.reduceEqDiff, Nat.reduceBneDiff, Int.reduceToNat, decide_eq_true_eq, decide_eq_false_iff_not, beq_iff_eq, Int.toNat_natCast]
      clear hV' hv r1
      (repeat (refine And.intro ?_ ?_; focus (((repeat' apply And.intro) <;> first | exact rowsOf_w _ | omega | (simp only [List.length_append, rowsOf_len, List.length_cons, List.length_nil, marks_len, List.length_take, List.length_drop, List.length_set]; omega) | exact ⟨_, rfl⟩ | (refine ⟨_, rfl, ?_⟩; omega) | (refine ⟨_, rfl, ?_⟩; simp only [List.length_append, rowsOf_len, List.length_cons, List.length_nil, marks_len, List.length_take, List.length_drop, List.length_set]; omega) | kernel_rfl | (simp; done)); done)))
      exact ⟨[(0, some 0), (1, some 1)], ⟨⟨⟨rfl, rfl, rfl⟩, trivial⟩, ⟨.inl rfl, rfl, rfl, rfl, .inl rfl, rfl, rfl, rfl, trivial⟩, by simp [rn, hpAt]⟩, by simp [keepIds, rn, List.range, List.range.loop]⟩
    · have c3 : (pickV xs (V.q + 1 + 1) 3 > 0) = False := eq_false h3
      have hv : sentV xs p = { V with t := 10 + pickV xs V.q 6, h := hopsV (pickV xs (V.q + 1) 6), q := V.q + 1 + 1 + 1 } := by rw [sentV, hV', if_neg h3]
      rw [hv]
      simp (maxSteps := 3000000) only [Try.f92, kns, g_pick, g_packet, bytesOf_rows, rowsOf_len, hV', w1, r1, c3, hx, D.toI, D.toL, ↓reduceIte, Bool.false_eq_true, tYs, evL, implies_true, oMin, oCopy, oBin, oUn, oLoadKid, oStoreTree, oField, oExtract, oNil, oSliceQ, oLoadRow, takeCells, TS.atRow, TS.ex, treeMode, AV.isOwn, TK.isSl, nilTk, nilsB, oLenQ, oLen, nodupB, treeOf, kidAbs, kidRows, TK.isCell, D.toL, oLoad, oStore, oMake, oIndexAddr, ↓reduceIte, reduceCtorEq, Nat.reduceBEq, Nat.reduceAdd, Nat.reduceMul, Nat.reduceLT, Nat.reduceSub, Nat.reduceLeDiff, Nat.reduceEqDiff, Nat.reduceBneDiff, Int.reduceToNat, decide_eq_true_eq, decide_eq_false_iff_not, beq_iff_eq, Int.toNat_natCast]
      clear hV' hv r1
      (repeat (refine And.intro ?_ ?_; focus (((repeat' apply And.intro) <;> first | exact rowsOf_w _ | omega | (simp only [List.length_append, rowsOf_len, List.length_cons, List.length_nil, marks_len, List.length_take, List.length_drop, List.length_set]; omega) | exact ⟨_, rfl⟩ | (refine ⟨_, rfl, ?_⟩; omega) | (refine ⟨_, rfl, ?_⟩; simp only [List.length_append, rowsOf_len, List.length_cons, List.length_nil, marks_len, List.length_take, List.length_drop, List.length_set]; omega) | kernel_rfl | (simp; done)); done)))
      exact ⟨[(0, some 0), (1, some 1)], ⟨⟨⟨rfl, rfl, rfl⟩, trivial⟩, ⟨.inl rfl, rfl, rfl, rfl, .inl rfl, rfl, rfl, rfl, trivial⟩, by simp [rn, hpAt]⟩, by simp [keepIds, rn, List.range, List.range.loop]⟩
  · cases hg
def kwy : List (FuncId × Abs) := [(52, ownAbs g_open), (58, ownAbs g_pick), (90, ownAbs g_netO), (92, ownAbs g_sentO), (91, pureAbs g_routePut)]
theorem kwy_ok : ∀ p ∈ kwy, CallOk Try.prog p.1 p.2 := by
  intro p hp
  simp only [kwy, List.mem_cons, List.not_mem_nil, or_false] at hp
  rcases hp with rfl | rfl | rfl | rfl | rfl
  · exact open_ok.call
  · exact pick_ok.call
  · exact l20NetO_ok.call
  · exact l20SentO_ok.call
  · exact specRoutePut_ok.call
set_option maxHeartbeats 8000000 in
set_option maxRecDepth 100000 in
theorem drawWays_ok : OwnOk Try.prog 32 (ocOf g_drawWy) := by
  refine OwnOk.of_vcD (G := kwy) kwy_ok mixed Try.func32 (by kernel_rfl) rfl ?_
  intro args cnd r bs hg hc
  unfold g_drawWy at hg
  split at hg
  · rename_i sz rows
    cases hg
    obtain ⟨xs, rfl⟩ := hc
    rw [bytesOf_rows]
    have hx : (∃ ys, rowsOfBytes (List.take 2000 xs) = rowsOfBytes ys ∧ ys.length ≤ 2000) = True := eq_true ⟨_, rfl, by rw [List.length_take]; omega⟩
    obtain ⟨ys, hys⟩ : ∃ ys, ys = List.take 2000 xs := ⟨_, rfl⟩
    rw [← hys] at hx ⊢
    have hNr := netV_rs ys 0 0
    have hQb := netQ_bd ys 0 0 (by omega)
    have hS : waysS ys = wyN ys (netV ys 0 0) (netQ ys 0 0) (netV ys 0 0).length := rfl
    obtain ⟨N, hN⟩ : ∃ N, N = netV ys 0 0 := ⟨_, rfl⟩
    have hN' := hN.symm
    obtain ⟨Q, hQ⟩ : ∃ Q, Q = netQ ys 0 0 := ⟨_, rfl⟩
    have hQ' := hQ.symm
    have hN5 := (netV_bd ys 0 0 (by omega)).1
    rw [hN'] at hNr hS hN5
    rw [hQ'] at hQb hS
    have hQ0 : 0 ≤ Q := hQb.1
    replace hQb : Q < 100000 := by omega
    refine ⟨⟨rfl, by simp [AV.ids, AV.ids.idsL]⟩, [.l 1 (rowsOfBytes xs)], rfl, fun w Z s vs h => CvL.ok (.cons (.l _ _ _ (rowsOf_w xs)) .nil) h, ?_⟩
    simp (maxSteps := 3000000) only [Try.f32, kwy, g_open, g_pick, g_netO, g_sentO, g_routePut, bytesOf_rows, rowsOf_len, rtsOf_rows, rtRows_len, stRows_len, ← hys, hx, hQ', hN', D.toI, D.toL, ↓reduceIte, Bool.false_eq_true, tYs, evL, implies_true, oMin, oCopy, oBin, oUn, oLoadKid, oStoreTree, oField, oExtract, oNil, oSliceQ, oLoadRow, takeCells, TS.atRow, TS.ex, treeMode, AV.isOwn, TK.isSl, nilTk, nilsB, oLenQ, oLen, nodupB, treeOf, kidAbs, kidRows, TK.isCell, D.toL, oLoad, oStore, oMake, oIndexAddr, ↓reduceIte, reduceCtorEq, Nat.reduceBEq, Nat.reduceAdd, Nat.reduceMul, Nat.reduceLT, Nat.reduceSub, Nat.reduceLeDiff, Nat.reduceEqDiff, Nat.reduceBneDiff, Int.reduceToNat, decide_eq_true_eq, decide_eq_false_iff_not, beq_iff_eq, Int.toNat_natCast, loopK_normal, loopK_exit, loopK_ret, doneD_ret, doneD_normal]
    (repeat (refine And.intro ?_ ?_; focus (((repeat' apply And.intro) <;> first | exact rowsOf_w _ | omega | (simp only [List.length_append, rowsOf_len, List.length_cons, List.length_nil, marks_len, List.length_take, List.length_drop, List.length_set]; omega) | exact ⟨_, rfl⟩ | (refine ⟨_, rfl, ?_⟩; omega) | (refine ⟨_, rfl, ?_⟩; simp only [List.length_append, rowsOf_len, List.length_cons, List.length_nil, marks_len, List.length_take, List.length_drop, List.length_set]; omega) | kernel_rfl | (simp; done)); done)))
    refine e_loop _ _ _ _ _ _ _ _ (fun x : Nat × List St × Int => [.any, .any, .any, .any, .ptr 0 0, .ptr 1 0, .own 2, .v (.int .i64 (x.1 : Int))] ++ List.replicate (Try.f32.ntmps - 8) .any) (fun x => [(0, .var 29 [.v (.int .i64 0), .v (.int .i64 0), .v (.int .i64 0), .v (.int .i64 0), .v (.int .i64 0), .v (.int .i64 0), .v (.bool false), .v (.bool false), .v (.slice none 0 0)]), (1, .var 148 [.l 1 (rowsOfBytes ys), .v (.int .i64 (x.2.2))]), (2, .sl 68 2 (stRows x.2.1))]) (fun x => x.1 ≤ N.length ∧ (x.2.1, x.2.2) = wyN ys N Q x.1) (fun x => N.length - x.1) 3 (fun x => by simp) ?_ fun x hk' => ?_
    · exact ⟨(0, N, Q), [(0, some _), (1, some _), (2, some _)], ⟨Nat.zero_le _, rfl⟩, ⟨⟨trivial, trivial, trivial, trivial, ⟨rfl, rfl, rfl⟩, ⟨rfl, rfl, rfl⟩, ⟨rfl, rfl, rfl⟩, ⟨rfl, rfl, rfl⟩, fitT_rep _ _ rfl⟩, ⟨.inl rfl, rfl, rfl, rfl, .inl rfl, rfl, rfl, rfl, .inl rfl, rfl, rfl, rfl, trivial⟩, by simp [rn, hpAt]⟩, by simp [keepIds]⟩
    obtain ⟨k, L, q⟩ := x
    obtain ⟨hk1, hLq⟩ := hk'
    dsimp only at hk1 hLq
    have hbd := wyN_bd ys hNr hQb k (by omega)
    rw [← hLq] at hbd
    dsimp only at hbd
    obtain ⟨hL1, hL2, hq0, hq1⟩ := hbd
    have w2 : IntKind.i64.wrap ((k : Int) + 1) = ((k + 1 : Nat) : Int) := wrap_id (by omega) (by omega)
    by_cases hk : k < N.length
    · have hkL : k < L.length := by omega
      have hg1 : ((k : Int) < (L.length : Int)) = True := eq_true (by omega)
      obtain ⟨hc3, hcp⟩ := wyC_le ys q (by omega)
      obtain ⟨c, hc⟩ : ∃ c, c = wyC ys q := ⟨_, rfl⟩
      rw [← hc] at hc3 hcp
      obtain ⟨A, hA⟩ : ∃ A, A = L[k].a := ⟨_, rfl⟩
      have hLk : L.getD k st0 = L[k] := by simp [List.getD, hkL]
      simp (maxSteps := 3000000) only [Try.f32, kwy, g_open, g_pick, g_netO, g_sentO, g_routePut, bytesOf_rows, rowsOf_len, rtsOf_rows, rtRows_len, stRows_len, ← hys, hx, hg1, hcp, D.toI, D.toL, ↓reduceIte, Bool.false_eq_true, tYs, evL, implies_true, oMin, oCopy, oBin, oUn, oLoadKid, oStoreTree, oField, oExtract, oNil, oSliceQ, oLoadRow, takeCells, TS.atRow, TS.ex, treeMode, AV.isOwn, TK.isSl, nilTk, nilsB, oLenQ, oLen, nodupB, treeOf, kidAbs, kidRows, TK.isCell, D.toL, oLoad, oStore, oMake, oIndexAddr, ↓reduceIte, reduceCtorEq, Nat.reduceBEq, Nat.reduceAdd, Nat.reduceMul, Nat.reduceLT, Nat.reduceSub, Nat.reduceLeDiff, Nat.reduceEqDiff, Nat.reduceBneDiff, Int.reduceToNat, decide_eq_true_eq, decide_eq_false_iff_not, beq_iff_eq, Int.toNat_natCast, loopK_normal, loopK_exit, loopK_ret, doneD_ret, doneD_normal]
      refine ⟨⟨by omega, by omega⟩, ?_⟩
      refine e_loop _ _ _ _ _ _ _ _ (fun y : Nat × List RE × Int => [.any, .any, .any, .any, .ptr 0 0, .ptr 1 0, .own 2, .v (.int .i64 (k : Int)), .v (.int .i64 ((c : Int) - (y.1 : Int)))] ++ List.replicate (Try.f32.ntmps - 9) .any) (fun y => [(0, .var 29 [.v (.int .i64 0), .v (.int .i64 0), .v (.int .i64 0), .v (.int .i64 0), .v (.int .i64 0), .v (.int .i64 0), .v (.bool false), .v (.bool false), .v (.slice none 0 0)]), (1, .var 148 [.l 1 (rowsOfBytes ys), .v (.int .i64 (y.2.2))]), (2, .sl 68 2 (stRows (L.set k ⟨A, y.2.1⟩)))]) (fun y => y.1 ≤ c ∧ (y.2.1, y.2.2) = wyJ ys (L[k].rs, q + 1) y.1) (fun y => c - y.1) 3 (fun y => by simp) ?_ fun y hj' => ?_
      · exact ⟨(0, L[k].rs, q + 1), [(0, some 0), (1, some _), (2, some _)], ⟨Nat.zero_le _, rfl⟩, ⟨⟨trivial, trivial, trivial, trivial, ⟨rfl, rfl, rfl⟩, ⟨rfl, rfl, rfl⟩, ⟨rfl, rfl, rfl⟩, ⟨rfl, rfl, rfl⟩, ⟨congrArg (fun z : Int => AV.v (Value.int .i64 z)) (by omega), rfl, rfl⟩, fitT_rep _ _ rfl⟩, ⟨.inl rfl, rfl, rfl, rfl, .inl rfl, rfl, rfl, rfl, .inl (congrArg (fun z => Blk.sl 68 2 (stRows z)) (by rw [hA]; exact (List.set_getElem_self _).symm)), rfl, rfl, rfl, trivial⟩, by simp [rn, hpAt]⟩, by simp [keepIds]⟩
      obtain ⟨j, R, u⟩ := y
      obtain ⟨hj1, hRu⟩ := hj'
      dsimp only at hj1 hRu
      have hbj := wyJ_bd ys (L[k].rs, q + 1) (hL2 _ (List.getElem_mem hkL)) j
      rw [← hRu] at hbj
      dsimp only at hbj
      obtain ⟨hR, hu0, hu1⟩ := hbj
      have hR8 := (rsB_iff.1 hR).1
      have hlen : (L.set k (⟨A, R⟩ : St)).length = L.length := List.length_set
      have wn : IntKind.i64.wrap ((c : Int) - (j : Int) - 1) = (c : Int) - ((j + 1 : Nat) : Int) := by rw [wrap_id] <;> omega
      by_cases hj : j < c
      · have hh1 : ((c : Int) - (j : Int) > 0) = True := eq_true (by omega)
        have a1 := pickV_nonneg ys u 4 (by omega)
        have a2 := pickV_lt ys u 4 (by omega)
        have b1 := pickV_nonneg ys (u + 1) 3 (by omega)
        have b2 := pickV_lt ys (u + 1) 3 (by omega)
        have c1 := pickV_nonneg ys (u + 1 + 1) 5 (by omega)
        have c2 := pickV_lt ys (u + 1 + 1) 5 (by omega)
        have d1 := pickV_nonneg ys (u + 1 + 1 + 1) 2 (by omega)
        have d2 := pickV_lt ys (u + 1 + 1 + 1) 2 (by omega)
        have r1 := lit_get [0, 8, 10, 12] (pickV ys u 4).toNat (by simp only [List.length_cons, List.length_nil]; omega)
        have r2 := lit_get [14, 15, 16] (pickV ys (u + 1) 3).toNat (by simp only [List.length_cons, List.length_nil]; omega)
        simp only [List.map_cons, List.map_nil] at r1 r2
        rw [← wyA] at r1
        rw [← wyT] at r2
        have v1 : IntKind.i64.wrap (10 + pickV ys (u + 1 + 1) 5) = 10 + pickV ys (u + 1 + 1) 5 := wrap_id (by omega) (by omega)
        have v2 : IntKind.i64.wrap (pickV ys (u + 1 + 1 + 1) 2 * 8) = pickV ys (u + 1 + 1 + 1) 2 * 8 := wrap_id (by omega) (by omega)
        have v3 : IntKind.i64.wrap (3 + pickV ys (u + 1 + 1 + 1) 2 * 8) = 3 + pickV ys (u + 1 + 1 + 1) 2 * 8 := wrap_id (by omega) (by omega)
        have hrow : (stRows (L.set k ⟨A, R⟩)).getD k [] = [D.v (.int .i64 A), D.l 4 (rtRows R)] := by
          rw [stRows_get _ _ (by omega)]
          simp only [List.getElem_set_self, stRow]
        have hset : (stRows (L.set k ⟨A, R⟩)).set k [D.v (.int .i64 A), D.l 4 (rtRows (putV R (wyR ys u)))] = stRows (L.set k ⟨A, putV R (wyR ys u)⟩) := by
          have e : ([D.v (.int .i64 A), D.l 4 (rtRows (putV R (wyR ys u)))] : List D) = stRow ⟨A, putV R (wyR ys u)⟩ := rfl
          rw [e, stRows, stRows, ← List.map_set, List.set_set]
        have hw : wyJ ys (L[k].rs, q + 1) (j + 1) = wyStep ys (R, u) := by rw [wyJ, ← hRu]
        have hE : (⟨wyA (pickV ys u 4), wyT (pickV ys (u + 1) 3), 10 + pickV ys (u + 1 + 1) 5, 3 + pickV ys (u + 1 + 1 + 1) 2 * 8⟩ : RE) = wyR ys u := rfl
        rcases hp : putB R (wyR ys u) with _ | _
        · simp (maxSteps := 3000000) only [Try.f32, kwy, g_open, g_pick, g_netO, g_sentO, g_routePut, bytesOf_rows, rowsOf_len, rtsOf_rows, rtRows_len, stRows_len, ← hys, hx, hh1, r1, r2, v1, v2, v3, wn, hrow, hset, hE, hp, D.toI, D.toL, ↓reduceIte, Bool.false_eq_true, tYs, evL, implies_true, oMin, oCopy, oBin, oUn, oLoadKid, oStoreTree, oField, oExtract, oNil, oSliceQ, oLoadRow, takeCells, TS.atRow, TS.ex, treeMode, AV.isOwn, TK.isSl, nilTk, nilsB, oLenQ, oLen, nodupB, treeOf, kidAbs, kidRows, TK.isCell, D.toL, oLoad, oStore, oMake, oIndexAddr, ↓reduceIte, reduceCtorEq, Nat.reduceBEq, Nat.reduceAdd, Nat.reduceMul, Nat.reduceLT, Nat.reduceSub, Nat.reduceLeDiff, Nat.reduceEqDiff, Nat.reduceBneDiff, Int.reduceToNat, decide_eq_true_eq, decide_eq_false_iff_not, beq_iff_eq, Int.toNat_natCast, loopK_normal, loopK_exit, loopK_ret, doneD_ret, doneD_normal]
          clear r1 r2 v1 v2 v3
          repeat' first
            | refine And.intro ⟨by omega, by omega⟩ ?_
            | refine And.intro (show k < (L.set k (⟨A, R⟩ : St)).length by omega) ?_
            | refine And.intro (by omega) ?_
            | refine And.intro ⟨R, rfl, by omega⟩ ?_
            | refine And.intro (by kernel_rfl) ?_
          exact ⟨(j + 1, R, u + 1 + 1 + 1 + 1), [(0, some 0), (1, some 1), (2, some 2)], ⟨by dsimp only; omega, by dsimp only; rw [hw, wyStep]; dsimp only; rw [if_neg (by rw [hp]; decide)]⟩, by dsimp only; omega, ⟨⟨trivial, trivial, trivial, trivial, ⟨rfl, rfl, rfl⟩, ⟨rfl, rfl, rfl⟩, ⟨rfl, rfl, rfl⟩, ⟨rfl, rfl, rfl⟩, ⟨congrArg (fun z : Int => AV.v (Value.int .i64 z)) (by omega), rfl, rfl⟩, fitT_rep _ _ rfl⟩, ⟨.inl rfl, rfl, rfl, rfl, .inl rfl, rfl, rfl, rfl, .inl rfl, rfl, rfl, rfl, trivial⟩, by simp [rn, hpAt]⟩, by simp [keepIds]⟩
        · simp (maxSteps := 3000000) only [Try.f32, kwy, g_open, g_pick, g_netO, g_sentO, g_routePut, bytesOf_rows, rowsOf_len, rtsOf_rows, rtRows_len, stRows_len, ← hys, hx, hh1, r1, r2, v1, v2, v3, wn, hrow, hset, hE, hp, D.toI, D.toL, ↓reduceIte, Bool.false_eq_true, tYs, evL, implies_true, oMin, oCopy, oBin, oUn, oLoadKid, oStoreTree, oField, oExtract, oNil, oSliceQ, oLoadRow, takeCells, TS.atRow, TS.ex, treeMode, AV.isOwn, TK.isSl, nilTk, nilsB, oLenQ, oLen, nodupB, treeOf, kidAbs, kidRows, TK.isCell, D.toL, oLoad, oStore, oMake, oIndexAddr, ↓reduceIte, reduceCtorEq, Nat.reduceBEq, Nat.reduceAdd, Nat.reduceMul, Nat.reduceLT, Nat.reduceSub, Nat.reduceLeDiff, Nat.reduceEqDiff, Nat.reduceBneDiff, Int.reduceToNat, decide_eq_true_eq, decide_eq_false_iff_not, beq_iff_eq, Int.toNat_natCast, loopK_normal, loopK_exit, loopK_ret, doneD_ret, doneD_normal]
          clear r1 r2 v1 v2 v3
          repeat' first
            | refine And.intro ⟨by omega, by omega⟩ ?_
            | refine And.intro (show k < (L.set k (⟨A, R⟩ : St)).length by omega) ?_
            | refine And.intro (by omega) ?_
            | refine And.intro ⟨R, rfl, by omega⟩ ?_
            | refine And.intro (by kernel_rfl) ?_
          exact ⟨(j + 1, putV R (wyR ys u), u + 1 + 1 + 1 + 1), [(0, some 0), (1, some 1), (2, some 2)], ⟨by dsimp only; omega, by dsimp only; rw [hw, wyStep]; dsimp only; rw [if_pos hp]⟩, by dsimp only; omega, ⟨⟨trivial, trivial, trivial, trivial, ⟨rfl, rfl, rfl⟩, ⟨rfl, rfl, rfl⟩, ⟨rfl, rfl, rfl⟩, ⟨rfl, rfl, rfl⟩, ⟨congrArg (fun z : Int => AV.v (Value.int .i64 z)) (by omega), rfl, rfl⟩, fitT_rep _ _ rfl⟩, ⟨.inl rfl, rfl, rfl, rfl, .inl rfl, rfl, rfl, rfl, .inl rfl, rfl, rfl, rfl, trivial⟩, by simp [rn, hpAt]⟩, by simp [keepIds]⟩
      · have hh1 : ((c : Int) - (j : Int) > 0) = False := eq_false (by omega)
        obtain rfl : j = c := by omega
        simp (maxSteps := 3000000) only [Try.f32, kwy, g_open, g_pick, g_netO, g_sentO, g_routePut, bytesOf_rows, rowsOf_len, rtsOf_rows, rtRows_len, stRows_len, ← hys, hx, hh1, w2, D.toI, D.toL, ↓reduceIte, Bool.false_eq_true, tYs, evL, implies_true, oMin, oCopy, oBin, oUn, oLoadKid, oStoreTree, oField, oExtract, oNil, oSliceQ, oLoadRow, takeCells, TS.atRow, TS.ex, treeMode, AV.isOwn, TK.isSl, nilTk, nilsB, oLenQ, oLen, nodupB, treeOf, kidAbs, kidRows, TK.isCell, D.toL, oLoad, oStore, oMake, oIndexAddr, ↓reduceIte, reduceCtorEq, Nat.reduceBEq, Nat.reduceAdd, Nat.reduceMul, Nat.reduceLT, Nat.reduceSub, Nat.reduceLeDiff, Nat.reduceEqDiff, Nat.reduceBneDiff, Int.reduceToNat, decide_eq_true_eq, decide_eq_false_iff_not, beq_iff_eq, Int.toNat_natCast, loopK_normal, loopK_exit, loopK_ret, doneD_ret, doneD_normal]
        exact ⟨(k + 1, L.set k ⟨A, R⟩, u), [(0, some 0), (1, some 1), (2, some 2)], ⟨by dsimp only; omega, by dsimp only; rw [wyN, ← hLq]; dsimp only; rw [hLk, ← hc, ← hRu, hA]⟩, by dsimp only; omega, ⟨⟨trivial, trivial, trivial, trivial, ⟨rfl, rfl, rfl⟩, ⟨rfl, rfl, rfl⟩, ⟨rfl, rfl, rfl⟩, ⟨rfl, rfl, rfl⟩, fitT_rep _ _ rfl⟩, ⟨.inl rfl, rfl, rfl, rfl, .inl rfl, rfl, rfl, rfl, .inl rfl, rfl, rfl, rfl, trivial⟩, by simp [rn, hpAt]⟩, by simp [keepIds]⟩
    · have hg1 : ((k : Int) < (L.length : Int)) = False := eq_false (by omega)
      obtain rfl : k = N.length := by omega
      have eW : waysS ys = (L, q) := by rw [hS, hLq]
      rw [waysF, waysP, eW]
      simp (maxSteps := 3000000) only [Try.f32, kwy, g_open, g_pick, g_netO, g_sentO, g_routePut, bytesOf_rows, rowsOf_len, rtsOf_rows, rtRows_len, stRows_len, ← hys, hx, hg1, D.toI, D.toL, ↓reduceIte, Bool.false_eq_true, tYs, evL, implies_true, oMin, oCopy, oBin, oUn, oLoadKid, oStoreTree, oField, oExtract, oNil, oSliceQ, oLoadRow, takeCells, TS.atRow, TS.ex, treeMode, AV.isOwn, TK.isSl, nilTk, nilsB, oLenQ, oLen, nodupB, treeOf, kidAbs, kidRows, TK.isCell, D.toL, oLoad, oStore, oMake, oIndexAddr, ↓reduceIte, reduceCtorEq, Nat.reduceBEq, Nat.reduceAdd, Nat.reduceMul, Nat.reduceLT, Nat.reduceSub, Nat.reduceLeDiff, Nat.reduceEqDiff, Nat.reduceBneDiff, Int.reduceToNat, decide_eq_true_eq, decide_eq_false_iff_not, beq_iff_eq, Int.toNat_natCast, loopK_normal, loopK_exit, loopK_ret, doneD_ret, doneD_normal]
      exact ⟨⟨by omega, by omega⟩, ⟨by omega, by omega⟩, _, rfl, rfl⟩
  · cases hg
end Go.Proofs.Ytegffkmakkccaaa
