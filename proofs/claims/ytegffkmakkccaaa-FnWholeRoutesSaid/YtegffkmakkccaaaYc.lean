import Derived.Test.YtegffkmakkccaaaYb
namespace Go.Proofs.Ytegffkmakkccaaa
open Go.RowKit
set_option linter.unusedSimpArgs false
set_option linter.unusedVariables false
def g_routePut : PC := fun args => match args with
  | [.l _ rows, .agg [.v (.int .i64 a), .v (.int .i64 b), .v (.int .i64 v), .v (.int .i64 m)]] => some (∃ l, rows = rtRows l ∧ l.length ≤ 1048576, .tup [.own 0, .v (.bool (putB (rtsOf rows) ⟨a, b, v, m⟩))], [.sl 120 4 (rtRows (putV (rtsOf rows) ⟨a, b, v, m⟩))])
  | _ => none
theorem putV_yes {l : List RE} {r : RE} (h : putB l r = true) : putV l r = withR l r := by rw [putV, if_pos h]
theorem putV_no {l : List RE} {r : RE} (h : putB l r = false) : putV l r = [] := by rw [putV, if_neg (by rw [h]; decide)]
def rps : List (FuncId × Abs) := [(142, pureAbs g_routesOk), (143, pureAbs g_routeOk)]
theorem rps_ok : ∀ p ∈ rps, CallOk Try.prog p.1 p.2 := by
  intro p hp
  simp only [rps, List.mem_cons, List.not_mem_nil, or_false] at hp
  rcases hp with rfl | rfl
  · exact specRoutesOk_ok.call
  · exact specRouteOk_ok.call
theorem sPutF_len (r : RE) : ∀ (l : List RE) (d : Bool), (sPutF d l r).length ≤ l.length + 1
  | [], d => by cases d <;> simp [sPutF]
  | x :: t, d => by
    cases d with
    | true =>
      have := sPutF_lenT r t
      rw [sPutF]
      cases keyB x r <;> simp <;> omega
    | false =>
      have h1 := sPutF_len r t false
      have h2 := sPutF_lenT r t
      rw [sPutF]
      cases aheadB x r <;> cases keyB x r <;> simp <;> omega
where sPutF_lenT (r : RE) : ∀ l : List RE, (sPutF true l r).length ≤ l.length
  | [] => by simp [sPutF]
  | x :: t => by
    have := sPutF_lenT r t
    rw [sPutF]
    cases keyB x r <;> simp <;> omega
def pStep (x r : RE) (s : Bool × List RE) : Bool × List RE := (s.1 || !aheadB x r, s.2 ++ (if (!s.1 && !aheadB x r) = true then [r] else []) ++ (if keyB x r = true then [] else [x]))
theorem pStep_inv (x r : RE) (t : List RE) (s : Bool × List RE) : (pStep x r s).2 ++ sPutF (pStep x r s).1 t r = s.2 ++ sPutF s.1 (x :: t) r := by
  rw [sPutF, pStep]
  simp
set_option maxHeartbeats 4000000 in
set_option maxRecDepth 100000 in
theorem specRoutePut_ok : PureOk Try.prog 91 g_routePut := by
  refine PureOk.of_vc (G := rps) rps_ok mixed Try.func91 (by kernel_rfl) rfl ?_
  intro args cnd r bs hg hc
  unfold g_routePut at hg
  split at hg
  · rename_i sz rows a b v m
    cases hg
    obtain ⟨l, rfl, hl⟩ := hc
    rw [rtsOf_rows]
    refine ⟨⟨rfl, by simpa [flatB] using rtRows_flat _, by simp [AV.ids, AV.ids.idsL]⟩, [.l 4 (rtRows l), .agg [.v (.int .i64 a), .v (.int .i64 b), .v (.int .i64 v), .v (.int .i64 m)]], rfl, fun w vs h => CvL.ok (.cons (.l _ _ _ (rtRows_w l)) (.cons (.refl _) .nil)) h, ?_⟩
    simp (maxSteps := 3000000) only [Try.f91, rps, rtRows_len, rtsOf_rows, g_routesOk, g_routeOk, tYs, evL, implies_true, oMin, oCopy, oBin, oUn, oLoadKid, oStoreTree, oField, oExtract, oNil, oSliceQ, oLoadRow, takeCells, TS.atRow, TS.ex, treeMode, AV.isOwn, TK.isSl, nilTk, nilsB, oLenQ, oLen, nodupB, treeOf, kidAbs, kidRows, TK.isCell, D.toL, oLoad, oStore, oMake, oIndexAddr, ↓reduceIte, reduceCtorEq, Nat.reduceBEq, Nat.reduceAdd, Nat.reduceMul, Nat.reduceLT, Nat.reduceSub, Nat.reduceLeDiff, Nat.reduceEqDiff, Nat.reduceBneDiff, Int.reduceToNat, decide_eq_true_eq, decide_eq_false_iff_not, beq_iff_eq, Int.toNat_natCast]
    refine e_loop _ _ _ _ _ _ _ _ (fun x : Nat × Bool × List RE => [.l 4 (rtRows l), .any, .any, .ptr 0 0, .any, .any, .own 1, .v (.bool x.2.1), .v (.int .i64 (x.1 : Int))] ++ List.replicate (Try.f91.ntmps - 9) .any) (fun x => [(0, .var 120 [.v (.int .i64 a), .v (.int .i64 b), .v (.int .i64 v), .v (.int .i64 m)]), (1, .sl 120 4 (rtRows x.2.2))]) (fun x => x.1 ≤ l.length ∧ x.2.2 ++ sPutF x.2.1 (l.drop x.1) ⟨a, b, v, m⟩ = sPutF false l ⟨a, b, v, m⟩) (fun x => l.length - x.1) 2 (fun x => by simp) ?_ fun x hk' => ?_
    · exact ⟨(0, false, []), [(0, some _), (1, some _)], ⟨Nat.zero_le _, rfl⟩, ⟨⟨⟨rfl, rfl, rfl⟩, trivial, trivial, ⟨rfl, rfl, rfl⟩, trivial, trivial, ⟨rfl, rfl, rfl⟩, ⟨rfl, rfl, rfl⟩, ⟨rfl, rfl, rfl⟩, fitT_rep _ _ rfl⟩, ⟨.inl rfl, rfl, rfl, rfl, .inl rfl, rfl, rfl, rfl, trivial⟩, by simp [rn, hpAt]⟩, by simp [keepIds]⟩
    obtain ⟨k, d, out⟩ := x
    obtain ⟨hk1, hinv⟩ := hk'
    dsimp only at hk1 hinv
    have hlo : out.length + (sPutF d (l.drop k) ⟨a, b, v, m⟩).length = (sPutF false l ⟨a, b, v, m⟩).length := by rw [← hinv, List.length_append]
    have hlb := sPutF_len ⟨a, b, v, m⟩ l false
    have eqR : ∀ o : List RE, rtRows o ++ [[D.v (.int .i64 a), D.v (.int .i64 b), D.v (.int .i64 v), D.v (.int .i64 m)]] = rtRows (o ++ [⟨a, b, v, m⟩]) := fun o => rtRows_app o [⟨a, b, v, m⟩]
    have w2 : IntKind.i64.wrap ((k : Int) + 1) = ((k + 1 : Nat) : Int) := by rw [wrap_id] <;> omega
    by_cases hk : k < l.length
    · have hrow := rtRows_get l k hk
      have hlt : ((k : Int) < (l.length : Int)) = True := eq_true (by omega)
      have h0 : (0 ≤ (k : Int)) = True := eq_true (by omega)
      have eqX : ∀ o : List RE, rtRows o ++ [[D.v (.int .i64 l[k].a), D.v (.int .i64 l[k].b), D.v (.int .i64 l[k].v), D.v (.int .i64 l[k].m)]] = rtRows (o ++ [l[k]]) := fun o => rtRows_app o [l[k]]
      have hdrop : l.drop k = l[k] :: l.drop (k + 1) := List.drop_eq_getElem_cons hk
      cases d with
      | false =>
        rcases (show l[k].b < b ∨ (l[k].b = b ∧ l[k].a < a) ∨ (l[k].b = b ∧ l[k].a = a) ∨ (l[k].b = b ∧ a < l[k].a) ∨ b < l[k].b by omega) with hA | hA | hA | hA | hA
        · have f1 : (b < l[k].b) = False := eq_false (by omega)
          have f2 : (b == l[k].b) = false := by rw [beq_eq_false_iff_ne]; omega
          have f2p : (b = l[k].b) = False := eq_false (by omega)
          have f4 : (l[k].b != b) = true := by rw [bne_iff_ne]; omega
          have f4p : (l[k].b = b) = False := eq_false (by omega)
          have hle : aheadB l[k] ⟨a, b, v, m⟩ = true := by simp only [aheadB, decide_eq_true_eq]; omega
          have hky : keyB l[k] ⟨a, b, v, m⟩ = false := by simp only [keyB, Bool.and_eq_false_iff, decide_eq_false_iff_not]; omega
          have hst : pStep l[k] ⟨a, b, v, m⟩ (false, out) = (false, out ++ [l[k]]) := by simp [pStep, hle, hky]
          have hin := (pStep_inv l[k] ⟨a, b, v, m⟩ (l.drop (k + 1)) (false, out)).trans (hdrop ▸ hinv)
          rw [hst] at hin
          dsimp only at hin
          simp (maxSteps := 3000000) only [Try.f91, rps, rtRows_len, rtsOf_rows, hrow, hlt, h0, eqR, eqX, List.length_append, f1, f2, f2p, f4, f4p, D.toI, D.toL, tYs, evL, implies_true, oMin, oCopy, oBin, oUn, oLoadKid, oStoreTree, oField, oExtract, oNil, oSliceQ, oLoadRow, takeCells, TS.atRow, TS.ex, treeMode, AV.isOwn, TK.isSl, nilTk, nilsB, oLenQ, oLen, nodupB, treeOf, kidAbs, kidRows, TK.isCell, D.toL, oLoad, oStore, oMake, oIndexAddr, ↓reduceIte, reduceCtorEq, Nat.reduceBEq, Nat.reduceAdd, Nat.reduceMul, Nat.reduceLT, Nat.reduceSub, Nat.reduceLeDiff, Nat.reduceEqDiff, Nat.reduceBneDiff, Int.reduceToNat, decide_eq_true_eq, decide_eq_false_iff_not, beq_iff_eq, Int.toNat_natCast, loopK_normal, loopK_exit, loopK_ret, w2]
          repeat' first
            | refine And.intro (by omega) ?_
            | refine And.intro ⟨by omega, by omega, by simp⟩ ?_
            | refine And.intro (by kernel_rfl) ?_
          exact ⟨(k + 1, false, out ++ [l[k]]), [(0, some _), (1, some _)], ⟨by dsimp only; omega, hin⟩, by dsimp only; omega, ⟨⟨⟨rfl, rfl, rfl⟩, trivial, trivial, ⟨rfl, rfl, rfl⟩, trivial, trivial, ⟨rfl, rfl, rfl⟩, ⟨rfl, rfl, rfl⟩, ⟨rfl, rfl, rfl⟩, fitT_rep _ _ rfl⟩, ⟨.inl rfl, rfl, rfl, rfl, .inl rfl, rfl, rfl, rfl, trivial⟩, by simp [rn, hpAt]⟩, by simp [keepIds]⟩
        · have f1 : (b < l[k].b) = False := eq_false (by omega)
          have f2 : (b == l[k].b) = true := by rw [beq_iff_eq]; omega
          have f2p : (b = l[k].b) = True := eq_true (by omega)
          have f3 : (a ≤ l[k].a) = False := eq_false (by omega)
          have f4 : (l[k].b != b) = false := by rw [bne_eq_false_iff_eq]; omega
          have f4p : (l[k].b = b) = True := eq_true (by omega)
          have f5 : (l[k].a != a) = true := by rw [bne_iff_ne]; omega
          have f5p : (l[k].a = a) = False := eq_false (by omega)
          have hle : aheadB l[k] ⟨a, b, v, m⟩ = true := by simp only [aheadB, decide_eq_true_eq]; omega
          have hky : keyB l[k] ⟨a, b, v, m⟩ = false := by simp only [keyB, Bool.and_eq_false_iff, decide_eq_false_iff_not]; omega
          have hst : pStep l[k] ⟨a, b, v, m⟩ (false, out) = (false, out ++ [l[k]]) := by simp [pStep, hle, hky]
          have hin := (pStep_inv l[k] ⟨a, b, v, m⟩ (l.drop (k + 1)) (false, out)).trans (hdrop ▸ hinv)
          rw [hst] at hin
          dsimp only at hin
          simp (maxSteps := 3000000) only [Try.f91, rps, rtRows_len, rtsOf_rows, hrow, hlt, h0, eqR, eqX, List.length_append, f1, f2, f2p, f3, f4, f4p, f5, f5p, D.toI, D.toL, tYs, evL, implies_true, oMin, oCopy, oBin, oUn, oLoadKid, oStoreTree, oField, oExtract, oNil, oSliceQ, oLoadRow, takeCells, TS.atRow, TS.ex, treeMode, AV.isOwn, TK.isSl, nilTk, nilsB, oLenQ, oLen, nodupB, treeOf, kidAbs, kidRows, TK.isCell, D.toL, oLoad, oStore, oMake, oIndexAddr, ↓reduceIte, reduceCtorEq, Nat.reduceBEq, Nat.reduceAdd, Nat.reduceMul, Nat.reduceLT, Nat.reduceSub, Nat.reduceLeDiff, Nat.reduceEqDiff, Nat.reduceBneDiff, Int.reduceToNat, decide_eq_true_eq, decide_eq_false_iff_not, beq_iff_eq, Int.toNat_natCast, loopK_normal, loopK_exit, loopK_ret, w2]
          repeat' first
            | refine And.intro (by omega) ?_
            | refine And.intro ⟨by omega, by omega, by simp⟩ ?_
            | refine And.intro (by kernel_rfl) ?_
          exact ⟨(k + 1, false, out ++ [l[k]]), [(0, some _), (1, some _)], ⟨by dsimp only; omega, hin⟩, by dsimp only; omega, ⟨⟨⟨rfl, rfl, rfl⟩, trivial, trivial, ⟨rfl, rfl, rfl⟩, trivial, trivial, ⟨rfl, rfl, rfl⟩, ⟨rfl, rfl, rfl⟩, ⟨rfl, rfl, rfl⟩, fitT_rep _ _ rfl⟩, ⟨.inl rfl, rfl, rfl, rfl, .inl rfl, rfl, rfl, rfl, trivial⟩, by simp [rn, hpAt]⟩, by simp [keepIds]⟩
        · have f1 : (b < l[k].b) = False := eq_false (by omega)
          have f2 : (b == l[k].b) = true := by rw [beq_iff_eq]; omega
          have f2p : (b = l[k].b) = True := eq_true (by omega)
          have f3 : (a ≤ l[k].a) = True := eq_true (by omega)
          have f4 : (l[k].b != b) = false := by rw [bne_eq_false_iff_eq]; omega
          have f4p : (l[k].b = b) = True := eq_true (by omega)
          have f5 : (l[k].a != a) = false := by rw [bne_eq_false_iff_eq]; omega
          have f5p : (l[k].a = a) = True := eq_true (by omega)
          have hle : aheadB l[k] ⟨a, b, v, m⟩ = false := by simp only [aheadB, decide_eq_false_iff_not]; omega
          have hky : keyB l[k] ⟨a, b, v, m⟩ = true := by simp only [keyB, Bool.and_eq_true, decide_eq_true_eq]; omega
          have hst : pStep l[k] ⟨a, b, v, m⟩ (false, out) = (true, out ++ [⟨a, b, v, m⟩]) := by simp [pStep, hle, hky]
          have hin := (pStep_inv l[k] ⟨a, b, v, m⟩ (l.drop (k + 1)) (false, out)).trans (hdrop ▸ hinv)
          rw [hst] at hin
          dsimp only at hin
          simp (maxSteps := 3000000) only [Try.f91, rps, rtRows_len, rtsOf_rows, hrow, hlt, h0, eqR, eqX, List.length_append, f1, f2, f2p, f3, f4, f4p, f5, f5p, D.toI, D.toL, tYs, evL, implies_true, oMin, oCopy, oBin, oUn, oLoadKid, oStoreTree, oField, oExtract, oNil, oSliceQ, oLoadRow, takeCells, TS.atRow, TS.ex, treeMode, AV.isOwn, TK.isSl, nilTk, nilsB, oLenQ, oLen, nodupB, treeOf, kidAbs, kidRows, TK.isCell, D.toL, oLoad, oStore, oMake, oIndexAddr, ↓reduceIte, reduceCtorEq, Nat.reduceBEq, Nat.reduceAdd, Nat.reduceMul, Nat.reduceLT, Nat.reduceSub, Nat.reduceLeDiff, Nat.reduceEqDiff, Nat.reduceBneDiff, Int.reduceToNat, decide_eq_true_eq, decide_eq_false_iff_not, beq_iff_eq, Int.toNat_natCast, loopK_normal, loopK_exit, loopK_ret, w2]
          repeat' first
            | refine And.intro (by omega) ?_
            | refine And.intro ⟨by omega, by omega, by simp⟩ ?_
            | refine And.intro (by kernel_rfl) ?_
          exact ⟨(k + 1, true, out ++ [⟨a, b, v, m⟩]), [(0, some _), (1, some _)], ⟨by dsimp only; omega, hin⟩, by dsimp only; omega, ⟨⟨⟨rfl, rfl, rfl⟩, trivial, trivial, ⟨rfl, rfl, rfl⟩, trivial, trivial, ⟨rfl, rfl, rfl⟩, ⟨rfl, rfl, rfl⟩, ⟨rfl, rfl, rfl⟩, fitT_rep _ _ rfl⟩, ⟨.inl rfl, rfl, rfl, rfl, .inl rfl, rfl, rfl, rfl, trivial⟩, by simp [rn, hpAt]⟩, by simp [keepIds]⟩
        · have f1 : (b < l[k].b) = False := eq_false (by omega)
          have f2 : (b == l[k].b) = true := by rw [beq_iff_eq]; omega
          have f2p : (b = l[k].b) = True := eq_true (by omega)
          have f3 : (a ≤ l[k].a) = True := eq_true (by omega)
          have f4 : (l[k].b != b) = false := by rw [bne_eq_false_iff_eq]; omega
          have f4p : (l[k].b = b) = True := eq_true (by omega)
          have f5 : (l[k].a != a) = true := by rw [bne_iff_ne]; omega
          have f5p : (l[k].a = a) = False := eq_false (by omega)
          have hle : aheadB l[k] ⟨a, b, v, m⟩ = false := by simp only [aheadB, decide_eq_false_iff_not]; omega
          have hky : keyB l[k] ⟨a, b, v, m⟩ = false := by simp only [keyB, Bool.and_eq_false_iff, decide_eq_false_iff_not]; omega
          have hst : pStep l[k] ⟨a, b, v, m⟩ (false, out) = (true, out ++ [⟨a, b, v, m⟩, l[k]]) := by simp [pStep, hle, hky]
          have hin := (pStep_inv l[k] ⟨a, b, v, m⟩ (l.drop (k + 1)) (false, out)).trans (hdrop ▸ hinv)
          rw [hst] at hin
          dsimp only at hin
          simp (maxSteps := 3000000) only [Try.f91, rps, rtRows_len, rtsOf_rows, hrow, hlt, h0, eqR, eqX, List.length_append, f1, f2, f2p, f3, f4, f4p, f5, f5p, D.toI, D.toL, tYs, evL, implies_true, oMin, oCopy, oBin, oUn, oLoadKid, oStoreTree, oField, oExtract, oNil, oSliceQ, oLoadRow, takeCells, TS.atRow, TS.ex, treeMode, AV.isOwn, TK.isSl, nilTk, nilsB, oLenQ, oLen, nodupB, treeOf, kidAbs, kidRows, TK.isCell, D.toL, oLoad, oStore, oMake, oIndexAddr, ↓reduceIte, reduceCtorEq, Nat.reduceBEq, Nat.reduceAdd, Nat.reduceMul, Nat.reduceLT, Nat.reduceSub, Nat.reduceLeDiff, Nat.reduceEqDiff, Nat.reduceBneDiff, Int.reduceToNat, decide_eq_true_eq, decide_eq_false_iff_not, beq_iff_eq, Int.toNat_natCast, loopK_normal, loopK_exit, loopK_ret, w2]
          repeat' first
            | refine And.intro (by omega) ?_
            | refine And.intro ⟨by omega, by omega, by simp⟩ ?_
            | refine And.intro (by kernel_rfl) ?_
          exact ⟨(k + 1, true, out ++ [⟨a, b, v, m⟩, l[k]]), [(0, some _), (1, some _)], ⟨by dsimp only; omega, hin⟩, by dsimp only; omega, ⟨⟨⟨rfl, rfl, rfl⟩, trivial, trivial, ⟨rfl, rfl, rfl⟩, trivial, trivial, ⟨rfl, rfl, rfl⟩, ⟨rfl, rfl, rfl⟩, ⟨rfl, rfl, rfl⟩, fitT_rep _ _ rfl⟩, ⟨.inl rfl, rfl, rfl, rfl, .inl rfl, rfl, rfl, rfl, trivial⟩, by simp [rn, hpAt]⟩, by simp [keepIds]⟩
        · have f1 : (b < l[k].b) = True := eq_true (by omega)
          have f2 : (b == l[k].b) = false := by rw [beq_eq_false_iff_ne]; omega
          have f2p : (b = l[k].b) = False := eq_false (by omega)
          have f4 : (l[k].b != b) = true := by rw [bne_iff_ne]; omega
          have f4p : (l[k].b = b) = False := eq_false (by omega)
          have hle : aheadB l[k] ⟨a, b, v, m⟩ = false := by simp only [aheadB, decide_eq_false_iff_not]; omega
          have hky : keyB l[k] ⟨a, b, v, m⟩ = false := by simp only [keyB, Bool.and_eq_false_iff, decide_eq_false_iff_not]; omega
          have hst : pStep l[k] ⟨a, b, v, m⟩ (false, out) = (true, out ++ [⟨a, b, v, m⟩, l[k]]) := by simp [pStep, hle, hky]
          have hin := (pStep_inv l[k] ⟨a, b, v, m⟩ (l.drop (k + 1)) (false, out)).trans (hdrop ▸ hinv)
          rw [hst] at hin
          dsimp only at hin
          simp (maxSteps := 3000000) only [Try.f91, rps, rtRows_len, rtsOf_rows, hrow, hlt, h0, eqR, eqX, List.length_append, f1, f2, f2p, f4, f4p, D.toI, D.toL, tYs, evL, implies_true, oMin, oCopy, oBin, oUn, oLoadKid, oStoreTree, oField, oExtract, oNil, oSliceQ, oLoadRow, takeCells, TS.atRow, TS.ex, treeMode, AV.isOwn, TK.isSl, nilTk, nilsB, oLenQ, oLen, nodupB, treeOf, kidAbs, kidRows, TK.isCell, D.toL, oLoad, oStore, oMake, oIndexAddr, ↓reduceIte, reduceCtorEq, Nat.reduceBEq, Nat.reduceAdd, Nat.reduceMul, Nat.reduceLT, Nat.reduceSub, Nat.reduceLeDiff, Nat.reduceEqDiff, Nat.reduceBneDiff, Int.reduceToNat, decide_eq_true_eq, decide_eq_false_iff_not, beq_iff_eq, Int.toNat_natCast, loopK_normal, loopK_exit, loopK_ret, w2]
          repeat' first
            | refine And.intro (by omega) ?_
            | refine And.intro ⟨by omega, by omega, by simp⟩ ?_
            | refine And.intro (by kernel_rfl) ?_
          exact ⟨(k + 1, true, out ++ [⟨a, b, v, m⟩, l[k]]), [(0, some _), (1, some _)], ⟨by dsimp only; omega, hin⟩, by dsimp only; omega, ⟨⟨⟨rfl, rfl, rfl⟩, trivial, trivial, ⟨rfl, rfl, rfl⟩, trivial, trivial, ⟨rfl, rfl, rfl⟩, ⟨rfl, rfl, rfl⟩, ⟨rfl, rfl, rfl⟩, fitT_rep _ _ rfl⟩, ⟨.inl rfl, rfl, rfl, rfl, .inl rfl, rfl, rfl, rfl, trivial⟩, by simp [rn, hpAt]⟩, by simp [keepIds]⟩
      | true =>
        rcases (show l[k].b < b ∨ (l[k].b = b ∧ l[k].a < a) ∨ (l[k].b = b ∧ l[k].a = a) ∨ (l[k].b = b ∧ a < l[k].a) ∨ b < l[k].b by omega) with hA | hA | hA | hA | hA
        · have f1 : (b < l[k].b) = False := eq_false (by omega)
          have f2 : (b == l[k].b) = false := by rw [beq_eq_false_iff_ne]; omega
          have f2p : (b = l[k].b) = False := eq_false (by omega)
          have f4 : (l[k].b != b) = true := by rw [bne_iff_ne]; omega
          have f4p : (l[k].b = b) = False := eq_false (by omega)
          have hle : aheadB l[k] ⟨a, b, v, m⟩ = true := by simp only [aheadB, decide_eq_true_eq]; omega
          have hky : keyB l[k] ⟨a, b, v, m⟩ = false := by simp only [keyB, Bool.and_eq_false_iff, decide_eq_false_iff_not]; omega
          have hst : pStep l[k] ⟨a, b, v, m⟩ (true, out) = (true, out ++ [l[k]]) := by simp [pStep, hle, hky]
          have hin := (pStep_inv l[k] ⟨a, b, v, m⟩ (l.drop (k + 1)) (true, out)).trans (hdrop ▸ hinv)
          rw [hst] at hin
          dsimp only at hin
          simp (maxSteps := 3000000) only [Try.f91, rps, rtRows_len, rtsOf_rows, hrow, hlt, h0, eqR, eqX, List.length_append, f1, f2, f2p, f4, f4p, D.toI, D.toL, tYs, evL, implies_true, oMin, oCopy, oBin, oUn, oLoadKid, oStoreTree, oField, oExtract, oNil, oSliceQ, oLoadRow, takeCells, TS.atRow, TS.ex, treeMode, AV.isOwn, TK.isSl, nilTk, nilsB, oLenQ, oLen, nodupB, treeOf, kidAbs, kidRows, TK.isCell, D.toL, oLoad, oStore, oMake, oIndexAddr, ↓reduceIte, reduceCtorEq, Nat.reduceBEq, Nat.reduceAdd, Nat.reduceMul, Nat.reduceLT, Nat.reduceSub, Nat.reduceLeDiff, Nat.reduceEqDiff, Nat.reduceBneDiff, Int.reduceToNat, decide_eq_true_eq, decide_eq_false_iff_not, beq_iff_eq, Int.toNat_natCast, loopK_normal, loopK_exit, loopK_ret, w2]
          repeat' first
            | refine And.intro (by omega) ?_
            | refine And.intro ⟨by omega, by omega, by simp⟩ ?_
            | refine And.intro (by kernel_rfl) ?_
          exact ⟨(k + 1, true, out ++ [l[k]]), [(0, some _), (1, some _)], ⟨by dsimp only; omega, hin⟩, by dsimp only; omega, ⟨⟨⟨rfl, rfl, rfl⟩, trivial, trivial, ⟨rfl, rfl, rfl⟩, trivial, trivial, ⟨rfl, rfl, rfl⟩, ⟨rfl, rfl, rfl⟩, ⟨rfl, rfl, rfl⟩, fitT_rep _ _ rfl⟩, ⟨.inl rfl, rfl, rfl, rfl, .inl rfl, rfl, rfl, rfl, trivial⟩, by simp [rn, hpAt]⟩, by simp [keepIds]⟩
        · have f1 : (b < l[k].b) = False := eq_false (by omega)
          have f2 : (b == l[k].b) = true := by rw [beq_iff_eq]; omega
          have f2p : (b = l[k].b) = True := eq_true (by omega)
          have f3 : (a ≤ l[k].a) = False := eq_false (by omega)
          have f4 : (l[k].b != b) = false := by rw [bne_eq_false_iff_eq]; omega
          have f4p : (l[k].b = b) = True := eq_true (by omega)
          have f5 : (l[k].a != a) = true := by rw [bne_iff_ne]; omega
          have f5p : (l[k].a = a) = False := eq_false (by omega)
          have hle : aheadB l[k] ⟨a, b, v, m⟩ = true := by simp only [aheadB, decide_eq_true_eq]; omega
          have hky : keyB l[k] ⟨a, b, v, m⟩ = false := by simp only [keyB, Bool.and_eq_false_iff, decide_eq_false_iff_not]; omega
          have hst : pStep l[k] ⟨a, b, v, m⟩ (true, out) = (true, out ++ [l[k]]) := by simp [pStep, hle, hky]
          have hin := (pStep_inv l[k] ⟨a, b, v, m⟩ (l.drop (k + 1)) (true, out)).trans (hdrop ▸ hinv)
          rw [hst] at hin
          dsimp only at hin
          simp (maxSteps := 3000000) only [Try.f91, rps, rtRows_len, rtsOf_rows, hrow, hlt, h0, eqR, eqX, List.length_append, f1, f2, f2p, f3, f4, f4p, f5, f5p, D.toI, D.toL, tYs, evL, implies_true, oMin, oCopy, oBin, oUn, oLoadKid, oStoreTree, oField, oExtract, oNil, oSliceQ, oLoadRow, takeCells, TS.atRow, TS.ex, treeMode, AV.isOwn, TK.isSl, nilTk, nilsB, oLenQ, oLen, nodupB, treeOf, kidAbs, kidRows, TK.isCell, D.toL, oLoad, oStore, oMake, oIndexAddr, ↓reduceIte, reduceCtorEq, Nat.reduceBEq, Nat.reduceAdd, Nat.reduceMul, Nat.reduceLT, Nat.reduceSub, Nat.reduceLeDiff, Nat.reduceEqDiff, Nat.reduceBneDiff, Int.reduceToNat, decide_eq_true_eq, decide_eq_false_iff_not, beq_iff_eq, Int.toNat_natCast, loopK_normal, loopK_exit, loopK_ret, w2]
          repeat' first
            | refine And.intro (by omega) ?_
            | refine And.intro ⟨by omega, by omega, by simp⟩ ?_
            | refine And.intro (by kernel_rfl) ?_
          exact ⟨(k + 1, true, out ++ [l[k]]), [(0, some _), (1, some _)], ⟨by dsimp only; omega, hin⟩, by dsimp only; omega, ⟨⟨⟨rfl, rfl, rfl⟩, trivial, trivial, ⟨rfl, rfl, rfl⟩, trivial, trivial, ⟨rfl, rfl, rfl⟩, ⟨rfl, rfl, rfl⟩, ⟨rfl, rfl, rfl⟩, fitT_rep _ _ rfl⟩, ⟨.inl rfl, rfl, rfl, rfl, .inl rfl, rfl, rfl, rfl, trivial⟩, by simp [rn, hpAt]⟩, by simp [keepIds]⟩
        · have f1 : (b < l[k].b) = False := eq_false (by omega)
          have f2 : (b == l[k].b) = true := by rw [beq_iff_eq]; omega
          have f2p : (b = l[k].b) = True := eq_true (by omega)
          have f3 : (a ≤ l[k].a) = True := eq_true (by omega)
          have f4 : (l[k].b != b) = false := by rw [bne_eq_false_iff_eq]; omega
          have f4p : (l[k].b = b) = True := eq_true (by omega)
          have f5 : (l[k].a != a) = false := by rw [bne_eq_false_iff_eq]; omega
          have f5p : (l[k].a = a) = True := eq_true (by omega)
          have hle : aheadB l[k] ⟨a, b, v, m⟩ = false := by simp only [aheadB, decide_eq_false_iff_not]; omega
          have hky : keyB l[k] ⟨a, b, v, m⟩ = true := by simp only [keyB, Bool.and_eq_true, decide_eq_true_eq]; omega
          have hst : pStep l[k] ⟨a, b, v, m⟩ (true, out) = (true, out) := by simp [pStep, hle, hky]
          have hin := (pStep_inv l[k] ⟨a, b, v, m⟩ (l.drop (k + 1)) (true, out)).trans (hdrop ▸ hinv)
          rw [hst] at hin
          dsimp only at hin
          simp (maxSteps := 3000000) only [Try.f91, rps, rtRows_len, rtsOf_rows, hrow, hlt, h0, eqR, eqX, List.length_append, f1, f2, f2p, f3, f4, f4p, f5, f5p, D.toI, D.toL, tYs, evL, implies_true, oMin, oCopy, oBin, oUn, oLoadKid, oStoreTree, oField, oExtract, oNil, oSliceQ, oLoadRow, takeCells, TS.atRow, TS.ex, treeMode, AV.isOwn, TK.isSl, nilTk, nilsB, oLenQ, oLen, nodupB, treeOf, kidAbs, kidRows, TK.isCell, D.toL, oLoad, oStore, oMake, oIndexAddr, ↓reduceIte, reduceCtorEq, Nat.reduceBEq, Nat.reduceAdd, Nat.reduceMul, Nat.reduceLT, Nat.reduceSub, Nat.reduceLeDiff, Nat.reduceEqDiff, Nat.reduceBneDiff, Int.reduceToNat, decide_eq_true_eq, decide_eq_false_iff_not, beq_iff_eq, Int.toNat_natCast, loopK_normal, loopK_exit, loopK_ret, w2]
          repeat' first
            | refine And.intro (by omega) ?_
            | refine And.intro ⟨by omega, by omega, by simp⟩ ?_
            | refine And.intro (by kernel_rfl) ?_
          exact ⟨(k + 1, true, out), [(0, some _), (1, some _)], ⟨by dsimp only; omega, hin⟩, by dsimp only; omega, ⟨⟨⟨rfl, rfl, rfl⟩, trivial, trivial, ⟨rfl, rfl, rfl⟩, trivial, trivial, ⟨rfl, rfl, rfl⟩, ⟨rfl, rfl, rfl⟩, ⟨rfl, rfl, rfl⟩, fitT_rep _ _ rfl⟩, ⟨.inl rfl, rfl, rfl, rfl, .inl rfl, rfl, rfl, rfl, trivial⟩, by simp [rn, hpAt]⟩, by simp [keepIds]⟩
        · have f1 : (b < l[k].b) = False := eq_false (by omega)
          have f2 : (b == l[k].b) = true := by rw [beq_iff_eq]; omega
          have f2p : (b = l[k].b) = True := eq_true (by omega)
          have f3 : (a ≤ l[k].a) = True := eq_true (by omega)
          have f4 : (l[k].b != b) = false := by rw [bne_eq_false_iff_eq]; omega
          have f4p : (l[k].b = b) = True := eq_true (by omega)
          have f5 : (l[k].a != a) = true := by rw [bne_iff_ne]; omega
          have f5p : (l[k].a = a) = False := eq_false (by omega)
          have hle : aheadB l[k] ⟨a, b, v, m⟩ = false := by simp only [aheadB, decide_eq_false_iff_not]; omega
          have hky : keyB l[k] ⟨a, b, v, m⟩ = false := by simp only [keyB, Bool.and_eq_false_iff, decide_eq_false_iff_not]; omega
          have hst : pStep l[k] ⟨a, b, v, m⟩ (true, out) = (true, out ++ [l[k]]) := by simp [pStep, hle, hky]
          have hin := (pStep_inv l[k] ⟨a, b, v, m⟩ (l.drop (k + 1)) (true, out)).trans (hdrop ▸ hinv)
          rw [hst] at hin
          dsimp only at hin
          simp (maxSteps := 3000000) only [Try.f91, rps, rtRows_len, rtsOf_rows, hrow, hlt, h0, eqR, eqX, List.length_append, f1, f2, f2p, f3, f4, f4p, f5, f5p, D.toI, D.toL, tYs, evL, implies_true, oMin, oCopy, oBin, oUn, oLoadKid, oStoreTree, oField, oExtract, oNil, oSliceQ, oLoadRow, takeCells, TS.atRow, TS.ex, treeMode, AV.isOwn, TK.isSl, nilTk, nilsB, oLenQ, oLen, nodupB, treeOf, kidAbs, kidRows, TK.isCell, D.toL, oLoad, oStore, oMake, oIndexAddr, ↓reduceIte, reduceCtorEq, Nat.reduceBEq, Nat.reduceAdd, Nat.reduceMul, Nat.reduceLT, Nat.reduceSub, Nat.reduceLeDiff, Nat.reduceEqDiff, Nat.reduceBneDiff, Int.reduceToNat, decide_eq_true_eq, decide_eq_false_iff_not, beq_iff_eq, Int.toNat_natCast, loopK_normal, loopK_exit, loopK_ret, w2]
          repeat' first
            | refine And.intro (by omega) ?_
            | refine And.intro ⟨by omega, by omega, by simp⟩ ?_
            | refine And.intro (by kernel_rfl) ?_
          exact ⟨(k + 1, true, out ++ [l[k]]), [(0, some _), (1, some _)], ⟨by dsimp only; omega, hin⟩, by dsimp only; omega, ⟨⟨⟨rfl, rfl, rfl⟩, trivial, trivial, ⟨rfl, rfl, rfl⟩, trivial, trivial, ⟨rfl, rfl, rfl⟩, ⟨rfl, rfl, rfl⟩, ⟨rfl, rfl, rfl⟩, fitT_rep _ _ rfl⟩, ⟨.inl rfl, rfl, rfl, rfl, .inl rfl, rfl, rfl, rfl, trivial⟩, by simp [rn, hpAt]⟩, by simp [keepIds]⟩
        · have f1 : (b < l[k].b) = True := eq_true (by omega)
          have f2 : (b == l[k].b) = false := by rw [beq_eq_false_iff_ne]; omega
          have f2p : (b = l[k].b) = False := eq_false (by omega)
          have f4 : (l[k].b != b) = true := by rw [bne_iff_ne]; omega
          have f4p : (l[k].b = b) = False := eq_false (by omega)
          have hle : aheadB l[k] ⟨a, b, v, m⟩ = false := by simp only [aheadB, decide_eq_false_iff_not]; omega
          have hky : keyB l[k] ⟨a, b, v, m⟩ = false := by simp only [keyB, Bool.and_eq_false_iff, decide_eq_false_iff_not]; omega
          have hst : pStep l[k] ⟨a, b, v, m⟩ (true, out) = (true, out ++ [l[k]]) := by simp [pStep, hle, hky]
          have hin := (pStep_inv l[k] ⟨a, b, v, m⟩ (l.drop (k + 1)) (true, out)).trans (hdrop ▸ hinv)
          rw [hst] at hin
          dsimp only at hin
          simp (maxSteps := 3000000) only [Try.f91, rps, rtRows_len, rtsOf_rows, hrow, hlt, h0, eqR, eqX, List.length_append, f1, f2, f2p, f4, f4p, D.toI, D.toL, tYs, evL, implies_true, oMin, oCopy, oBin, oUn, oLoadKid, oStoreTree, oField, oExtract, oNil, oSliceQ, oLoadRow, takeCells, TS.atRow, TS.ex, treeMode, AV.isOwn, TK.isSl, nilTk, nilsB, oLenQ, oLen, nodupB, treeOf, kidAbs, kidRows, TK.isCell, D.toL, oLoad, oStore, oMake, oIndexAddr, ↓reduceIte, reduceCtorEq, Nat.reduceBEq, Nat.reduceAdd, Nat.reduceMul, Nat.reduceLT, Nat.reduceSub, Nat.reduceLeDiff, Nat.reduceEqDiff, Nat.reduceBneDiff, Int.reduceToNat, decide_eq_true_eq, decide_eq_false_iff_not, beq_iff_eq, Int.toNat_natCast, loopK_normal, loopK_exit, loopK_ret, w2]
          repeat' first
            | refine And.intro (by omega) ?_
            | refine And.intro ⟨by omega, by omega, by simp⟩ ?_
            | refine And.intro (by kernel_rfl) ?_
          exact ⟨(k + 1, true, out ++ [l[k]]), [(0, some _), (1, some _)], ⟨by dsimp only; omega, hin⟩, by dsimp only; omega, ⟨⟨⟨rfl, rfl, rfl⟩, trivial, trivial, ⟨rfl, rfl, rfl⟩, trivial, trivial, ⟨rfl, rfl, rfl⟩, ⟨rfl, rfl, rfl⟩, ⟨rfl, rfl, rfl⟩, fitT_rep _ _ rfl⟩, ⟨.inl rfl, rfl, rfl, rfl, .inl rfl, rfl, rfl, rfl, trivial⟩, by simp [rn, hpAt]⟩, by simp [keepIds]⟩
    · have hlt : ((k : Int) < (l.length : Int)) = False := eq_false (by omega)
      obtain rfl : k = l.length := by omega
      rw [List.drop_length] at hinv
      cases d with
      | false =>
        have hW : out ++ [(⟨a, b, v, m⟩ : RE)] = sPutF false l ⟨a, b, v, m⟩ := by rw [← hinv]; simp [sPutF]
        cases hs : rsB l with
        | false =>
          have hp : putB l ⟨a, b, v, m⟩ = false := by rw [putB, hs]; rfl
          rw [hp, putV_no hp]
          simp (maxSteps := 3000000) only [Try.f91, rps, g_routesOk, g_routeOk, rtRows_len, rtsOf_rows, hlt, eqR, List.length_append, hs, D.toI, D.toL, tYs, evL, implies_true, oMin, oCopy, oBin, oUn, oLoadKid, oStoreTree, oField, oExtract, oNil, oSliceQ, oLoadRow, takeCells, TS.atRow, TS.ex, treeMode, AV.isOwn, TK.isSl, nilTk, nilsB, oLenQ, oLen, nodupB, treeOf, kidAbs, kidRows, TK.isCell, D.toL, oLoad, oStore, oMake, oIndexAddr, ↓reduceIte, reduceCtorEq, Nat.reduceBEq, Nat.reduceAdd, Nat.reduceMul, Nat.reduceLT, Nat.reduceSub, Nat.reduceLeDiff, Nat.reduceEqDiff, Nat.reduceBneDiff, Int.reduceToNat, decide_eq_true_eq, decide_eq_false_iff_not, beq_iff_eq, Int.toNat_natCast, loopK_normal, loopK_exit, loopK_ret, w2]
          repeat' first
            | refine And.intro ⟨by omega, by omega, by simp⟩ ?_
            | refine And.intro ⟨l, rfl, by omega⟩ ?_
            | refine And.intro (by kernel_rfl) ?_
          exact ⟨_, [(0, some _)], rfl, ⟨⟨⟨rfl, rfl, rfl⟩, trivial⟩, ⟨.inl rfl, rfl, rfl, rfl, trivial⟩, by simp [rn, hpAt]⟩⟩
        | true =>
          have hW2 : out ++ [(⟨a, b, v, m⟩ : RE)] = withR l ⟨a, b, v, m⟩ := by rw [hW, sPutF_eq _ _ (rsB_iff.1 hs).2]
          cases hr : rOkB ⟨a, b, v, m⟩ with
          | false =>
            have hp : putB l ⟨a, b, v, m⟩ = false := by rw [putB, hr, Bool.and_false]; rfl
            rw [hp, putV_no hp]
            simp (maxSteps := 3000000) only [Try.f91, rps, g_routesOk, g_routeOk, rtRows_len, rtsOf_rows, hlt, eqR, List.length_append, hs, hr, D.toI, D.toL, tYs, evL, implies_true, oMin, oCopy, oBin, oUn, oLoadKid, oStoreTree, oField, oExtract, oNil, oSliceQ, oLoadRow, takeCells, TS.atRow, TS.ex, treeMode, AV.isOwn, TK.isSl, nilTk, nilsB, oLenQ, oLen, nodupB, treeOf, kidAbs, kidRows, TK.isCell, D.toL, oLoad, oStore, oMake, oIndexAddr, ↓reduceIte, reduceCtorEq, Nat.reduceBEq, Nat.reduceAdd, Nat.reduceMul, Nat.reduceLT, Nat.reduceSub, Nat.reduceLeDiff, Nat.reduceEqDiff, Nat.reduceBneDiff, Int.reduceToNat, decide_eq_true_eq, decide_eq_false_iff_not, beq_iff_eq, Int.toNat_natCast, loopK_normal, loopK_exit, loopK_ret, w2]
            repeat' first
              | refine And.intro ⟨by omega, by omega, by simp⟩ ?_
              | refine And.intro ⟨l, rfl, by omega⟩ ?_
              | refine And.intro (by kernel_rfl) ?_
            exact ⟨_, [(0, some _)], rfl, ⟨⟨⟨rfl, rfl, rfl⟩, trivial⟩, ⟨.inl rfl, rfl, rfl, rfl, trivial⟩, by simp [rn, hpAt]⟩⟩
          | true =>
            by_cases h8 : ((out ++ [(⟨a, b, v, m⟩ : RE)]).length : Int) > 8
            · have hp : putB l ⟨a, b, v, m⟩ = false := by rw [putB, ← hW2, decide_eq_false (by omega), Bool.and_false]
              rw [hp, putV_no hp]
              try simp only [List.length_append, List.length_cons, List.length_nil] at h8
              simp (maxSteps := 3000000) only [Try.f91, rps, g_routesOk, g_routeOk, rtRows_len, rtsOf_rows, hlt, eqR, List.length_append, hs, hr, h8, eq_true h8, D.toI, D.toL, tYs, evL, implies_true, oMin, oCopy, oBin, oUn, oLoadKid, oStoreTree, oField, oExtract, oNil, oSliceQ, oLoadRow, takeCells, TS.atRow, TS.ex, treeMode, AV.isOwn, TK.isSl, nilTk, nilsB, oLenQ, oLen, nodupB, treeOf, kidAbs, kidRows, TK.isCell, D.toL, oLoad, oStore, oMake, oIndexAddr, ↓reduceIte, reduceCtorEq, Nat.reduceBEq, Nat.reduceAdd, Nat.reduceMul, Nat.reduceLT, Nat.reduceSub, Nat.reduceLeDiff, Nat.reduceEqDiff, Nat.reduceBneDiff, Int.reduceToNat, decide_eq_true_eq, decide_eq_false_iff_not, beq_iff_eq, Int.toNat_natCast, loopK_normal, loopK_exit, loopK_ret, w2]
              repeat' first
                | refine And.intro ⟨by omega, by omega, by simp⟩ ?_
                | refine And.intro ⟨l, rfl, by omega⟩ ?_
                | refine And.intro (by kernel_rfl) ?_
              exact ⟨_, [(0, some _)], rfl, ⟨⟨⟨rfl, rfl, rfl⟩, trivial⟩, ⟨.inl rfl, rfl, rfl, rfl, trivial⟩, by simp [rn, hpAt]⟩⟩
            · have hp : putB l ⟨a, b, v, m⟩ = true := by rw [putB, hs, hr, ← hW2, decide_eq_true (by omega)]; rfl
              rw [hp, putV_yes hp, ← hW2]
              try simp only [List.length_append, List.length_cons, List.length_nil] at h8
              simp (maxSteps := 3000000) only [Try.f91, rps, g_routesOk, g_routeOk, rtRows_len, rtsOf_rows, hlt, eqR, List.length_append, hs, hr, eq_false h8, D.toI, D.toL, tYs, evL, implies_true, oMin, oCopy, oBin, oUn, oLoadKid, oStoreTree, oField, oExtract, oNil, oSliceQ, oLoadRow, takeCells, TS.atRow, TS.ex, treeMode, AV.isOwn, TK.isSl, nilTk, nilsB, oLenQ, oLen, nodupB, treeOf, kidAbs, kidRows, TK.isCell, D.toL, oLoad, oStore, oMake, oIndexAddr, ↓reduceIte, reduceCtorEq, Nat.reduceBEq, Nat.reduceAdd, Nat.reduceMul, Nat.reduceLT, Nat.reduceSub, Nat.reduceLeDiff, Nat.reduceEqDiff, Nat.reduceBneDiff, Int.reduceToNat, decide_eq_true_eq, decide_eq_false_iff_not, beq_iff_eq, Int.toNat_natCast, loopK_normal, loopK_exit, loopK_ret, w2]
              repeat' first
                | refine And.intro ⟨by omega, by omega, by simp⟩ ?_
                | refine And.intro ⟨l, rfl, by omega⟩ ?_
                | refine And.intro (by kernel_rfl) ?_
              exact ⟨_, [(0, some _)], rfl, ⟨⟨⟨rfl, rfl, rfl⟩, trivial⟩, ⟨.inl rfl, rfl, rfl, rfl, trivial⟩, by simp [rn, hpAt]⟩⟩
      | true =>
        have hW : out = sPutF false l ⟨a, b, v, m⟩ := by rw [← hinv]; simp [sPutF]
        cases hs : rsB l with
        | false =>
          have hp : putB l ⟨a, b, v, m⟩ = false := by rw [putB, hs]; rfl
          rw [hp, putV_no hp]
          simp (maxSteps := 3000000) only [Try.f91, rps, g_routesOk, g_routeOk, rtRows_len, rtsOf_rows, hlt, eqR, List.length_append, hs, D.toI, D.toL, tYs, evL, implies_true, oMin, oCopy, oBin, oUn, oLoadKid, oStoreTree, oField, oExtract, oNil, oSliceQ, oLoadRow, takeCells, TS.atRow, TS.ex, treeMode, AV.isOwn, TK.isSl, nilTk, nilsB, oLenQ, oLen, nodupB, treeOf, kidAbs, kidRows, TK.isCell, D.toL, oLoad, oStore, oMake, oIndexAddr, ↓reduceIte, reduceCtorEq, Nat.reduceBEq, Nat.reduceAdd, Nat.reduceMul, Nat.reduceLT, Nat.reduceSub, Nat.reduceLeDiff, Nat.reduceEqDiff, Nat.reduceBneDiff, Int.reduceToNat, decide_eq_true_eq, decide_eq_false_iff_not, beq_iff_eq, Int.toNat_natCast, loopK_normal, loopK_exit, loopK_ret, w2]
          repeat' first
            | refine And.intro ⟨by omega, by omega, by simp⟩ ?_
            | refine And.intro ⟨l, rfl, by omega⟩ ?_
            | refine And.intro (by kernel_rfl) ?_
          exact ⟨_, [(0, some _)], rfl, ⟨⟨⟨rfl, rfl, rfl⟩, trivial⟩, ⟨.inl rfl, rfl, rfl, rfl, trivial⟩, by simp [rn, hpAt]⟩⟩
        | true =>
          have hW2 : out = withR l ⟨a, b, v, m⟩ := by rw [hW, sPutF_eq _ _ (rsB_iff.1 hs).2]
          cases hr : rOkB ⟨a, b, v, m⟩ with
          | false =>
            have hp : putB l ⟨a, b, v, m⟩ = false := by rw [putB, hr, Bool.and_false]; rfl
            rw [hp, putV_no hp]
            simp (maxSteps := 3000000) only [Try.f91, rps, g_routesOk, g_routeOk, rtRows_len, rtsOf_rows, hlt, eqR, List.length_append, hs, hr, D.toI, D.toL, tYs, evL, implies_true, oMin, oCopy, oBin, oUn, oLoadKid, oStoreTree, oField, oExtract, oNil, oSliceQ, oLoadRow, takeCells, TS.atRow, TS.ex, treeMode, AV.isOwn, TK.isSl, nilTk, nilsB, oLenQ, oLen, nodupB, treeOf, kidAbs, kidRows, TK.isCell, D.toL, oLoad, oStore, oMake, oIndexAddr, ↓reduceIte, reduceCtorEq, Nat.reduceBEq, Nat.reduceAdd, Nat.reduceMul, Nat.reduceLT, Nat.reduceSub, Nat.reduceLeDiff, Nat.reduceEqDiff, Nat.reduceBneDiff, Int.reduceToNat, decide_eq_true_eq, decide_eq_false_iff_not, beq_iff_eq, Int.toNat_natCast, loopK_normal, loopK_exit, loopK_ret, w2]
            repeat' first
              | refine And.intro ⟨by omega, by omega, by simp⟩ ?_
              | refine And.intro ⟨l, rfl, by omega⟩ ?_
              | refine And.intro (by kernel_rfl) ?_
            exact ⟨_, [(0, some _)], rfl, ⟨⟨⟨rfl, rfl, rfl⟩, trivial⟩, ⟨.inl rfl, rfl, rfl, rfl, trivial⟩, by simp [rn, hpAt]⟩⟩
          | true =>
            by_cases h8 : ((out).length : Int) > 8
            · have hp : putB l ⟨a, b, v, m⟩ = false := by rw [putB, ← hW2, decide_eq_false (by omega), Bool.and_false]
              rw [hp, putV_no hp]
              try simp only [List.length_append, List.length_cons, List.length_nil] at h8
              simp (maxSteps := 3000000) only [Try.f91, rps, g_routesOk, g_routeOk, rtRows_len, rtsOf_rows, hlt, eqR, List.length_append, hs, hr, h8, eq_true h8, D.toI, D.toL, tYs, evL, implies_true, oMin, oCopy, oBin, oUn, oLoadKid, oStoreTree, oField, oExtract, oNil, oSliceQ, oLoadRow, takeCells, TS.atRow, TS.ex, treeMode, AV.isOwn, TK.isSl, nilTk, nilsB, oLenQ, oLen, nodupB, treeOf, kidAbs, kidRows, TK.isCell, D.toL, oLoad, oStore, oMake, oIndexAddr, ↓reduceIte, reduceCtorEq, Nat.reduceBEq, Nat.reduceAdd, Nat.reduceMul, Nat.reduceLT, Nat.reduceSub, Nat.reduceLeDiff, Nat.reduceEqDiff, Nat.reduceBneDiff, Int.reduceToNat, decide_eq_true_eq, decide_eq_false_iff_not, beq_iff_eq, Int.toNat_natCast, loopK_normal, loopK_exit, loopK_ret, w2]
              repeat' first
                | refine And.intro ⟨by omega, by omega, by simp⟩ ?_
                | refine And.intro ⟨l, rfl, by omega⟩ ?_
                | refine And.intro (by kernel_rfl) ?_
              exact ⟨_, [(0, some _)], rfl, ⟨⟨⟨rfl, rfl, rfl⟩, trivial⟩, ⟨.inl rfl, rfl, rfl, rfl, trivial⟩, by simp [rn, hpAt]⟩⟩
            · have hp : putB l ⟨a, b, v, m⟩ = true := by rw [putB, hs, hr, ← hW2, decide_eq_true (by omega)]; rfl
              rw [hp, putV_yes hp, ← hW2]
              try simp only [List.length_append, List.length_cons, List.length_nil] at h8
              simp (maxSteps := 3000000) only [Try.f91, rps, g_routesOk, g_routeOk, rtRows_len, rtsOf_rows, hlt, eqR, List.length_append, hs, hr, eq_false h8, D.toI, D.toL, tYs, evL, implies_true, oMin, oCopy, oBin, oUn, oLoadKid, oStoreTree, oField, oExtract, oNil, oSliceQ, oLoadRow, takeCells, TS.atRow, TS.ex, treeMode, AV.isOwn, TK.isSl, nilTk, nilsB, oLenQ, oLen, nodupB, treeOf, kidAbs, kidRows, TK.isCell, D.toL, oLoad, oStore, oMake, oIndexAddr, ↓reduceIte, reduceCtorEq, Nat.reduceBEq, Nat.reduceAdd, Nat.reduceMul, Nat.reduceLT, Nat.reduceSub, Nat.reduceLeDiff, Nat.reduceEqDiff, Nat.reduceBneDiff, Int.reduceToNat, decide_eq_true_eq, decide_eq_false_iff_not, beq_iff_eq, Int.toNat_natCast, loopK_normal, loopK_exit, loopK_ret, w2]
              repeat' first
                | refine And.intro ⟨by omega, by omega, by simp⟩ ?_
                | refine And.intro ⟨l, rfl, by omega⟩ ?_
                | refine And.intro (by kernel_rfl) ?_
              exact ⟨_, [(0, some _)], rfl, ⟨⟨⟨rfl, rfl, rfl⟩, trivial⟩, ⟨.inl rfl, rfl, rfl, rfl, trivial⟩, by simp [rn, hpAt]⟩⟩
  · cases hg
end Go.Proofs.Ytegffkmakkccaaa
