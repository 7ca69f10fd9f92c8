import Derived.Test.YthbcoakimbpkgaaKh
set_option linter.unusedVariables false
set_option linter.unusedSimpArgs false
namespace Go.Proofs.Ythbcoakimbpkgaa
open Go.RowKit
set_option linter.unusedSimpArgs false
theorem specTravel_ok : OwnOk Try.prog 32 (ocOf g_travelD) := by
  refine specTravelW_ok.recast fun args B0 c r' B1 bs h => ?_
  unfold ocOf g_travelD at h
  split at h
  · split at h
    · rename_i c' r2 bs' hg
      cases h
      split at hg
      · cases hg
        exact ⟨_, rfl, .cons (.l _ _ _ (pRows_w _)) (.cons (.l _ _ _ (pRows_w _)) (.cons (.refl _) .nil)), fun k hk => by simp [AV.ids, AV.ids.idsL] at hk⟩
      · cases hg
    · cases h
  · cases h
theorem implTravelD_ok : OwnOk Try.prog 31 (ocOf g_travelD) := by
  refine implTravel_ok.toOwn.toData.narrow fun args B0 c r B1 bs hg hc => ?_
  unfold ocOf g_travelD at hg
  split at hg
  · split at hg
    · rename_i c' r' bs' hg'
      cases hg
      split at hg'
      · cases hg'
        exact ⟨_, rfl, hc⟩
      · cases hg'
    · cases hg
  · cases hg
theorem pm_some {net : List St} {to : Int} {i F : Nat} (h : pm net to F i ≠ none) : ∀ k, k ≤ F → wkOn net to i k → pm net to (F - k) (wkV net to i k).1 ≠ none
  | 0, _, _ => h
  | k + 1, hk, hw => by
    have ih := pm_some h k (by omega) fun j hj => hw j (by omega)
    obtain ⟨h1, n, m, h2⟩ := hw k (Nat.lt_succ_self k)
    rw [show F - k = (F - (k + 1)) + 1 from by omega, pm, if_neg h1, h2] at ih
    have e : (wkV net to i (k + 1)).1 = n := by rw [wkV, h2]
    rw [e]
    intro hn
    dsimp only at ih
    rw [hn] at ih
    exact ih rfl
theorem wk_end' {net : List St} (hn : netB net = true) {to : Int} {i : Nat} (hi : i < net.length) (h : wkOn net to i net.length) : roomV net i to = 0 := by
  cases hp : pm net to (net.length + 1) i with
  | none => rw [roomV, hp]; rfl
  | some R =>
    obtain ⟨g, h1, h2, h3⟩ := pm_first (net.length + 1) (by rw [hp]; simp)
    obtain ⟨l, a1, a2, a3⟩ := pm_line h2 h3 hi
    have hle := few net.length l a2 fun x hx => (a3 x hx).1
    obtain ⟨R', hR⟩ : ∃ R, pm net to (g + 1) i = some R := by cases hq : pm net to (g + 1) i with | none => exact absurd hq h2 | some R => exact ⟨R, rfl⟩
    have e1 := pm_mono hR (net.length - (g + 1))
    rw [show g + 1 + (net.length - (g + 1)) = net.length from by omega] at e1
    exact absurd (by rw [Nat.sub_self]; rfl) (pm_some (F := net.length) (by rw [e1]; simp) net.length (Nat.le_refl _) h)
def rmB (net : List St) (n to : Int) : Bool := inNet net n && inZ to 0 65535
def rmV (net : List St) (n to : Int) : Int := if rmB net n to = true then roomV net n.toNat to else 0
theorem next_none {net : List St} {to : Int} {i : Nat} (h : lastFit (net.getD i st0).rs to = none) : nextV net to i = none := by rw [nextV, h]
theorem next_no {net : List St} {to : Int} {i : Nat} {r : RE} (h : lastFit (net.getD i st0).rs to = some r) (hs : seek net r.v = none) : nextV net to i = none := by rw [nextV, h]; dsimp only; rw [hs]
def g_pathRoom : PC := fun args => match args with
  | [.l _ rn', .v (.int .i64 n), .v (.int .i64 to)] => some (∃ l, rn' = stRows l ∧ sMid l, .v (.int .i64 (rmV (stsOf rn') n to)), [])
  | _ => none
def pr1 : List (FuncId × Abs) := [(84, pureAbs g_inNet), (62, pureAbs g_isPair), (37, pureAbs g_routeTo), (83, pureAbs g_seek)]
theorem pr1_ok : ∀ p ∈ pr1, CallOk Try.prog p.1 p.2 := by
  intro p hp
  simp only [pr1, List.mem_cons, List.not_mem_nil, or_false] at hp
  rcases hp with rfl | rfl | rfl | rfl
  · exact inNet_ok.call
  · exact isAddr_ok.call
  · exact implRouteTo_ok.call
  · exact implSeek_ok.call
set_option maxHeartbeats 8000000 in
set_option maxRecDepth 100000 in
theorem implPathRoom_ok : PureOk Try.prog 35 g_pathRoom := by
  refine PureOk.of_vc (G := pr1) pr1_ok mixed Try.func35 (by kernel_rfl) rfl ?_
  intro args cnd r bs hg hc
  unfold g_pathRoom at hg
  split at hg
  · rename_i sn rn' n to
    cases hg
    obtain ⟨l, rfl, hl, hd⟩ := hc
    rw [stsOf_rows]
    refine ⟨⟨rfl, by simp, by simp [AV.ids, AV.ids.idsL]⟩, [.l 2 (stRows l), .v (.int .i64 n), .v (.int .i64 to)], rfl, fun w vs h => CvL.ok (.cons (.l _ _ _ (stRows_w l)) (.cons (.refl _) (.cons (.refl _) .nil))) h, ?_⟩
    cases h0 : inNet l n with
    | false =>
      have e : rmV l n to = 0 := if_neg (by rw [rmB, h0]; simp)
      rw [e]
      simp (maxSteps := 3000000) only [Try.f35, pr1, g_inNet, g_isPair, g_routeTo, g_seek, stsOf_rows, rtsOf_rows, stRows_len, rtRows_len, h0, D.toI, D.toL, ↓reduceIte, Bool.false_eq_true, tYs, evL, implies_true, oMin, oCopy, oBin, oUn, oLoadKid, oStoreTree, oField, oExtract, oNil, oSliceQ, oLen, nodupB, treeOf, kidAbs, kidRows, TK.isCell, D.toL, oLoad, oStore, oMake, oIndexAddr, ↓reduceIte, reduceCtorEq, Nat.reduceBEq, Nat.reduceAdd, Nat.reduceMul, Nat.reduceLT, Nat.reduceSub, Nat.reduceLeDiff, Nat.reduceEqDiff, Nat.reduceBneDiff, Int.reduceToNat, decide_eq_true_eq, decide_eq_false_iff_not, beq_iff_eq, Int.toNat_natCast, loopK_normal, loopK_exit, loopK_ret]
      refine ⟨⟨l, rfl, hl, hd⟩, ?_⟩
      exact ⟨_, [], rfl, ⟨⟨⟨rfl, rfl, rfl⟩, trivial⟩, trivial, by simp [rn, hpAt]⟩⟩
    | true =>
      cases h1 : inZ to 0 65535 with
      | false =>
        have e : rmV l n to = 0 := if_neg (by rw [rmB, h1]; simp)
        rw [e]
        simp (maxSteps := 3000000) only [Try.f35, pr1, g_inNet, g_isPair, g_routeTo, g_seek, stsOf_rows, rtsOf_rows, stRows_len, rtRows_len, h0, h1, D.toI, D.toL, ↓reduceIte, Bool.false_eq_true, tYs, evL, implies_true, oMin, oCopy, oBin, oUn, oLoadKid, oStoreTree, oField, oExtract, oNil, oSliceQ, oLen, nodupB, treeOf, kidAbs, kidRows, TK.isCell, D.toL, oLoad, oStore, oMake, oIndexAddr, ↓reduceIte, reduceCtorEq, Nat.reduceBEq, Nat.reduceAdd, Nat.reduceMul, Nat.reduceLT, Nat.reduceSub, Nat.reduceLeDiff, Nat.reduceEqDiff, Nat.reduceBneDiff, Int.reduceToNat, decide_eq_true_eq, decide_eq_false_iff_not, beq_iff_eq, Int.toNat_natCast, loopK_normal, loopK_exit, loopK_ret]
        refine ⟨⟨l, rfl, hl, hd⟩, ?_⟩
        exact ⟨_, [], rfl, ⟨⟨⟨rfl, rfl, rfl⟩, trivial⟩, trivial, by simp [rn, hpAt]⟩⟩
      | true =>
        obtain ⟨h0', h5, hn0, hn1⟩ := inNet_of h0
        have e : rmV l n to = roomV l n.toNat to := if_pos (by rw [rmB, h0, h1]; rfl)
        obtain ⟨j, rfl⟩ : ∃ j : Nat, n = (j : Int) := ⟨n.toNat, by omega⟩
        rw [e, Int.toNat_natCast]
        have hj : j < l.length := by omega
        simp (maxSteps := 3000000) only [Try.f35, pr1, g_inNet, g_isPair, g_routeTo, g_seek, stsOf_rows, rtsOf_rows, stRows_len, rtRows_len, h0, h1, D.toI, D.toL, ↓reduceIte, Bool.false_eq_true, tYs, evL, implies_true, oMin, oCopy, oBin, oUn, oLoadKid, oStoreTree, oField, oExtract, oNil, oSliceQ, oLen, nodupB, treeOf, kidAbs, kidRows, TK.isCell, D.toL, oLoad, oStore, oMake, oIndexAddr, ↓reduceIte, reduceCtorEq, Nat.reduceBEq, Nat.reduceAdd, Nat.reduceMul, Nat.reduceLT, Nat.reduceSub, Nat.reduceLeDiff, Nat.reduceEqDiff, Nat.reduceBneDiff, Int.reduceToNat, decide_eq_true_eq, decide_eq_false_iff_not, beq_iff_eq, Int.toNat_natCast, loopK_normal, loopK_exit, loopK_ret]
        refine ⟨⟨l, rfl, hl, hd⟩, ?_⟩
        refine e_loop _ _ _ _ _ _ _ _ (fun x : Nat × (Nat × Int) => [.l 2 (stRows l), .any, .v (.int .i64 to), .any, .any, .any, .any, .v (.int .i64 x.2.2), .v (.int .i64 (x.2.1 : Int)), .v (.int .i64 (x.1 : Int))] ++ List.replicate (Try.f35.ntmps - 10) .any) (fun x => []) (fun x => x.1 ≤ l.length ∧ wkOn l to j x.1 ∧ x.2 = wkV l to j x.1) (fun x => l.length + 1 - x.1) 0 (fun x => by simp) ?_ fun x hk' => ?_
        · exact ⟨(0, (j, 48)), [], ⟨Nat.zero_le _, fun j hj => absurd hj (Nat.not_lt_zero _), rfl⟩, ⟨⟨⟨rfl, rfl, rfl⟩, trivial, ⟨rfl, rfl, rfl⟩, trivial, trivial, trivial, trivial, ⟨rfl, rfl, rfl⟩, ⟨rfl, rfl, rfl⟩, ⟨rfl, rfl, rfl⟩, fitT_rep _ _ rfl⟩, trivial, by simp [rn, hpAt]⟩, by simp [keepIds]⟩
        obtain ⟨k, at0, R⟩ := x
        obtain ⟨hk1, hw, hS⟩ := hk'
        dsimp only at hk1 hw hS
        have w2 : IntKind.i64.wrap ((k : Int) + 1) = ((k + 1 : Nat) : Int) := wrap_id (by omega) (by omega)
        have hat := wk_inv h0' hj k (by omega) hw
        rw [← hS] at hat
        dsimp only at hat
        obtain ⟨ha1, hR, -⟩ := hat
        have ha2 : (wkV l to j k).1 = at0 := by rw [← hS]
        have hR2 : (wkV l to j k).2 = R := by rw [← hS]
        by_cases hk : k < l.length
        · have hg1 : ((k : Int) < (l.length : Int)) = True := eq_true (by omega)
          have hg3 : (0 ≤ (at0 : Int)) = True := eq_true (by omega)
          have hg4 : ((at0 : Int) < (l.length : Int)) = True := eq_true (by omega)
          have hnet := stRows_get l at0 ha1
          have hx := hd l[at0] (List.getElem_mem ha1)
          have hsb := net_st h0' ha1
          rw [st_get ha1] at hsb
          by_cases ht : l[at0].a = to
          · have hg5 : (l[at0].a = to) = True := eq_true ht
            have hg6 : (l[at0].a == to) = true := by simp [ht]
            have e : roomV l j to = R := by rw [wk_here h0' hj (k := k) (by omega) hw (by rw [ha2, st_get ha1]; exact ht), hR2]
            rw [e]
            simp (maxSteps := 3000000) only [Try.f35, pr1, g_inNet, g_isPair, g_routeTo, g_seek, stsOf_rows, rtsOf_rows, stRows_len, rtRows_len, hg1, hg3, hg4, hg5, hg6, hnet, w2, D.toI, D.toL, ↓reduceIte, Bool.false_eq_true, tYs, evL, implies_true, oMin, oCopy, oBin, oUn, oLoadKid, oStoreTree, oField, oExtract, oNil, oSliceQ, oLen, nodupB, treeOf, kidAbs, kidRows, TK.isCell, D.toL, oLoad, oStore, oMake, oIndexAddr, ↓reduceIte, reduceCtorEq, Nat.reduceBEq, Nat.reduceAdd, Nat.reduceMul, Nat.reduceLT, Nat.reduceSub, Nat.reduceLeDiff, Nat.reduceEqDiff, Nat.reduceBneDiff, Int.reduceToNat, decide_eq_true_eq, decide_eq_false_iff_not, beq_iff_eq, Int.toNat_natCast, loopK_normal, loopK_exit, loopK_ret]
            exact ⟨_, [], rfl, ⟨⟨⟨rfl, rfl, rfl⟩, trivial⟩, trivial, by simp [rn, hpAt]⟩⟩
          · have hg5 : (l[at0].a = to) = False := eq_false ht
            have hg6 : (l[at0].a == to) = false := by simp [ht]
            have ht' : (l.getD (wkV l to j k).1 st0).a ≠ to := by rw [ha2, st_get ha1]; exact ht
            obtain hlf | ⟨r, hlf⟩ : lastFit l[at0].rs to = none ∨ ∃ r, lastFit l[at0].rs to = some r := by cases lastFit l[at0].rs to <;> simp
            · have hv : toV l[at0].rs to = (rt0, false) := toV_none (stB_of hsb) hlf
              have e : roomV l j to = 0 := wk_none h0' hj (k := k) (by omega) hw ht' (next_none (by rw [ha2, st_get ha1]; exact hlf))
              rw [e]
              simp (maxSteps := 3000000) only [Try.f35, pr1, g_inNet, g_isPair, g_routeTo, g_seek, stsOf_rows, rtsOf_rows, stRows_len, rtRows_len, hg1, hg3, hg4, hg5, hg6, hnet, w2, hv, D.toI, D.toL, ↓reduceIte, Bool.false_eq_true, tYs, evL, implies_true, oMin, oCopy, oBin, oUn, oLoadKid, oStoreTree, oField, oExtract, oNil, oSliceQ, oLen, nodupB, treeOf, kidAbs, kidRows, TK.isCell, D.toL, oLoad, oStore, oMake, oIndexAddr, ↓reduceIte, reduceCtorEq, Nat.reduceBEq, Nat.reduceAdd, Nat.reduceMul, Nat.reduceLT, Nat.reduceSub, Nat.reduceLeDiff, Nat.reduceEqDiff, Nat.reduceBneDiff, Int.reduceToNat, decide_eq_true_eq, decide_eq_false_iff_not, beq_iff_eq, Int.toNat_natCast, loopK_normal, loopK_exit, loopK_ret]
              refine ⟨⟨_, rfl, by omega⟩, ⟨l, rfl, hl⟩, ?_⟩
              exact ⟨_, [], rfl, ⟨⟨⟨rfl, rfl, rfl⟩, trivial⟩, trivial, by simp [rn, hpAt]⟩⟩
            · have hv : toV l[at0].rs to = (r, true) := toV_yes (stB_of hsb) hlf
              obtain hm0 | ⟨m0, hm0⟩ : seek l r.v = none ∨ ∃ m0, seek l r.v = some m0 := by cases seek l r.v <;> simp
              · have hs : (seekI l r.v < 0) = True := eq_true (seek_neg.2 hm0)
                have e : roomV l j to = 0 := wk_none h0' hj (k := k) (by omega) hw ht' (next_no (r := r) (by rw [ha2, st_get ha1]; exact hlf) hm0)
                rw [e]
                simp (maxSteps := 3000000) only [Try.f35, pr1, g_inNet, g_isPair, g_routeTo, g_seek, stsOf_rows, rtsOf_rows, stRows_len, rtRows_len, hg1, hg3, hg4, hg5, hg6, hnet, w2, hv, hs, D.toI, D.toL, ↓reduceIte, Bool.false_eq_true, tYs, evL, implies_true, oMin, oCopy, oBin, oUn, oLoadKid, oStoreTree, oField, oExtract, oNil, oSliceQ, oLen, nodupB, treeOf, kidAbs, kidRows, TK.isCell, D.toL, oLoad, oStore, oMake, oIndexAddr, ↓reduceIte, reduceCtorEq, Nat.reduceBEq, Nat.reduceAdd, Nat.reduceMul, Nat.reduceLT, Nat.reduceSub, Nat.reduceLeDiff, Nat.reduceEqDiff, Nat.reduceBneDiff, Int.reduceToNat, decide_eq_true_eq, decide_eq_false_iff_not, beq_iff_eq, Int.toNat_natCast, loopK_normal, loopK_exit, loopK_ret]
                refine ⟨⟨_, rfl, by omega⟩, ⟨l, rfl, hl⟩, ?_⟩
                exact ⟨_, [], rfl, ⟨⟨⟨rfl, rfl, rfl⟩, trivial⟩, trivial, by simp [rn, hpAt]⟩⟩
              · have hs : (seekI l r.v < 0) = False := eq_false fun h => by have := seek_neg.1 h; rw [hm0] at this; cases this
                have hsv : seekI l r.v = (m0 : Int) := seek_some hm0
                have hw2 := wk_next hw ht' (next_of (r := r) (by rw [ha2, st_get ha1]; exact hlf) hm0)
                rw [hsv] at hs
                rw [hR2] at hw2
                simp (maxSteps := 3000000) only [Try.f35, pr1, g_inNet, g_isPair, g_routeTo, g_seek, stsOf_rows, rtsOf_rows, stRows_len, rtRows_len, hg1, hg3, hg4, hg5, hg6, hnet, w2, hv, hs, hsv, D.toI, D.toL, ↓reduceIte, Bool.false_eq_true, tYs, evL, implies_true, oMin, oCopy, oBin, oUn, oLoadKid, oStoreTree, oField, oExtract, oNil, oSliceQ, oLen, nodupB, treeOf, kidAbs, kidRows, TK.isCell, D.toL, oLoad, oStore, oMake, oIndexAddr, ↓reduceIte, reduceCtorEq, Nat.reduceBEq, Nat.reduceAdd, Nat.reduceMul, Nat.reduceLT, Nat.reduceSub, Nat.reduceLeDiff, Nat.reduceEqDiff, Nat.reduceBneDiff, Int.reduceToNat, decide_eq_true_eq, decide_eq_false_iff_not, beq_iff_eq, Int.toNat_natCast, loopK_normal, loopK_exit, loopK_ret]
                refine ⟨⟨_, rfl, by omega⟩, ⟨l, rfl, hl⟩, ?_⟩
                by_cases hm : r.m < R
                · rw [if_pos hm]
                  exact ⟨(k + 1, (m0, r.m)), [], ⟨by dsimp only; omega, hw2.1, by rw [hw2.2]; exact congrArg (Prod.mk m0) (by omega)⟩, by dsimp only; omega, ⟨⟨⟨rfl, rfl, rfl⟩, trivial, ⟨rfl, rfl, rfl⟩, trivial, trivial, trivial, trivial, ⟨rfl, rfl, rfl⟩, ⟨rfl, rfl, rfl⟩, ⟨rfl, rfl, rfl⟩, fitT_rep _ _ rfl⟩, trivial, by simp [rn, hpAt]⟩, by simp [keepIds]⟩
                · rw [if_neg hm]
                  exact ⟨(k + 1, (m0, R)), [], ⟨by dsimp only; omega, hw2.1, by rw [hw2.2]; exact congrArg (Prod.mk m0) (by omega)⟩, by dsimp only; omega, ⟨⟨⟨rfl, rfl, rfl⟩, trivial, ⟨rfl, rfl, rfl⟩, trivial, trivial, trivial, trivial, ⟨rfl, rfl, rfl⟩, ⟨rfl, rfl, rfl⟩, ⟨rfl, rfl, rfl⟩, fitT_rep _ _ rfl⟩, trivial, by simp [rn, hpAt]⟩, by simp [keepIds]⟩
        · have hg1 : ((k : Int) < (l.length : Int)) = False := eq_false (by omega)
          have e : roomV l j to = 0 := wk_end' h0' hj (by rw [show l.length = k from by omega]; exact hw)
          rw [e]
          simp (maxSteps := 3000000) only [Try.f35, pr1, g_inNet, g_isPair, g_routeTo, g_seek, stsOf_rows, rtsOf_rows, stRows_len, rtRows_len, hg1, w2, D.toI, D.toL, ↓reduceIte, Bool.false_eq_true, tYs, evL, implies_true, oMin, oCopy, oBin, oUn, oLoadKid, oStoreTree, oField, oExtract, oNil, oSliceQ, oLen, nodupB, treeOf, kidAbs, kidRows, TK.isCell, D.toL, oLoad, oStore, oMake, oIndexAddr, ↓reduceIte, reduceCtorEq, Nat.reduceBEq, Nat.reduceAdd, Nat.reduceMul, Nat.reduceLT, Nat.reduceSub, Nat.reduceLeDiff, Nat.reduceEqDiff, Nat.reduceBneDiff, Int.reduceToNat, decide_eq_true_eq, decide_eq_false_iff_not, beq_iff_eq, Int.toNat_natCast, loopK_normal, loopK_exit, loopK_ret]
          exact ⟨_, [], rfl, ⟨⟨⟨rfl, rfl, rfl⟩, trivial⟩, trivial, by simp [rn, hpAt]⟩⟩
  · cases hg
end Go.Proofs.Ythbcoakimbpkgaa
