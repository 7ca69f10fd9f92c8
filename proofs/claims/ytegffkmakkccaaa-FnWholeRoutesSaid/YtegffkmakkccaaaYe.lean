import Derived.Test.YtegffkmakkccaaaYc
namespace Go.Proofs.Ytegffkmakkccaaa
open Go.RowKit
set_option linter.unusedSimpArgs false
set_option linter.unusedVariables false
def saidT (l : List RE) (r : RE) : Bool := (toV l r.a).2 && (decide ((toV l r.a).1.v = r.v) && decide ((toV l r.a).1.m = r.m))
theorem saidT_eq {l : List RE} (h : rsB l = true) (r : RE) : saidT l r = saidB l r := by
  rw [saidT, saidB]
  cases hq : lastFit l r.a with
  | none => rw [toV_none h hq]; rfl
  | some e => rw [toV_yes h hq]; simp
def g_routeSaid : PC := fun args => match args with
  | [.l _ rows, .agg [.v (.int .i64 a), .v (.int .i64 b), .v (.int .i64 v), .v (.int .i64 m)]] => some (∃ l, rows = rtRows l ∧ l.length ≤ 1099511627776, .v (.bool (saidT (rtsOf rows) ⟨a, b, v, m⟩)), [])
  | _ => none
def g_routesLess : PC := fun args => match args with
  | [.l _ rows] => some (∃ l, rows = rtRows l ∧ l.length ≤ 1048576, .own 0, [.sl 120 4 (rtRows (lessV (rtsOf rows)))])
  | _ => none
theorem lessV_yes {l : List RE} (h : rsB l = true) : lessV l = lessF [] l := by rw [lessV, if_pos h]
theorem lessV_no {l : List RE} (h : rsB l = false) : lessV l = [] := by rw [lessV, if_neg (by rw [h]; decide)]
def lessI (l : List RE) (k : Nat) (left : List RE) : Prop := k ≤ l.length ∧ lessF left (l.drop k) = lessF [] l ∧ OKS (left ++ l.drop k) ∧ left.length ≤ k
theorem lessI_at {l left : List RE} {k : Nat} (h : lessI l k left) (h8 : rsB l = true) (hk : k < l.length) : rsB left = true ∧ OKS (left ++ [l[k]]) ∧ (saidB left l[k] = true → lessI l (k + 1) left) ∧ (saidB left l[k] = false → lessI l (k + 1) (left ++ [l[k]])) := by
  obtain ⟨h1, h2, h3, h4⟩ := h
  have hd : l.drop k = l[k] :: l.drop (k + 1) := List.drop_eq_getElem_cons hk
  have hl := (rsB_iff.1 h8).1
  rw [hd] at h2 h3
  rw [lessF] at h2
  refine ⟨rsB_iff.2 ⟨by omega, h3.sub (List.sublist_append_left _ _)⟩, h3.sub ?_, fun hs => ⟨hk, ?_, h3.sub ?_, by omega⟩, fun hs => ⟨hk, ?_, ?_, by simp; omega⟩⟩
  · exact (List.Sublist.refl left).append (List.singleton_sublist.2 (by simp only [List.mem_cons, true_or]))
  · rw [if_pos hs] at h2; exact h2
  · exact (List.Sublist.refl left).append (List.sublist_cons_self _ _)
  · rw [if_neg (by rw [hs]; decide)] at h2; exact h2
  · rw [List.append_assoc]; exact h3
theorem lessI_end {l left : List RE} (h : lessI l l.length left) : left = lessF [] l := by
  have := h.2.1
  rw [List.drop_length, lessF] at this
  exact this
theorem lessI_zero {l : List RE} (h8 : rsB l = true) : lessI l 0 [] := ⟨Nat.zero_le _, rfl, (rsB_iff.1 h8).2, Nat.le_refl _⟩
def lsa : List (FuncId × Abs) := [(146, pureAbs g_routeTo)]
theorem lsa_ok : ∀ p ∈ lsa, CallOk Try.prog p.1 p.2 := by
  intro p hp
  simp only [lsa, List.mem_cons, List.not_mem_nil, or_false] at hp
  rcases hp with rfl
  · exact implRouteTo_ok.call
set_option maxRecDepth 100000 in
theorem routeSaid_ok : PureOk Try.prog 97 g_routeSaid := by
  refine PureOk.of_vc (G := lsa) lsa_ok mixed Try.func97 (by kernel_rfl) rfl ?_
  intro args cnd r bs hg hc
  unfold g_routeSaid at hg
  split at hg
  · rename_i sz rows a b v m
    cases hg
    obtain ⟨l, rfl, hl⟩ := hc
    rw [rtsOf_rows, saidT]
    dsimp only
    refine ⟨⟨rfl, by simp, by simp [AV.ids, AV.ids.idsL]⟩, [.l 4 (rtRows l), .agg [.v (.int .i64 a), .v (.int .i64 b), .v (.int .i64 v), .v (.int .i64 m)]], rfl, fun w vs h => CvL.ok (.cons (.l _ _ _ (rtRows_w l)) (.cons (.refl _) .nil)) h, ?_⟩
    simp (maxSteps := 3000000) only [Try.f97, lsa, rtRows_len, rtsOf_rows, g_routeTo, tYs, evL, implies_true, oMin, oCopy, oBin, oUn, oLoadKid, oStoreTree, oField, oExtract, oNil, oSliceQ, oLoadRow, takeCells, TS.atRow, TS.ex, treeMode, AV.isOwn, TK.isSl, nilTk, nilsB, oLenQ, oLen, nodupB, treeOf, kidAbs, kidRows, TK.isCell, D.toL, oLoad, oStore, oMake, oIndexAddr, ↓reduceIte, reduceCtorEq, Nat.reduceBEq, Nat.reduceAdd, Nat.reduceMul, Nat.reduceLT, Nat.reduceSub, Nat.reduceLeDiff, Nat.reduceEqDiff, Nat.reduceBneDiff, Int.reduceToNat, decide_eq_true_eq, decide_eq_false_iff_not, beq_iff_eq, Int.toNat_natCast]
    generalize toV l a = q
    obtain ⟨⟨a', b', v', m'⟩, f⟩ := q
    dsimp only
    refine ⟨⟨l, rfl, hl⟩, ?_⟩
    cases f with
    | false =>
      rw [if_neg (by decide)]
      exact ⟨_, [], rfl, ⟨⟨⟨rfl, rfl, rfl⟩, trivial⟩, trivial, by simp [rn, hpAt]⟩⟩
    | true =>
      rw [if_pos rfl]
      by_cases hv : v' = v
      · rw [if_pos hv, decide_eq_true hv]
        exact ⟨_, [], rfl, ⟨⟨⟨rfl, rfl, rfl⟩, trivial⟩, trivial, by simp [rn, hpAt]⟩⟩
      · rw [if_neg hv, decide_eq_false hv]
        exact ⟨_, [], rfl, ⟨⟨⟨rfl, rfl, rfl⟩, trivial⟩, trivial, by simp [rn, hpAt]⟩⟩
  · cases hg
def lsb : List (FuncId × Abs) := [(96, pureAbs g_routesOk), (97, pureAbs g_routeSaid)]
theorem lsb_ok : ∀ p ∈ lsb, CallOk Try.prog p.1 p.2 := by
  intro p hp
  simp only [lsb, List.mem_cons, List.not_mem_nil, or_false] at hp
  rcases hp with rfl | rfl
  · exact implRoutesOk_ok.call
  · exact routeSaid_ok.call
set_option maxHeartbeats 2000000 in
set_option maxRecDepth 100000 in
theorem implRoutesLess_ok : PureOk Try.prog 35 g_routesLess := by
  refine PureOk.of_vc (G := lsb) lsb_ok mixed Try.func35 (by kernel_rfl) rfl ?_
  intro args cnd r bs hg hc
  unfold g_routesLess at hg
  split at hg
  · rename_i sz rows
    cases hg
    obtain ⟨l, rfl, hl⟩ := hc
    rw [rtsOf_rows]
    refine ⟨⟨rfl, by simpa [flatB] using rtRows_flat _, by simp [AV.ids, AV.ids.idsL]⟩, [.l 4 (rtRows l)], rfl, fun w vs h => CvL.ok (.cons (.l _ _ _ (rtRows_w l)) .nil) h, ?_⟩
    simp (maxSteps := 3000000) only [Try.f35, lsb, rtRows_len, rtsOf_rows, g_routesOk, tYs, evL, implies_true, oMin, oCopy, oBin, oUn, oLoadKid, oStoreTree, oField, oExtract, oNil, oSliceQ, oLoadRow, takeCells, TS.atRow, TS.ex, treeMode, AV.isOwn, TK.isSl, nilTk, nilsB, oLenQ, oLen, nodupB, treeOf, kidAbs, kidRows, TK.isCell, D.toL, oLoad, oStore, oMake, oIndexAddr, ↓reduceIte, reduceCtorEq, Nat.reduceBEq, Nat.reduceAdd, Nat.reduceMul, Nat.reduceLT, Nat.reduceSub, Nat.reduceLeDiff, Nat.reduceEqDiff, Nat.reduceBneDiff, Int.reduceToNat, decide_eq_true_eq, decide_eq_false_iff_not, beq_iff_eq, Int.toNat_natCast]
    refine ⟨⟨l, rfl, by omega⟩, ?_⟩
    cases hs : rsB l with
    | false =>
      rw [lessV_no hs]
      first | rw [if_pos (by decide)] | rw [if_neg (by decide)]
      exact ⟨_, [(0, none)], rfl, ⟨⟨⟨rfl, rfl, rfl⟩, trivial⟩, ⟨⟨by omega, rfl⟩, rfl, rfl, rfl, trivial⟩, by simp [rn, hpAt]⟩⟩
    | true =>
      rw [lessV_yes hs]
      first | rw [if_pos (by decide)] | rw [if_neg (by decide)]
      have h8 := (rsB_iff.1 hs).1
      repeat' first
        | refine And.intro ⟨by omega, by omega, by omega, by omega⟩ ?_
        | refine And.intro (by kernel_rfl) ?_
      refine e_loop _ _ _ _ _ _ _ _ (fun x : Nat × List RE => [.any, .any, .any, .own 0, .any, .any, .any, .any, .any, .any, .any, .any, .l 4 (rtRows l), .v (.int .i64 (l.length : Int)), .v (.int .i64 (x.1 : Int))] ++ List.replicate (Try.f35.ntmps - 15) .any) (fun x => [(0, .sl 120 4 (rtRows x.2))]) (fun x => lessI l x.1 x.2) (fun x => l.length - x.1) 1 (fun x => by simp) ?_ fun x hk' => ?_
      · exact ⟨(0, []), [(0, some _)], lessI_zero hs, ⟨⟨trivial, trivial, trivial, ⟨rfl, rfl, rfl⟩, trivial, trivial, trivial, trivial, trivial, trivial, trivial, trivial, ⟨rfl, rfl, rfl⟩, ⟨rfl, rfl, rfl⟩, ⟨rfl, rfl, rfl⟩, fitT_rep _ _ rfl⟩, ⟨.inl rfl, rfl, rfl, rfl, trivial⟩, by simp [rn, hpAt]⟩, by simp [keepIds]⟩
      obtain ⟨k, left⟩ := x
      dsimp only at hk'
      have hk1 : k ≤ l.length := hk'.1
      have hlk := hk'.2.2.2
      have w2 : IntKind.i64.wrap ((k : Int) + 1) = ((k + 1 : Nat) : Int) := by rw [wrap_id] <;> omega
      by_cases hk : k < l.length
      · have eqX : ∀ o : List RE, rtRows o ++ [[D.v (.int .i64 l[k].a), D.v (.int .i64 l[k].b), D.v (.int .i64 l[k].v), D.v (.int .i64 l[k].m)]] = rtRows (o ++ [l[k]]) := fun o => rtRows_app o [l[k]]
        have hrow := rtRows_get l k hk
        have hlt : ((k : Int) < (l.length : Int)) = True := eq_true (by omega)
        have h0 : (0 ≤ (k : Int)) = True := eq_true (by omega)
        obtain ⟨q1, q2, q3, q4⟩ := lessI_at hk' hs hk
        have q0 := saidT_eq q1 l[k]
        cases hsd : saidB left l[k] with
        | false =>
          rw [hsd] at q0
          simp (maxSteps := 3000000) only [Try.f35, lsb, g_routeSaid, rtRows_len, rtsOf_rows, hrow, hlt, h0, eqX, q0, D.toI, D.toL, tYs, evL, implies_true, oMin, oCopy, oBin, oUn, oLoadKid, oStoreTree, oField, oExtract, oNil, oSliceQ, oLoadRow, takeCells, TS.atRow, TS.ex, treeMode, AV.isOwn, TK.isSl, nilTk, nilsB, oLenQ, oLen, nodupB, treeOf, kidAbs, kidRows, TK.isCell, D.toL, oLoad, oStore, oMake, oIndexAddr, ↓reduceIte, reduceCtorEq, Nat.reduceBEq, Nat.reduceAdd, Nat.reduceMul, Nat.reduceLT, Nat.reduceSub, Nat.reduceLeDiff, Nat.reduceEqDiff, Nat.reduceBneDiff, Int.reduceToNat, decide_eq_true_eq, decide_eq_false_iff_not, beq_iff_eq, Int.toNat_natCast, loopK_normal, loopK_exit, loopK_ret, w2]
          repeat' first
            | refine And.intro ⟨by omega, by omega, by simp⟩ ?_
            | refine And.intro ⟨left, rfl, by omega⟩ ?_
            | refine And.intro (by omega) ?_
            | refine And.intro (by kernel_rfl) ?_
          exact ⟨(k + 1, left ++ [l[k]]), [(0, some _)], q4 hsd, by dsimp only; omega, ⟨⟨trivial, trivial, trivial, ⟨rfl, rfl, rfl⟩, trivial, trivial, trivial, trivial, trivial, trivial, trivial, trivial, ⟨rfl, rfl, rfl⟩, ⟨rfl, rfl, rfl⟩, ⟨rfl, rfl, rfl⟩, fitT_rep _ _ rfl⟩, ⟨.inl rfl, rfl, rfl, rfl, trivial⟩, by simp [rn, hpAt]⟩, by simp [keepIds]⟩
        | true =>
          rw [hsd] at q0
          simp (maxSteps := 3000000) only [Try.f35, lsb, g_routeSaid, rtRows_len, rtsOf_rows, hrow, hlt, h0, eqX, q0, D.toI, D.toL, tYs, evL, implies_true, oMin, oCopy, oBin, oUn, oLoadKid, oStoreTree, oField, oExtract, oNil, oSliceQ, oLoadRow, takeCells, TS.atRow, TS.ex, treeMode, AV.isOwn, TK.isSl, nilTk, nilsB, oLenQ, oLen, nodupB, treeOf, kidAbs, kidRows, TK.isCell, D.toL, oLoad, oStore, oMake, oIndexAddr, ↓reduceIte, reduceCtorEq, Nat.reduceBEq, Nat.reduceAdd, Nat.reduceMul, Nat.reduceLT, Nat.reduceSub, Nat.reduceLeDiff, Nat.reduceEqDiff, Nat.reduceBneDiff, Int.reduceToNat, decide_eq_true_eq, decide_eq_false_iff_not, beq_iff_eq, Int.toNat_natCast, loopK_normal, loopK_exit, loopK_ret, w2]
          repeat' first
            | refine And.intro ⟨by omega, by omega, by simp⟩ ?_
            | refine And.intro ⟨left, rfl, by omega⟩ ?_
            | refine And.intro (by omega) ?_
            | refine And.intro (by kernel_rfl) ?_
          exact ⟨(k + 1, left), [(0, some _)], q3 hsd, by dsimp only; omega, ⟨⟨trivial, trivial, trivial, ⟨rfl, rfl, rfl⟩, trivial, trivial, trivial, trivial, trivial, trivial, trivial, trivial, ⟨rfl, rfl, rfl⟩, ⟨rfl, rfl, rfl⟩, ⟨rfl, rfl, rfl⟩, fitT_rep _ _ rfl⟩, ⟨.inl rfl, rfl, rfl, rfl, trivial⟩, by simp [rn, hpAt]⟩, by simp [keepIds]⟩
      · have hlt : ((k : Int) < (l.length : Int)) = False := eq_false (by omega)
        obtain rfl : k = l.length := by omega
        rw [← lessI_end hk']
        simp (maxSteps := 3000000) only [Try.f35, lsb, rtRows_len, rtsOf_rows, hlt, D.toI, D.toL, tYs, evL, implies_true, oMin, oCopy, oBin, oUn, oLoadKid, oStoreTree, oField, oExtract, oNil, oSliceQ, oLoadRow, takeCells, TS.atRow, TS.ex, treeMode, AV.isOwn, TK.isSl, nilTk, nilsB, oLenQ, oLen, nodupB, treeOf, kidAbs, kidRows, TK.isCell, D.toL, oLoad, oStore, oMake, oIndexAddr, ↓reduceIte, reduceCtorEq, Nat.reduceBEq, Nat.reduceAdd, Nat.reduceMul, Nat.reduceLT, Nat.reduceSub, Nat.reduceLeDiff, Nat.reduceEqDiff, Nat.reduceBneDiff, Int.reduceToNat, decide_eq_true_eq, decide_eq_false_iff_not, beq_iff_eq, Int.toNat_natCast, loopK_normal, loopK_exit, loopK_ret, w2]
        exact ⟨_, [(0, some _)], rfl, ⟨⟨⟨rfl, rfl, rfl⟩, trivial⟩, ⟨.inl rfl, rfl, rfl, rfl, trivial⟩, by simp [rn, hpAt]⟩⟩
  · cases hg
theorem putV_len {l : List RE} (r : RE) : (putV l r).length ≤ 8 := by
  rw [putV]
  split
  · rename_i h
    simp only [putB, Bool.and_eq_true, decide_eq_true_eq] at h
    exact h.2
  · exact Nat.zero_le _
theorem lessV_len {l : List RE} : (lessV l).length ≤ 8 := by
  rw [lessV]
  split
  · rename_i h
    have := (lessF_ok l [] (rsB_iff.1 h).2).2.1.length_le
    exact Nat.le_trans this (rsB_iff.1 h).1
  · exact Nat.zero_le _
end Go.Proofs.Ytegffkmakkccaaa
