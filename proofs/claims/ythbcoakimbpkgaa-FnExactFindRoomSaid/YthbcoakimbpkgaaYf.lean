import Derived.Test.YthbcoakimbpkgaaYh
import Derived.Test.YthbcoakimbpkgaaTq
namespace Go.Proofs.Ythbcoakimbpkgaa
open Go.RowKit
set_option linter.unusedSimpArgs false
set_option linter.unusedVariables false
def rtEq (e e' : RE) : Bool := e.a == e'.a && e.b == e'.b && e.v == e'.v && e.m == e'.m
def rtEqs : List RE → List RE → Bool
  | [], [] => true
  | x :: t, y :: u => rtEq x y && rtEqs t u
  | _, _ => false
theorem rtEq_iff {e e' : RE} : rtEq e e' = true ↔ e = e' := by
  cases e; cases e'
  simp [rtEq, and_assoc]
theorem rtEqs_iff : ∀ {l l' : List RE}, rtEqs l l' = true ↔ l = l'
  | [], [] => by simp [rtEqs]
  | [], _ :: _ => by simp [rtEqs]
  | _ :: _, [] => by simp [rtEqs]
  | x :: t, y :: u => by rw [rtEqs, Bool.and_eq_true, rtEq_iff, rtEqs_iff, List.cons.injEq]
theorem rtEqs_len {l l' : List RE} (h : l.length ≠ l'.length) : rtEqs l l' = false := by
  rw [Bool.eq_false_iff]
  intro hn
  rw [rtEqs_iff.1 hn] at h
  exact h rfl
def g_rtTo : PC := fun args => match args with
  | [.agg [.v (.int .i64 a), .v (.int .i64 b), .v (.int .i64 v), .v (.int .i64 m)]] => some (True, .agg [.v (.int .i64 a), .v (.int .i64 b), .v (.int .i64 v), .v (.int .i64 m)], [])
  | _ => none
def g_rtToS : PC := fun args => match args with
  | [.l _ rows] => some (∃ l, rows = rtRows l ∧ l.length ≤ 1048577, .own 0, [.sl 56 4 rows])
  | _ => none
def g_rtEq : PC := fun args => match args with
  | [.agg [.v (.int .i64 a), .v (.int .i64 b), .v (.int .i64 v), .v (.int .i64 m)], .agg [.v (.int .i64 a'), .v (.int .i64 b'), .v (.int .i64 v'), .v (.int .i64 m')]] => some (True, .v (.bool (rtEq ⟨a, b, v, m⟩ ⟨a', b', v', m'⟩)), [])
  | _ => none
def g_rtEqS : PC := fun args => match args with
  | [.l _ rows, .l _ rows'] => some ((∃ l, rows = rtRows l ∧ l.length ≤ 1048577) ∧ ∃ l, rows' = rtRows l ∧ l.length ≤ 1048577, .v (.bool (rtEqs (rtsOf rows) (rtsOf rows'))), [])
  | _ => none
set_option maxRecDepth 100000 in
theorem toRoute_ok : PureOk Try.prog 121 g_rtTo := by
  refine PureOk.of_vc (G := []) (by simp) mixed Try.func121 (by kernel_rfl) rfl ?_
  intro args cnd r bs hg hc
  unfold g_rtTo at hg
  split at hg
  · rename_i a b v m
    cases hg
    refine ⟨⟨rfl, by simp, by simp [AV.ids, AV.ids.idsL]⟩, _, rfl, fun w vs h => h, ?_⟩
    simp (maxSteps := 3000000) only [Try.f121, tYs, evL, implies_true, oMin, oCopy, oBin, oUn, oLoadKid, oStoreTree, oField, oExtract, oNil, oSliceQ, oLen, nodupB, treeOf, kidAbs, kidRows, TK.isCell, D.toL, oLoad, oStore, oMake, oIndexAddr, ↓reduceIte, reduceCtorEq, Nat.reduceBEq, Nat.reduceAdd, Nat.reduceMul, Nat.reduceLT, Nat.reduceSub, Nat.reduceLeDiff, Nat.reduceEqDiff, Nat.reduceBneDiff, Int.reduceToNat, decide_eq_true_eq, decide_eq_false_iff_not, beq_iff_eq, Int.toNat_natCast]
    exact ⟨_, [], rfl, ⟨⟨⟨rfl, rfl, rfl⟩, trivial⟩, trivial, by simp [rn, hpAt]⟩⟩
  · cases hg
def rttos : List (FuncId × Abs) := [(121, pureAbs g_rtTo)]
theorem rttos_ok : ∀ p ∈ rttos, CallOk Try.prog p.1 p.2 := by
  intro p hp
  simp only [rttos, List.mem_cons, List.not_mem_nil, or_false] at hp
  rcases hp with rfl
  · exact toRoute_ok.call
theorem rtfill (l : List RE) (k : Nat) (h : k < l.length) (z : List D) : ((rtRows l).take k ++ List.replicate (l.length - k) z).set k [D.v (.int .i64 l[k].a), D.v (.int .i64 l[k].b), D.v (.int .i64 l[k].v), D.v (.int .i64 l[k].m)] = (rtRows l).take (k + 1) ++ List.replicate (l.length - (k + 1)) z := by
  have hl : ((rtRows l).take k).length = k := by rw [List.length_take, rtRows_len]; omega
  have hm : l.length - k = (l.length - (k + 1)) + 1 := by omega
  have hx : (rtRows l)[k]? = some [D.v (.int .i64 l[k].a), D.v (.int .i64 l[k].b), D.v (.int .i64 l[k].v), D.v (.int .i64 l[k].m)] := by simp [rtRows, h, rtRow]
  rw [hm, List.replicate_succ, List.set_append_right _ _ (by omega), hl, Nat.sub_self, List.set_cons_zero, List.take_add_one, hx]
  simp
set_option maxHeartbeats 1000000 in
set_option maxRecDepth 100000 in
theorem toRouteS_ok : PureOk Try.prog 92 g_rtToS := by
  refine PureOk.of_vc (G := rttos) rttos_ok mixed Try.func92 (by kernel_rfl) rfl ?_
  intro args cnd r bs hg hc
  unfold g_rtToS at hg
  split at hg
  · rename_i sz rows
    cases hg
    obtain ⟨l, rfl, hl⟩ := hc
    refine ⟨⟨rfl, by simpa [flatB] using rtRows_flat _, by simp [AV.ids, AV.ids.idsL]⟩, [.l 4 (rtRows l)], rfl, fun w vs h => CvL.ok (.cons (.l _ _ _ (rtRows_w l)) .nil) h, ?_⟩
    simp (maxSteps := 3000000) only [Try.f92, rttos, rtRows_len, tYs, evL, implies_true, oMin, oCopy, oBin, oUn, oLoadKid, oStoreTree, oField, oExtract, oNil, oSliceQ, oLen, nodupB, treeOf, kidAbs, kidRows, TK.isCell, D.toL, oLoad, oStore, oMake, oIndexAddr, ↓reduceIte, reduceCtorEq, Nat.reduceBEq, Nat.reduceAdd, Nat.reduceMul, Nat.reduceLT, Nat.reduceSub, Nat.reduceLeDiff, Nat.reduceEqDiff, Nat.reduceBneDiff, Int.reduceToNat, decide_eq_true_eq, decide_eq_false_iff_not, beq_iff_eq, Int.toNat_natCast]
    repeat' first
      | refine And.intro (by omega) ?_
      | refine And.intro ⟨by omega, by omega, by omega, by omega⟩ ?_
      | refine And.intro (by kernel_rfl) ?_
    refine e_loop _ _ _ _ _ _ _ _ (fun k : Nat => [.l 4 (rtRows l), .any, .any, .own 0, .v (.int .i64 (k : Int))] ++ List.replicate (Try.f92.ntmps - 5) .any) (fun k => [(0, .sl 56 4 ((rtRows l).take k ++ List.replicate (l.length - k) [D.v (.int .i64 0), D.v (.int .i64 0), D.v (.int .i64 0), D.v (.int .i64 0)]))]) (fun k => k ≤ l.length) (fun k => l.length - k) 1 (fun k => by simp) ?_ fun k hk' => ?_
    · exact ⟨0, [(0, some _)], Nat.zero_le _, ⟨⟨⟨rfl, rfl, rfl⟩, trivial, trivial, ⟨rfl, rfl, rfl⟩, ⟨rfl, rfl, rfl⟩, fitT_rep _ _ rfl⟩, ⟨.inl rfl, rfl, rfl, rfl, trivial⟩, by simp [rn, hpAt]⟩, by simp [keepIds]⟩
    have w2 : IntKind.i64.wrap ((k : Int) + 1) = ((k + 1 : Nat) : Int) := by rw [wrap_id] <;> omega
    by_cases hk : k < l.length
    · have hrow := rtRows_get l k hk
      have hlt : ((k : Int) < (l.length : Int)) = True := eq_true (by omega)
      have h0 : (0 ≤ (k : Int)) = True := eq_true (by omega)
      have hln : ((rtRows l).take k ++ List.replicate (l.length - k) [D.v (.int .i64 0), D.v (.int .i64 0), D.v (.int .i64 0), D.v (.int .i64 0)]).length = l.length := by rw [List.length_append, List.length_take, rtRows_len, List.length_replicate]; omega
      have hl1 : (((rtRows l).take k ++ List.replicate (l.length - k) [D.v (.int .i64 0), D.v (.int .i64 0), D.v (.int .i64 0), D.v (.int .i64 0)]).getD k []).length = 4 := by
        rw [List.getD, List.getElem?_append_right (by rw [List.length_take, rtRows_len]; omega), List.getElem?_replicate, if_pos (by rw [List.length_take, rtRows_len]; omega)]
        rfl
      have hdr : List.drop 4 (((rtRows l).take k ++ List.replicate (l.length - k) [D.v (.int .i64 0), D.v (.int .i64 0), D.v (.int .i64 0), D.v (.int .i64 0)]).getD k []) = [] := List.drop_eq_nil_of_le (Nat.le_of_eq hl1)
      have hfl := rtfill l k hk [D.v (.int .i64 0), D.v (.int .i64 0), D.v (.int .i64 0), D.v (.int .i64 0)]
      simp (maxSteps := 3000000) only [Try.f92, rttos, g_rtTo, rtRows_len, rtsOf_rows, hrow, hlt, h0, hln, D.toI, D.toL, tYs, evL, implies_true, oMin, oCopy, oBin, oUn, oLoadKid, oStoreTree, oField, oExtract, oNil, oSliceQ, oLen, nodupB, treeOf, kidAbs, kidRows, TK.isCell, D.toL, oLoad, oStore, oMake, oIndexAddr, ↓reduceIte, reduceCtorEq, Nat.reduceBEq, Nat.reduceAdd, Nat.reduceMul, Nat.reduceLT, Nat.reduceSub, Nat.reduceLeDiff, Nat.reduceEqDiff, Nat.reduceBneDiff, Int.reduceToNat, decide_eq_true_eq, decide_eq_false_iff_not, beq_iff_eq, Int.toNat_natCast, loopK_normal, loopK_exit, loopK_ret, w2]
      repeat' first
        | refine And.intro (by omega) ?_
        | refine And.intro (by kernel_rfl) ?_
      rw [hdr, hfl]
      exact ⟨k + 1, [(0, some _)], by omega, by omega, ⟨⟨⟨rfl, rfl, rfl⟩, trivial, trivial, ⟨rfl, rfl, rfl⟩, ⟨rfl, rfl, rfl⟩, fitT_rep _ _ rfl⟩, ⟨.inl rfl, rfl, rfl, rfl, trivial⟩, by simp [rn, hpAt]⟩, by simp [keepIds]⟩
    · have hlt : ((k : Int) < (l.length : Int)) = False := eq_false (by omega)
      simp (maxSteps := 3000000) only [Try.f92, rttos, rtRows_len, rtsOf_rows, hlt, D.toI, D.toL, tYs, evL, implies_true, oMin, oCopy, oBin, oUn, oLoadKid, oStoreTree, oField, oExtract, oNil, oSliceQ, oLen, nodupB, treeOf, kidAbs, kidRows, TK.isCell, D.toL, oLoad, oStore, oMake, oIndexAddr, ↓reduceIte, reduceCtorEq, Nat.reduceBEq, Nat.reduceAdd, Nat.reduceMul, Nat.reduceLT, Nat.reduceSub, Nat.reduceLeDiff, Nat.reduceEqDiff, Nat.reduceBneDiff, Int.reduceToNat, decide_eq_true_eq, decide_eq_false_iff_not, beq_iff_eq, Int.toNat_natCast, loopK_normal, loopK_exit, loopK_ret, w2]
      obtain rfl : k = l.length := by omega
      have e : (rtRows l).take l.length ++ List.replicate (l.length - l.length) [D.v (.int .i64 0), D.v (.int .i64 0), D.v (.int .i64 0), D.v (.int .i64 0)] = rtRows l := by
        rw [List.take_of_length_le (by rw [rtRows_len]; omega), Nat.sub_self]; simp
      rw [e]
      exact ⟨_, [(0, some _)], rfl, ⟨⟨⟨rfl, rfl, rfl⟩, trivial⟩, ⟨.inl rfl, rfl, rfl, rfl, trivial⟩, by simp [rn, hpAt]⟩⟩
  · cases hg
set_option maxRecDepth 100000 in
theorem eqRoute_ok : PureOk Try.prog 122 g_rtEq := by
  refine PureOk.of_vc (G := []) (by simp) mixed Try.func122 (by kernel_rfl) rfl ?_
  intro args cnd r bs hg hc
  unfold g_rtEq at hg
  split at hg
  · rename_i a b v m a' b' v' m'
    cases hg
    refine ⟨⟨rfl, by simp, by simp [AV.ids, AV.ids.idsL]⟩, _, rfl, fun w vs h => h, ?_⟩
    simp (maxSteps := 3000000) only [Try.f122, tYs, evL, implies_true, oMin, oCopy, oBin, oUn, oLoadKid, oStoreTree, oField, oExtract, oNil, oSliceQ, oLen, nodupB, treeOf, kidAbs, kidRows, TK.isCell, D.toL, oLoad, oStore, oMake, oIndexAddr, ↓reduceIte, reduceCtorEq, Nat.reduceBEq, Nat.reduceAdd, Nat.reduceMul, Nat.reduceLT, Nat.reduceSub, Nat.reduceLeDiff, Nat.reduceEqDiff, Nat.reduceBneDiff, Int.reduceToNat, decide_eq_true_eq, decide_eq_false_iff_not, beq_iff_eq, Int.toNat_natCast]
    repeat' split
    all_goals (refine ⟨_, [], rfl, ⟨⟨⟨?_, rfl, rfl⟩, trivial⟩, by simp [hpAt, fitH], by simp [hpAt]⟩⟩; refine congrArg (fun b => AV.v (Value.bool b)) ?_; first | rfl | (rw [Bool.eq_iff_iff]; simp only [rtEq, decide_eq_true_eq, inZ, Bool.and_eq_true, Bool.or_eq_true, bne_iff_ne, Bool.false_eq_true, beq_eq_false_iff_ne, beq_iff_eq, Bool.and_eq_true, ne_eq, decide_eq_false_iff_not, Bool.not_eq_eq_eq_not, Bool.not_true, Bool.not_false, false_iff, iff_false, true_iff, iff_true] at *; omega))
  · cases hg
def rteqs : List (FuncId × Abs) := [(122, pureAbs g_rtEq)]
theorem rteqs_ok : ∀ p ∈ rteqs, CallOk Try.prog p.1 p.2 := by
  intro p hp
  simp only [rteqs, List.mem_cons, List.not_mem_nil, or_false] at hp
  rcases hp with rfl
  · exact eqRoute_ok.call
set_option maxHeartbeats 1000000 in
set_option maxRecDepth 100000 in
theorem eqRouteS_ok : PureOk Try.prog 93 g_rtEqS := by
  refine PureOk.of_vc (G := rteqs) rteqs_ok mixed Try.func93 (by kernel_rfl) rfl ?_
  intro args cnd r bs hg hc
  unfold g_rtEqS at hg
  split at hg
  · rename_i sz rows sz' rows'
    cases hg
    obtain ⟨⟨l, rfl, hl⟩, l', rfl, hl'⟩ := hc
    rw [rtsOf_rows, rtsOf_rows]
    refine ⟨⟨rfl, by simp, by simp [AV.ids, AV.ids.idsL]⟩, [.l 4 (rtRows l), .l 4 (rtRows l')], rfl, fun w vs h => CvL.ok (.cons (.l _ _ _ (rtRows_w l)) (.cons (.l _ _ _ (rtRows_w l')) .nil)) h, ?_⟩
    simp (maxSteps := 3000000) only [Try.f93, rteqs, rtRows_len, tYs, evL, implies_true, oMin, oCopy, oBin, oUn, oLoadKid, oStoreTree, oField, oExtract, oNil, oSliceQ, oLen, nodupB, treeOf, kidAbs, kidRows, TK.isCell, D.toL, oLoad, oStore, oMake, oIndexAddr, ↓reduceIte, reduceCtorEq, Nat.reduceBEq, Nat.reduceAdd, Nat.reduceMul, Nat.reduceLT, Nat.reduceSub, Nat.reduceLeDiff, Nat.reduceEqDiff, Nat.reduceBneDiff, Int.reduceToNat, decide_eq_true_eq, decide_eq_false_iff_not, beq_iff_eq, Int.toNat_natCast]
    by_cases hne : l.length = l'.length
    · first | rw [if_neg (by simp [hne])] | rw [if_pos (by simp [hne])]
      refine e_loop _ _ _ _ _ _ _ _ (fun k : Nat => [.l 4 (rtRows l), .l 4 (rtRows l'), .any, .any, .any, .v (.int .i64 (k : Int))] ++ List.replicate (Try.f93.ntmps - 6) .any) (fun k => []) (fun k => k ≤ l.length ∧ rtEqs l l' = rtEqs (l.drop k) (l'.drop k)) (fun k => l.length - k) 0 (fun k => by simp) ?_ fun k hk' => ?_
      · exact ⟨0, [], ⟨Nat.zero_le _, rfl⟩, ⟨⟨⟨rfl, rfl, rfl⟩, ⟨rfl, rfl, rfl⟩, trivial, trivial, trivial, ⟨rfl, rfl, rfl⟩, fitT_rep _ _ rfl⟩, trivial, by simp [rn, hpAt]⟩, by simp [keepIds]⟩
      obtain ⟨hk1, hinv⟩ := hk'
      have w2 : IntKind.i64.wrap ((k : Int) + 1) = ((k + 1 : Nat) : Int) := by rw [wrap_id] <;> omega
      by_cases hk : k < l.length
      · have hrow := rtRows_get l k hk
        have hlt : ((k : Int) < (l.length : Int)) = True := eq_true (by omega)
        have h0 : (0 ≤ (k : Int)) = True := eq_true (by omega)
        have hrow' := rtRows_get l' k (by omega)
        have hlt' : ((k : Int) < (l'.length : Int)) = True := eq_true (by omega)
        rw [List.drop_eq_getElem_cons hk, List.drop_eq_getElem_cons (show k < l'.length by omega), rtEqs] at hinv
        cases he : rtEq l[k] l'[k] with
        | true =>
          rw [he, Bool.true_and] at hinv
          simp (maxSteps := 3000000) only [Try.f93, rteqs, g_rtEq, rtRows_len, rtsOf_rows, hrow, hrow', hlt, hlt', h0, he, D.toI, D.toL, tYs, evL, implies_true, oMin, oCopy, oBin, oUn, oLoadKid, oStoreTree, oField, oExtract, oNil, oSliceQ, oLen, nodupB, treeOf, kidAbs, kidRows, TK.isCell, D.toL, oLoad, oStore, oMake, oIndexAddr, ↓reduceIte, reduceCtorEq, Nat.reduceBEq, Nat.reduceAdd, Nat.reduceMul, Nat.reduceLT, Nat.reduceSub, Nat.reduceLeDiff, Nat.reduceEqDiff, Nat.reduceBneDiff, Int.reduceToNat, decide_eq_true_eq, decide_eq_false_iff_not, beq_iff_eq, Int.toNat_natCast, loopK_normal, loopK_exit, loopK_ret, w2]
          exact ⟨by kernel_rfl, k + 1, [], ⟨by omega, hinv⟩, by omega, ⟨⟨⟨rfl, rfl, rfl⟩, ⟨rfl, rfl, rfl⟩, trivial, trivial, trivial, ⟨rfl, rfl, rfl⟩, fitT_rep _ _ rfl⟩, trivial, by simp [rn, hpAt]⟩, by simp [keepIds]⟩
        | false =>
          rw [he, Bool.false_and] at hinv
          simp (maxSteps := 3000000) only [Try.f93, rteqs, g_rtEq, rtRows_len, rtsOf_rows, hrow, hrow', hlt, hlt', h0, he, D.toI, D.toL, tYs, evL, implies_true, oMin, oCopy, oBin, oUn, oLoadKid, oStoreTree, oField, oExtract, oNil, oSliceQ, oLen, nodupB, treeOf, kidAbs, kidRows, TK.isCell, D.toL, oLoad, oStore, oMake, oIndexAddr, ↓reduceIte, reduceCtorEq, Nat.reduceBEq, Nat.reduceAdd, Nat.reduceMul, Nat.reduceLT, Nat.reduceSub, Nat.reduceLeDiff, Nat.reduceEqDiff, Nat.reduceBneDiff, Int.reduceToNat, decide_eq_true_eq, decide_eq_false_iff_not, beq_iff_eq, Int.toNat_natCast, loopK_normal, loopK_exit, loopK_ret, w2]
          rw [hinv]
          refine ⟨by kernel_rfl, ?_⟩
          exact ⟨_, [], rfl, ⟨⟨⟨rfl, rfl, rfl⟩, trivial⟩, trivial, by simp [rn, hpAt]⟩⟩
      · have hlt : ((k : Int) < (l.length : Int)) = False := eq_false (by omega)
        simp (maxSteps := 3000000) only [Try.f93, rteqs, rtRows_len, rtsOf_rows, hlt, D.toI, D.toL, tYs, evL, implies_true, oMin, oCopy, oBin, oUn, oLoadKid, oStoreTree, oField, oExtract, oNil, oSliceQ, oLen, nodupB, treeOf, kidAbs, kidRows, TK.isCell, D.toL, oLoad, oStore, oMake, oIndexAddr, ↓reduceIte, reduceCtorEq, Nat.reduceBEq, Nat.reduceAdd, Nat.reduceMul, Nat.reduceLT, Nat.reduceSub, Nat.reduceLeDiff, Nat.reduceEqDiff, Nat.reduceBneDiff, Int.reduceToNat, decide_eq_true_eq, decide_eq_false_iff_not, beq_iff_eq, Int.toNat_natCast, loopK_normal, loopK_exit, loopK_ret, w2]
        rw [List.drop_eq_nil_of_le (by omega), List.drop_eq_nil_of_le (by omega), rtEqs] at hinv
        rw [hinv]
        exact ⟨_, [], rfl, ⟨⟨⟨rfl, rfl, rfl⟩, trivial⟩, trivial, by simp [rn, hpAt]⟩⟩
    · first | rw [if_pos (by simp; omega)] | rw [if_neg (by simp; omega)]
      rw [rtEqs_len hne]
      exact ⟨_, [], rfl, ⟨⟨⟨rfl, rfl, rfl⟩, trivial⟩, trivial, by simp [rn, hpAt]⟩⟩
  · cases hg
set_option maxRecDepth 100000 in
theorem szRouteS_ok : PureOk Try.prog 91 g_szS := by
  refine PureOk.of_vc (G := []) (by simp) mixed Try.func91 (by kernel_rfl) rfl ?_
  intro args cnd r bs hg hc
  unfold g_szS at hg
  split at hg
  · rename_i sz rows l
    cases hg
    obtain ⟨hl, hn, s, hs⟩ := hc
    refine ⟨⟨rfl, by simp, by simp [AV.ids, AV.ids.idsL]⟩, [.l sz rows, .v (.int .i64 l)], rfl, fun w vs h => h, ?_⟩
    simp (maxSteps := 3000000) only [Try.f91, tYs, evL, implies_true, oMin, oCopy, oBin, oUn, oLoadKid, oStoreTree, oField, oExtract, oNil, oSliceQ, oLen, nodupB, treeOf, kidAbs, kidRows, TK.isCell, D.toL, oLoad, oStore, oMake, oIndexAddr, ↓reduceIte, reduceCtorEq, Nat.reduceBEq, Nat.reduceAdd, Nat.reduceMul, Nat.reduceLT, Nat.reduceSub, Nat.reduceLeDiff, Nat.reduceEqDiff, Nat.reduceBneDiff, Int.reduceToNat, decide_eq_true_eq, decide_eq_false_iff_not, beq_iff_eq, Int.toNat_natCast]
    rw [szLeft_eq hl hn]
    split
    · exact ⟨_, [], rfl, ⟨⟨⟨rfl, rfl, rfl⟩, trivial⟩, trivial, by simp [rn, hpAt]⟩⟩
    · exact ⟨_, [], rfl, ⟨⟨⟨rfl, rfl, rfl⟩, trivial⟩, trivial, by simp [rn, hpAt]⟩⟩
  · cases hg
end Go.Proofs.Ythbcoakimbpkgaa
