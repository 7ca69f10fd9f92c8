import Derived.Test.YtegffkmakkccaaaKm
import Derived.Test.YtegffkmakkccaaaYh
namespace Go.Proofs.Ytegffkmakkccaaa
open Go.RowKit
set_option linter.unusedSimpArgs false
set_option linter.unusedVariables false
def sMid (l : List St) : Prop := l.length ≤ 1048576 ∧ ∀ x ∈ l, x.rs.length ≤ 1048576
theorem st_eta (s : St) : (⟨s.a, s.rs⟩ : St) = s := rfl
theorem seek_neg {net : List St} {x : Int} : seekI net x < 0 ↔ seek net x = none := by
  rw [seekI]
  split
  · rename_i n h
    rw [h]
    constructor
    · intro hh; omega
    · intro hh; cases hh
  · rename_i h
    rw [h]
    constructor
    · intro _; rfl
    · intro _; omega
theorem seek_some {net : List St} {x : Int} {n : Nat} (h : seek net x = some n) : seekI net x = (n : Int) := by rw [seekI, h]
theorem seek_take {net : List St} {k : Nat} (hk : k < net.length) {x : Int} : 0 ≤ seekI (net.take k) x ↔ ∃ j, ∃ hj : j < k, net[j].a = x := by
  constructor
  · intro h
    cases hs : seek (net.take k) x with
    | none => rw [seekI, hs] at h; dsimp only at h; omega
    | some n =>
      obtain ⟨h1, h2⟩ := seek_lt hs
      rw [List.length_take] at h1
      rw [st_get (by rw [List.length_take]; omega), List.getElem_take] at h2
      exact ⟨n, by omega, h2⟩
  · rintro ⟨j, hj, he⟩
    cases hs : seek (net.take k) x with
    | some n => rw [seekI, hs]; dsimp only; omega
    | none =>
      have := List.findIdx?_eq_none_iff.1 hs net[j] (List.mem_take_iff_getElem.2 ⟨j, by omega, rfl⟩)
      simp at this
      exact absurd he this
def netK (net : List St) (k : Nat) : Prop := (∀ i (hi : i < net.length), i < k → stB net[i] = true) ∧ ∀ i (hi : i < net.length), i < k → ∀ j (hj : j < net.length), j < i → net[j].a ≠ net[i].a
theorem netK_next {net : List St} {k : Nat} (h : netK net k) (hk : k < net.length) (h1 : stB net[k] = true) (h2 : ∀ j (hj : j < net.length), j < k → net[j].a ≠ net[k].a) : netK net (k + 1) := by
  refine ⟨fun i hi hik => ?_, fun i hi hik j hj hji => ?_⟩
  · by_cases e : i = k
    · subst e; exact h1
    · exact h.1 i hi (by omega)
  · by_cases e : i = k
    · subst e; exact h2 j hj hji
    · exact h.2 i hi (by omega) j hj hji
theorem netK_end {net : List St} (h : netK net net.length) : netB net = decide (net.length ≤ 5) := net_end (fun i hi => h.1 i hi hi) (fun i hi j hj hji => h.2 i hi hi j hj hji)
theorem net_many {net : List St} (h : ¬ net.length ≤ 5) : netB net = false := by rw [netB, decide_eq_false h, Bool.false_and, Bool.false_and]
def inNet (net : List St) (n : Int) : Bool := netB net && decide (0 ≤ n ∧ n < (net.length : Int))
theorem inNet_of {net : List St} {n : Int} (h : inNet net n = true) : netB net = true ∧ net.length ≤ 5 ∧ 0 ≤ n ∧ n < (net.length : Int) := by
  rw [inNet, Bool.and_eq_true, decide_eq_true_eq] at h
  refine ⟨h.1, ?_, h.2⟩
  have := h.1
  simp only [netB, Bool.and_eq_true, decide_eq_true_eq] at this
  exact this.1.1
def g_stOk : PC := fun args => match args with
  | [.agg [.v (.int .i64 a), .l _ rows]] => some (∃ l, rows = rtRows l ∧ l.length ≤ 1099511627776, .v (.bool (stB ⟨a, rtsOf rows⟩)), [])
  | _ => none
def g_seek : PC := fun args => match args with
  | [.l _ rows, .v (.int .i64 x)] => some (∃ l, rows = stRows l ∧ l.length ≤ 1048576, .v (.int .i64 (seekI (stsOf rows) x)), [])
  | _ => none
def g_netOk : PC := fun args => match args with
  | [.l _ rows] => some (∃ l, rows = stRows l ∧ sMid l, .v (.bool (netB (stsOf rows))), [])
  | _ => none
def g_inNet : PC := fun args => match args with
  | [.l _ rows, .v (.int .i64 n)] => some (∃ l, rows = stRows l ∧ sMid l, .v (.bool (inNet (stsOf rows) n)), [])
  | _ => none
def so1 : List (FuncId × Abs) := [(65, pureAbs g_l1In), (142, pureAbs g_routesOk)]
theorem so1_ok : ∀ p ∈ so1, CallOk Try.prog p.1 p.2 := by
  intro p hp
  simp only [so1, List.mem_cons, List.not_mem_nil, or_false] at hp
  rcases hp with rfl | rfl
  · exact l1In_ok.call
  · exact specRoutesOk_ok.call
def so0 : List (FuncId × Abs) := [(126, pureAbs g_isPair), (96, pureAbs g_routesOk)]
theorem so0_ok : ∀ p ∈ so0, CallOk Try.prog p.1 p.2 := by
  intro p hp
  simp only [so0, List.mem_cons, List.not_mem_nil, or_false] at hp
  rcases hp with rfl | rfl
  · exact isAddr_ok.call
  · exact implRoutesOk_ok.call
set_option maxRecDepth 100000 in
theorem implStationOk_ok : PureOk Try.prog 93 g_stOk := by
  refine PureOk.of_vc (G := so0) so0_ok mixed Try.func93 (by kernel_rfl) rfl ?_
  intro args cnd r bs hg hc
  unfold g_stOk at hg
  split at hg
  · rename_i a sz rows
    cases hg
    obtain ⟨l, rfl, hl⟩ := hc
    rw [rtsOf_rows]
    refine ⟨⟨rfl, by simp, by simp [AV.ids, AV.ids.idsL]⟩, [.agg [.v (.int .i64 a), .l 4 (rtRows l)]], rfl, fun w vs h => CvL.ok (.cons (.cons (.refl _) (.cons (.l _ _ _ (rtRows_w l)) .nil)) .nil) h, ?_⟩
    simp (maxSteps := 3000000) only [Try.f93, so0, rtRows_len, rtsOf_rows, g_l1In, g_isPair, g_routesOk, stB, tYs, evL, implies_true, oMin, oCopy, oBin, oUn, oLoadKid, oStoreTree, oField, oExtract, oNil, oSliceQ, oLoadRow, takeCells, TS.atRow, TS.ex, treeMode, AV.isOwn, TK.isSl, nilTk, nilsB, oLenQ, oLen, nodupB, treeOf, kidAbs, kidRows, TK.isCell, D.toL, oLoad, oStore, oMake, oIndexAddr, ↓reduceIte, reduceCtorEq, Nat.reduceBEq, Nat.reduceAdd, Nat.reduceMul, Nat.reduceLT, Nat.reduceSub, Nat.reduceLeDiff, Nat.reduceEqDiff, Nat.reduceBneDiff, Int.reduceToNat, decide_eq_true_eq, decide_eq_false_iff_not, beq_iff_eq, Int.toNat_natCast]
    rcases h0 : inZ a 0 65535 with _ | _
    · simp only [↓reduceIte, Bool.false_eq_true, Bool.false_and]
      (repeat (refine And.intro ?_ ?_; focus (((repeat' apply And.intro) <;> first | exact rowsOf_w _ | omega | (simp only [List.length_append, rowsOf_len, List.length_cons, List.length_nil, marks_len, List.length_take, List.length_drop, List.length_set]; omega) | exact ⟨_, rfl⟩ | (refine ⟨_, rfl, ?_⟩; omega) | (refine ⟨_, rfl, ?_⟩; simp only [List.length_append, rowsOf_len, List.length_cons, List.length_nil, marks_len, List.length_take, List.length_drop, List.length_set]; omega) | kernel_rfl | (simp; done)); done)))
      exact ⟨_, [], rfl, ⟨⟨⟨rfl, rfl, rfl⟩, trivial⟩, trivial, by simp [rn, hpAt]⟩⟩
    · simp only [↓reduceIte, Bool.true_and]
      refine ⟨⟨l, rfl, hl⟩, ?_⟩
      exact ⟨_, [], rfl, ⟨⟨⟨rfl, rfl, rfl⟩, trivial⟩, trivial, by simp [rn, hpAt]⟩⟩
  · cases hg
set_option maxRecDepth 100000 in
theorem specStationOk_ok : PureOk Try.prog 95 g_stOk := by
  refine PureOk.of_vc (G := so1) so1_ok mixed Try.func95 (by kernel_rfl) rfl ?_
  intro args cnd r bs hg hc
  unfold g_stOk at hg
  split at hg
  · rename_i a sz rows
    cases hg
    obtain ⟨l, rfl, hl⟩ := hc
    rw [rtsOf_rows]
    refine ⟨⟨rfl, by simp, by simp [AV.ids, AV.ids.idsL]⟩, [.agg [.v (.int .i64 a), .l 4 (rtRows l)]], rfl, fun w vs h => CvL.ok (.cons (.cons (.refl _) (.cons (.l _ _ _ (rtRows_w l)) .nil)) .nil) h, ?_⟩
    simp (maxSteps := 3000000) only [Try.f95, so1, rtRows_len, rtsOf_rows, g_l1In, g_isPair, g_routesOk, stB, tYs, evL, implies_true, oMin, oCopy, oBin, oUn, oLoadKid, oStoreTree, oField, oExtract, oNil, oSliceQ, oLoadRow, takeCells, TS.atRow, TS.ex, treeMode, AV.isOwn, TK.isSl, nilTk, nilsB, oLenQ, oLen, nodupB, treeOf, kidAbs, kidRows, TK.isCell, D.toL, oLoad, oStore, oMake, oIndexAddr, ↓reduceIte, reduceCtorEq, Nat.reduceBEq, Nat.reduceAdd, Nat.reduceMul, Nat.reduceLT, Nat.reduceSub, Nat.reduceLeDiff, Nat.reduceEqDiff, Nat.reduceBneDiff, Int.reduceToNat, decide_eq_true_eq, decide_eq_false_iff_not, beq_iff_eq, Int.toNat_natCast]
    rcases h0 : inZ a 0 65535 with _ | _
    · simp only [↓reduceIte, Bool.false_eq_true, Bool.false_and]
      (repeat (refine And.intro ?_ ?_; focus (((repeat' apply And.intro) <;> first | exact rowsOf_w _ | omega | (simp only [List.length_append, rowsOf_len, List.length_cons, List.length_nil, marks_len, List.length_take, List.length_drop, List.length_set]; omega) | exact ⟨_, rfl⟩ | (refine ⟨_, rfl, ?_⟩; omega) | (refine ⟨_, rfl, ?_⟩; simp only [List.length_append, rowsOf_len, List.length_cons, List.length_nil, marks_len, List.length_take, List.length_drop, List.length_set]; omega) | kernel_rfl | (simp; done)); done)))
      exact ⟨_, [], rfl, ⟨⟨⟨rfl, rfl, rfl⟩, trivial⟩, trivial, by simp [rn, hpAt]⟩⟩
    · simp only [↓reduceIte, Bool.true_and]
      refine ⟨⟨l, rfl, hl⟩, ?_⟩
      exact ⟨_, [], rfl, ⟨⟨⟨rfl, rfl, rfl⟩, trivial⟩, trivial, by simp [rn, hpAt]⟩⟩
  · cases hg
set_option maxRecDepth 100000 in
theorem implSeek_ok : PureOk Try.prog 94 g_seek := by
  refine PureOk.of_vc (G := []) (by simp) mixed Try.func94 (by kernel_rfl) rfl ?_
  intro args cnd r bs hg hc
  unfold g_seek at hg
  split at hg
  · rename_i sz rows x
    cases hg
    obtain ⟨l, rfl, hl⟩ := hc
    rw [stsOf_rows]
    refine ⟨⟨rfl, by simp, by simp [AV.ids, AV.ids.idsL]⟩, [.l 2 (stRows l), .v (.int .i64 x)], rfl, fun w vs h => CvL.ok (.cons (.l _ _ _ (stRows_w l)) (.cons (.refl _) .nil)) h, ?_⟩
    simp (maxSteps := 3000000) only [Try.f94, stRows_len, tYs, evL, implies_true, oMin, oCopy, oBin, oUn, oLoadKid, oStoreTree, oField, oExtract, oNil, oSliceQ, oLoadRow, takeCells, TS.atRow, TS.ex, treeMode, AV.isOwn, TK.isSl, nilTk, nilsB, oLenQ, oLen, nodupB, treeOf, kidAbs, kidRows, TK.isCell, D.toL, oLoad, oStore, oMake, oIndexAddr, ↓reduceIte, reduceCtorEq, Nat.reduceBEq, Nat.reduceAdd, Nat.reduceMul, Nat.reduceLT, Nat.reduceSub, Nat.reduceLeDiff, Nat.reduceEqDiff, Nat.reduceBneDiff, Int.reduceToNat, decide_eq_true_eq, decide_eq_false_iff_not, beq_iff_eq, Int.toNat_natCast]
    refine e_loop _ _ _ _ _ _ _ _ (fun k : Nat => [.any, .v (.int .i64 x), .any, .any, .any, .any, .any, .l 2 (stRows l), .v (.int .i64 (l.length : Int)), .v (.int .i64 (k : Int))] ++ List.replicate (Try.f94.ntmps - 10) .any) (fun k => []) (fun k => k ≤ l.length ∧ ∀ j (hj : j < l.length), j < k → l[j].a ≠ x) (fun k => l.length - k) 0 (fun k => by simp) ?_ fun k hk' => ?_
    · exact ⟨0, [], ⟨Nat.zero_le _, fun j _ h => absurd h (Nat.not_lt_zero _)⟩, ⟨⟨trivial, ⟨rfl, rfl, rfl⟩, trivial, trivial, trivial, trivial, trivial, ⟨rfl, rfl, rfl⟩, ⟨rfl, rfl, rfl⟩, ⟨rfl, rfl, rfl⟩, fitT_rep _ _ rfl⟩, trivial, by simp [rn, hpAt]⟩, by simp [keepIds]⟩
    obtain ⟨hk1, hn⟩ := hk'
    have w2 : IntKind.i64.wrap ((k : Int) + 1) = ((k + 1 : Nat) : Int) := by rw [wrap_id] <;> omega
    by_cases hk : k < l.length
    · have hrow := stRows_get l k hk
      have hlt : ((k : Int) < (l.length : Int)) = True := eq_true (by omega)
      have h0 : (0 ≤ (k : Int)) = True := eq_true (by omega)
      simp (maxSteps := 3000000) only [Try.f94, stRows_len, rtRows_len, hrow, hlt, h0, D.toI, D.toL, tYs, evL, implies_true, oMin, oCopy, oBin, oUn, oLoadKid, oStoreTree, oField, oExtract, oNil, oSliceQ, oLoadRow, takeCells, TS.atRow, TS.ex, treeMode, AV.isOwn, TK.isSl, nilTk, nilsB, oLenQ, oLen, nodupB, treeOf, kidAbs, kidRows, TK.isCell, D.toL, oLoad, oStore, oMake, oIndexAddr, ↓reduceIte, reduceCtorEq, Nat.reduceBEq, Nat.reduceAdd, Nat.reduceMul, Nat.reduceLT, Nat.reduceSub, Nat.reduceLeDiff, Nat.reduceEqDiff, Nat.reduceBneDiff, Int.reduceToNat, decide_eq_true_eq, decide_eq_false_iff_not, beq_iff_eq, Int.toNat_natCast, loopK_normal, loopK_exit, loopK_ret, w2]
      by_cases he : l[k].a = x
      · rw [if_pos (by simpa using he), seek_at hk he hn]
        exact ⟨_, [], rfl, ⟨⟨⟨rfl, rfl, rfl⟩, trivial⟩, trivial, by simp [rn, hpAt]⟩⟩
      · rw [if_neg (by simpa using he)]
        exact ⟨k + 1, [], ⟨by omega, fun j hj hjk => by
          by_cases e : j = k
          · subst e; exact he
          · exact hn j hj (by omega)⟩, by omega, ⟨⟨trivial, ⟨rfl, rfl, rfl⟩, trivial, trivial, trivial, trivial, trivial, ⟨rfl, rfl, rfl⟩, ⟨rfl, rfl, rfl⟩, ⟨rfl, rfl, rfl⟩, fitT_rep _ _ rfl⟩, trivial, by simp [rn, hpAt]⟩, by simp [keepIds]⟩
    · have hlt : ((k : Int) < (l.length : Int)) = False := eq_false (by omega)
      simp (maxSteps := 3000000) only [Try.f94, stRows_len, rtRows_len, hlt, D.toI, D.toL, tYs, evL, implies_true, oMin, oCopy, oBin, oUn, oLoadKid, oStoreTree, oField, oExtract, oNil, oSliceQ, oLoadRow, takeCells, TS.atRow, TS.ex, treeMode, AV.isOwn, TK.isSl, nilTk, nilsB, oLenQ, oLen, nodupB, treeOf, kidAbs, kidRows, TK.isCell, D.toL, oLoad, oStore, oMake, oIndexAddr, ↓reduceIte, reduceCtorEq, Nat.reduceBEq, Nat.reduceAdd, Nat.reduceMul, Nat.reduceLT, Nat.reduceSub, Nat.reduceLeDiff, Nat.reduceEqDiff, Nat.reduceBneDiff, Int.reduceToNat, decide_eq_true_eq, decide_eq_false_iff_not, beq_iff_eq, Int.toNat_natCast, loopK_normal, loopK_exit, loopK_ret, w2]
      rw [seek_no fun j hj => hn j hj (by omega)]
      exact ⟨_, [], rfl, ⟨⟨⟨rfl, rfl, rfl⟩, trivial⟩, trivial, by simp [rn, hpAt]⟩⟩
  · cases hg
def no1 : List (FuncId × Abs) := [(93, pureAbs g_stOk), (94, pureAbs g_seek)]
theorem no1_ok : ∀ p ∈ no1, CallOk Try.prog p.1 p.2 := by
  intro p hp
  simp only [no1, List.mem_cons, List.not_mem_nil, or_false] at hp
  rcases hp with rfl | rfl
  · exact implStationOk_ok.call
  · exact implSeek_ok.call
set_option maxHeartbeats 4000000 in
set_option maxRecDepth 100000 in
theorem implNetOk_ok : PureOk Try.prog 33 g_netOk := by
  refine PureOk.of_vc (G := no1) no1_ok mixed Try.func33 (by kernel_rfl) rfl ?_
  intro args cnd r bs hg hc
  unfold g_netOk at hg
  split at hg
  · rename_i sz rows
    cases hg
    obtain ⟨l, rfl, hl, hd⟩ := hc
    rw [stsOf_rows]
    refine ⟨⟨rfl, by simp, by simp [AV.ids, AV.ids.idsL]⟩, [.l 2 (stRows l)], rfl, fun w vs h => CvL.ok (.cons (.l _ _ _ (stRows_w l)) .nil) h, ?_⟩
    simp (maxSteps := 3000000) only [Try.f33, no1, stRows_len, tYs, evL, implies_true, oMin, oCopy, oBin, oUn, oLoadKid, oStoreTree, oField, oExtract, oNil, oSliceQ, oLoadRow, takeCells, TS.atRow, TS.ex, treeMode, AV.isOwn, TK.isSl, nilTk, nilsB, oLenQ, oLen, nodupB, treeOf, kidAbs, kidRows, TK.isCell, D.toL, oLoad, oStore, oMake, oIndexAddr, ↓reduceIte, reduceCtorEq, Nat.reduceBEq, Nat.reduceAdd, Nat.reduceMul, Nat.reduceLT, Nat.reduceSub, Nat.reduceLeDiff, Nat.reduceEqDiff, Nat.reduceBneDiff, Int.reduceToNat, decide_eq_true_eq, decide_eq_false_iff_not, beq_iff_eq, Int.toNat_natCast]
    by_cases h5 : l.length ≤ 5
    rotate_left
    · rw [if_pos (by omega), net_many h5]
      exact ⟨_, [], rfl, ⟨⟨⟨rfl, rfl, rfl⟩, trivial⟩, trivial, by simp [rn, hpAt]⟩⟩
    rw [if_neg (by omega)]
    refine e_loop _ _ _ _ _ _ _ _ (fun k : Nat => [.l 2 (stRows l), .any, .any, .any, .any, .any, .any, .any, .l 2 (stRows l), .v (.int .i64 (l.length : Int)), .v (.int .i64 (k : Int))] ++ List.replicate (Try.f33.ntmps - 11) .any) (fun k => []) (fun k => k ≤ l.length ∧ netK l k) (fun k => l.length - k) 0 (fun k => by simp) ?_ fun k hk' => ?_
    · exact ⟨0, [], ⟨Nat.zero_le _, fun i _ h => absurd h (Nat.not_lt_zero _), fun i _ h => absurd h (Nat.not_lt_zero _)⟩, ⟨⟨⟨rfl, rfl, rfl⟩, trivial, trivial, trivial, trivial, trivial, trivial, trivial, ⟨rfl, rfl, rfl⟩, ⟨rfl, rfl, rfl⟩, ⟨rfl, rfl, rfl⟩, fitT_rep _ _ rfl⟩, trivial, by simp [rn, hpAt]⟩, by simp [keepIds]⟩
    obtain ⟨hk1, hn⟩ := hk'
    have w2 : IntKind.i64.wrap ((k : Int) + 1) = ((k + 1 : Nat) : Int) := by rw [wrap_id] <;> omega
    by_cases hk : k < l.length
    · have hrow := stRows_get l k hk
      have hlt : ((k : Int) < (l.length : Int)) = True := eq_true (by omega)
      have h0 : (0 ≤ (k : Int)) = True := eq_true (by omega)
      have ht : (stRows l).take k = stRows (l.take k) := stRows_take l k
      have htl : (l.take k).length = k := by rw [List.length_take]; omega
      have hle : ((k : Int) ≤ (l.length : Int)) = True := eq_true (by omega)
      simp (maxSteps := 3000000) only [Try.f33, no1, stRows_len, rtRows_len, g_stOk, g_seek, rtsOf_rows, stsOf_rows, hrow, hlt, h0, hle, ht, st_eta, D.toI, D.toL, tYs, evL, implies_true, oMin, oCopy, oBin, oUn, oLoadKid, oStoreTree, oField, oExtract, oNil, oSliceQ, oLoadRow, takeCells, TS.atRow, TS.ex, treeMode, AV.isOwn, TK.isSl, nilTk, nilsB, oLenQ, oLen, nodupB, treeOf, kidAbs, kidRows, TK.isCell, D.toL, oLoad, oStore, oMake, oIndexAddr, ↓reduceIte, reduceCtorEq, Nat.reduceBEq, Nat.reduceAdd, Nat.reduceMul, Nat.reduceLT, Nat.reduceSub, Nat.reduceLeDiff, Nat.reduceEqDiff, Nat.reduceBneDiff, Int.reduceToNat, decide_eq_true_eq, decide_eq_false_iff_not, beq_iff_eq, Int.toNat_natCast, loopK_normal, loopK_exit, loopK_ret, w2]
      have hx := hd l[k] (List.getElem_mem hk)
      refine ⟨⟨_, rfl, by omega⟩, ?_⟩
      cases hs : stB l[k] with
      | false =>
        rw [if_neg (by simp), net_at hk hs]
        refine ⟨by kernel_rfl, ?_⟩
        exact ⟨_, [], rfl, ⟨⟨⟨rfl, rfl, rfl⟩, trivial⟩, trivial, by simp [rn, hpAt]⟩⟩
      | true =>
        rw [if_pos (by simp)]
        refine ⟨hk1, ⟨_, rfl, by rw [htl]; omega⟩, by kernel_rfl, ?_⟩
        by_cases hq : seekI (l.take k) l[k].a ≥ 0
        · rw [if_pos hq]
          obtain ⟨j, hj, he⟩ := (seek_take hk).1 hq
          rw [net_two (by omega) hk hj he]
          exact ⟨_, [], rfl, ⟨⟨⟨rfl, rfl, rfl⟩, trivial⟩, trivial, by simp [rn, hpAt]⟩⟩
        · rw [if_neg hq]
          exact ⟨k + 1, [], ⟨by omega, netK_next hn hk hs fun j hj hjk e => hq ((seek_take hk).2 ⟨j, hjk, e⟩)⟩, by omega, ⟨⟨⟨rfl, rfl, rfl⟩, trivial, trivial, trivial, trivial, trivial, trivial, trivial, ⟨rfl, rfl, rfl⟩, ⟨rfl, rfl, rfl⟩, ⟨rfl, rfl, rfl⟩, fitT_rep _ _ rfl⟩, trivial, by simp [rn, hpAt]⟩, by simp [keepIds]⟩
    · have hlt : ((k : Int) < (l.length : Int)) = False := eq_false (by omega)
      simp (maxSteps := 3000000) only [Try.f33, no1, stRows_len, rtRows_len, hlt, D.toI, D.toL, tYs, evL, implies_true, oMin, oCopy, oBin, oUn, oLoadKid, oStoreTree, oField, oExtract, oNil, oSliceQ, oLoadRow, takeCells, TS.atRow, TS.ex, treeMode, AV.isOwn, TK.isSl, nilTk, nilsB, oLenQ, oLen, nodupB, treeOf, kidAbs, kidRows, TK.isCell, D.toL, oLoad, oStore, oMake, oIndexAddr, ↓reduceIte, reduceCtorEq, Nat.reduceBEq, Nat.reduceAdd, Nat.reduceMul, Nat.reduceLT, Nat.reduceSub, Nat.reduceLeDiff, Nat.reduceEqDiff, Nat.reduceBneDiff, Int.reduceToNat, decide_eq_true_eq, decide_eq_false_iff_not, beq_iff_eq, Int.toNat_natCast, loopK_normal, loopK_exit, loopK_ret, w2]
      rw [netK_end (by rw [show l.length = k from by omega]; exact hn), decide_eq_true h5]
      exact ⟨_, [], rfl, ⟨⟨⟨rfl, rfl, rfl⟩, trivial⟩, trivial, by simp [rn, hpAt]⟩⟩
  · cases hg
def no2 : List (FuncId × Abs) := [(95, pureAbs g_stOk)]
theorem no2_ok : ∀ p ∈ no2, CallOk Try.prog p.1 p.2 := by
  intro p hp
  simp only [no2, List.mem_cons, List.not_mem_nil, or_false] at hp
  rcases hp with rfl
  · exact specStationOk_ok.call
set_option maxHeartbeats 4000000 in
set_option maxRecDepth 100000 in
theorem specNetOk_ok : PureOk Try.prog 34 g_netOk := by
  refine PureOk.of_vc (G := no2) no2_ok mixed Try.func34 (by kernel_rfl) rfl ?_
  intro args cnd r bs hg hc
  unfold g_netOk at hg
  split at hg
  · rename_i sz rows
    cases hg
    obtain ⟨l, rfl, hl, hd⟩ := hc
    rw [stsOf_rows]
    refine ⟨⟨rfl, by simp, by simp [AV.ids, AV.ids.idsL]⟩, [.l 2 (stRows l)], rfl, fun w vs h => CvL.ok (.cons (.l _ _ _ (stRows_w l)) .nil) h, ?_⟩
    simp (maxSteps := 3000000) only [Try.f34, no2, stRows_len, tYs, evL, implies_true, oMin, oCopy, oBin, oUn, oLoadKid, oStoreTree, oField, oExtract, oNil, oSliceQ, oLoadRow, takeCells, TS.atRow, TS.ex, treeMode, AV.isOwn, TK.isSl, nilTk, nilsB, oLenQ, oLen, nodupB, treeOf, kidAbs, kidRows, TK.isCell, D.toL, oLoad, oStore, oMake, oIndexAddr, ↓reduceIte, reduceCtorEq, Nat.reduceBEq, Nat.reduceAdd, Nat.reduceMul, Nat.reduceLT, Nat.reduceSub, Nat.reduceLeDiff, Nat.reduceEqDiff, Nat.reduceBneDiff, Int.reduceToNat, decide_eq_true_eq, decide_eq_false_iff_not, beq_iff_eq, Int.toNat_natCast]
    refine e_loop _ _ _ _ _ _ _ _ (fun k : Nat => [.l 2 (stRows l), .any, .any, .v (.int .i64 (k : Int))] ++ List.replicate (Try.f34.ntmps - 4) .any) (fun k => []) (fun k => k ≤ l.length ∧ netK l k) (fun k => l.length - k) 0 (fun k => by simp) ?_ fun k hk' => ?_
    · exact ⟨0, [], ⟨Nat.zero_le _, fun i _ h => absurd h (Nat.not_lt_zero _), fun i _ h => absurd h (Nat.not_lt_zero _)⟩, ⟨⟨⟨rfl, rfl, rfl⟩, trivial, trivial, ⟨rfl, rfl, rfl⟩, fitT_rep _ _ rfl⟩, trivial, by simp [rn, hpAt]⟩, by simp [keepIds]⟩
    obtain ⟨hk1, hn⟩ := hk'
    have w2 : IntKind.i64.wrap ((k : Int) + 1) = ((k + 1 : Nat) : Int) := by rw [wrap_id] <;> omega
    by_cases hk : k < l.length
    · have hrow := stRows_get l k hk
      have hlt : ((k : Int) < (l.length : Int)) = True := eq_true (by omega)
      have h0 : (0 ≤ (k : Int)) = True := eq_true (by omega)
      simp (maxSteps := 3000000) only [Try.f34, no2, stRows_len, rtRows_len, g_stOk, rtsOf_rows, stsOf_rows, hrow, hlt, h0, st_eta, D.toI, D.toL, tYs, evL, implies_true, oMin, oCopy, oBin, oUn, oLoadKid, oStoreTree, oField, oExtract, oNil, oSliceQ, oLoadRow, takeCells, TS.atRow, TS.ex, treeMode, AV.isOwn, TK.isSl, nilTk, nilsB, oLenQ, oLen, nodupB, treeOf, kidAbs, kidRows, TK.isCell, D.toL, oLoad, oStore, oMake, oIndexAddr, ↓reduceIte, reduceCtorEq, Nat.reduceBEq, Nat.reduceAdd, Nat.reduceMul, Nat.reduceLT, Nat.reduceSub, Nat.reduceLeDiff, Nat.reduceEqDiff, Nat.reduceBneDiff, Int.reduceToNat, decide_eq_true_eq, decide_eq_false_iff_not, beq_iff_eq, Int.toNat_natCast, loopK_normal, loopK_exit, loopK_ret, w2]
      have hx := hd l[k] (List.getElem_mem hk)
      refine ⟨⟨_, rfl, by omega⟩, ?_⟩
      cases hs : stB l[k] with
      | false =>
        simp only [Bool.not_false, Bool.not_true, Bool.false_eq_true, Bool.true_eq_false, ↓reduceIte]
        rw [net_at hk hs]
        exact ⟨_, [], rfl, ⟨⟨⟨rfl, rfl, rfl⟩, trivial⟩, trivial, by simp [rn, hpAt]⟩⟩
      | true =>
        simp only [Bool.not_false, Bool.not_true, Bool.false_eq_true, Bool.true_eq_false, ↓reduceIte]
        refine e_loop _ _ _ _ _ _ _ _ (fun j : Nat => [.l 2 (stRows l), .any, .any, .v (.int .i64 (k : Int)), .v (.int .i64 (j : Int))] ++ List.replicate (Try.f34.ntmps - 5) .any) (fun j => []) (fun j => j ≤ k ∧ ∀ i (hi : i < l.length), i < j → l[i].a ≠ l[k].a) (fun j => k - j) 0 (fun j => by simp) ?_ fun j hj' => ?_
        · exact ⟨0, [], ⟨Nat.zero_le _, fun i _ h => absurd h (Nat.not_lt_zero _)⟩, ⟨⟨⟨rfl, rfl, rfl⟩, trivial, trivial, ⟨rfl, rfl, rfl⟩, ⟨rfl, rfl, rfl⟩, fitT_rep _ _ rfl⟩, trivial, by simp [rn, hpAt]⟩, by simp [keepIds]⟩
        obtain ⟨hj1, hj2⟩ := hj'
        have w3 : IntKind.i64.wrap ((j : Int) + 1) = ((j + 1 : Nat) : Int) := by rw [wrap_id] <;> omega
        have hrj : ∀ h : j < l.length, (stRows l).getD j [] = [.v (.int .i64 l[j].a), .l 4 (rtRows l[j].rs)] := fun h => stRows_get l j h
        by_cases hjk : j < k
        · have hlj : ((j : Int) < (k : Int)) = True := eq_true (by omega)
          have hln : ((j : Int) < (l.length : Int)) = True := eq_true (by omega)
          have h0j : (0 ≤ (j : Int)) = True := eq_true (by omega)
          have hrow2 := hrj (by omega)
          simp (maxSteps := 3000000) only [Try.f34, no2, stRows_len, rtRows_len, hrow, hrow2, hlt, h0, hlj, hln, h0j, w3, D.toI, D.toL, tYs, evL, implies_true, oMin, oCopy, oBin, oUn, oLoadKid, oStoreTree, oField, oExtract, oNil, oSliceQ, oLoadRow, takeCells, TS.atRow, TS.ex, treeMode, AV.isOwn, TK.isSl, nilTk, nilsB, oLenQ, oLen, nodupB, treeOf, kidAbs, kidRows, TK.isCell, D.toL, oLoad, oStore, oMake, oIndexAddr, ↓reduceIte, reduceCtorEq, Nat.reduceBEq, Nat.reduceAdd, Nat.reduceMul, Nat.reduceLT, Nat.reduceSub, Nat.reduceLeDiff, Nat.reduceEqDiff, Nat.reduceBneDiff, Int.reduceToNat, decide_eq_true_eq, decide_eq_false_iff_not, beq_iff_eq, Int.toNat_natCast, loopK_normal, loopK_exit, loopK_ret, w2]
          refine ⟨by kernel_rfl, ?_⟩
          by_cases he : l[j].a = l[k].a
          · rw [if_pos (by simpa using he), net_two (by omega) hk hjk he]
            exact ⟨_, [], rfl, ⟨⟨⟨rfl, rfl, rfl⟩, trivial⟩, trivial, by simp [rn, hpAt]⟩⟩
          · rw [if_neg (by simpa using he)]
            exact ⟨j + 1, [], ⟨by omega, fun i hi hij => by
              by_cases e : i = j
              · subst e; exact he
              · exact hj2 i hi (by omega)⟩, by omega, ⟨⟨⟨rfl, rfl, rfl⟩, trivial, trivial, ⟨rfl, rfl, rfl⟩, ⟨rfl, rfl, rfl⟩, fitT_rep _ _ rfl⟩, trivial, by simp [rn, hpAt]⟩, by simp [keepIds]⟩
        · have hlj : ((j : Int) < (k : Int)) = False := eq_false (by omega)
          simp (maxSteps := 3000000) only [Try.f34, no2, stRows_len, rtRows_len, hlj, w3, D.toI, D.toL, tYs, evL, implies_true, oMin, oCopy, oBin, oUn, oLoadKid, oStoreTree, oField, oExtract, oNil, oSliceQ, oLoadRow, takeCells, TS.atRow, TS.ex, treeMode, AV.isOwn, TK.isSl, nilTk, nilsB, oLenQ, oLen, nodupB, treeOf, kidAbs, kidRows, TK.isCell, D.toL, oLoad, oStore, oMake, oIndexAddr, ↓reduceIte, reduceCtorEq, Nat.reduceBEq, Nat.reduceAdd, Nat.reduceMul, Nat.reduceLT, Nat.reduceSub, Nat.reduceLeDiff, Nat.reduceEqDiff, Nat.reduceBneDiff, Int.reduceToNat, decide_eq_true_eq, decide_eq_false_iff_not, beq_iff_eq, Int.toNat_natCast, loopK_normal, loopK_exit, loopK_ret, w2]
          exact ⟨k + 1, [], ⟨by omega, netK_next hn hk hs fun i hi hik => hj2 i hi (by omega)⟩, by omega, ⟨⟨⟨rfl, rfl, rfl⟩, trivial, trivial, ⟨rfl, rfl, rfl⟩, fitT_rep _ _ rfl⟩, trivial, by simp [rn, hpAt]⟩, by simp [keepIds]⟩
    · have hlt : ((k : Int) < (l.length : Int)) = False := eq_false (by omega)
      simp (maxSteps := 3000000) only [Try.f34, no2, stRows_len, rtRows_len, hlt, D.toI, D.toL, tYs, evL, implies_true, oMin, oCopy, oBin, oUn, oLoadKid, oStoreTree, oField, oExtract, oNil, oSliceQ, oLoadRow, takeCells, TS.atRow, TS.ex, treeMode, AV.isOwn, TK.isSl, nilTk, nilsB, oLenQ, oLen, nodupB, treeOf, kidAbs, kidRows, TK.isCell, D.toL, oLoad, oStore, oMake, oIndexAddr, ↓reduceIte, reduceCtorEq, Nat.reduceBEq, Nat.reduceAdd, Nat.reduceMul, Nat.reduceLT, Nat.reduceSub, Nat.reduceLeDiff, Nat.reduceEqDiff, Nat.reduceBneDiff, Int.reduceToNat, decide_eq_true_eq, decide_eq_false_iff_not, beq_iff_eq, Int.toNat_natCast, loopK_normal, loopK_exit, loopK_ret, w2]
      rw [netK_end (by rw [show l.length = k from by omega]; exact hn)]
      have e5 : decide ((l.length : Int) ≤ 5) = decide (l.length ≤ 5) := by rw [decide_eq_decide]; omega
      rw [← e5]
      exact ⟨_, [], rfl, ⟨⟨⟨rfl, rfl, rfl⟩, trivial⟩, trivial, by simp [rn, hpAt]⟩⟩
  · cases hg
def no3 : List (FuncId × Abs) := [(33, pureAbs g_netOk)]
theorem no3_ok : ∀ p ∈ no3, CallOk Try.prog p.1 p.2 := by
  intro p hp
  simp only [no3, List.mem_cons, List.not_mem_nil, or_false] at hp
  rcases hp with rfl
  · exact implNetOk_ok.call
set_option maxRecDepth 100000 in
theorem inNet_ok : PureOk Try.prog 98 g_inNet := by
  refine PureOk.of_vc (G := no3) no3_ok mixed Try.func98 (by kernel_rfl) rfl ?_
  intro args cnd r bs hg hc
  unfold g_inNet at hg
  split at hg
  · rename_i sz rows n
    cases hg
    obtain ⟨l, rfl, hl, hd⟩ := hc
    rw [stsOf_rows]
    refine ⟨⟨rfl, by simp, by simp [AV.ids, AV.ids.idsL]⟩, [.l 2 (stRows l), .v (.int .i64 n)], rfl, fun w vs h => CvL.ok (.cons (.l _ _ _ (stRows_w l)) (.cons (.refl _) .nil)) h, ?_⟩
    simp (maxSteps := 3000000) only [Try.f98, no3, stRows_len, stsOf_rows, g_netOk, tYs, evL, implies_true, oMin, oCopy, oBin, oUn, oLoadKid, oStoreTree, oField, oExtract, oNil, oSliceQ, oLoadRow, takeCells, TS.atRow, TS.ex, treeMode, AV.isOwn, TK.isSl, nilTk, nilsB, oLenQ, oLen, nodupB, treeOf, kidAbs, kidRows, TK.isCell, D.toL, oLoad, oStore, oMake, oIndexAddr, ↓reduceIte, reduceCtorEq, Nat.reduceBEq, Nat.reduceAdd, Nat.reduceMul, Nat.reduceLT, Nat.reduceSub, Nat.reduceLeDiff, Nat.reduceEqDiff, Nat.reduceBneDiff, Int.reduceToNat, decide_eq_true_eq, decide_eq_false_iff_not, beq_iff_eq, Int.toNat_natCast]
    refine ⟨⟨l, rfl, hl, hd⟩, ?_⟩
    cases hb : netB l with
    | false =>
      rw [if_neg (by simp), show inNet l n = false from by rw [inNet, hb]; rfl]
      exact ⟨_, [], rfl, ⟨⟨⟨rfl, rfl, rfl⟩, trivial⟩, trivial, by simp [rn, hpAt]⟩⟩
    | true =>
      rw [if_pos rfl]
      by_cases h0 : n ≥ 0
      · rw [if_pos h0, show inNet l n = decide (n < (l.length : Int)) from by rw [inNet, hb, Bool.true_and, decide_eq_decide]; omega]
        exact ⟨_, [], rfl, ⟨⟨⟨rfl, rfl, rfl⟩, trivial⟩, trivial, by simp [rn, hpAt]⟩⟩
      · rw [if_neg h0, show inNet l n = false from by rw [inNet, hb, Bool.true_and, decide_eq_false_iff_not]; omega]
        exact ⟨_, [], rfl, ⟨⟨⟨rfl, rfl, rfl⟩, trivial⟩, trivial, by simp [rn, hpAt]⟩⟩
  · cases hg
end Go.Proofs.Ytegffkmakkccaaa
