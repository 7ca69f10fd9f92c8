import Derived.Test.YtegffkmakkccaaaXd
namespace Go.Proofs.Ytegffkmakkccaaa
open Go.RowKit
set_option linter.unusedSimpArgs false
set_option linter.unusedVariables false
structure Pt where
  ps : List Pk
  u : Int
def pt0 : Pt := ⟨[], 0⟩
def ptRow (x : Pt) : List D := [.l 9 (pRows x.ps), .v (.int .i64 x.u)]
def ptRows (l : List Pt) : List (List D) := l.map ptRow
def ptOf (r : List D) : Pt := ⟨psOf (r.getD 0 (.v undef)).toL, (r.getD 1 (.v undef)).toI⟩
def ptsOf (rows : List (List D)) : List Pt := rows.map ptOf
theorem ptsOf_rows (l : List Pt) : ptsOf (ptRows l) = l := by
  unfold ptsOf ptRows
  rw [List.map_map]
  have : ptOf ∘ ptRow = id := by
    funext x
    show (⟨psOf (pRows x.ps), x.u⟩ : Pt) = x
    rw [psOf_rows]
  rw [this, List.map_id]
theorem ptRows_len (l : List Pt) : (ptRows l).length = l.length := by simp [ptRows]
theorem ptRows_w (l : List Pt) : ∀ r ∈ ptRows l, r.length = 2 := fun r hr => by
  obtain ⟨e, _, rfl⟩ := List.mem_map.1 hr
  rfl
theorem ptRows_get (l : List Pt) (k : Nat) (h : k < l.length) : (ptRows l).getD k [] = ptRow l[k] := by
  unfold ptRows
  rw [List.getD_eq_getElem?_getD, List.getElem?_map, List.getElem?_eq_getElem h]; rfl
theorem ptRows_take (l : List Pt) (k : Nat) : (ptRows l).take k = ptRows (l.take k) := by simp [ptRows, List.map_take]
theorem ptRows_drop (l : List Pt) (k : Nat) : (ptRows l).drop k = ptRows (l.drop k) := by simp [ptRows, List.map_drop]
theorem ptRows_app (a b : List Pt) : ptRows a ++ ptRows b = ptRows (a ++ b) := by simp [ptRows]
theorem pt_get {l : List Pt} {k : Nat} (h : k < l.length) : l.getD k pt0 = l[k] := by simp [List.getD, h]
def ptMid (l : List Pt) : Prop := l.length ≤ 1048576 ∧ ∀ x ∈ l, pMid x.ps
theorem ptMid_take {l : List Pt} (h : ptMid l) (k : Nat) : ptMid (l.take k) := ⟨by rw [List.length_take]; have := h.1; omega, fun x hx => h.2 x (List.mem_of_mem_take hx)⟩
theorem ptMid_drop {l : List Pt} (h : ptMid l) (k : Nat) : ptMid (l.drop k) := ⟨by rw [List.length_drop]; have := h.1; omega, fun x hx => h.2 x (List.mem_of_mem_drop hx)⟩
def of1 (x : Pt) (q : Pk) : Bool := same4 (x.ps.getD 0 pk0) q
def findP : List Pt → Pk → Nat
  | [], _ => 0
  | x :: r, q => if of1 x q = true then 0 else findP r q + 1
theorem findP_le : ∀ (l : List Pt) (q : Pk), findP l q ≤ l.length
  | [], _ => Nat.le_refl _
  | x :: r, q => by
    have := findP_le r q
    simp only [findP]
    split <;> simp <;> omega
theorem findP_eq {q : Pk} : ∀ {l : List Pt} {k : Nat}, k ≤ l.length → (∀ j, j < k → of1 (l.getD j pt0) q = false) → (k = l.length ∨ of1 (l.getD k pt0) q = true) → findP l q = k
  | [], k, h1, _, _ => by simp at h1; subst h1; rfl
  | x :: r, k, h1, h2, h3 => by
    cases k with
    | zero =>
      rcases h3 with h3 | h3
      · simp at h3
      · simp only [List.getD_cons_zero] at h3
        simp only [findP, if_pos h3]
    | succ k =>
      have h0 := h2 0 (by omega)
      simp only [List.getD_cons_zero] at h0
      simp only [findP, h0]
      rw [if_neg (by simp), findP_eq (l := r) (k := k) (by simpa using h1) (fun j hj => by simpa using h2 (j + 1) (by omega)) (by simpa using h3)]
def atP (l : List Pt) (q : Pk) : Int := if findP l q = l.length then -1 else (findP l q : Int)
def liveP (l : List Pt) (now : Int) : List Pt := l.filter fun x => decide (now < x.u)
def outP (l : List Pt) (k : Nat) : List Pt := l.take k ++ l.drop (k + 1)
def ptStep (l : List Pt) (k : Nat) : Bool := partB (l.getD k pt0).ps (l.getD k pt0).u && decide (findP (l.take k) ((l.getD k pt0).ps.getD 0 pk0) = k)
def ptsK (l : List Pt) (k : Nat) : Bool := (List.range k).all (ptStep l)
def ptsB (l : List Pt) : Bool := decide (l.length ≤ 3) && ptsK l l.length
theorem ptsK_succ (l : List Pt) (k : Nat) : ptsK l (k + 1) = (ptsK l k && ptStep l k) := by simp [ptsK, List.range_succ]
theorem ptsB_no {l : List Pt} {k : Nat} (hk : k < l.length) (h : ptStep l k = false) : ptsB l = false := by
  have : ptsK l l.length = false := by
    rw [Bool.eq_false_iff]
    intro hn
    rw [List.all_eq_true.1 hn k (List.mem_range.2 hk)] at h
    cases h
  rw [ptsB, this, Bool.and_false]
theorem ptsK_at {l : List Pt} {k j : Nat} (h : ptsK l k = true) (hj : j < k) : ptStep l j = true := List.all_eq_true.1 h j (List.mem_range.2 hj)
def g_partsCopied : PC := fun args => match args with
  | [.l _ rows] => some (∃ l, rows = ptRows l ∧ ptMid l, .own 0, [.tr .whole 38 2 [.sl 29 9 [.cell, .cell, .cell, .cell, .cell, .cell, .cell, .cell, .sl 5 1 [.cell]], .cell] rows])
  | _ => none
def g_partsLive : PC := fun args => match args with
  | [.l _ rows, .v (.int .i64 n)] => some (∃ l, rows = ptRows l ∧ ptMid l, .own 0, [.tr .whole 38 2 [.sl 29 9 [.cell, .cell, .cell, .cell, .cell, .cell, .cell, .cell, .sl 5 1 [.cell]], .cell] (ptRows (liveP (ptsOf rows) n))])
  | _ => none
def g_partAt : PC := fun args => match args with
  | [.l _ rows', .agg [.v (.int .i64 f), .v (.int .i64 t), .v (.int .i64 p), .v (.int .i64 h), .v (.int .i64 i), .v (.int .i64 a), .v (.bool m), .v (.bool u), .l _ rows]] => some (∃ l, rows' = ptRows l ∧ l.length ≤ 1048576 ∧ ∀ x ∈ l, 0 < x.ps.length, .v (.int .i64 (atP (ptsOf rows') ⟨f, t, p, h, i, a, m, u, bytesOfRows rows⟩)), [])
  | _ => none
def g_partsWithout : PC := fun args => match args with
  | [.l _ rows, .v (.int .i64 n)] => some ((∃ l, rows = ptRows l ∧ ptMid l) ∧ 0 ≤ n ∧ n < (rows.length : Int), .own 0, [.tr .whole 38 2 [.sl 29 9 [.cell, .cell, .cell, .cell, .cell, .cell, .cell, .cell, .sl 5 1 [.cell]], .cell] (ptRows (outP (ptsOf rows) n.toNat))])
  | _ => none
def g_partsOk : PC := fun args => match args with
  | [.l _ rows] => some (∃ l, rows = ptRows l ∧ ptMid l, .v (.bool (ptsB (ptsOf rows))), [])
  | _ => none
def g_isPartTime : PC := fun args => match args with
  | [.v (.int .i64 v)] => some (True, .v (.bool (inZ v 0 999985)), [])
  | _ => none
def qcc : List (FuncId × Abs) := [(121, pureAbs g_partCopied)]
theorem qcc_ok : ∀ p ∈ qcc, CallOk Try.prog p.1 p.2 := by
  intro p hp
  simp only [qcc, List.mem_cons, List.not_mem_nil, or_false] at hp
  rcases hp with rfl
  · exact partCopied_ok.call
set_option maxRecDepth 100000 in
theorem partsCopied_ok : PureOk Try.prog 122 g_partsCopied := by
  refine PureOk.of_vc (G := qcc) qcc_ok mixed Try.func122 (by kernel_rfl) rfl ?_
  intro args cnd r bs hg hc
  unfold g_partsCopied at hg
  split at hg
  · rename_i sz rows
    cases hg
    obtain ⟨l, rfl, hn, hd⟩ := hc
    refine ⟨⟨rfl, by simp [flatB], by simp [AV.ids, AV.ids.idsL]⟩, [.l 2 (ptRows l)], rfl, fun w vs h => CvL.ok (.cons (.l _ _ _ (ptRows_w l)) .nil) h, ?_⟩
    simp (maxSteps := 3000000) only [Try.f122, qcc, ptRows_len, tYs, evL, implies_true, oMin, oCopy, oBin, oUn, oLoadKid, oStoreTree, oField, oExtract, oNil, oSliceQ, oLoadRow, takeCells, TS.atRow, TS.ex, treeMode, AV.isOwn, TK.isSl, nilTk, nilsB, oLenQ, oLen, nodupB, treeOf, kidAbs, kidRows, TK.isCell, D.toL, oLoad, oStore, oMake, oIndexAddr, ↓reduceIte, reduceCtorEq, Nat.reduceBEq, Nat.reduceAdd, Nat.reduceMul, Nat.reduceLT, Nat.reduceSub, Nat.reduceLeDiff, Nat.reduceEqDiff, Nat.reduceBneDiff, Int.reduceToNat, decide_eq_true_eq, decide_eq_false_iff_not, beq_iff_eq, Int.toNat_natCast]
    refine ⟨by omega, ?_⟩
    refine e_loop _ _ _ _ _ _ _ _ (fun k : Nat => [.any, .any, .any, .own 0, .any, .any, .any, .any, .any, .l 2 (ptRows l), .v (.int .i64 (l.length : Int)), .v (.int .i64 (k : Int))] ++ List.replicate (Try.f122.ntmps - 12) .any) (fun k => [(0, .tr .whole 38 2 [.sl 29 9 [.cell, .cell, .cell, .cell, .cell, .cell, .cell, .cell, .sl 5 1 [.cell]], .cell] (ptRows (l.take k)))]) (fun k => k ≤ l.length) (fun k => l.length - k) 1 (fun k => by simp) ?_ fun k hk' => ?_
    · exact ⟨0, [(0, some _)], Nat.zero_le _, ⟨⟨trivial, trivial, trivial, ⟨rfl, rfl, rfl⟩, trivial, trivial, trivial, trivial, trivial, ⟨rfl, rfl, rfl⟩, ⟨rfl, rfl, rfl⟩, ⟨rfl, rfl, rfl⟩, fitT_rep _ _ rfl⟩, ⟨.inr (.inl ⟨rfl, rfl, rfl⟩), rfl, rfl, rfl, trivial⟩, by simp [rn, hpAt]⟩, by simp [keepIds]⟩
    have w2 : IntKind.i64.wrap ((k : Int) + 1) = ((k + 1 : Nat) : Int) := by rw [wrap_id] <;> omega
    by_cases h : k < l.length
    · have hrow := ptRows_get l k h
      have hlt : ((k : Int) < (l.length : Int)) = True := eq_true (by omega)
      have h0 : (0 ≤ (k : Int)) = True := eq_true (by omega)
      have hx := hd l[k] (List.getElem_mem h)
      have e1 : ptRows (l.take k) ++ [ptRow l[k]] = ptRows (l.take (k + 1)) := by
        rw [List.take_add_one, List.getElem?_eq_getElem h, ← ptRows_app]; rfl
      have hpl : (ptRows (l.take k)).length = k := by rw [ptRows_len, List.length_take]; omega
      rw [ptRow] at e1
      simp (maxSteps := 3000000) only [Try.f122, qcc, ptRows_len, pRows_len, rowsOf_len, bytesOf_rows, g_partCopied, hrow, hlt, h0, hpl, e1, D.toI, dB, D.toB, D.toL, ptRow, tYs, evL, implies_true, oMin, oCopy, oBin, oUn, oLoadKid, oStoreTree, oField, oExtract, oNil, oSliceQ, oLoadRow, takeCells, TS.atRow, TS.ex, treeMode, AV.isOwn, TK.isSl, nilTk, nilsB, oLenQ, oLen, nodupB, treeOf, kidAbs, kidRows, TK.isCell, D.toL, oLoad, oStore, oMake, oIndexAddr, ↓reduceIte, reduceCtorEq, Nat.reduceBEq, Nat.reduceAdd, Nat.reduceMul, Nat.reduceLT, Nat.reduceSub, Nat.reduceLeDiff, Nat.reduceEqDiff, Nat.reduceBneDiff, Int.reduceToNat, decide_eq_true_eq, decide_eq_false_iff_not, beq_iff_eq, Int.toNat_natCast, loopK_normal, loopK_exit, loopK_ret, w2]
      exact ⟨⟨_, rfl, hx⟩, ⟨by omega, by omega⟩, k + 1, [(0, some _)], by omega, by omega, ⟨⟨trivial, trivial, trivial, ⟨rfl, rfl, rfl⟩, trivial, trivial, trivial, trivial, trivial, ⟨rfl, rfl, rfl⟩, ⟨rfl, rfl, rfl⟩, ⟨rfl, rfl, rfl⟩, fitT_rep _ _ rfl⟩, ⟨.inl rfl, rfl, rfl, rfl, trivial⟩, by simp [rn, hpAt]⟩, by simp [keepIds]⟩
    · have hlt : ((k : Int) < (l.length : Int)) = False := eq_false (by omega)
      simp (maxSteps := 3000000) only [Try.f122, qcc, ptRows_len, pRows_len, rowsOf_len, bytesOf_rows, hlt, D.toI, dB, D.toB, D.toL, ptRow, tYs, evL, implies_true, oMin, oCopy, oBin, oUn, oLoadKid, oStoreTree, oField, oExtract, oNil, oSliceQ, oLoadRow, takeCells, TS.atRow, TS.ex, treeMode, AV.isOwn, TK.isSl, nilTk, nilsB, oLenQ, oLen, nodupB, treeOf, kidAbs, kidRows, TK.isCell, D.toL, oLoad, oStore, oMake, oIndexAddr, ↓reduceIte, reduceCtorEq, Nat.reduceBEq, Nat.reduceAdd, Nat.reduceMul, Nat.reduceLT, Nat.reduceSub, Nat.reduceLeDiff, Nat.reduceEqDiff, Nat.reduceBneDiff, Int.reduceToNat, decide_eq_true_eq, decide_eq_false_iff_not, beq_iff_eq, Int.toNat_natCast, loopK_normal, loopK_exit, loopK_ret, w2]
      obtain rfl : k = l.length := by omega
      rw [List.take_length]
      exact ⟨_, [(0, some _)], rfl, ⟨⟨⟨rfl, rfl, rfl⟩, trivial⟩, ⟨.inl rfl, rfl, rfl, rfl, trivial⟩, by simp [rn, hpAt]⟩⟩
  · cases hg
set_option maxRecDepth 100000 in
theorem partsLive_ok : PureOk Try.prog 60 g_partsLive := by
  refine PureOk.of_vc (G := qcc) qcc_ok mixed Try.func60 (by kernel_rfl) rfl ?_
  intro args cnd r bs hg hc
  unfold g_partsLive at hg
  split at hg
  · rename_i sz rows n
    cases hg
    obtain ⟨l, rfl, hn, hd⟩ := hc
    rw [ptsOf_rows]
    refine ⟨⟨rfl, by simp [flatB], by simp [AV.ids, AV.ids.idsL]⟩, [.l 2 (ptRows l), .v (.int .i64 n)], rfl, fun w vs h => CvL.ok (.cons (.l _ _ _ (ptRows_w l)) (.cons (.refl _) .nil)) h, ?_⟩
    simp (maxSteps := 3000000) only [Try.f60, qcc, ptRows_len, tYs, evL, implies_true, oMin, oCopy, oBin, oUn, oLoadKid, oStoreTree, oField, oExtract, oNil, oSliceQ, oLoadRow, takeCells, TS.atRow, TS.ex, treeMode, AV.isOwn, TK.isSl, nilTk, nilsB, oLenQ, oLen, nodupB, treeOf, kidAbs, kidRows, TK.isCell, D.toL, oLoad, oStore, oMake, oIndexAddr, ↓reduceIte, reduceCtorEq, Nat.reduceBEq, Nat.reduceAdd, Nat.reduceMul, Nat.reduceLT, Nat.reduceSub, Nat.reduceLeDiff, Nat.reduceEqDiff, Nat.reduceBneDiff, Int.reduceToNat, decide_eq_true_eq, decide_eq_false_iff_not, beq_iff_eq, Int.toNat_natCast]
    refine ⟨by omega, ?_⟩
    refine e_loop _ _ _ _ _ _ _ _ (fun k : Nat => [.any, .v (.int .i64 n), .any, .any, .any, .own 0, .any, .any, .any, .any, .any, .l 2 (ptRows l), .v (.int .i64 (l.length : Int)), .v (.int .i64 (k : Int))] ++ List.replicate (Try.f60.ntmps - 14) .any) (fun k => [(0, .tr .whole 38 2 [.sl 29 9 [.cell, .cell, .cell, .cell, .cell, .cell, .cell, .cell, .sl 5 1 [.cell]], .cell] (ptRows (liveP (l.take k) n)))]) (fun k => k ≤ l.length) (fun k => l.length - k) 1 (fun k => by simp) ?_ fun k hk' => ?_
    · exact ⟨0, [(0, some _)], Nat.zero_le _, ⟨⟨trivial, ⟨rfl, rfl, rfl⟩, trivial, trivial, trivial, ⟨rfl, rfl, rfl⟩, trivial, trivial, trivial, trivial, trivial, ⟨rfl, rfl, rfl⟩, ⟨rfl, rfl, rfl⟩, ⟨rfl, rfl, rfl⟩, fitT_rep _ _ rfl⟩, ⟨.inr (.inl ⟨rfl, rfl, rfl⟩), rfl, rfl, rfl, trivial⟩, by simp [rn, hpAt]⟩, by simp [keepIds]⟩
    have w2 : IntKind.i64.wrap ((k : Int) + 1) = ((k + 1 : Nat) : Int) := by rw [wrap_id] <;> omega
    by_cases h : k < l.length
    · have hrow := ptRows_get l k h
      have hlt : ((k : Int) < (l.length : Int)) = True := eq_true (by omega)
      have h0 : (0 ≤ (k : Int)) = True := eq_true (by omega)
      have hx := hd l[k] (List.getElem_mem h)
      have e0 : liveP (l.take (k + 1)) n = liveP (l.take k) n ++ (if n < l[k].u then [l[k]] else []) := by
        rw [List.take_add_one, List.getElem?_eq_getElem h, liveP, liveP, List.filter_append]
        by_cases hu : n < l[k].u <;> simp [hu]
      have hpl : (liveP (l.take k) n).length ≤ k := by
        have := List.length_filter_le (fun x : Pt => decide (n < x.u)) (l.take k)
        rw [liveP]
        rw [List.length_take] at this
        omega
      by_cases hu : n < l[k].u
      · have e1 : ptRows (liveP (l.take k) n) ++ [ptRow l[k]] = ptRows (liveP (l.take (k + 1)) n) := by
          rw [e0, if_pos hu, ← ptRows_app]; rfl
        rw [ptRow] at e1
        have hgt : (l[k].u > n) = True := eq_true hu
        simp (maxSteps := 3000000) only [Try.f60, qcc, g_partCopied, ptRows_len, hrow, hlt, h0, hgt, e1, D.toI, D.toL, ptRow, tYs, evL, implies_true, oMin, oCopy, oBin, oUn, oLoadKid, oStoreTree, oField, oExtract, oNil, oSliceQ, oLoadRow, takeCells, TS.atRow, TS.ex, treeMode, AV.isOwn, TK.isSl, nilTk, nilsB, oLenQ, oLen, nodupB, treeOf, kidAbs, kidRows, TK.isCell, D.toL, oLoad, oStore, oMake, oIndexAddr, ↓reduceIte, reduceCtorEq, Nat.reduceBEq, Nat.reduceAdd, Nat.reduceMul, Nat.reduceLT, Nat.reduceSub, Nat.reduceLeDiff, Nat.reduceEqDiff, Nat.reduceBneDiff, Int.reduceToNat, decide_eq_true_eq, decide_eq_false_iff_not, beq_iff_eq, Int.toNat_natCast, loopK_normal, loopK_exit, loopK_ret, w2]
        exact ⟨⟨_, rfl, hx⟩, ⟨by omega, by omega⟩, k + 1, [(0, some _)], by omega, by omega, ⟨⟨trivial, ⟨rfl, rfl, rfl⟩, trivial, trivial, trivial, ⟨rfl, rfl, rfl⟩, trivial, trivial, trivial, trivial, trivial, ⟨rfl, rfl, rfl⟩, ⟨rfl, rfl, rfl⟩, ⟨rfl, rfl, rfl⟩, fitT_rep _ _ rfl⟩, ⟨.inl rfl, rfl, rfl, rfl, trivial⟩, by simp [rn, hpAt]⟩, by simp [keepIds]⟩
      · have hgt : (l[k].u > n) = False := eq_false hu
        rw [if_neg hu, List.append_nil] at e0
        simp (maxSteps := 3000000) only [Try.f60, qcc, ptRows_len, hrow, hlt, h0, hgt, D.toI, D.toL, ptRow, tYs, evL, implies_true, oMin, oCopy, oBin, oUn, oLoadKid, oStoreTree, oField, oExtract, oNil, oSliceQ, oLoadRow, takeCells, TS.atRow, TS.ex, treeMode, AV.isOwn, TK.isSl, nilTk, nilsB, oLenQ, oLen, nodupB, treeOf, kidAbs, kidRows, TK.isCell, D.toL, oLoad, oStore, oMake, oIndexAddr, ↓reduceIte, reduceCtorEq, Nat.reduceBEq, Nat.reduceAdd, Nat.reduceMul, Nat.reduceLT, Nat.reduceSub, Nat.reduceLeDiff, Nat.reduceEqDiff, Nat.reduceBneDiff, Int.reduceToNat, decide_eq_true_eq, decide_eq_false_iff_not, beq_iff_eq, Int.toNat_natCast, loopK_normal, loopK_exit, loopK_ret, w2]
        refine ⟨k + 1, [(0, some 0)], by omega, by omega, ?_, by simp [keepIds]⟩
        rw [e0]
        exact ⟨⟨trivial, ⟨rfl, rfl, rfl⟩, trivial, trivial, trivial, ⟨rfl, rfl, rfl⟩, trivial, trivial, trivial, trivial, trivial, ⟨rfl, rfl, rfl⟩, ⟨rfl, rfl, rfl⟩, ⟨rfl, rfl, rfl⟩, fitT_rep _ _ rfl⟩, ⟨.inl rfl, rfl, rfl, rfl, trivial⟩, by simp [rn, hpAt]⟩
    · have hlt : ((k : Int) < (l.length : Int)) = False := eq_false (by omega)
      simp (maxSteps := 3000000) only [Try.f60, qcc, ptRows_len, pRows_len, rowsOf_len, bytesOf_rows, hlt, D.toI, dB, D.toB, D.toL, ptRow, tYs, evL, implies_true, oMin, oCopy, oBin, oUn, oLoadKid, oStoreTree, oField, oExtract, oNil, oSliceQ, oLoadRow, takeCells, TS.atRow, TS.ex, treeMode, AV.isOwn, TK.isSl, nilTk, nilsB, oLenQ, oLen, nodupB, treeOf, kidAbs, kidRows, TK.isCell, D.toL, oLoad, oStore, oMake, oIndexAddr, ↓reduceIte, reduceCtorEq, Nat.reduceBEq, Nat.reduceAdd, Nat.reduceMul, Nat.reduceLT, Nat.reduceSub, Nat.reduceLeDiff, Nat.reduceEqDiff, Nat.reduceBneDiff, Int.reduceToNat, decide_eq_true_eq, decide_eq_false_iff_not, beq_iff_eq, Int.toNat_natCast, loopK_normal, loopK_exit, loopK_ret, w2]
      obtain rfl : k = l.length := by omega
      rw [List.take_length]
      exact ⟨_, [(0, some _)], rfl, ⟨⟨⟨rfl, rfl, rfl⟩, trivial⟩, ⟨.inl rfl, rfl, rfl, rfl, trivial⟩, by simp [rn, hpAt]⟩⟩
  · cases hg
def qat : List (FuncId × Abs) := [(119, pureAbs g_ofOne)]
theorem qat_ok : ∀ p ∈ qat, CallOk Try.prog p.1 p.2 := by
  intro p hp
  simp only [qat, List.mem_cons, List.not_mem_nil, or_false] at hp
  rcases hp with rfl
  · exact ofOne_ok.call
set_option maxRecDepth 100000 in
theorem partAt_ok : PureOk Try.prog 54 g_partAt := by
  refine PureOk.of_vc (G := qat) qat_ok mixed Try.func54 (by kernel_rfl) rfl ?_
  intro args cnd r bs hg hc
  unfold g_partAt at hg
  split at hg
  · rename_i sz' rows' f t p h i a m u sz rows
    cases hg
    obtain ⟨l, rfl, hn, hd⟩ := hc
    rw [ptsOf_rows]
    refine ⟨⟨rfl, by simp, by simp [AV.ids, AV.ids.idsL]⟩, [.l 2 (ptRows l), .agg [.v (.int .i64 f), .v (.int .i64 t), .v (.int .i64 p), .v (.int .i64 h), .v (.int .i64 i), .v (.int .i64 a), .v (.bool m), .v (.bool u), .l sz rows]], rfl, fun w vs h => CvL.ok (.cons (.l _ _ _ (ptRows_w l)) (.cons (.refl _) .nil)) h, ?_⟩
    simp (maxSteps := 3000000) only [Try.f54, qat, ptRows_len, tYs, evL, implies_true, oMin, oCopy, oBin, oUn, oLoadKid, oStoreTree, oField, oExtract, oNil, oSliceQ, oLoadRow, takeCells, TS.atRow, TS.ex, treeMode, AV.isOwn, TK.isSl, nilTk, nilsB, oLenQ, oLen, nodupB, treeOf, kidAbs, kidRows, TK.isCell, D.toL, oLoad, oStore, oMake, oIndexAddr, ↓reduceIte, reduceCtorEq, Nat.reduceBEq, Nat.reduceAdd, Nat.reduceMul, Nat.reduceLT, Nat.reduceSub, Nat.reduceLeDiff, Nat.reduceEqDiff, Nat.reduceBneDiff, Int.reduceToNat, decide_eq_true_eq, decide_eq_false_iff_not, beq_iff_eq, Int.toNat_natCast]
    refine e_loop _ _ _ _ _ _ _ _ (fun k : Nat => [.any, .any, .any, .ptr 0 0, .any, .any, .any, .l 2 (ptRows l), .v (.int .i64 (l.length : Int)), .v (.int .i64 (k : Int))] ++ List.replicate (Try.f54.ntmps - 10) .any) (fun k => [(0, .var 29 [.v (.int .i64 f), .v (.int .i64 t), .v (.int .i64 p), .v (.int .i64 h), .v (.int .i64 i), .v (.int .i64 a), .v (.bool m), .v (.bool u), .l sz rows])]) (fun k => k ≤ l.length ∧ ∀ j, j < k → of1 (l.getD j pt0) ⟨f, t, p, h, i, a, m, u, bytesOfRows rows⟩ = false) (fun k => l.length - k) 1 (fun k => by simp) ?_ fun k hk' => ?_
    · exact ⟨0, [(0, some 0)], ⟨Nat.zero_le _, fun j hj => by omega⟩, ⟨⟨trivial, trivial, trivial, ⟨rfl, rfl, rfl⟩, trivial, trivial, trivial, ⟨rfl, rfl, rfl⟩, ⟨rfl, rfl, rfl⟩, ⟨rfl, rfl, rfl⟩, fitT_rep _ _ rfl⟩, ⟨.inl rfl, rfl, rfl, rfl, trivial⟩, by simp [rn, hpAt]⟩, by simp [keepIds]⟩
    obtain ⟨hk1, hk2⟩ := hk'
    have w2 : IntKind.i64.wrap ((k : Int) + 1) = ((k + 1 : Nat) : Int) := by rw [wrap_id] <;> omega
    by_cases hk : k < l.length
    · have hrow := ptRows_get l k hk
      have hlt : ((k : Int) < (l.length : Int)) = True := eq_true (by omega)
      have h0 : (0 ≤ (k : Int)) = True := eq_true (by omega)
      have hx := hd l[k] (List.getElem_mem hk)
      have hr0 := pRows_get l[k].ps 0 hx
      have hl0 : ((0 : Int) < (l[k].ps.length : Int)) = True := eq_true (by omega)
      have ho : of1 (l.getD k pt0) ⟨f, t, p, h, i, a, m, u, bytesOfRows rows⟩ = same4 l[k].ps[0] ⟨f, t, p, h, i, a, m, u, bytesOfRows rows⟩ := by rw [of1, pt_get hk, pk_get hx]
      simp (maxSteps := 3000000) only [Try.f54, qat, ptRows_len, pRows_len, rowsOf_len, bytesOf_rows, g_ofOne, hrow, hlt, h0, hr0, hl0, pk_eta, pRow, Int.le_refl, D.toI, dB, D.toB, D.toL, ptRow, tYs, evL, implies_true, oMin, oCopy, oBin, oUn, oLoadKid, oStoreTree, oField, oExtract, oNil, oSliceQ, oLoadRow, takeCells, TS.atRow, TS.ex, treeMode, AV.isOwn, TK.isSl, nilTk, nilsB, oLenQ, oLen, nodupB, treeOf, kidAbs, kidRows, TK.isCell, D.toL, oLoad, oStore, oMake, oIndexAddr, ↓reduceIte, reduceCtorEq, Nat.reduceBEq, Nat.reduceAdd, Nat.reduceMul, Nat.reduceLT, Nat.reduceSub, Nat.reduceLeDiff, Nat.reduceEqDiff, Nat.reduceBneDiff, Int.reduceToNat, decide_eq_true_eq, decide_eq_false_iff_not, beq_iff_eq, Int.toNat_natCast, loopK_normal, loopK_exit, loopK_ret, w2]
      refine ⟨by kernel_rfl, ?_⟩
      by_cases e1 : same4 l[k].ps[0] ⟨f, t, p, h, i, a, m, u, bytesOfRows rows⟩ = true
      · have e2 : findP l ⟨f, t, p, h, i, a, m, u, bytesOfRows rows⟩ = k := findP_eq hk1 hk2 (.inr (by rw [ho, e1]))
        rw [if_pos e1, atP, e2, if_neg (by omega)]
        exact ⟨_, [], rfl, ⟨⟨⟨rfl, rfl, rfl⟩, trivial⟩, trivial, by simp [rn, hpAt]⟩⟩
      · rw [if_neg e1]
        exact ⟨k + 1, [(0, some 0)], ⟨by omega, fun j hj => by
          by_cases hjk : j = k
          · rw [hjk, ho]; exact Bool.eq_false_iff.2 e1
          · exact hk2 j (by omega)⟩, by omega, ⟨⟨trivial, trivial, trivial, ⟨rfl, rfl, rfl⟩, trivial, trivial, trivial, ⟨rfl, rfl, rfl⟩, ⟨rfl, rfl, rfl⟩, ⟨rfl, rfl, rfl⟩, fitT_rep _ _ rfl⟩, ⟨.inl rfl, rfl, rfl, rfl, trivial⟩, by simp [rn, hpAt]⟩, by simp [keepIds]⟩
    · have hlt : ((k : Int) < (l.length : Int)) = False := eq_false (by omega)
      simp (maxSteps := 3000000) only [Try.f54, qat, ptRows_len, pRows_len, rowsOf_len, bytesOf_rows, hlt, D.toI, dB, D.toB, D.toL, ptRow, tYs, evL, implies_true, oMin, oCopy, oBin, oUn, oLoadKid, oStoreTree, oField, oExtract, oNil, oSliceQ, oLoadRow, takeCells, TS.atRow, TS.ex, treeMode, AV.isOwn, TK.isSl, nilTk, nilsB, oLenQ, oLen, nodupB, treeOf, kidAbs, kidRows, TK.isCell, D.toL, oLoad, oStore, oMake, oIndexAddr, ↓reduceIte, reduceCtorEq, Nat.reduceBEq, Nat.reduceAdd, Nat.reduceMul, Nat.reduceLT, Nat.reduceSub, Nat.reduceLeDiff, Nat.reduceEqDiff, Nat.reduceBneDiff, Int.reduceToNat, decide_eq_true_eq, decide_eq_false_iff_not, beq_iff_eq, Int.toNat_natCast, loopK_normal, loopK_exit, loopK_ret, w2]
      obtain rfl : k = l.length := by omega
      have e2 : findP l ⟨f, t, p, h, i, a, m, u, bytesOfRows rows⟩ = l.length := findP_eq (Nat.le_refl _) hk2 (.inl rfl)
      rw [atP, e2, if_pos rfl]
      exact ⟨_, [], rfl, ⟨⟨⟨rfl, rfl, rfl⟩, trivial⟩, trivial, by simp [rn, hpAt]⟩⟩
  · cases hg
def qwo : List (FuncId × Abs) := [(122, pureAbs g_partsCopied)]
theorem qwo_ok : ∀ p ∈ qwo, CallOk Try.prog p.1 p.2 := by
  intro p hp
  simp only [qwo, List.mem_cons, List.not_mem_nil, or_false] at hp
  rcases hp with rfl
  · exact partsCopied_ok.call
set_option maxRecDepth 100000 in
theorem partsWithout_ok : PureOk Try.prog 124 g_partsWithout := by
  refine PureOk.of_vc (G := qwo) qwo_ok mixed Try.func124 (by kernel_rfl) rfl ?_
  intro args cnd r bs hg hc
  unfold g_partsWithout at hg
  split at hg
  · rename_i sz rows n
    cases hg
    obtain ⟨⟨l, rfl, hm⟩, hn0, hn⟩ := hc
    rw [ptsOf_rows]
    rw [ptRows_len] at hn
    have hml := hm.1
    have w1 : IntKind.i64.wrap (n + 1) = n + 1 := by rw [wrap_id] <;> omega
    have e1 : (n + 1).toNat = n.toNat + 1 := by omega
    refine ⟨⟨rfl, by simp [flatB], by simp [AV.ids, AV.ids.idsL]⟩, [.l 2 (ptRows l), .v (.int .i64 n)], rfl, fun w vs h => CvL.ok (.cons (.l _ _ _ (ptRows_w l)) (.cons (.refl _) .nil)) h, ?_⟩
    simp (maxSteps := 3000000) only [Try.f124, qwo, g_partsCopied, ptRows_len, ptRows_take, ptRows_drop, ptRows_app, w1, e1, List.take_length, tYs, evL, implies_true, oMin, oCopy, oBin, oUn, oLoadKid, oStoreTree, oField, oExtract, oNil, oSliceQ, oLoadRow, takeCells, TS.atRow, TS.ex, treeMode, AV.isOwn, TK.isSl, nilTk, nilsB, oLenQ, oLen, nodupB, treeOf, kidAbs, kidRows, TK.isCell, D.toL, oLoad, oStore, oMake, oIndexAddr, ↓reduceIte, reduceCtorEq, Nat.reduceBEq, Nat.reduceAdd, Nat.reduceMul, Nat.reduceLT, Nat.reduceSub, Nat.reduceLeDiff, Nat.reduceEqDiff, Nat.reduceBneDiff, Int.reduceToNat, decide_eq_true_eq, decide_eq_false_iff_not, beq_iff_eq, Int.toNat_natCast]
    exact ⟨⟨hn0, by omega⟩, ⟨_, rfl, ptMid_take hm _⟩, ⟨by omega, by omega⟩, ⟨_, rfl, ptMid_drop hm _⟩, ⟨by simp only [List.length_append, ptRows_len, List.length_take, List.length_drop, List.length_cons, List.length_nil]; omega, by simp only [List.length_append, ptRows_len, List.length_take, List.length_drop, List.length_cons, List.length_nil]; omega⟩, by kernel_rfl, _, [(0, some _)], rfl, ⟨⟨⟨rfl, rfl, rfl⟩, trivial⟩, ⟨.inl rfl, rfl, rfl, rfl, trivial⟩, by simp [rn, hpAt]⟩⟩
  · cases hg
set_option maxRecDepth 100000 in
theorem isPartTime_ok : PureOk Try.prog 59 g_isPartTime := by
  refine PureOk.of_vc (G := []) (by simp) mixed Try.func59 (by kernel_rfl) rfl ?_
  intro args cnd r bs hg hc
  unfold g_isPartTime at hg
  split at hg
  · rename_i v
    cases hg
    refine ⟨⟨rfl, by simp, by simp [AV.ids, AV.ids.idsL]⟩, _, rfl, fun w vs h => h, ?_⟩
    simp (maxSteps := 3000000) only [Try.f59, tYs, evL, implies_true, oMin, oCopy, oBin, oUn, oLoadKid, oStoreTree, oField, oExtract, oNil, oSliceQ, oLoadRow, takeCells, TS.atRow, TS.ex, treeMode, AV.isOwn, TK.isSl, nilTk, nilsB, oLenQ, oLen, nodupB, treeOf, kidAbs, kidRows, TK.isCell, D.toL, oLoad, oStore, oMake, oIndexAddr, ↓reduceIte, reduceCtorEq, Nat.reduceBEq, Nat.reduceAdd, Nat.reduceMul, Nat.reduceLT, Nat.reduceSub, Nat.reduceLeDiff, Nat.reduceEqDiff, Nat.reduceBneDiff, Int.reduceToNat, decide_eq_true_eq, decide_eq_false_iff_not, beq_iff_eq, Int.toNat_natCast]
    repeat' split
    all_goals (refine ⟨_, [], rfl, ⟨⟨⟨?_, rfl, rfl⟩, trivial⟩, by simp [hpAt, fitH], by simp [hpAt]⟩⟩; refine congrArg (fun b => AV.v (Value.bool b)) ?_; first | rfl | (rw [Bool.eq_iff_iff]; simp only [inZ, decide_eq_true_eq, inZ, Bool.and_eq_true, Bool.or_eq_true, bne_iff_ne, Bool.false_eq_true, beq_eq_false_iff_ne, beq_iff_eq, ne_eq, decide_eq_false_iff_not, Bool.not_eq_eq_eq_not, Bool.not_true, Bool.not_false, false_iff, iff_false, true_iff, iff_true] at *; omega))
  · cases hg
def qok : List (FuncId × Abs) := [(53, pureAbs g_partOk), (54, pureAbs g_partAt)]
theorem qok_ok : ∀ p ∈ qok, CallOk Try.prog p.1 p.2 := by
  intro p hp
  simp only [qok, List.mem_cons, List.not_mem_nil, or_false] at hp
  rcases hp with rfl | rfl
  · exact implPartOk_ok.call
  · exact partAt_ok.call
set_option maxRecDepth 100000 in
theorem implPartsOk_ok : PureOk Try.prog 11 g_partsOk := by
  refine PureOk.of_vc (G := qok) qok_ok mixed Try.func11 (by kernel_rfl) rfl ?_
  intro args cnd r bs hg hc
  unfold g_partsOk at hg
  split at hg
  · rename_i sz rows
    cases hg
    obtain ⟨l, rfl, hn, hd⟩ := hc
    rw [ptsOf_rows]
    refine ⟨⟨rfl, by simp, by simp [AV.ids, AV.ids.idsL]⟩, [.l 2 (ptRows l)], rfl, fun w vs h => CvL.ok (.cons (.l _ _ _ (ptRows_w l)) .nil) h, ?_⟩
    simp (maxSteps := 3000000) only [Try.f11, qok, ptRows_len, tYs, evL, implies_true, oMin, oCopy, oBin, oUn, oLoadKid, oStoreTree, oField, oExtract, oNil, oSliceQ, oLoadRow, takeCells, TS.atRow, TS.ex, treeMode, AV.isOwn, TK.isSl, nilTk, nilsB, oLenQ, oLen, nodupB, treeOf, kidAbs, kidRows, TK.isCell, D.toL, oLoad, oStore, oMake, oIndexAddr, ↓reduceIte, reduceCtorEq, Nat.reduceBEq, Nat.reduceAdd, Nat.reduceMul, Nat.reduceLT, Nat.reduceSub, Nat.reduceLeDiff, Nat.reduceEqDiff, Nat.reduceBneDiff, Int.reduceToNat, decide_eq_true_eq, decide_eq_false_iff_not, beq_iff_eq, Int.toNat_natCast]
    by_cases h3 : (l.length : Int) > 3
    · rw [if_pos h3, ptsB, decide_eq_false (by omega), Bool.false_and]
      exact ⟨_, [], rfl, ⟨⟨⟨rfl, rfl, rfl⟩, trivial⟩, trivial, by simp [rn, hpAt]⟩⟩
    rw [if_neg h3]
    refine e_loop _ _ _ _ _ _ _ _ (fun k : Nat => [.l 2 (ptRows l), .any, .any, .any, .any, .any, .any, .any, .l 2 (ptRows l), .v (.int .i64 (l.length : Int)), .v (.int .i64 (k : Int))] ++ List.replicate (Try.f11.ntmps - 11) .any) (fun k => []) (fun k => k ≤ l.length ∧ ptsK l k = true) (fun k => l.length - k) 0 (fun k => by simp) ?_ fun k hk' => ?_
    · exact ⟨0, [], ⟨Nat.zero_le _, rfl⟩, ⟨⟨⟨rfl, rfl, rfl⟩, trivial, trivial, trivial, trivial, trivial, trivial, trivial, ⟨rfl, rfl, rfl⟩, ⟨rfl, rfl, rfl⟩, ⟨rfl, rfl, rfl⟩, fitT_rep _ _ rfl⟩, trivial, by simp [rn, hpAt]⟩, by simp [keepIds]⟩
    obtain ⟨hk1, hk2⟩ := hk'
    have w2 : IntKind.i64.wrap ((k : Int) + 1) = ((k + 1 : Nat) : Int) := by rw [wrap_id] <;> omega
    by_cases h : k < l.length
    · have hrow := ptRows_get l k h
      have hlt : ((k : Int) < (l.length : Int)) = True := eq_true (by omega)
      have h0 : (0 ≤ (k : Int)) = True := eq_true (by omega)
      have hx := hd l[k] (List.getElem_mem h)
      have hst : ptStep l k = (partB l[k].ps l[k].u && decide (findP (l.take k) (l[k].ps.getD 0 pk0) = k)) := by rw [ptStep, pt_get h]
      by_cases h1 : partB l[k].ps l[k].u = true
      · obtain ⟨q1, q2, q3, q4, q5⟩ := partB_all h1
        have hr0 := pRows_get l[k].ps 0 q3
        have hl0 : ((0 : Int) < (l[k].ps.length : Int)) = True := eq_true (by omega)
        rw [h1, Bool.true_and, pk_get q3] at hst
        have htl : (l.take k).length = k := by rw [List.length_take]; omega
        have hat : atP (l.take k) l[k].ps[0] = if findP (l.take k) l[k].ps[0] = k then -1 else (findP (l.take k) l[k].ps[0] : Int) := by rw [atP, htl]
        simp (maxSteps := 3000000) only [Try.f11, qok, ptRows_len, pRows_len, rowsOf_len, bytesOf_rows, g_partOk, g_partAt, psOf_rows, ptsOf_rows, ptRows_take, hrow, hlt, h0, hr0, hl0, h1, pk_eta, pRow, Int.le_refl, D.toI, dB, D.toB, D.toL, ptRow, tYs, evL, implies_true, oMin, oCopy, oBin, oUn, oLoadKid, oStoreTree, oField, oExtract, oNil, oSliceQ, oLoadRow, takeCells, TS.atRow, TS.ex, treeMode, AV.isOwn, TK.isSl, nilTk, nilsB, oLenQ, oLen, nodupB, treeOf, kidAbs, kidRows, TK.isCell, D.toL, oLoad, oStore, oMake, oIndexAddr, ↓reduceIte, reduceCtorEq, Nat.reduceBEq, Nat.reduceAdd, Nat.reduceMul, Nat.reduceLT, Nat.reduceSub, Nat.reduceLeDiff, Nat.reduceEqDiff, Nat.reduceBneDiff, Int.reduceToNat, decide_eq_true_eq, decide_eq_false_iff_not, beq_iff_eq, Int.toNat_natCast, loopK_normal, loopK_exit, loopK_ret, w2]
        refine ⟨⟨_, rfl, hx⟩, hk1, ⟨_, rfl, by rw [htl]; omega, fun y hy => ?_⟩, by kernel_rfl, ?_⟩
        · obtain ⟨j, hj, rfl⟩ := List.getElem_of_mem hy
          rw [htl] at hj
          have := ptsK_at hk2 hj
          rw [ptStep, pt_get (by omega), Bool.and_eq_true] at this
          rw [List.getElem_take]
          exact (partB_all this.1).2.2.1
        · by_cases e : findP (l.take k) l[k].ps[0] = k
          · rw [if_neg (by rw [hat, if_pos e]; omega)]
            exact ⟨k + 1, [], ⟨by omega, by rw [ptsK_succ, hk2, hst, decide_eq_true e]; rfl⟩, by omega, ⟨⟨⟨rfl, rfl, rfl⟩, trivial, trivial, trivial, trivial, trivial, trivial, trivial, ⟨rfl, rfl, rfl⟩, ⟨rfl, rfl, rfl⟩, ⟨rfl, rfl, rfl⟩, fitT_rep _ _ rfl⟩, trivial, by simp [rn, hpAt]⟩, by simp [keepIds]⟩
          · rw [if_pos (by rw [hat, if_neg e]; omega), ptsB_no h (by rw [hst, decide_eq_false e])]
            exact ⟨_, [], rfl, ⟨⟨⟨rfl, rfl, rfl⟩, trivial⟩, trivial, by simp [rn, hpAt]⟩⟩
      · rw [Bool.eq_false_iff.2 h1, Bool.false_and] at hst
        simp (maxSteps := 3000000) only [Try.f11, qok, ptRows_len, pRows_len, rowsOf_len, bytesOf_rows, g_partOk, psOf_rows, hrow, hlt, h0, Bool.eq_false_iff.2 h1, D.toI, dB, D.toB, D.toL, ptRow, tYs, evL, implies_true, oMin, oCopy, oBin, oUn, oLoadKid, oStoreTree, oField, oExtract, oNil, oSliceQ, oLoadRow, takeCells, TS.atRow, TS.ex, treeMode, AV.isOwn, TK.isSl, nilTk, nilsB, oLenQ, oLen, nodupB, treeOf, kidAbs, kidRows, TK.isCell, D.toL, oLoad, oStore, oMake, oIndexAddr, ↓reduceIte, reduceCtorEq, Nat.reduceBEq, Nat.reduceAdd, Nat.reduceMul, Nat.reduceLT, Nat.reduceSub, Nat.reduceLeDiff, Nat.reduceEqDiff, Nat.reduceBneDiff, Int.reduceToNat, decide_eq_true_eq, decide_eq_false_iff_not, beq_iff_eq, Int.toNat_natCast, loopK_normal, loopK_exit, loopK_ret, w2]
        rw [ptsB_no h hst]
        exact ⟨⟨_, rfl, hx⟩, by kernel_rfl, _, [], rfl, ⟨⟨⟨rfl, rfl, rfl⟩, trivial⟩, trivial, by simp [rn, hpAt]⟩⟩
    · have hlt : ((k : Int) < (l.length : Int)) = False := eq_false (by omega)
      simp (maxSteps := 3000000) only [Try.f11, qok, ptRows_len, pRows_len, rowsOf_len, bytesOf_rows, hlt, D.toI, dB, D.toB, D.toL, ptRow, tYs, evL, implies_true, oMin, oCopy, oBin, oUn, oLoadKid, oStoreTree, oField, oExtract, oNil, oSliceQ, oLoadRow, takeCells, TS.atRow, TS.ex, treeMode, AV.isOwn, TK.isSl, nilTk, nilsB, oLenQ, oLen, nodupB, treeOf, kidAbs, kidRows, TK.isCell, D.toL, oLoad, oStore, oMake, oIndexAddr, ↓reduceIte, reduceCtorEq, Nat.reduceBEq, Nat.reduceAdd, Nat.reduceMul, Nat.reduceLT, Nat.reduceSub, Nat.reduceLeDiff, Nat.reduceEqDiff, Nat.reduceBneDiff, Int.reduceToNat, decide_eq_true_eq, decide_eq_false_iff_not, beq_iff_eq, Int.toNat_natCast, loopK_normal, loopK_exit, loopK_ret, w2]
      obtain rfl : k = l.length := by omega
      rw [ptsB, hk2, decide_eq_true (by omega)]
      exact ⟨_, [], rfl, ⟨⟨⟨rfl, rfl, rfl⟩, trivial⟩, trivial, by simp [rn, hpAt]⟩⟩
  · cases hg
def g_packetCopiedS : PC := fun args => match args with
  | [.agg [.v (.int .i64 f), .v (.int .i64 t), .v (.int .i64 p), .v (.int .i64 h), .v (.int .i64 i), .v (.int .i64 a), .v (.bool m), .v (.bool u), .l _ rows]] => some (∃ xs, rows = rowsOfBytes xs ∧ xs.length ≤ 1048576, .agg [.v (.int .i64 f), .v (.int .i64 t), .v (.int .i64 p), .v (.int .i64 h), .v (.int .i64 i), .v (.int .i64 a), .v (.bool m), .v (.bool u), .own 0], [.sl 5 1 rows])
  | _ => none
def pcS : List (FuncId × Abs) := [(80, pureAbs g_bytesCopied)]
theorem pcS_ok : ∀ p ∈ pcS, CallOk Try.prog p.1 p.2 := by
  intro p hp
  simp only [pcS, List.mem_cons, List.not_mem_nil, or_false] at hp
  rcases hp with rfl
  · exact bytesCopied_ok.call
set_option maxRecDepth 100000 in
theorem packetCopiedS_ok : PureOk Try.prog 61 g_packetCopiedS := by
  refine PureOk.of_vc (G := pcS) pcS_ok mixed Try.func61 (by kernel_rfl) rfl ?_
  intro args cnd r bs hg hc
  unfold g_packetCopiedS at hg
  split at hg
  · rename_i f t p h i a m u sz rows
    cases hg
    obtain ⟨xs, rfl, hl⟩ := hc
    refine ⟨⟨rfl, by simpa [flatB] using rowsOf_flat xs, by simp [AV.ids, AV.ids.idsL]⟩, [.agg [.v (.int .i64 f), .v (.int .i64 t), .v (.int .i64 p), .v (.int .i64 h), .v (.int .i64 i), .v (.int .i64 a), .v (.bool m), .v (.bool u), .l 1 (rowsOfBytes xs)]], rfl, fun w vs h => CvL.ok (.cons (.cons (.refl _) (.cons (.refl _) (.cons (.refl _) (.cons (.refl _) (.cons (.refl _) (.cons (.refl _) (.cons (.refl _) (.cons (.refl _) (.cons (.l _ _ _ (rowsOf_w xs)) .nil))))))))) .nil) h, ?_⟩
    simp (maxSteps := 3000000) only [Try.f61, pcS, g_bytesCopied, tYs, evL, implies_true, oMin, oCopy, oBin, oUn, oLoadKid, oStoreTree, oField, oExtract, oNil, oSliceQ, oLoadRow, takeCells, TS.atRow, TS.ex, treeMode, AV.isOwn, TK.isSl, nilTk, nilsB, oLenQ, oLen, nodupB, treeOf, kidAbs, kidRows, TK.isCell, D.toL, oLoad, oStore, oMake, oIndexAddr, ↓reduceIte, reduceCtorEq, Nat.reduceBEq, Nat.reduceAdd, Nat.reduceMul, Nat.reduceLT, Nat.reduceSub, Nat.reduceLeDiff, Nat.reduceEqDiff, Nat.reduceBneDiff, Int.reduceToNat, decide_eq_true_eq, decide_eq_false_iff_not, beq_iff_eq, Int.toNat_natCast]
    exact ⟨⟨_, rfl, hl⟩, _, [(0, some _)], rfl, ⟨⟨⟨rfl, rfl, rfl⟩, trivial⟩, ⟨.inl rfl, rfl, rfl, rfl, trivial⟩, by simp [rn, hpAt]⟩⟩
  · cases hg
def withF (l : List Pt) (q : Pk) (now : Int) : List Pt := l ++ [⟨[q], now + 15⟩]
def g_partsWith : PC := fun args => match args with
  | [.l _ rows', .agg [.v (.int .i64 f), .v (.int .i64 t), .v (.int .i64 p), .v (.int .i64 h), .v (.int .i64 i), .v (.int .i64 a), .v (.bool m), .v (.bool u), .l _ rows], .v (.int .i64 n)] => some ((∃ l, rows' = ptRows l ∧ ptMid l ∧ l.length ≤ 1000) ∧ (∃ xs, rows = rowsOfBytes xs ∧ xs.length ≤ 1048576) ∧ 0 ≤ n ∧ n ≤ 1000000,
      (if rows'.length ≤ 2 then .own 0 else .sub 0 1 (rows'.length + 1)), [.tr .whole 38 2 [.sl 29 9 [.cell, .cell, .cell, .cell, .cell, .cell, .cell, .cell, .sl 5 1 [.cell]], .cell] (ptRows (withF (ptsOf rows') ⟨f, t, p, h, i, a, m, u, bytesOfRows rows⟩ n))])
  | _ => none
def qwi : List (FuncId × Abs) := [(61, pureAbs g_packetCopied), (122, pureAbs g_partsCopied)]
theorem qwi_ok : ∀ p ∈ qwi, CallOk Try.prog p.1 p.2 := by
  intro p hp
  simp only [qwi, List.mem_cons, List.not_mem_nil, or_false] at hp
  rcases hp with rfl | rfl
  · exact packetCopied_ok.call
  · exact partsCopied_ok.call
set_option maxRecDepth 100000 in
theorem partsWith_ok : PureOk Try.prog 62 g_partsWith := by
  refine PureOk.of_vc (G := qwi) qwi_ok mixed Try.func62 (by kernel_rfl) rfl ?_
  intro args cnd r bs hg hc
  unfold g_partsWith at hg
  split at hg
  · rename_i sz' rows' f t p h i a m u sz rows n
    cases hg
    obtain ⟨⟨l, rfl, hm, hl3⟩, ⟨xs, rfl, hl⟩, hn0, hn⟩ := hc
    rw [ptsOf_rows, bytesOf_rows, ptRows_len]
    have w1 : IntKind.i64.wrap (n + 15) = n + 15 := by rw [wrap_id] <;> omega
    have e2 : ptRows l ++ [[D.l 9 [[D.v (.int .i64 f), D.v (.int .i64 t), D.v (.int .i64 p), D.v (.int .i64 h), D.v (.int .i64 i), D.v (.int .i64 a), D.v (.bool m), D.v (.bool u), D.l 1 (rowsOfBytes xs)]], D.v (.int .i64 (n + 15))]] = ptRows (withF l ⟨f, t, p, h, i, a, m, u, xs⟩ n) := by
      rw [withF, ← ptRows_app]; rfl
    have e3 : (withF l ⟨f, t, p, h, i, a, m, u, xs⟩ n).length = l.length + 1 := by simp [withF]
    refine ⟨⟨by split <;> rfl, by simp [flatB], by split <;> simp [AV.ids, AV.ids.idsL]⟩, [.l 2 (ptRows l), .agg [.v (.int .i64 f), .v (.int .i64 t), .v (.int .i64 p), .v (.int .i64 h), .v (.int .i64 i), .v (.int .i64 a), .v (.bool m), .v (.bool u), .l 1 (rowsOfBytes xs)], .v (.int .i64 n)], rfl, fun w vs h => CvL.ok (.cons (.l _ _ _ (ptRows_w l)) (.cons (.cons (.refl _) (.cons (.refl _) (.cons (.refl _) (.cons (.refl _) (.cons (.refl _) (.cons (.refl _) (.cons (.refl _) (.cons (.refl _) (.cons (.l _ _ _ (rowsOf_w xs)) .nil))))))))) (.cons (.refl _) .nil))) h, ?_⟩
    simp (maxSteps := 3000000) only [Try.f62, qwi, g_packetCopied, g_partsCopied, ptRows_len, w1, e2, e3, tYs, evL, implies_true, oMin, oCopy, oBin, oUn, oLoadKid, oStoreTree, oField, oExtract, oNil, oSliceQ, oLoadRow, takeCells, TS.atRow, TS.ex, treeMode, AV.isOwn, TK.isSl, nilTk, nilsB, oLenQ, oLen, nodupB, treeOf, kidAbs, kidRows, TK.isCell, D.toL, oLoad, oStore, oMake, oIndexAddr, ↓reduceIte, reduceCtorEq, Nat.reduceBEq, Nat.reduceAdd, Nat.reduceMul, Nat.reduceLT, Nat.reduceSub, Nat.reduceLeDiff, Nat.reduceEqDiff, Nat.reduceBneDiff, Int.reduceToNat, decide_eq_true_eq, decide_eq_false_iff_not, beq_iff_eq, Int.toNat_natCast]
    refine ⟨⟨_, rfl, hl⟩, ⟨_, rfl, hm⟩, ⟨by omega, by omega⟩, by kernel_rfl, ?_⟩
    by_cases hg : ((l.length + 1 : Nat) : Int) > 3
    · rw [if_pos hg, if_neg (by omega)]
      exact ⟨by omega, _, [(0, some _)], rfl, ⟨⟨⟨rfl, rfl, rfl⟩, trivial⟩, ⟨.inl rfl, rfl, rfl, rfl, trivial⟩, by simp [rn, hpAt]⟩⟩
    · rw [if_neg hg, if_pos (by omega)]
      exact ⟨_, [(0, some _)], rfl, ⟨⟨⟨rfl, rfl, rfl⟩, trivial⟩, ⟨.inl rfl, rfl, rfl, rfl, trivial⟩, by simp [rn, hpAt]⟩⟩
  · cases hg
theorem ptRows_set (l : List Pt) (k : Nat) (x : Pt) : (ptRows l).set k (ptRow x) = ptRows (l.set k x) := by simp [ptRows, List.map_set]
def hitL (l : List Pt) (k : Nat) (q : Pk) : List Pt := match putO (l.getD k pt0).ps (l.getD k pt0).u q with
  | none => outP l k
  | some r => if wholeB r (l.getD k pt0).u = true then outP l k else l.set k ⟨r, (l.getD k pt0).u⟩
def hitP (l : List Pt) (k : Nat) (q : Pk) : Pk := match putO (l.getD k pt0).ps (l.getD k pt0).u q with
  | none => pk0
  | some r => wholeV r (l.getD k pt0).u
def hitB (l : List Pt) (k : Nat) (q : Pk) : Bool := match putO (l.getD k pt0).ps (l.getD k pt0).u q with
  | none => false
  | some r => wholeB r (l.getD k pt0).u
theorem putO_mid {ps r : List Pk} {u : Int} {q : Pk} (h : putO ps u q = some r) (hm : pMid ps) (hq : q.d.length ≤ 1048576) : pMid r ∧ partB r u = true := by
  unfold putO at h
  split at h
  · rename_i h1
    simp only [Bool.and_eq_true] at h1
    split at h
    · cases h; exact ⟨hm, h1.1.1⟩
    · split at h
      · rename_i h2
        cases h
        exact ⟨insK_mid hm (partB_len h1.1.1) hq, h2⟩
      · cases h
  · cases h
def g_partsPut : PC := fun args => match args with
  | [.l _ rows', .v (.int .i64 n), .agg [.v (.int .i64 f), .v (.int .i64 t), .v (.int .i64 p), .v (.int .i64 h), .v (.int .i64 i), .v (.int .i64 a), .v (.bool m), .v (.bool u), .l _ rows]] => some ((∃ l, rows' = ptRows l ∧ ptMid l ∧ l.length ≤ 1000) ∧ (∃ xs, rows = rowsOfBytes xs ∧ xs.length ≤ 1048576) ∧ 0 ≤ n ∧ n < (rows'.length : Int),
      .tup [.own 0, .agg [.v (.int .i64 (hitP (ptsOf rows') n.toNat ⟨f, t, p, h, i, a, m, u, bytesOfRows rows⟩).f), .v (.int .i64 (hitP (ptsOf rows') n.toNat ⟨f, t, p, h, i, a, m, u, bytesOfRows rows⟩).t), .v (.int .i64 (hitP (ptsOf rows') n.toNat ⟨f, t, p, h, i, a, m, u, bytesOfRows rows⟩).p), .v (.int .i64 (hitP (ptsOf rows') n.toNat ⟨f, t, p, h, i, a, m, u, bytesOfRows rows⟩).h), .v (.int .i64 (hitP (ptsOf rows') n.toNat ⟨f, t, p, h, i, a, m, u, bytesOfRows rows⟩).i), .v (.int .i64 (hitP (ptsOf rows') n.toNat ⟨f, t, p, h, i, a, m, u, bytesOfRows rows⟩).a), .v (.bool (hitP (ptsOf rows') n.toNat ⟨f, t, p, h, i, a, m, u, bytesOfRows rows⟩).m), .v (.bool (hitP (ptsOf rows') n.toNat ⟨f, t, p, h, i, a, m, u, bytesOfRows rows⟩).u), .own 1], .v (.bool (hitB (ptsOf rows') n.toNat ⟨f, t, p, h, i, a, m, u, bytesOfRows rows⟩))],
      [.tr .whole 38 2 [.sl 29 9 [.cell, .cell, .cell, .cell, .cell, .cell, .cell, .cell, .sl 5 1 [.cell]], .cell] (ptRows (hitL (ptsOf rows') n.toNat ⟨f, t, p, h, i, a, m, u, bytesOfRows rows⟩)), .sl 5 1 (rowsOfBytes (hitP (ptsOf rows') n.toNat ⟨f, t, p, h, i, a, m, u, bytesOfRows rows⟩).d)])
  | _ => none
def qpp : List (FuncId × Abs) := [(123, pureAbs g_partPut), (124, pureAbs g_partsWithout), (125, pureAbs g_partWhole), (122, pureAbs g_partsCopied)]
theorem qpp_ok : ∀ p ∈ qpp, CallOk Try.prog p.1 p.2 := by
  intro p hp
  simp only [qpp, List.mem_cons, List.not_mem_nil, or_false] at hp
  rcases hp with rfl | rfl | rfl | rfl
  · exact implPartPut_ok.call
  · exact partsWithout_ok.call
  · exact implPartWhole_ok.call
  · exact partsCopied_ok.call
set_option maxRecDepth 100000 in
theorem partsPut_ok : PureOk Try.prog 63 g_partsPut := by
  refine PureOk.of_vc (G := qpp) qpp_ok mixed Try.func63 (by kernel_rfl) rfl ?_
  intro args cnd r bs hg hc
  unfold g_partsPut at hg
  split at hg
  · rename_i sz' rows' n f t p h i a m u sz rows
    cases hg
    obtain ⟨⟨l, rfl, hm, hl3⟩, ⟨xs, rfl, hl⟩, hn0, hn⟩ := hc
    rw [ptRows_len] at hn
    obtain ⟨k, rfl⟩ : ∃ k : Nat, n = (k : Int) := ⟨n.toNat, by omega⟩
    have hk : k < l.length := by omega
    rw [ptsOf_rows, bytesOf_rows, Int.toNat_natCast]
    have hrow := ptRows_get l k hk
    have hlt : ((k : Int) < (l.length : Int)) = True := eq_true (by omega)
    have h0 : (0 ≤ (k : Int)) = True := eq_true (by omega)
    have hx := hm.2 l[k] (List.getElem_mem hk)
    refine ⟨⟨rfl, by simpa [flatB] using rowsOf_flat _, by simp [AV.ids, AV.ids.idsL]⟩, [.l 2 (ptRows l), .v (.int .i64 (k : Int)), .agg [.v (.int .i64 f), .v (.int .i64 t), .v (.int .i64 p), .v (.int .i64 h), .v (.int .i64 i), .v (.int .i64 a), .v (.bool m), .v (.bool u), .l 1 (rowsOfBytes xs)]], rfl, fun w vs h => CvL.ok (.cons (.l _ _ _ (ptRows_w l)) (.cons (.refl _) (.cons (.cons (.refl _) (.cons (.refl _) (.cons (.refl _) (.cons (.refl _) (.cons (.refl _) (.cons (.refl _) (.cons (.refl _) (.cons (.refl _) (.cons (.l _ _ _ (rowsOf_w xs)) .nil))))))))) .nil))) h, ?_⟩
    cases hO : putO l[k].ps l[k].u ⟨f, t, p, h, i, a, m, u, xs⟩ with
    | none =>
      have e1 : hitL l k ⟨f, t, p, h, i, a, m, u, xs⟩ = outP l k := by rw [hitL, pt_get hk, hO]
      have e2 : hitP l k ⟨f, t, p, h, i, a, m, u, xs⟩ = pk0 := by rw [hitP, pt_get hk, hO]
      have e3 : hitB l k ⟨f, t, p, h, i, a, m, u, xs⟩ = false := by rw [hitB, pt_get hk, hO]
      simp (maxSteps := 3000000) only [Try.f63, qpp, g_partPut, g_partsWithout, g_partWhole, g_partsCopied, ptRows_len, psOf_rows, ptsOf_rows, bytesOf_rows, rowsOf_len, Int.toNat_natCast, hrow, hlt, h0, hO, e1, e2, e3, Option.isSome_none, D.toI, D.toL, ptRow, tYs, evL, implies_true, oMin, oCopy, oBin, oUn, oLoadKid, oStoreTree, oField, oExtract, oNil, oSliceQ, oLoadRow, takeCells, TS.atRow, TS.ex, treeMode, AV.isOwn, TK.isSl, nilTk, nilsB, oLenQ, oLen, nodupB, treeOf, kidAbs, kidRows, TK.isCell, D.toL, oLoad, oStore, oMake, oIndexAddr, ↓reduceIte, reduceCtorEq, Nat.reduceBEq, Nat.reduceAdd, Nat.reduceMul, Nat.reduceLT, Nat.reduceSub, Nat.reduceLeDiff, Nat.reduceEqDiff, Nat.reduceBneDiff, Int.reduceToNat, decide_eq_true_eq, decide_eq_false_iff_not, beq_iff_eq, Int.toNat_natCast]
      exact ⟨⟨⟨_, rfl, hx⟩, _, rfl, hl⟩, by kernel_rfl, ⟨_, rfl, hm⟩, _, [(0, some _), (1, none)], rfl, ⟨⟨⟨rfl, rfl, rfl⟩, trivial⟩, ⟨.inl rfl, rfl, rfl, rfl, ⟨by omega, rfl⟩, rfl, rfl, rfl, trivial⟩, by simp [rn, hpAt]⟩⟩
    | some r =>
      obtain ⟨hr1, hr2⟩ := putO_mid hO hx hl
      have hU : putU l[k].ps l[k].u ⟨f, t, p, h, i, a, m, u, xs⟩ = l[k].u := by rw [putU, hO]; rfl
      have hL : putL l[k].ps l[k].u ⟨f, t, p, h, i, a, m, u, xs⟩ = r := by rw [putL, hO]; rfl
      by_cases hw : wholeB r l[k].u = true
      · have e1 : hitL l k ⟨f, t, p, h, i, a, m, u, xs⟩ = outP l k := by rw [hitL, pt_get hk, hO]; simp [hw]
        have e2 : hitP l k ⟨f, t, p, h, i, a, m, u, xs⟩ = wholeV r l[k].u := by rw [hitP, pt_get hk, hO]
        have e3 : hitB l k ⟨f, t, p, h, i, a, m, u, xs⟩ = true := by rw [hitB, pt_get hk, hO]; exact hw
        simp (maxSteps := 3000000) only [Try.f63, qpp, g_partPut, g_partsWithout, g_partWhole, g_partsCopied, ptRows_len, psOf_rows, ptsOf_rows, bytesOf_rows, rowsOf_len, Int.toNat_natCast, hrow, hlt, h0, hO, hU, hL, hw, e1, e2, e3, Option.isSome_some, D.toI, D.toL, ptRow, tYs, evL, implies_true, oMin, oCopy, oBin, oUn, oLoadKid, oStoreTree, oField, oExtract, oNil, oSliceQ, oLoadRow, takeCells, TS.atRow, TS.ex, treeMode, AV.isOwn, TK.isSl, nilTk, nilsB, oLenQ, oLen, nodupB, treeOf, kidAbs, kidRows, TK.isCell, D.toL, oLoad, oStore, oMake, oIndexAddr, ↓reduceIte, reduceCtorEq, Nat.reduceBEq, Nat.reduceAdd, Nat.reduceMul, Nat.reduceLT, Nat.reduceSub, Nat.reduceLeDiff, Nat.reduceEqDiff, Nat.reduceBneDiff, Int.reduceToNat, decide_eq_true_eq, decide_eq_false_iff_not, beq_iff_eq, Int.toNat_natCast]
        exact ⟨⟨⟨_, rfl, hx⟩, _, rfl, hl⟩, by kernel_rfl, ⟨_, rfl, hr1⟩, ⟨_, rfl, hm⟩, by kernel_rfl, _, [(0, some _), (1, some _)], rfl, ⟨⟨⟨rfl, rfl, rfl⟩, trivial⟩, ⟨.inl rfl, rfl, rfl, rfl, .inl rfl, rfl, rfl, rfl, trivial⟩, by simp [rn, hpAt]⟩⟩
      · have hw := Bool.eq_false_iff.2 hw
        have e1 : hitL l k ⟨f, t, p, h, i, a, m, u, xs⟩ = l.set k ⟨r, l[k].u⟩ := by rw [hitL, pt_get hk, hO]; simp [hw]
        have e2 : hitP l k ⟨f, t, p, h, i, a, m, u, xs⟩ = pk0 := by rw [hitP, pt_get hk, hO]; show wholeV r l[k].u = pk0; rw [wholeV, hw]; rfl
        have e3 : hitB l k ⟨f, t, p, h, i, a, m, u, xs⟩ = false := by rw [hitB, pt_get hk, hO]; exact hw
        have e4 : (ptRows l).set k [D.l 9 (pRows r), D.v (.int .i64 l[k].u)] = ptRows (l.set k ⟨r, l[k].u⟩) := ptRows_set l k ⟨r, l[k].u⟩
        simp (maxSteps := 3000000) only [Try.f63, qpp, g_partPut, g_partsWithout, g_partWhole, g_partsCopied, ptRows_len, psOf_rows, ptsOf_rows, bytesOf_rows, rowsOf_len, Int.toNat_natCast, hrow, hlt, h0, hO, hU, hL, hw, e1, e2, e3, e4, Option.isSome_some, D.toI, D.toL, ptRow, tYs, evL, implies_true, oMin, oCopy, oBin, oUn, oLoadKid, oStoreTree, oField, oExtract, oNil, oSliceQ, oLoadRow, takeCells, TS.atRow, TS.ex, treeMode, AV.isOwn, TK.isSl, nilTk, nilsB, oLenQ, oLen, nodupB, treeOf, kidAbs, kidRows, TK.isCell, D.toL, oLoad, oStore, oMake, oIndexAddr, ↓reduceIte, reduceCtorEq, Nat.reduceBEq, Nat.reduceAdd, Nat.reduceMul, Nat.reduceLT, Nat.reduceSub, Nat.reduceLeDiff, Nat.reduceEqDiff, Nat.reduceBneDiff, Int.reduceToNat, decide_eq_true_eq, decide_eq_false_iff_not, beq_iff_eq, Int.toNat_natCast]
        exact ⟨⟨⟨_, rfl, hx⟩, _, rfl, hl⟩, by kernel_rfl, ⟨_, rfl, hr1⟩, ⟨_, rfl, hm⟩, hk, _, [(0, some _), (1, none)], rfl, ⟨⟨⟨rfl, rfl, rfl⟩, trivial⟩, ⟨.inl rfl, rfl, rfl, rfl, ⟨by omega, rfl⟩, rfl, rfl, rfl, trivial⟩, by simp [rn, hpAt]⟩⟩
  · cases hg
def phOk (l : List Pt) (q : Pk) (n : Int) : Bool := ptsB l && q.ok && inZ n 0 999985
def alone (q : Pk) : Bool := decide (q.a = 0) && !q.m
def phF (l : List Pt) (q : Pk) (n : Int) : List Pt := if phOk l q n = true then (if alone q = true then liveP l n else if findP (liveP l n) q = (liveP l n).length then withF (liveP l n) q n else hitL (liveP l n) (findP (liveP l n) q) q) else []
def phP (l : List Pt) (q : Pk) (n : Int) : Pk := if phOk l q n = true then (if alone q = true then q else if findP (liveP l n) q = (liveP l n).length then pk0 else hitP (liveP l n) (findP (liveP l n) q) q) else pk0
def phB (l : List Pt) (q : Pk) (n : Int) : Bool := phOk l q n && (alone q || (!decide (findP (liveP l n) q = (liveP l n).length) && hitB (liveP l n) (findP (liveP l n) q) q))
def phS (l : List Pt) (q : Pk) (n : Int) : Bool := phOk l q n && (!alone q && decide (findP (liveP l n) q = (liveP l n).length) && !decide ((liveP l n).length ≤ 2))
theorem liveP_mem {l : List Pt} {n : Int} {x : Pt} (h : x ∈ liveP l n) : x ∈ l := (List.mem_filter.1 h).1
theorem liveP_len (l : List Pt) (n : Int) : (liveP l n).length ≤ l.length := List.length_filter_le _ _
theorem ptsB_all {l : List Pt} (h : ptsB l = true) : l.length ≤ 3 ∧ ∀ x ∈ l, partB x.ps x.u = true := by
  simp only [ptsB, Bool.and_eq_true, decide_eq_true_eq] at h
  refine ⟨h.1, fun x hx => ?_⟩
  obtain ⟨j, hj, rfl⟩ := List.getElem_of_mem hx
  have := ptsK_at h.2 hj
  rw [ptStep, pt_get hj, Bool.and_eq_true] at this
  exact this.1
def g_partsHear : PC := fun args => match args with
  | [.l _ rows', .agg [.v (.int .i64 f), .v (.int .i64 t), .v (.int .i64 p), .v (.int .i64 h), .v (.int .i64 i), .v (.int .i64 a), .v (.bool m), .v (.bool u), .l _ rows], .v (.int .i64 n)] => some ((∃ l, rows' = ptRows l ∧ ptMid l) ∧ (∃ xs, rows = rowsOfBytes xs ∧ xs.length ≤ 1048576),
      .tup [(if phS (ptsOf rows') ⟨f, t, p, h, i, a, m, u, bytesOfRows rows⟩ n = true then .sub 0 1 4 else .own 0), .agg [.v (.int .i64 (phP (ptsOf rows') ⟨f, t, p, h, i, a, m, u, bytesOfRows rows⟩ n).f), .v (.int .i64 (phP (ptsOf rows') ⟨f, t, p, h, i, a, m, u, bytesOfRows rows⟩ n).t), .v (.int .i64 (phP (ptsOf rows') ⟨f, t, p, h, i, a, m, u, bytesOfRows rows⟩ n).p), .v (.int .i64 (phP (ptsOf rows') ⟨f, t, p, h, i, a, m, u, bytesOfRows rows⟩ n).h), .v (.int .i64 (phP (ptsOf rows') ⟨f, t, p, h, i, a, m, u, bytesOfRows rows⟩ n).i), .v (.int .i64 (phP (ptsOf rows') ⟨f, t, p, h, i, a, m, u, bytesOfRows rows⟩ n).a), .v (.bool (phP (ptsOf rows') ⟨f, t, p, h, i, a, m, u, bytesOfRows rows⟩ n).m), .v (.bool (phP (ptsOf rows') ⟨f, t, p, h, i, a, m, u, bytesOfRows rows⟩ n).u), .own 1], .v (.bool (phB (ptsOf rows') ⟨f, t, p, h, i, a, m, u, bytesOfRows rows⟩ n))],
      [.tr .whole 38 2 [.sl 29 9 [.cell, .cell, .cell, .cell, .cell, .cell, .cell, .cell, .sl 5 1 [.cell]], .cell] (ptRows (phF (ptsOf rows') ⟨f, t, p, h, i, a, m, u, bytesOfRows rows⟩ n)), .sl 5 1 (rowsOfBytes (phP (ptsOf rows') ⟨f, t, p, h, i, a, m, u, bytesOfRows rows⟩ n).d)])
  | _ => none
def qhe : List (FuncId × Abs) := [(11, pureAbs g_partsOk), (19, pureAbs g_packetOk), (59, pureAbs g_isPartTime), (60, pureAbs g_partsLive), (61, pureAbs g_packetCopiedS), (54, pureAbs g_partAt), (62, pureAbs g_partsWith), (63, pureAbs g_partsPut)]
theorem qhe_ok : ∀ p ∈ qhe, CallOk Try.prog p.1 p.2 := by
  intro p hp
  simp only [qhe, List.mem_cons, List.not_mem_nil, or_false] at hp
  rcases hp with rfl | rfl | rfl | rfl | rfl | rfl | rfl | rfl
  · exact implPartsOk_ok.call
  · exact implPacketOk_ok.call
  · exact isPartTime_ok.call
  · exact partsLive_ok.call
  · exact packetCopiedS_ok.call
  · exact partAt_ok.call
  · exact partsWith_ok.call
  · exact partsPut_ok.call
set_option maxRecDepth 100000 in
theorem implPartsHear_ok : PureOk Try.prog 15 g_partsHear := by
  refine PureOk.of_vc (G := qhe) qhe_ok mixed Try.func15 (by kernel_rfl) rfl ?_
  intro args cnd r bs hg hc
  unfold g_partsHear at hg
  split at hg
  · rename_i sz' rows' f t p h i a m u sz rows n
    cases hg
    obtain ⟨⟨l, rfl, hm⟩, xs, rfl, hl⟩ := hc
    rw [ptsOf_rows, bytesOf_rows]
    have hOk : phOk l ⟨f, t, p, h, i, a, m, u, xs⟩ n = (ptsB l && pkB f t p h i a m u xs.length && inZ n 0 999985) := rfl
    have no : phOk l ⟨f, t, p, h, i, a, m, u, xs⟩ n = false → phF l ⟨f, t, p, h, i, a, m, u, xs⟩ n = [] ∧ phP l ⟨f, t, p, h, i, a, m, u, xs⟩ n = pk0 ∧ phB l ⟨f, t, p, h, i, a, m, u, xs⟩ n = false ∧ phS l ⟨f, t, p, h, i, a, m, u, xs⟩ n = false := fun e => by
      simp [phF, phP, phB, phS, e]
    refine ⟨⟨by split <;> rfl, by simpa [flatB] using rowsOf_flat _, by split <;> simp [AV.ids, AV.ids.idsL]⟩, [.l 2 (ptRows l), .agg [.v (.int .i64 f), .v (.int .i64 t), .v (.int .i64 p), .v (.int .i64 h), .v (.int .i64 i), .v (.int .i64 a), .v (.bool m), .v (.bool u), .l 1 (rowsOfBytes xs)], .v (.int .i64 n)], rfl, fun w vs h => CvL.ok (.cons (.l _ _ _ (ptRows_w l)) (.cons (.cons (.refl _) (.cons (.refl _) (.cons (.refl _) (.cons (.refl _) (.cons (.refl _) (.cons (.refl _) (.cons (.refl _) (.cons (.refl _) (.cons (.l _ _ _ (rowsOf_w xs)) .nil))))))))) (.cons (.refl _) .nil))) h, ?_⟩
    by_cases h1 : ptsB l = true
    · by_cases h2 : pkB f t p h i a m u xs.length = true
      · by_cases h3 : inZ n 0 999985 = true
        · rw [h1, h2, h3] at hOk
          replace hOk : phOk l ⟨f, t, p, h, i, a, m, u, xs⟩ n = true := hOk
          have hn : 0 ≤ n ∧ n ≤ 999985 := by simpa [inZ] using h3
          obtain ⟨hl3, hall⟩ := ptsB_all h1
          have hlv := liveP_len l n
          have hmv : ptMid (liveP l n) := ⟨by omega, fun x hx => hm.2 x (liveP_mem hx)⟩
          have hne : ∀ x ∈ liveP l n, 0 < x.ps.length := fun x hx => (partB_all (hall x (liveP_mem hx))).2.2.1
          have hal : alone ⟨f, t, p, h, i, a, m, u, xs⟩ = (decide (a = 0) && !m) := rfl
          by_cases al : alone ⟨f, t, p, h, i, a, m, u, xs⟩ = true
          · have e1 : phF l ⟨f, t, p, h, i, a, m, u, xs⟩ n = liveP l n := by rw [phF, if_pos hOk, if_pos al]
            have e2 : phP l ⟨f, t, p, h, i, a, m, u, xs⟩ n = ⟨f, t, p, h, i, a, m, u, xs⟩ := by rw [phP, if_pos hOk, if_pos al]
            have e3 : phB l ⟨f, t, p, h, i, a, m, u, xs⟩ n = true := by rw [phB, hOk, al]; rfl
            have e4 : phS l ⟨f, t, p, h, i, a, m, u, xs⟩ n = false := by rw [phS, al]; simp
            rw [hal, Bool.and_eq_true, decide_eq_true_eq] at al
            obtain ⟨ha, hmm⟩ := al
            subst ha
            have hmm : m = false := by simpa using hmm
            subst hmm
            simp (maxSteps := 3000000) only [Try.f15, qhe, g_partsOk, g_packetOk, g_isPartTime, g_partsLive, g_packetCopiedS, g_partAt, g_partsWith, g_partsPut, ptRows_len, ptsOf_rows, bytesOf_rows, rowsOf_len, Int.toNat_natCast, h1, h2, h3, e1, e2, e3, e4, beq_self_eq_true, D.toI, D.toL, tYs, evL, implies_true, oMin, oCopy, oBin, oUn, oLoadKid, oStoreTree, oField, oExtract, oNil, oSliceQ, oLoadRow, takeCells, TS.atRow, TS.ex, treeMode, AV.isOwn, TK.isSl, nilTk, nilsB, oLenQ, oLen, nodupB, treeOf, kidAbs, kidRows, TK.isCell, D.toL, oLoad, oStore, oMake, oIndexAddr, ↓reduceIte, reduceCtorEq, Nat.reduceBEq, Nat.reduceAdd, Nat.reduceMul, Nat.reduceLT, Nat.reduceSub, Nat.reduceLeDiff, Nat.reduceEqDiff, Nat.reduceBneDiff, Int.reduceToNat, decide_eq_true_eq, decide_eq_false_iff_not, beq_iff_eq, Int.toNat_natCast]
            exact ⟨⟨_, rfl, hm⟩, ⟨_, rfl, hm⟩, ⟨_, rfl, hl⟩, _, [(0, some _), (1, some _)], rfl, ⟨⟨⟨rfl, rfl, rfl⟩, trivial⟩, ⟨.inl rfl, rfl, rfl, rfl, .inl rfl, rfl, rfl, rfl, trivial⟩, by simp [rn, hpAt]⟩⟩
          · have al := Bool.eq_false_iff.2 al
            have hal2 : ((a == 0) && (m == false)) = false := by
              rw [hal] at al
              cases m <;> simp at al ⊢
              exact al
            by_cases fd : findP (liveP l n) ⟨f, t, p, h, i, a, m, u, xs⟩ = (liveP l n).length
            · have hat : atP (liveP l n) ⟨f, t, p, h, i, a, m, u, xs⟩ = -1 := by rw [atP, if_pos fd]
              have hm1 : ((-1 : Int) < 0) = True := eq_true (by omega)
              have e1 : phF l ⟨f, t, p, h, i, a, m, u, xs⟩ n = withF (liveP l n) ⟨f, t, p, h, i, a, m, u, xs⟩ n := by rw [phF, if_pos hOk, if_neg (by simp [al]), if_pos fd]
              have e2 : phP l ⟨f, t, p, h, i, a, m, u, xs⟩ n = pk0 := by rw [phP, if_pos hOk, if_neg (by simp [al]), if_pos fd]
              have e3 : phB l ⟨f, t, p, h, i, a, m, u, xs⟩ n = false := by rw [phB, hOk, al, decide_eq_true fd]; rfl
              have e4 : phS l ⟨f, t, p, h, i, a, m, u, xs⟩ n = !decide ((liveP l n).length ≤ 2) := by rw [phS, hOk, al, decide_eq_true fd]; simp
              by_cases le : (liveP l n).length ≤ 2
              · have le' := eq_true le
                simp (maxSteps := 3000000) only [Try.f15, qhe, g_partsOk, g_packetOk, g_isPartTime, g_partsLive, g_packetCopiedS, g_partAt, g_partsWith, g_partsPut, ptRows_len, ptsOf_rows, bytesOf_rows, rowsOf_len, Int.toNat_natCast, h1, h2, h3, e1, e2, e3, e4, hat, le', hm1, decide_true, D.toI, D.toL, tYs, evL, implies_true, oMin, oCopy, oBin, oUn, oLoadKid, oStoreTree, oField, oExtract, oNil, oSliceQ, oLoadRow, takeCells, TS.atRow, TS.ex, treeMode, AV.isOwn, TK.isSl, nilTk, nilsB, oLenQ, oLen, nodupB, treeOf, kidAbs, kidRows, TK.isCell, D.toL, oLoad, oStore, oMake, oIndexAddr, ↓reduceIte, reduceCtorEq, Nat.reduceBEq, Nat.reduceAdd, Nat.reduceMul, Nat.reduceLT, Nat.reduceSub, Nat.reduceLeDiff, Nat.reduceEqDiff, Nat.reduceBneDiff, Int.reduceToNat, decide_eq_true_eq, decide_eq_false_iff_not, beq_iff_eq, Int.toNat_natCast]
                refine ⟨⟨_, rfl, hm⟩, ⟨_, rfl, hm⟩, ?_⟩
                by_cases ha : a = 0
                · have hmt : m = true := by subst ha; cases m <;> simp at hal2 ⊢
                  rw [if_pos ha, if_neg (by simp [hmt])]
                  exact ⟨⟨_, rfl, by omega, hne⟩, ⟨⟨_, rfl, hmv, by omega⟩, ⟨_, rfl, hl⟩, by omega, by omega⟩, _, [(0, some _), (1, none)], rfl, ⟨⟨⟨rfl, rfl, rfl⟩, trivial⟩, ⟨.inl rfl, rfl, rfl, rfl, ⟨by omega, rfl⟩, rfl, rfl, rfl, trivial⟩, by simp [rn, hpAt]⟩⟩
                · rw [if_neg ha]
                  exact ⟨⟨_, rfl, by omega, hne⟩, ⟨⟨_, rfl, hmv, by omega⟩, ⟨_, rfl, hl⟩, by omega, by omega⟩, _, [(0, some _), (1, none)], rfl, ⟨⟨⟨rfl, rfl, rfl⟩, trivial⟩, ⟨.inl rfl, rfl, rfl, rfl, ⟨by omega, rfl⟩, rfl, rfl, rfl, trivial⟩, by simp [rn, hpAt]⟩⟩
              · have le' := eq_false le
                have l3 : (liveP l n).length = 3 := by omega
                simp (maxSteps := 3000000) only [Try.f15, qhe, g_partsOk, g_packetOk, g_isPartTime, g_partsLive, g_packetCopiedS, g_partAt, g_partsWith, g_partsPut, ptRows_len, ptsOf_rows, bytesOf_rows, rowsOf_len, Int.toNat_natCast, h1, h2, h3, e1, e2, e3, e4, hat, l3, hm1, decide_false, D.toI, D.toL, tYs, evL, implies_true, oMin, oCopy, oBin, oUn, oLoadKid, oStoreTree, oField, oExtract, oNil, oSliceQ, oLoadRow, takeCells, TS.atRow, TS.ex, treeMode, AV.isOwn, TK.isSl, nilTk, nilsB, oLenQ, oLen, nodupB, treeOf, kidAbs, kidRows, TK.isCell, D.toL, oLoad, oStore, oMake, oIndexAddr, ↓reduceIte, reduceCtorEq, Nat.reduceBEq, Nat.reduceAdd, Nat.reduceMul, Nat.reduceLT, Nat.reduceSub, Nat.reduceLeDiff, Nat.reduceEqDiff, Nat.reduceBneDiff, Int.reduceToNat, decide_eq_true_eq, decide_eq_false_iff_not, beq_iff_eq, Int.toNat_natCast]
                refine ⟨⟨_, rfl, hm⟩, ⟨_, rfl, hm⟩, ?_⟩
                by_cases ha : a = 0
                · have hmt : m = true := by subst ha; cases m <;> simp at hal2 ⊢
                  rw [if_pos ha, if_neg (by simp [hmt])]
                  exact ⟨⟨_, rfl, by omega, hne⟩, ⟨⟨_, rfl, hmv, by omega⟩, ⟨_, rfl, hl⟩, by omega, by omega⟩, _, [(0, some _), (1, none)], rfl, ⟨⟨⟨rfl, rfl, rfl⟩, trivial⟩, ⟨.inl rfl, rfl, rfl, rfl, ⟨by omega, rfl⟩, rfl, rfl, rfl, trivial⟩, by simp [rn, hpAt]⟩⟩
                · rw [if_neg ha]
                  exact ⟨⟨_, rfl, by omega, hne⟩, ⟨⟨_, rfl, hmv, by omega⟩, ⟨_, rfl, hl⟩, by omega, by omega⟩, _, [(0, some _), (1, none)], rfl, ⟨⟨⟨rfl, rfl, rfl⟩, trivial⟩, ⟨.inl rfl, rfl, rfl, rfl, ⟨by omega, rfl⟩, rfl, rfl, rfl, trivial⟩, by simp [rn, hpAt]⟩⟩
            · have hat : atP (liveP l n) ⟨f, t, p, h, i, a, m, u, xs⟩ = ((findP (liveP l n) ⟨f, t, p, h, i, a, m, u, xs⟩ : Nat) : Int) := by rw [atP, if_neg fd]
              have hfl := findP_le (liveP l n) ⟨f, t, p, h, i, a, m, u, xs⟩
              have hneg : (((findP (liveP l n) ⟨f, t, p, h, i, a, m, u, xs⟩ : Nat) : Int) < 0) = False := eq_false (by omega)
              have e1 : phF l ⟨f, t, p, h, i, a, m, u, xs⟩ n = hitL (liveP l n) (findP (liveP l n) ⟨f, t, p, h, i, a, m, u, xs⟩) ⟨f, t, p, h, i, a, m, u, xs⟩ := by rw [phF, if_pos hOk, if_neg (by simp [al]), if_neg fd]
              have e2 : phP l ⟨f, t, p, h, i, a, m, u, xs⟩ n = hitP (liveP l n) (findP (liveP l n) ⟨f, t, p, h, i, a, m, u, xs⟩) ⟨f, t, p, h, i, a, m, u, xs⟩ := by rw [phP, if_pos hOk, if_neg (by simp [al]), if_neg fd]
              have e3 : phB l ⟨f, t, p, h, i, a, m, u, xs⟩ n = hitB (liveP l n) (findP (liveP l n) ⟨f, t, p, h, i, a, m, u, xs⟩) ⟨f, t, p, h, i, a, m, u, xs⟩ := by rw [phB, hOk, al, decide_eq_false fd]; rfl
              have e4 : phS l ⟨f, t, p, h, i, a, m, u, xs⟩ n = false := by rw [phS, decide_eq_false fd]; simp
              simp (maxSteps := 3000000) only [Try.f15, qhe, g_partsOk, g_packetOk, g_isPartTime, g_partsLive, g_packetCopiedS, g_partAt, g_partsWith, g_partsPut, ptRows_len, ptsOf_rows, bytesOf_rows, rowsOf_len, Int.toNat_natCast, h1, h2, h3, e1, e2, e3, e4, hat, hneg, D.toI, D.toL, tYs, evL, implies_true, oMin, oCopy, oBin, oUn, oLoadKid, oStoreTree, oField, oExtract, oNil, oSliceQ, oLoadRow, takeCells, TS.atRow, TS.ex, treeMode, AV.isOwn, TK.isSl, nilTk, nilsB, oLenQ, oLen, nodupB, treeOf, kidAbs, kidRows, TK.isCell, D.toL, oLoad, oStore, oMake, oIndexAddr, ↓reduceIte, reduceCtorEq, Nat.reduceBEq, Nat.reduceAdd, Nat.reduceMul, Nat.reduceLT, Nat.reduceSub, Nat.reduceLeDiff, Nat.reduceEqDiff, Nat.reduceBneDiff, Int.reduceToNat, decide_eq_true_eq, decide_eq_false_iff_not, beq_iff_eq, Int.toNat_natCast]
              refine ⟨⟨_, rfl, hm⟩, ⟨_, rfl, hm⟩, ?_⟩
              by_cases ha : a = 0
              · have hmt : m = true := by subst ha; cases m <;> simp at hal2 ⊢
                rw [if_pos ha, if_neg (by simp [hmt])]
                exact ⟨⟨_, rfl, by omega, hne⟩, ⟨⟨_, rfl, hmv, by omega⟩, ⟨_, rfl, hl⟩, by omega, by omega⟩, _, [(0, some _), (1, some _)], rfl, ⟨⟨⟨rfl, rfl, rfl⟩, trivial⟩, ⟨.inl rfl, rfl, rfl, rfl, .inl rfl, rfl, rfl, rfl, trivial⟩, by simp [rn, hpAt]⟩⟩
              · rw [if_neg ha]
                exact ⟨⟨_, rfl, by omega, hne⟩, ⟨⟨_, rfl, hmv, by omega⟩, ⟨_, rfl, hl⟩, by omega, by omega⟩, _, [(0, some _), (1, some _)], rfl, ⟨⟨⟨rfl, rfl, rfl⟩, trivial⟩, ⟨.inl rfl, rfl, rfl, rfl, .inl rfl, rfl, rfl, rfl, trivial⟩, by simp [rn, hpAt]⟩⟩
        · obtain ⟨e1, e2, e3, e4⟩ := no (by rw [hOk, Bool.eq_false_iff.2 h3]; simp)
          simp (maxSteps := 3000000) only [Try.f15, qhe, g_partsOk, g_packetOk, g_isPartTime, g_partsLive, g_packetCopiedS, g_partAt, g_partsWith, g_partsPut, ptRows_len, ptsOf_rows, bytesOf_rows, rowsOf_len, Int.toNat_natCast, h1, h2, Bool.eq_false_iff.2 h3, e1, e2, e3, e4, D.toI, D.toL, tYs, evL, implies_true, oMin, oCopy, oBin, oUn, oLoadKid, oStoreTree, oField, oExtract, oNil, oSliceQ, oLoadRow, takeCells, TS.atRow, TS.ex, treeMode, AV.isOwn, TK.isSl, nilTk, nilsB, oLenQ, oLen, nodupB, treeOf, kidAbs, kidRows, TK.isCell, D.toL, oLoad, oStore, oMake, oIndexAddr, ↓reduceIte, reduceCtorEq, Nat.reduceBEq, Nat.reduceAdd, Nat.reduceMul, Nat.reduceLT, Nat.reduceSub, Nat.reduceLeDiff, Nat.reduceEqDiff, Nat.reduceBneDiff, Int.reduceToNat, decide_eq_true_eq, decide_eq_false_iff_not, beq_iff_eq, Int.toNat_natCast]
          exact ⟨⟨_, rfl, hm⟩, _, [(0, none), (1, none)], rfl, ⟨⟨⟨rfl, rfl, rfl⟩, trivial⟩, ⟨⟨by omega, rfl, rfl⟩, rfl, rfl, rfl, ⟨by omega, rfl⟩, rfl, rfl, rfl, trivial⟩, by simp [rn, hpAt]⟩⟩
      · obtain ⟨e1, e2, e3, e4⟩ := no (by rw [hOk, Bool.eq_false_iff.2 h2]; simp)
        simp (maxSteps := 3000000) only [Try.f15, qhe, g_partsOk, g_packetOk, g_isPartTime, g_partsLive, g_packetCopiedS, g_partAt, g_partsWith, g_partsPut, ptRows_len, ptsOf_rows, bytesOf_rows, rowsOf_len, Int.toNat_natCast, h1, Bool.eq_false_iff.2 h2, e1, e2, e3, e4, D.toI, D.toL, tYs, evL, implies_true, oMin, oCopy, oBin, oUn, oLoadKid, oStoreTree, oField, oExtract, oNil, oSliceQ, oLoadRow, takeCells, TS.atRow, TS.ex, treeMode, AV.isOwn, TK.isSl, nilTk, nilsB, oLenQ, oLen, nodupB, treeOf, kidAbs, kidRows, TK.isCell, D.toL, oLoad, oStore, oMake, oIndexAddr, ↓reduceIte, reduceCtorEq, Nat.reduceBEq, Nat.reduceAdd, Nat.reduceMul, Nat.reduceLT, Nat.reduceSub, Nat.reduceLeDiff, Nat.reduceEqDiff, Nat.reduceBneDiff, Int.reduceToNat, decide_eq_true_eq, decide_eq_false_iff_not, beq_iff_eq, Int.toNat_natCast]
        exact ⟨⟨_, rfl, hm⟩, _, [(0, none), (1, none)], rfl, ⟨⟨⟨rfl, rfl, rfl⟩, trivial⟩, ⟨⟨by omega, rfl, rfl⟩, rfl, rfl, rfl, ⟨by omega, rfl⟩, rfl, rfl, rfl, trivial⟩, by simp [rn, hpAt]⟩⟩
    · obtain ⟨e1, e2, e3, e4⟩ := no (by rw [hOk, Bool.eq_false_iff.2 h1]; rfl)
      simp (maxSteps := 3000000) only [Try.f15, qhe, g_partsOk, g_packetOk, g_isPartTime, g_partsLive, g_packetCopiedS, g_partAt, g_partsWith, g_partsPut, ptRows_len, ptsOf_rows, bytesOf_rows, rowsOf_len, Int.toNat_natCast, Bool.eq_false_iff.2 h1, e1, e2, e3, e4, D.toI, D.toL, tYs, evL, implies_true, oMin, oCopy, oBin, oUn, oLoadKid, oStoreTree, oField, oExtract, oNil, oSliceQ, oLoadRow, takeCells, TS.atRow, TS.ex, treeMode, AV.isOwn, TK.isSl, nilTk, nilsB, oLenQ, oLen, nodupB, treeOf, kidAbs, kidRows, TK.isCell, D.toL, oLoad, oStore, oMake, oIndexAddr, ↓reduceIte, reduceCtorEq, Nat.reduceBEq, Nat.reduceAdd, Nat.reduceMul, Nat.reduceLT, Nat.reduceSub, Nat.reduceLeDiff, Nat.reduceEqDiff, Nat.reduceBneDiff, Int.reduceToNat, decide_eq_true_eq, decide_eq_false_iff_not, beq_iff_eq, Int.toNat_natCast]
      exact ⟨⟨_, rfl, hm⟩, _, [(0, none), (1, none)], rfl, ⟨⟨⟨rfl, rfl, rfl⟩, trivial⟩, ⟨⟨by omega, rfl, rfl⟩, rfl, rfl, rfl, ⟨by omega, rfl⟩, rfl, rfl, rfl, trivial⟩, by simp [rn, hpAt]⟩⟩
  · cases hg
end Go.Proofs.Ytegffkmakkccaaa
