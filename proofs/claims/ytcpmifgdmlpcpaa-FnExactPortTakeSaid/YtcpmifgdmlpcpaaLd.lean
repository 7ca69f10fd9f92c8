import Derived.Test.YtcpmifgdmlpcpaaLc
set_option linter.unusedVariables false
set_option linter.unusedSimpArgs false
namespace Go.Proofs.Ytcpmifgdmlpcpaa
open Go.RowKit
set_option linter.unusedSimpArgs false
def mlRow (m : Ml) : List D := [.v (.int .i64 m.a), .v (.int .i64 m.f), .v (.int .i64 m.t), .l 1 (rowsOfBytes m.d)]
def mRows (l : List Ml) : List (List D) := l.map mlRow
def mlOf (r : List D) : Ml := ⟨(r.getD 0 (.v undef)).toI, (r.getD 1 (.v undef)).toI, (r.getD 2 (.v undef)).toI, bytesOfRows (r.getD 3 (.v undef)).toL⟩
def msOf (rows : List (List D)) : List Ml := rows.map mlOf
theorem msOf_rows (l : List Ml) : msOf (mRows l) = l := by
  unfold msOf mRows
  rw [List.map_map]
  have : mlOf ∘ mlRow = id := by
    funext x
    show (⟨x.a, x.f, x.t, bytesOfRows (rowsOfBytes x.d)⟩ : Ml) = x
    rw [bytesOf_rows]
  rw [this, List.map_id]
theorem mRows_len (l : List Ml) : (mRows l).length = l.length := by simp [mRows]
theorem mRows_w (l : List Ml) : ∀ r ∈ mRows l, r.length = 4 := fun r hr => by
  obtain ⟨e, _, rfl⟩ := List.mem_map.1 hr
  rfl
theorem mRows_get (l : List Ml) (k : Nat) (h : k < l.length) : (mRows l).getD k [] = mlRow l[k] := by
  unfold mRows
  rw [List.getD_eq_getElem?_getD, List.getElem?_map, List.getElem?_eq_getElem h]; rfl
theorem mRows_take (l : List Ml) (k : Nat) : (mRows l).take k = mRows (l.take k) := by simp [mRows, List.map_take]
theorem mRows_drop (l : List Ml) (k : Nat) : (mRows l).drop k = mRows (l.drop k) := by simp [mRows, List.map_drop]
theorem mRows_app (a b : List Ml) : mRows a ++ mRows b = mRows (a ++ b) := by simp [mRows]
theorem ml_get {l : List Ml} {k : Nat} (h : k < l.length) : l.getD k ml0 = l[k] := by simp [List.getD, h]
def mMid (l : List Ml) : Prop := l.length ≤ 1048576 ∧ ∀ x ∈ l, x.d.length ≤ 1048576
def poRow (x : Po) : List D := [.v (.int .i64 x.n), .l 4 (mRows x.row)]
def poRows (l : List Po) : List (List D) := l.map poRow
def poOf (r : List D) : Po := ⟨(r.getD 0 (.v undef)).toI, msOf (r.getD 1 (.v undef)).toL⟩
def posOf (rows : List (List D)) : List Po := rows.map poOf
theorem posOf_rows (l : List Po) : posOf (poRows l) = l := by
  unfold posOf poRows
  rw [List.map_map]
  have : poOf ∘ poRow = id := by
    funext x
    show (⟨x.n, msOf (mRows x.row)⟩ : Po) = x
    rw [msOf_rows]
  rw [this, List.map_id]
theorem poRows_len (l : List Po) : (poRows l).length = l.length := by simp [poRows]
theorem poRows_w (l : List Po) : ∀ r ∈ poRows l, r.length = 2 := fun r hr => by
  obtain ⟨e, _, rfl⟩ := List.mem_map.1 hr
  rfl
theorem poRows_get (l : List Po) (k : Nat) (h : k < l.length) : (poRows l).getD k [] = poRow l[k] := by
  unfold poRows
  rw [List.getD_eq_getElem?_getD, List.getElem?_map, List.getElem?_eq_getElem h]; rfl
theorem poRows_take (l : List Po) (k : Nat) : (poRows l).take k = poRows (l.take k) := by simp [poRows, List.map_take]
theorem poRows_app (a b : List Po) : poRows a ++ poRows b = poRows (a ++ b) := by simp [poRows]
theorem poRows_set (l : List Po) (k : Nat) (e : Po) : (poRows l).set k [.v (.int .i64 e.n), .l 4 (mRows e.row)] = poRows (l.set k e) := by
  rw [poRows, poRows, List.map_set]; rfl
def poMid (l : List Po) : Prop := l.length ≤ 1048576 ∧ ∀ x ∈ l, mMid x.row
theorem poMid_ok {l : List Po} (h : posB l = true) : poMid l := by
  obtain ⟨h1, h2, _⟩ := posB_iff.1 h
  refine ⟨by omega, fun p hp => ?_⟩
  obtain ⟨_, b2, b3⟩ := poB_iff.1 (h2 p hp)
  exact ⟨by omega, fun m hm => by have := (mlB_iff.1 (b3 m hm).1).2.2.2; omega⟩
def poStep (l : List Po) (k : Nat) : Bool := poB (l.getD k po0) && (decide (k = 0) || decide ((l.getD (k - 1) po0).n < (l.getD k po0).n))
def posK (l : List Po) (k : Nat) : Bool := (l.take k).all poB && decide (((l.take k).map Po.n).Pairwise (· < ·))
theorem take_one {α : Type} {l : List α} {k : Nat} (h : k < l.length) : l.take (k + 1) = l.take k ++ [l[k]] := by
  rw [List.take_add_one, List.getElem?_eq_getElem h]; rfl
theorem posK_yes {l : List Po} {k : Nat} (hk : k < l.length) (h : posK l k = true) (hs : poStep l k = true) : posK l (k + 1) = true := by
  simp only [posK, poStep, Bool.and_eq_true, decide_eq_true_eq, Bool.or_eq_true] at h hs ⊢
  obtain ⟨h1, h2⟩ := h
  obtain ⟨s1, s2⟩ := hs
  rw [po_get hk] at s1 s2
  rw [take_one hk, List.map_append, List.pairwise_append, List.all_append, Bool.and_eq_true]
  refine ⟨⟨h1, by simpa using s1⟩, h2, by simp, fun a ha b hb => ?_⟩
  obtain rfl : b = l[k].n := by simpa using hb
  obtain ⟨p, hp, rfl⟩ := List.mem_map.1 ha
  obtain ⟨j, hj, rfl⟩ := List.getElem_of_mem hp
  have hjl : j < k := by rw [List.length_take] at hj; omega
  rcases s2 with s2 | s2
  · omega
  · rw [po_get (show k - 1 < l.length by omega)] at s2
    by_cases e : j = k - 1
    · subst e
      rw [List.getElem_take]
      exact s2
    · have := List.pairwise_iff_getElem.1 h2 j (k - 1) (by simp; omega) (by simp; omega) (by omega)
      simp only [List.getElem_map, List.getElem_take] at this ⊢
      omega
theorem posB_no {l : List Po} {k : Nat} (hk : k < l.length) (h : poStep l k = false) : posB l = false := by
  rw [Bool.eq_false_iff]
  intro hb
  obtain ⟨_, h2, h3⟩ := posB_iff.1 hb
  rw [poStep, po_get hk, h2 _ (List.getElem_mem hk), Bool.true_and, Bool.or_eq_false_iff] at h
  obtain ⟨a, b⟩ := h
  have ha := of_decide_eq_false a
  rw [po_get (show k - 1 < l.length by omega)] at b
  have := List.pairwise_iff_getElem.1 h3 (k - 1) k (by simp; omega) (by simp; omega) (by omega)
  simp only [List.getElem_map] at this
  exact of_decide_eq_false b this
theorem posK_all {l : List Po} (h : posK l l.length = true) (hl : l.length ≤ 4) : posB l = true := by
  simp only [posK, List.take_length, Bool.and_eq_true] at h
  rw [posB, decide_eq_true hl, h.1, h.2]; rfl
theorem poB_of {n : Int} {ms : List Ml} : poB ⟨n, ms⟩ = (inZ n 1 255 && decide (ms.length ≤ 3) && ms.all fun m => mlB m && decide (m.t = n)) := rfl
def g_portOk : PC := fun args => match args with
  | [.agg [.v (.int .i64 n), .l _ rows]] => some (∃ ms, rows = mRows ms ∧ mMid ms, .v (.bool (poB ⟨n, msOf rows⟩)), [])
  | _ => none
def g_portsOk : PC := fun args => match args with
  | [.l _ rows] => some (∃ l, rows = poRows l ∧ poMid l, .v (.bool (posB (posOf rows))), [])
  | _ => none
def g_portAt : PC := fun args => match args with
  | [.l _ rows, .v (.int .i64 x)] => some (∃ l, rows = poRows l ∧ l.length ≤ 1048576, .v (.int .i64 (poI (posOf rows) x)), [])
  | _ => none
def g_rowCopied : PC := fun args => match args with
  | [.l _ rows] => some (∃ ms, rows = mRows ms ∧ mMid ms, .own 0, [.tr .whole 27 4 [.cell, .cell, .cell, .sl 5 1 [.cell]] rows])
  | _ => none
def g_portsCopied : PC := fun args => match args with
  | [.l _ rows] => some (∃ l, rows = poRows l ∧ poMid l, .own 0, [.tr .whole 44 2 [.cell, .sl 27 4 [.cell, .cell, .cell, .sl 5 1 [.cell]]] rows])
  | _ => none
def po1 : List (FuncId × Abs) := [(37, pureAbs g_isPort), (38, pureAbs g_mailOk)]
theorem po1_ok : ∀ p ∈ po1, CallOk Try.prog p.1 p.2 := by
  intro p hp
  simp only [po1, List.mem_cons, List.not_mem_nil, or_false] at hp
  rcases hp with rfl | rfl
  · exact isPort_ok.call
  · exact implMailOk_ok.call
theorem mls_no {n : Int} {ms : List Ml} {k : Nat} (hk : k < ms.length) (h : (mlB ms[k] && decide (ms[k].t = n)) = false) : (ms.all fun m => mlB m && decide (m.t = n)) = false := by
  rw [Bool.eq_false_iff]
  intro ha
  rw [List.all_eq_true.1 ha _ (List.getElem_mem hk)] at h
  cases h
theorem all_take {α : Type} {p : α → Bool} {l : List α} {k : Nat} (hk : k < l.length) (h : (l.take k).all p = true) (hp : p l[k] = true) : (l.take (k + 1)).all p = true := by
  rw [take_one hk, List.all_append, h]; simpa using hp
set_option maxHeartbeats 1000000 in
set_option maxRecDepth 100000 in
theorem portOk_ok : PureOk Try.prog 32 g_portOk := by
  refine PureOk.of_vc (G := po1) po1_ok mixed Try.func32 (by kernel_rfl) rfl ?_
  intro args cnd r bs hg hc
  unfold g_portOk at hg
  split at hg
  · rename_i n sz rows
    cases hg
    obtain ⟨ms, rfl, hm, hd⟩ := hc
    rw [msOf_rows, poB_of]
    refine ⟨⟨rfl, by simp, by simp [AV.ids, AV.ids.idsL]⟩, [.agg [.v (.int .i64 n), .l 4 (mRows ms)]], rfl, fun w vs h => CvL.ok (.cons (.cons (.refl _) (.cons (.l _ _ _ (mRows_w ms)) .nil)) .nil) h, ?_⟩
    simp (maxSteps := 3000000) only [Try.f32, po1, g_isPort, mRows_len, Bool.not_true, Bool.not_false, tYs, evL, implies_true, oMin, x_max, oMax, oCopy, oBin, oUn, oLoadKid, oStoreTree, oField, oExtract, oNil, oSliceQ, oSliceE, x_appendZ, oAppendZ, oSliceEnd, endMode, oLoadRow, takeCells, TS.atRow, TS.ex, treeMode, AV.isOwn, TK.isSl, nilTk, nilsB, oLenQ, oLen, nodupB, treeOf, kidAbs, kidRows, TK.isCell, D.toL, oLoad, oStore, oMake, oIndexAddr, ↓reduceIte, reduceCtorEq, Nat.reduceBEq, Nat.reduceAdd, Nat.reduceMul, Nat.reduceLT, Nat.reduceSub, Nat.reduceLeDiff, Nat.reduceEqDiff, Nat.reduceBneDiff, Int.reduceToNat, decide_eq_true_eq, decide_eq_false_iff_not, beq_iff_eq, Int.toNat_natCast]
    rcases hn : inZ n 1 255 with _ | _
    · rw [if_neg (by simp)]
      exact ⟨_, [], rfl, ⟨⟨⟨rfl, rfl, rfl⟩, trivial⟩, trivial, by simp [rn, hpAt]⟩⟩
    rw [if_pos (by simp)]
    by_cases h3 : (ms.length : Int) > 3
    · rw [if_pos h3, decide_eq_false (by omega)]
      exact ⟨_, [], rfl, ⟨⟨⟨rfl, rfl, rfl⟩, trivial⟩, trivial, by simp [rn, hpAt]⟩⟩
    rw [if_neg h3, decide_eq_true (show ms.length ≤ 3 by omega), Bool.true_and, Bool.true_and]
    refine e_loop _ _ _ _ _ _ _ _ (fun k : Nat => [.any, .ptr 0 0, .any, .any, .any, .any, .any, .any, .any, .any, .any, .any, .any, .any, .any, .any, .l 4 (mRows ms), .v (.int .i64 (ms.length : Int)), .v (.int .i64 (k : Int))] ++ List.replicate (Try.f32.ntmps - 19) .any) (fun k => [(0, .var 44 [.v (.int .i64 n), .l 4 (mRows ms)])]) (fun k => k ≤ ms.length ∧ ((ms.take k).all fun m => mlB m && decide (m.t = n)) = true) (fun k => ms.length - k) 1 (fun k => by simp) ?_ fun k hk' => ?_
    · exact ⟨0, [(0, some 0)], ⟨Nat.zero_le _, rfl⟩, ⟨⟨trivial, ⟨rfl, rfl, rfl⟩, trivial, trivial, trivial, trivial, trivial, trivial, trivial, trivial, trivial, trivial, trivial, trivial, trivial, trivial, ⟨rfl, rfl, rfl⟩, ⟨rfl, rfl, rfl⟩, ⟨rfl, rfl, rfl⟩, fitT_rep _ _ rfl⟩, ⟨.inl rfl, rfl, rfl, rfl, trivial⟩, by simp [rn, hpAt]⟩, by simp [keepIds]⟩
    obtain ⟨hk1, hk2⟩ := hk'
    have w2 : IntKind.i64.wrap ((k : Int) + 1) = ((k + 1 : Nat) : Int) := by rw [wrap_id] <;> omega
    by_cases hk : k < ms.length
    · have hrow := mRows_get ms k hk
      have hlt : ((k : Int) < (ms.length : Int)) = True := eq_true (by omega)
      have h0 : (0 ≤ (k : Int)) = True := eq_true (by omega)
      have hx := hd ms[k] (List.getElem_mem hk)
      have hK := mlK_of ms[k].a ms[k].f ms[k].t ms[k].d
      rcases h1 : mlB ms[k] with _ | _
      · have hno := mls_no (n := n) hk (by rw [h1]; rfl)
        simp (maxSteps := 3000000) only [Try.f32, po1, mRows_len, rowsOf_len, bytesOf_rows, g_mailOk, hrow, hlt, h0, hK, h1, Bool.not_true, Bool.not_false, D.toI, D.toL, mlRow, tYs, evL, implies_true, oMin, x_max, oMax, oCopy, oBin, oUn, oLoadKid, oStoreTree, oField, oExtract, oNil, oSliceQ, oSliceE, x_appendZ, oAppendZ, oSliceEnd, endMode, oLoadRow, takeCells, TS.atRow, TS.ex, treeMode, AV.isOwn, TK.isSl, nilTk, nilsB, oLenQ, oLen, nodupB, treeOf, kidAbs, kidRows, TK.isCell, D.toL, oLoad, oStore, oMake, oIndexAddr, ↓reduceIte, reduceCtorEq, Nat.reduceBEq, Nat.reduceAdd, Nat.reduceMul, Nat.reduceLT, Nat.reduceSub, Nat.reduceLeDiff, Nat.reduceEqDiff, Nat.reduceBneDiff, Int.reduceToNat, decide_eq_true_eq, decide_eq_false_iff_not, beq_iff_eq, Int.toNat_natCast, loopK_normal, loopK_exit, loopK_ret, w2]
        rw [hno]
        exact ⟨_, [], rfl, ⟨⟨⟨rfl, rfl, rfl⟩, trivial⟩, trivial, by simp [rn, hpAt]⟩⟩
      · by_cases h2 : ms[k].t = n
        · have h2b : (ms[k].t != n) = false := by simp [h2]
          simp (maxSteps := 3000000) only [Try.f32, po1, mRows_len, rowsOf_len, bytesOf_rows, g_mailOk, hrow, hlt, h0, hK, h1, h2b, Bool.not_true, Bool.not_false, D.toI, D.toL, mlRow, tYs, evL, implies_true, oMin, x_max, oMax, oCopy, oBin, oUn, oLoadKid, oStoreTree, oField, oExtract, oNil, oSliceQ, oSliceE, x_appendZ, oAppendZ, oSliceEnd, endMode, oLoadRow, takeCells, TS.atRow, TS.ex, treeMode, AV.isOwn, TK.isSl, nilTk, nilsB, oLenQ, oLen, nodupB, treeOf, kidAbs, kidRows, TK.isCell, D.toL, oLoad, oStore, oMake, oIndexAddr, ↓reduceIte, reduceCtorEq, Nat.reduceBEq, Nat.reduceAdd, Nat.reduceMul, Nat.reduceLT, Nat.reduceSub, Nat.reduceLeDiff, Nat.reduceEqDiff, Nat.reduceBneDiff, Int.reduceToNat, decide_eq_true_eq, decide_eq_false_iff_not, beq_iff_eq, Int.toNat_natCast, loopK_normal, loopK_exit, loopK_ret, w2]
          exact ⟨k + 1, [(0, some 0)], ⟨by omega, all_take hk hk2 (by rw [h1, decide_eq_true h2]; rfl)⟩, by omega, ⟨⟨trivial, ⟨rfl, rfl, rfl⟩, trivial, trivial, trivial, trivial, trivial, trivial, trivial, trivial, trivial, trivial, trivial, trivial, trivial, trivial, ⟨rfl, rfl, rfl⟩, ⟨rfl, rfl, rfl⟩, ⟨rfl, rfl, rfl⟩, fitT_rep _ _ rfl⟩, ⟨.inl rfl, rfl, rfl, rfl, trivial⟩, by simp [rn, hpAt]⟩, by simp [keepIds]⟩
        · have h2b : (ms[k].t != n) = true := by simp [h2]
          have hno := mls_no (n := n) hk (by rw [decide_eq_false h2, Bool.and_false])
          simp (maxSteps := 3000000) only [Try.f32, po1, mRows_len, rowsOf_len, bytesOf_rows, g_mailOk, hrow, hlt, h0, hK, h1, h2b, Bool.not_true, Bool.not_false, D.toI, D.toL, mlRow, tYs, evL, implies_true, oMin, x_max, oMax, oCopy, oBin, oUn, oLoadKid, oStoreTree, oField, oExtract, oNil, oSliceQ, oSliceE, x_appendZ, oAppendZ, oSliceEnd, endMode, oLoadRow, takeCells, TS.atRow, TS.ex, treeMode, AV.isOwn, TK.isSl, nilTk, nilsB, oLenQ, oLen, nodupB, treeOf, kidAbs, kidRows, TK.isCell, D.toL, oLoad, oStore, oMake, oIndexAddr, ↓reduceIte, reduceCtorEq, Nat.reduceBEq, Nat.reduceAdd, Nat.reduceMul, Nat.reduceLT, Nat.reduceSub, Nat.reduceLeDiff, Nat.reduceEqDiff, Nat.reduceBneDiff, Int.reduceToNat, decide_eq_true_eq, decide_eq_false_iff_not, beq_iff_eq, Int.toNat_natCast, loopK_normal, loopK_exit, loopK_ret, w2]
          rw [hno]
          exact ⟨_, [], rfl, ⟨⟨⟨rfl, rfl, rfl⟩, trivial⟩, trivial, by simp [rn, hpAt]⟩⟩
    · have hlt : ((k : Int) < (ms.length : Int)) = False := eq_false (by omega)
      simp (maxSteps := 3000000) only [Try.f32, po1, mRows_len, rowsOf_len, bytesOf_rows, hlt, D.toI, D.toL, mlRow, tYs, evL, implies_true, oMin, x_max, oMax, oCopy, oBin, oUn, oLoadKid, oStoreTree, oField, oExtract, oNil, oSliceQ, oSliceE, x_appendZ, oAppendZ, oSliceEnd, endMode, oLoadRow, takeCells, TS.atRow, TS.ex, treeMode, AV.isOwn, TK.isSl, nilTk, nilsB, oLenQ, oLen, nodupB, treeOf, kidAbs, kidRows, TK.isCell, D.toL, oLoad, oStore, oMake, oIndexAddr, ↓reduceIte, reduceCtorEq, Nat.reduceBEq, Nat.reduceAdd, Nat.reduceMul, Nat.reduceLT, Nat.reduceSub, Nat.reduceLeDiff, Nat.reduceEqDiff, Nat.reduceBneDiff, Int.reduceToNat, decide_eq_true_eq, decide_eq_false_iff_not, beq_iff_eq, Int.toNat_natCast, loopK_normal, loopK_exit, loopK_ret, w2]
      rw [List.take_of_length_le (by omega)] at hk2
      rw [hk2]
      exact ⟨_, [], rfl, ⟨⟨⟨rfl, rfl, rfl⟩, trivial⟩, trivial, by simp [rn, hpAt]⟩⟩
  · cases hg
def po2 : List (FuncId × Abs) := [(32, pureAbs g_portOk)]
theorem po2_ok : ∀ p ∈ po2, CallOk Try.prog p.1 p.2 := by
  intro p hp
  simp only [po2, List.mem_cons, List.not_mem_nil, or_false] at hp
  rcases hp with rfl
  · exact portOk_ok.call
set_option maxHeartbeats 1000000 in
set_option maxRecDepth 100000 in
theorem implPortsOk_ok : PureOk Try.prog 19 g_portsOk := by
  refine PureOk.of_vc (G := po2) po2_ok mixed Try.func19 (by kernel_rfl) rfl ?_
  intro args cnd r bs hg hc
  unfold g_portsOk at hg
  split at hg
  · rename_i sz rows
    cases hg
    obtain ⟨l, rfl, hn, hd⟩ := hc
    rw [posOf_rows]
    refine ⟨⟨rfl, by simp, by simp [AV.ids, AV.ids.idsL]⟩, [.l 2 (poRows l)], rfl, fun w vs h => CvL.ok (.cons (.l _ _ _ (poRows_w l)) .nil) h, ?_⟩
    simp (maxSteps := 3000000) only [Try.f19, po2, poRows_len, tYs, evL, implies_true, oMin, x_max, oMax, oCopy, oBin, oUn, oLoadKid, oStoreTree, oField, oExtract, oNil, oSliceQ, oSliceE, x_appendZ, oAppendZ, oSliceEnd, endMode, oLoadRow, takeCells, TS.atRow, TS.ex, treeMode, AV.isOwn, TK.isSl, nilTk, nilsB, oLenQ, oLen, nodupB, treeOf, kidAbs, kidRows, TK.isCell, D.toL, oLoad, oStore, oMake, oIndexAddr, ↓reduceIte, reduceCtorEq, Nat.reduceBEq, Nat.reduceAdd, Nat.reduceMul, Nat.reduceLT, Nat.reduceSub, Nat.reduceLeDiff, Nat.reduceEqDiff, Nat.reduceBneDiff, Int.reduceToNat, decide_eq_true_eq, decide_eq_false_iff_not, beq_iff_eq, Int.toNat_natCast]
    by_cases h4 : (l.length : Int) > 4
    · rw [if_pos h4, posB, decide_eq_false (by omega), Bool.false_and]
      exact ⟨_, [], rfl, ⟨⟨⟨rfl, rfl, rfl⟩, trivial⟩, trivial, by simp [rn, hpAt]⟩⟩
    rw [if_neg h4]
    refine e_loop _ _ _ _ _ _ _ _ (fun k : Nat => [.l 2 (poRows l), .any, .any, .any, .any, .any, .any, .any, .l 2 (poRows l), .v (.int .i64 (l.length : Int)), .v (.int .i64 (k : Int))] ++ List.replicate (Try.f19.ntmps - 11) .any) (fun k => []) (fun k => k ≤ l.length ∧ posK l k = true) (fun k => l.length - k) 0 (fun k => by simp) ?_ fun k hk' => ?_
    · exact ⟨0, [], ⟨Nat.zero_le _, rfl⟩, ⟨⟨⟨rfl, rfl, rfl⟩, trivial, trivial, trivial, trivial, trivial, trivial, trivial, ⟨rfl, rfl, rfl⟩, ⟨rfl, rfl, rfl⟩, ⟨rfl, rfl, rfl⟩, fitT_rep _ _ rfl⟩, trivial, by simp [rn, hpAt]⟩, by simp [keepIds]⟩
    obtain ⟨hk1, hk2⟩ := hk'
    have w2 : IntKind.i64.wrap ((k : Int) + 1) = ((k + 1 : Nat) : Int) := by rw [wrap_id] <;> omega
    by_cases hk : k < l.length
    · have hrow := poRows_get l k hk
      have hlt : ((k : Int) < (l.length : Int)) = True := eq_true (by omega)
      have h0 : (0 ≤ (k : Int)) = True := eq_true (by omega)
      have hx := hd l[k] (List.getElem_mem hk)
      have hst : poStep l k = (poB l[k] && (decide (k = 0) || decide ((l.getD (k - 1) po0).n < l[k].n))) := by rw [poStep, po_get hk]
      have hE : (⟨l[k].n, l[k].row⟩ : Po) = l[k] := rfl
      rcases h1 : poB l[k] with _ | _
      · have hno := posB_no hk (by rw [hst, h1]; rfl)
        simp (maxSteps := 3000000) only [Try.f19, po2, poRows_len, mRows_len, rowsOf_len, bytesOf_rows, msOf_rows, posOf_rows, g_portOk, hrow, hlt, h0, hE, h1, Bool.not_true, Bool.not_false, D.toI, D.toL, poRow, tYs, evL, implies_true, oMin, x_max, oMax, oCopy, oBin, oUn, oLoadKid, oStoreTree, oField, oExtract, oNil, oSliceQ, oSliceE, x_appendZ, oAppendZ, oSliceEnd, endMode, oLoadRow, takeCells, TS.atRow, TS.ex, treeMode, AV.isOwn, TK.isSl, nilTk, nilsB, oLenQ, oLen, nodupB, treeOf, kidAbs, kidRows, TK.isCell, D.toL, oLoad, oStore, oMake, oIndexAddr, ↓reduceIte, reduceCtorEq, Nat.reduceBEq, Nat.reduceAdd, Nat.reduceMul, Nat.reduceLT, Nat.reduceSub, Nat.reduceLeDiff, Nat.reduceEqDiff, Nat.reduceBneDiff, Int.reduceToNat, decide_eq_true_eq, decide_eq_false_iff_not, beq_iff_eq, Int.toNat_natCast, loopK_normal, loopK_exit, loopK_ret, w2]
        rw [hno]
        exact ⟨⟨_, rfl, hx⟩, by kernel_rfl, _, [], rfl, ⟨⟨⟨rfl, rfl, rfl⟩, trivial⟩, trivial, by simp [rn, hpAt]⟩⟩
      · rw [h1, Bool.true_and] at hst
        cases k with
        | zero =>
          have hz : (((0 : Nat) : Int) > 0) = False := eq_false (by omega)
          simp (maxSteps := 3000000) only [Try.f19, po2, poRows_len, mRows_len, rowsOf_len, bytesOf_rows, msOf_rows, posOf_rows, g_portOk, hrow, hlt, h0, hE, h1, hz, Bool.not_true, Bool.not_false, D.toI, D.toL, poRow, tYs, evL, implies_true, oMin, x_max, oMax, oCopy, oBin, oUn, oLoadKid, oStoreTree, oField, oExtract, oNil, oSliceQ, oSliceE, x_appendZ, oAppendZ, oSliceEnd, endMode, oLoadRow, takeCells, TS.atRow, TS.ex, treeMode, AV.isOwn, TK.isSl, nilTk, nilsB, oLenQ, oLen, nodupB, treeOf, kidAbs, kidRows, TK.isCell, D.toL, oLoad, oStore, oMake, oIndexAddr, ↓reduceIte, reduceCtorEq, Nat.reduceBEq, Nat.reduceAdd, Nat.reduceMul, Nat.reduceLT, Nat.reduceSub, Nat.reduceLeDiff, Nat.reduceEqDiff, Nat.reduceBneDiff, Int.reduceToNat, decide_eq_true_eq, decide_eq_false_iff_not, beq_iff_eq, Int.toNat_natCast, loopK_normal, loopK_exit, loopK_ret, w2]
          exact ⟨⟨_, rfl, hx⟩, by kernel_rfl, 1, [], ⟨by omega, posK_yes hk hk2 (by rw [hst]; rfl)⟩, by omega, ⟨⟨⟨rfl, rfl, rfl⟩, trivial, trivial, trivial, trivial, trivial, trivial, trivial, ⟨rfl, rfl, rfl⟩, ⟨rfl, rfl, rfl⟩, ⟨rfl, rfl, rfl⟩, fitT_rep _ _ rfl⟩, trivial, by simp [rn, hpAt]⟩, by simp [keepIds]⟩
        | succ j =>
          have wp : IntKind.i64.wrap (((j + 1 : Nat) : Int) - 1) = (j : Int) := by rw [wrap_id] <;> omega
          have hj : j < l.length := by omega
          have hrj := poRows_get l j hj
          have hjlt : ((j : Int) < (l.length : Int)) = True := eq_true (by omega)
          have h0j : (0 ≤ (j : Int)) = True := eq_true (by omega)
          have hgt : (((j + 1 : Nat) : Int) > 0) = True := eq_true (by omega)
          rw [decide_eq_false (by omega), Bool.false_or, Nat.add_sub_cancel, po_get hj] at hst
          by_cases h2 : l[j].n < l[j + 1].n
          · have hle : (l[j + 1].n ≤ l[j].n) = False := eq_false (by omega)
            simp (maxSteps := 3000000) only [Try.f19, po2, poRows_len, mRows_len, rowsOf_len, bytesOf_rows, msOf_rows, posOf_rows, g_portOk, hrow, hlt, h0, hE, h1, hgt, wp, hrj, hjlt, h0j, hle, Bool.not_true, Bool.not_false, D.toI, D.toL, poRow, tYs, evL, implies_true, oMin, x_max, oMax, oCopy, oBin, oUn, oLoadKid, oStoreTree, oField, oExtract, oNil, oSliceQ, oSliceE, x_appendZ, oAppendZ, oSliceEnd, endMode, oLoadRow, takeCells, TS.atRow, TS.ex, treeMode, AV.isOwn, TK.isSl, nilTk, nilsB, oLenQ, oLen, nodupB, treeOf, kidAbs, kidRows, TK.isCell, D.toL, oLoad, oStore, oMake, oIndexAddr, ↓reduceIte, reduceCtorEq, Nat.reduceBEq, Nat.reduceAdd, Nat.reduceMul, Nat.reduceLT, Nat.reduceSub, Nat.reduceLeDiff, Nat.reduceEqDiff, Nat.reduceBneDiff, Int.reduceToNat, decide_eq_true_eq, decide_eq_false_iff_not, beq_iff_eq, Int.toNat_natCast, loopK_normal, loopK_exit, loopK_ret, w2]
            exact ⟨⟨_, rfl, hx⟩, by kernel_rfl, j + 1 + 1, [], ⟨by omega, posK_yes hk hk2 (by rw [hst, decide_eq_true h2])⟩, by omega, ⟨⟨⟨rfl, rfl, rfl⟩, trivial, trivial, trivial, trivial, trivial, trivial, trivial, ⟨rfl, rfl, rfl⟩, ⟨rfl, rfl, rfl⟩, ⟨rfl, rfl, rfl⟩, fitT_rep _ _ rfl⟩, trivial, by simp [rn, hpAt]⟩, by simp [keepIds]⟩
          · have hle : (l[j + 1].n ≤ l[j].n) = True := eq_true (by omega)
            have hno := posB_no hk (by rw [hst, decide_eq_false h2])
            simp (maxSteps := 3000000) only [Try.f19, po2, poRows_len, mRows_len, rowsOf_len, bytesOf_rows, msOf_rows, posOf_rows, g_portOk, hrow, hlt, h0, hE, h1, hgt, wp, hrj, hjlt, h0j, hle, Bool.not_true, Bool.not_false, D.toI, D.toL, poRow, tYs, evL, implies_true, oMin, x_max, oMax, oCopy, oBin, oUn, oLoadKid, oStoreTree, oField, oExtract, oNil, oSliceQ, oSliceE, x_appendZ, oAppendZ, oSliceEnd, endMode, oLoadRow, takeCells, TS.atRow, TS.ex, treeMode, AV.isOwn, TK.isSl, nilTk, nilsB, oLenQ, oLen, nodupB, treeOf, kidAbs, kidRows, TK.isCell, D.toL, oLoad, oStore, oMake, oIndexAddr, ↓reduceIte, reduceCtorEq, Nat.reduceBEq, Nat.reduceAdd, Nat.reduceMul, Nat.reduceLT, Nat.reduceSub, Nat.reduceLeDiff, Nat.reduceEqDiff, Nat.reduceBneDiff, Int.reduceToNat, decide_eq_true_eq, decide_eq_false_iff_not, beq_iff_eq, Int.toNat_natCast, loopK_normal, loopK_exit, loopK_ret, w2]
            rw [hno]
            exact ⟨⟨_, rfl, hx⟩, by kernel_rfl, _, [], rfl, ⟨⟨⟨rfl, rfl, rfl⟩, trivial⟩, trivial, by simp [rn, hpAt]⟩⟩
    · have hlt : ((k : Int) < (l.length : Int)) = False := eq_false (by omega)
      simp (maxSteps := 3000000) only [Try.f19, po2, poRows_len, mRows_len, rowsOf_len, bytesOf_rows, msOf_rows, posOf_rows, hlt, D.toI, D.toL, poRow, tYs, evL, implies_true, oMin, x_max, oMax, oCopy, oBin, oUn, oLoadKid, oStoreTree, oField, oExtract, oNil, oSliceQ, oSliceE, x_appendZ, oAppendZ, oSliceEnd, endMode, oLoadRow, takeCells, TS.atRow, TS.ex, treeMode, AV.isOwn, TK.isSl, nilTk, nilsB, oLenQ, oLen, nodupB, treeOf, kidAbs, kidRows, TK.isCell, D.toL, oLoad, oStore, oMake, oIndexAddr, ↓reduceIte, reduceCtorEq, Nat.reduceBEq, Nat.reduceAdd, Nat.reduceMul, Nat.reduceLT, Nat.reduceSub, Nat.reduceLeDiff, Nat.reduceEqDiff, Nat.reduceBneDiff, Int.reduceToNat, decide_eq_true_eq, decide_eq_false_iff_not, beq_iff_eq, Int.toNat_natCast, loopK_normal, loopK_exit, loopK_ret, w2]
      obtain rfl : k = l.length := by omega
      rw [posK_all hk2 (by omega)]
      exact ⟨_, [], rfl, ⟨⟨⟨rfl, rfl, rfl⟩, trivial⟩, trivial, by simp [rn, hpAt]⟩⟩
  · cases hg
theorem poAt_here {l : List Po} {x : Int} {k : Nat} (hk : k < l.length) (h : ∀ j, j < k → (l.getD j po0).n ≠ x) (hx : l[k].n = x) : poI l x = (k : Int) := by
  have e : poAt l x = some k := by
    rw [poAt, List.findIdx?_eq_some_iff_getElem]
    refine ⟨hk, by simpa using hx, fun j hj => ?_⟩
    have := h j hj
    rw [po_get (by omega)] at this
    simpa using this
  rw [poI, e]
theorem poAt_no {l : List Po} {x : Int} (h : ∀ j, j < l.length → (l.getD j po0).n ≠ x) : poI l x = -1 := by
  have e : poAt l x = none := poAt_none.2 fun p hp => by
    obtain ⟨j, hj, rfl⟩ := List.getElem_of_mem hp
    have := h j hj
    rwa [po_get hj] at this
  rw [poI, e]
set_option maxRecDepth 100000 in
theorem portAt_ok : PureOk Try.prog 21 g_portAt := by
  refine PureOk.of_vc (G := []) (by simp) mixed Try.func21 (by kernel_rfl) rfl ?_
  intro args cnd r bs hg hc
  unfold g_portAt at hg
  split at hg
  · rename_i sz rows x
    cases hg
    obtain ⟨l, rfl, hn⟩ := hc
    rw [posOf_rows]
    refine ⟨⟨rfl, by simp, by simp [AV.ids, AV.ids.idsL]⟩, [.l 2 (poRows l), .v (.int .i64 x)], rfl, fun w vs h => CvL.ok (.cons (.l _ _ _ (poRows_w l)) (.cons (.refl _) .nil)) h, ?_⟩
    simp (maxSteps := 3000000) only [Try.f21, poRows_len, tYs, evL, implies_true, oMin, x_max, oMax, oCopy, oBin, oUn, oLoadKid, oStoreTree, oField, oExtract, oNil, oSliceQ, oSliceE, x_appendZ, oAppendZ, oSliceEnd, endMode, oLoadRow, takeCells, TS.atRow, TS.ex, treeMode, AV.isOwn, TK.isSl, nilTk, nilsB, oLenQ, oLen, nodupB, treeOf, kidAbs, kidRows, TK.isCell, D.toL, oLoad, oStore, oMake, oIndexAddr, ↓reduceIte, reduceCtorEq, Nat.reduceBEq, Nat.reduceAdd, Nat.reduceMul, Nat.reduceLT, Nat.reduceSub, Nat.reduceLeDiff, Nat.reduceEqDiff, Nat.reduceBneDiff, Int.reduceToNat, decide_eq_true_eq, decide_eq_false_iff_not, beq_iff_eq, Int.toNat_natCast]
    refine e_loop _ _ _ _ _ _ _ _ (fun k : Nat => [.any, .v (.int .i64 x), .any, .any, .any, .any, .any, .l 2 (poRows l), .v (.int .i64 (l.length : Int)), .v (.int .i64 (k : Int))] ++ List.replicate (Try.f21.ntmps - 10) .any) (fun k => []) (fun k => k ≤ l.length ∧ ∀ j, j < k → (l.getD j po0).n ≠ x) (fun k => l.length - k) 0 (fun k => by simp) ?_ fun k hk' => ?_
    · exact ⟨0, [], ⟨Nat.zero_le _, fun j hj => by omega⟩, ⟨⟨trivial, ⟨rfl, rfl, rfl⟩, trivial, trivial, trivial, trivial, trivial, ⟨rfl, rfl, rfl⟩, ⟨rfl, rfl, rfl⟩, ⟨rfl, rfl, rfl⟩, fitT_rep _ _ rfl⟩, trivial, by simp [rn, hpAt]⟩, by simp [keepIds]⟩
    obtain ⟨hk1, hk2⟩ := hk'
    have w2 : IntKind.i64.wrap ((k : Int) + 1) = ((k + 1 : Nat) : Int) := by rw [wrap_id] <;> omega
    by_cases hk : k < l.length
    · have hrow := poRows_get l k hk
      have hlt : ((k : Int) < (l.length : Int)) = True := eq_true (by omega)
      have h0 : (0 ≤ (k : Int)) = True := eq_true (by omega)
      by_cases h1 : l[k].n = x
      · have h1b : (l[k].n == x) = true := beq_iff_eq.2 h1
        have h1c : (l[k].n = x) = True := eq_true h1
        simp (maxSteps := 3000000) only [Try.f21, mRows_len, poRows_len, mRows_len, rowsOf_len, bytesOf_rows, msOf_rows, posOf_rows, hrow, hlt, h0, h1b, h1c, D.toI, D.toL, poRow, tYs, evL, implies_true, oMin, x_max, oMax, oCopy, oBin, oUn, oLoadKid, oStoreTree, oField, oExtract, oNil, oSliceQ, oSliceE, x_appendZ, oAppendZ, oSliceEnd, endMode, oLoadRow, takeCells, TS.atRow, TS.ex, treeMode, AV.isOwn, TK.isSl, nilTk, nilsB, oLenQ, oLen, nodupB, treeOf, kidAbs, kidRows, TK.isCell, D.toL, oLoad, oStore, oMake, oIndexAddr, ↓reduceIte, reduceCtorEq, Nat.reduceBEq, Nat.reduceAdd, Nat.reduceMul, Nat.reduceLT, Nat.reduceSub, Nat.reduceLeDiff, Nat.reduceEqDiff, Nat.reduceBneDiff, Int.reduceToNat, decide_eq_true_eq, decide_eq_false_iff_not, beq_iff_eq, Int.toNat_natCast, loopK_normal, loopK_exit, loopK_ret, w2]
        rw [poAt_here hk hk2 h1]
        exact ⟨_, [], rfl, ⟨⟨⟨rfl, rfl, rfl⟩, trivial⟩, trivial, by simp [rn, hpAt]⟩⟩
      · have h1b : (l[k].n == x) = false := by simpa using h1
        have h1c : (l[k].n = x) = False := eq_false h1
        simp (maxSteps := 3000000) only [Try.f21, mRows_len, poRows_len, mRows_len, rowsOf_len, bytesOf_rows, msOf_rows, posOf_rows, hrow, hlt, h0, h1b, h1c, D.toI, D.toL, poRow, tYs, evL, implies_true, oMin, x_max, oMax, oCopy, oBin, oUn, oLoadKid, oStoreTree, oField, oExtract, oNil, oSliceQ, oSliceE, x_appendZ, oAppendZ, oSliceEnd, endMode, oLoadRow, takeCells, TS.atRow, TS.ex, treeMode, AV.isOwn, TK.isSl, nilTk, nilsB, oLenQ, oLen, nodupB, treeOf, kidAbs, kidRows, TK.isCell, D.toL, oLoad, oStore, oMake, oIndexAddr, ↓reduceIte, reduceCtorEq, Nat.reduceBEq, Nat.reduceAdd, Nat.reduceMul, Nat.reduceLT, Nat.reduceSub, Nat.reduceLeDiff, Nat.reduceEqDiff, Nat.reduceBneDiff, Int.reduceToNat, decide_eq_true_eq, decide_eq_false_iff_not, beq_iff_eq, Int.toNat_natCast, loopK_normal, loopK_exit, loopK_ret, w2]
        exact ⟨k + 1, [], ⟨by omega, fun j hj => by
          by_cases e : j = k
          · rw [e, po_get hk]; exact h1
          · exact hk2 j (by omega)⟩, by omega, ⟨⟨trivial, ⟨rfl, rfl, rfl⟩, trivial, trivial, trivial, trivial, trivial, ⟨rfl, rfl, rfl⟩, ⟨rfl, rfl, rfl⟩, ⟨rfl, rfl, rfl⟩, fitT_rep _ _ rfl⟩, trivial, by simp [rn, hpAt]⟩, by simp [keepIds]⟩
    · have hlt : ((k : Int) < (l.length : Int)) = False := eq_false (by omega)
      simp (maxSteps := 3000000) only [Try.f21, mRows_len, poRows_len, mRows_len, rowsOf_len, bytesOf_rows, msOf_rows, posOf_rows, hlt, D.toI, D.toL, poRow, tYs, evL, implies_true, oMin, x_max, oMax, oCopy, oBin, oUn, oLoadKid, oStoreTree, oField, oExtract, oNil, oSliceQ, oSliceE, x_appendZ, oAppendZ, oSliceEnd, endMode, oLoadRow, takeCells, TS.atRow, TS.ex, treeMode, AV.isOwn, TK.isSl, nilTk, nilsB, oLenQ, oLen, nodupB, treeOf, kidAbs, kidRows, TK.isCell, D.toL, oLoad, oStore, oMake, oIndexAddr, ↓reduceIte, reduceCtorEq, Nat.reduceBEq, Nat.reduceAdd, Nat.reduceMul, Nat.reduceLT, Nat.reduceSub, Nat.reduceLeDiff, Nat.reduceEqDiff, Nat.reduceBneDiff, Int.reduceToNat, decide_eq_true_eq, decide_eq_false_iff_not, beq_iff_eq, Int.toNat_natCast, loopK_normal, loopK_exit, loopK_ret, w2]
      obtain rfl : k = l.length := by omega
      rw [poAt_no hk2]
      exact ⟨_, [], rfl, ⟨⟨⟨rfl, rfl, rfl⟩, trivial⟩, trivial, by simp [rn, hpAt]⟩⟩
  · cases hg
def poc : List (FuncId × Abs) := [(39, pureAbs g_bytesCopiedT)]
theorem poc_ok : ∀ p ∈ poc, CallOk Try.prog p.1 p.2 := by
  intro p hp
  simp only [poc, List.mem_cons, List.not_mem_nil, or_false] at hp
  rcases hp with rfl
  · exact bytesCopiedT_ok.call
set_option maxHeartbeats 1000000 in
set_option maxRecDepth 100000 in
theorem rowCopied_ok : PureOk Try.prog 33 g_rowCopied := by
  refine PureOk.of_vc (G := poc) poc_ok mixed Try.func33 (by kernel_rfl) rfl ?_
  intro args cnd r bs hg hc
  unfold g_rowCopied at hg
  split at hg
  · rename_i sz rows
    cases hg
    obtain ⟨ms, rfl, hn, hd⟩ := hc
    refine ⟨⟨rfl, by simp [flatB], by simp [AV.ids, AV.ids.idsL]⟩, [.l 4 (mRows ms)], rfl, fun w vs h => CvL.ok (.cons (.l _ _ _ (mRows_w ms)) .nil) h, ?_⟩
    simp (maxSteps := 3000000) only [Try.f33, poc, mRows_len, tYs, evL, implies_true, oMin, x_max, oMax, oCopy, oBin, oUn, oLoadKid, oStoreTree, oField, oExtract, oNil, oSliceQ, oSliceE, x_appendZ, oAppendZ, oSliceEnd, endMode, oLoadRow, takeCells, TS.atRow, TS.ex, treeMode, AV.isOwn, TK.isSl, nilTk, nilsB, oLenQ, oLen, nodupB, treeOf, kidAbs, kidRows, TK.isCell, D.toL, oLoad, oStore, oMake, oIndexAddr, ↓reduceIte, reduceCtorEq, Nat.reduceBEq, Nat.reduceAdd, Nat.reduceMul, Nat.reduceLT, Nat.reduceSub, Nat.reduceLeDiff, Nat.reduceEqDiff, Nat.reduceBneDiff, Int.reduceToNat, decide_eq_true_eq, decide_eq_false_iff_not, beq_iff_eq, Int.toNat_natCast]
    refine ⟨by omega, ?_⟩
    refine e_loop _ _ _ _ _ _ _ _ (fun k : Nat => [.any, .any, .any, .own 0, .any, .any, .any, .any, .any, .any, .l 4 (mRows ms), .v (.int .i64 (ms.length : Int)), .v (.int .i64 (k : Int))] ++ List.replicate (Try.f33.ntmps - 13) .any) (fun k => [(0, .tr .whole 27 4 [.cell, .cell, .cell, .sl 5 1 [.cell]] (mRows (ms.take k)))]) (fun k => k ≤ ms.length) (fun k => ms.length - k) 1 (fun k => by simp) ?_ fun k hk' => ?_
    · exact ⟨0, [(0, some _)], Nat.zero_le _, ⟨⟨trivial, trivial, trivial, ⟨rfl, rfl, rfl⟩, trivial, trivial, trivial, trivial, trivial, trivial, ⟨rfl, rfl, rfl⟩, ⟨rfl, rfl, rfl⟩, ⟨rfl, rfl, rfl⟩, fitT_rep _ _ rfl⟩, ⟨.inr (.inl ⟨rfl, rfl, rfl⟩), rfl, rfl, rfl, trivial⟩, by simp [rn, hpAt]⟩, by simp [keepIds]⟩
    have w2 : IntKind.i64.wrap ((k : Int) + 1) = ((k + 1 : Nat) : Int) := by rw [wrap_id] <;> omega
    by_cases hk : k < ms.length
    · have hrow := mRows_get ms k hk
      have hlt : ((k : Int) < (ms.length : Int)) = True := eq_true (by omega)
      have h0 : (0 ≤ (k : Int)) = True := eq_true (by omega)
      have hx := hd ms[k] (List.getElem_mem hk)
      have e1 : mRows (ms.take k) ++ [mlRow ms[k]] = mRows (ms.take (k + 1)) := by
        rw [take_one hk, ← mRows_app]; rfl
      have hpl : (mRows (ms.take k)).length = k := by rw [mRows_len, List.length_take]; omega
      rw [mlRow] at e1
      simp (maxSteps := 3000000) only [Try.f33, poc, mRows_len, rowsOf_len, bytesOf_rows, g_bytesCopiedT, hrow, hlt, h0, hpl, e1, D.toI, D.toL, mlRow, tYs, evL, implies_true, oMin, x_max, oMax, oCopy, oBin, oUn, oLoadKid, oStoreTree, oField, oExtract, oNil, oSliceQ, oSliceE, x_appendZ, oAppendZ, oSliceEnd, endMode, oLoadRow, takeCells, TS.atRow, TS.ex, treeMode, AV.isOwn, TK.isSl, nilTk, nilsB, oLenQ, oLen, nodupB, treeOf, kidAbs, kidRows, TK.isCell, D.toL, oLoad, oStore, oMake, oIndexAddr, ↓reduceIte, reduceCtorEq, Nat.reduceBEq, Nat.reduceAdd, Nat.reduceMul, Nat.reduceLT, Nat.reduceSub, Nat.reduceLeDiff, Nat.reduceEqDiff, Nat.reduceBneDiff, Int.reduceToNat, decide_eq_true_eq, decide_eq_false_iff_not, beq_iff_eq, Int.toNat_natCast, loopK_normal, loopK_exit, loopK_ret, w2]
      exact ⟨⟨_, rfl, hx⟩, ⟨by omega, by omega⟩, k + 1, [(0, some _)], by omega, by omega, ⟨⟨trivial, trivial, trivial, ⟨rfl, rfl, rfl⟩, trivial, trivial, trivial, trivial, trivial, trivial, ⟨rfl, rfl, rfl⟩, ⟨rfl, rfl, rfl⟩, ⟨rfl, rfl, rfl⟩, fitT_rep _ _ rfl⟩, ⟨.inl rfl, rfl, rfl, rfl, trivial⟩, by simp [rn, hpAt]⟩, by simp [keepIds]⟩
    · have hlt : ((k : Int) < (ms.length : Int)) = False := eq_false (by omega)
      simp (maxSteps := 3000000) only [Try.f33, poc, mRows_len, rowsOf_len, bytesOf_rows, hlt, D.toI, D.toL, mlRow, tYs, evL, implies_true, oMin, x_max, oMax, oCopy, oBin, oUn, oLoadKid, oStoreTree, oField, oExtract, oNil, oSliceQ, oSliceE, x_appendZ, oAppendZ, oSliceEnd, endMode, oLoadRow, takeCells, TS.atRow, TS.ex, treeMode, AV.isOwn, TK.isSl, nilTk, nilsB, oLenQ, oLen, nodupB, treeOf, kidAbs, kidRows, TK.isCell, D.toL, oLoad, oStore, oMake, oIndexAddr, ↓reduceIte, reduceCtorEq, Nat.reduceBEq, Nat.reduceAdd, Nat.reduceMul, Nat.reduceLT, Nat.reduceSub, Nat.reduceLeDiff, Nat.reduceEqDiff, Nat.reduceBneDiff, Int.reduceToNat, decide_eq_true_eq, decide_eq_false_iff_not, beq_iff_eq, Int.toNat_natCast, loopK_normal, loopK_exit, loopK_ret, w2]
      obtain rfl : k = ms.length := by omega
      rw [List.take_length]
      exact ⟨_, [(0, some _)], rfl, ⟨⟨⟨rfl, rfl, rfl⟩, trivial⟩, ⟨.inl rfl, rfl, rfl, rfl, trivial⟩, by simp [rn, hpAt]⟩⟩
  · cases hg
def pod : List (FuncId × Abs) := [(33, pureAbs g_rowCopied)]
theorem pod_ok : ∀ p ∈ pod, CallOk Try.prog p.1 p.2 := by
  intro p hp
  simp only [pod, List.mem_cons, List.not_mem_nil, or_false] at hp
  rcases hp with rfl
  · exact rowCopied_ok.call
set_option maxHeartbeats 1000000 in
set_option maxRecDepth 100000 in
theorem portsCopied_ok : PureOk Try.prog 20 g_portsCopied := by
  refine PureOk.of_vc (G := pod) pod_ok mixed Try.func20 (by kernel_rfl) rfl ?_
  intro args cnd r bs hg hc
  unfold g_portsCopied at hg
  split at hg
  · rename_i sz rows
    cases hg
    obtain ⟨l, rfl, hn, hd⟩ := hc
    refine ⟨⟨rfl, by simp [flatB], by simp [AV.ids, AV.ids.idsL]⟩, [.l 2 (poRows l)], rfl, fun w vs h => CvL.ok (.cons (.l _ _ _ (poRows_w l)) .nil) h, ?_⟩
    simp (maxSteps := 3000000) only [Try.f20, pod, poRows_len, tYs, evL, implies_true, oMin, x_max, oMax, oCopy, oBin, oUn, oLoadKid, oStoreTree, oField, oExtract, oNil, oSliceQ, oSliceE, x_appendZ, oAppendZ, oSliceEnd, endMode, oLoadRow, takeCells, TS.atRow, TS.ex, treeMode, AV.isOwn, TK.isSl, nilTk, nilsB, oLenQ, oLen, nodupB, treeOf, kidAbs, kidRows, TK.isCell, D.toL, oLoad, oStore, oMake, oIndexAddr, ↓reduceIte, reduceCtorEq, Nat.reduceBEq, Nat.reduceAdd, Nat.reduceMul, Nat.reduceLT, Nat.reduceSub, Nat.reduceLeDiff, Nat.reduceEqDiff, Nat.reduceBneDiff, Int.reduceToNat, decide_eq_true_eq, decide_eq_false_iff_not, beq_iff_eq, Int.toNat_natCast]
    refine ⟨by omega, ?_⟩
    refine e_loop _ _ _ _ _ _ _ _ (fun k : Nat => [.any, .any, .any, .own 0, .any, .any, .any, .any, .any, .l 2 (poRows l), .v (.int .i64 (l.length : Int)), .v (.int .i64 (k : Int))] ++ List.replicate (Try.f20.ntmps - 12) .any) (fun k => [(0, .tr .whole 44 2 [.cell, .sl 27 4 [.cell, .cell, .cell, .sl 5 1 [.cell]]] (poRows (l.take k)))]) (fun k => k ≤ l.length) (fun k => l.length - k) 1 (fun k => by simp) ?_ fun k hk' => ?_
    · exact ⟨0, [(0, some _)], Nat.zero_le _, ⟨⟨trivial, trivial, trivial, ⟨rfl, rfl, rfl⟩, trivial, trivial, trivial, trivial, trivial, ⟨rfl, rfl, rfl⟩, ⟨rfl, rfl, rfl⟩, ⟨rfl, rfl, rfl⟩, fitT_rep _ _ rfl⟩, ⟨.inr (.inl ⟨rfl, rfl, rfl⟩), rfl, rfl, rfl, trivial⟩, by simp [rn, hpAt]⟩, by simp [keepIds]⟩
    have w2 : IntKind.i64.wrap ((k : Int) + 1) = ((k + 1 : Nat) : Int) := by rw [wrap_id] <;> omega
    by_cases hk : k < l.length
    · have hrow := poRows_get l k hk
      have hlt : ((k : Int) < (l.length : Int)) = True := eq_true (by omega)
      have h0 : (0 ≤ (k : Int)) = True := eq_true (by omega)
      have hx := hd l[k] (List.getElem_mem hk)
      have e1 : poRows (l.take k) ++ [poRow l[k]] = poRows (l.take (k + 1)) := by
        rw [take_one hk, ← poRows_app]; rfl
      have hpl : (poRows (l.take k)).length = k := by rw [poRows_len, List.length_take]; omega
      rw [poRow] at e1
      simp (maxSteps := 3000000) only [Try.f20, pod, poRows_len, mRows_len, rowsOf_len, bytesOf_rows, msOf_rows, posOf_rows, g_rowCopied, hrow, hlt, h0, hpl, e1, D.toI, D.toL, poRow, tYs, evL, implies_true, oMin, x_max, oMax, oCopy, oBin, oUn, oLoadKid, oStoreTree, oField, oExtract, oNil, oSliceQ, oSliceE, x_appendZ, oAppendZ, oSliceEnd, endMode, oLoadRow, takeCells, TS.atRow, TS.ex, treeMode, AV.isOwn, TK.isSl, nilTk, nilsB, oLenQ, oLen, nodupB, treeOf, kidAbs, kidRows, TK.isCell, D.toL, oLoad, oStore, oMake, oIndexAddr, ↓reduceIte, reduceCtorEq, Nat.reduceBEq, Nat.reduceAdd, Nat.reduceMul, Nat.reduceLT, Nat.reduceSub, Nat.reduceLeDiff, Nat.reduceEqDiff, Nat.reduceBneDiff, Int.reduceToNat, decide_eq_true_eq, decide_eq_false_iff_not, beq_iff_eq, Int.toNat_natCast, loopK_normal, loopK_exit, loopK_ret, w2]
      exact ⟨⟨_, rfl, hx⟩, ⟨by omega, by omega⟩, by kernel_rfl, k + 1, [(0, some _)], by omega, by omega, ⟨⟨trivial, trivial, trivial, ⟨rfl, rfl, rfl⟩, trivial, trivial, trivial, trivial, trivial, ⟨rfl, rfl, rfl⟩, ⟨rfl, rfl, rfl⟩, ⟨rfl, rfl, rfl⟩, fitT_rep _ _ rfl⟩, ⟨.inl rfl, rfl, rfl, rfl, trivial⟩, by simp [rn, hpAt]⟩, by simp [keepIds]⟩
    · have hlt : ((k : Int) < (l.length : Int)) = False := eq_false (by omega)
      simp (maxSteps := 3000000) only [Try.f20, pod, poRows_len, mRows_len, rowsOf_len, bytesOf_rows, msOf_rows, posOf_rows, hlt, D.toI, D.toL, poRow, tYs, evL, implies_true, oMin, x_max, oMax, oCopy, oBin, oUn, oLoadKid, oStoreTree, oField, oExtract, oNil, oSliceQ, oSliceE, x_appendZ, oAppendZ, oSliceEnd, endMode, oLoadRow, takeCells, TS.atRow, TS.ex, treeMode, AV.isOwn, TK.isSl, nilTk, nilsB, oLenQ, oLen, nodupB, treeOf, kidAbs, kidRows, TK.isCell, D.toL, oLoad, oStore, oMake, oIndexAddr, ↓reduceIte, reduceCtorEq, Nat.reduceBEq, Nat.reduceAdd, Nat.reduceMul, Nat.reduceLT, Nat.reduceSub, Nat.reduceLeDiff, Nat.reduceEqDiff, Nat.reduceBneDiff, Int.reduceToNat, decide_eq_true_eq, decide_eq_false_iff_not, beq_iff_eq, Int.toNat_natCast, loopK_normal, loopK_exit, loopK_ret, w2]
      obtain rfl : k = l.length := by omega
      rw [List.take_length]
      exact ⟨_, [(0, some _)], rfl, ⟨⟨⟨rfl, rfl, rfl⟩, trivial⟩, ⟨.inl rfl, rfl, rfl, rfl, trivial⟩, by simp [rn, hpAt]⟩⟩
  · cases hg
end Go.Proofs.Ytcpmifgdmlpcpaa
