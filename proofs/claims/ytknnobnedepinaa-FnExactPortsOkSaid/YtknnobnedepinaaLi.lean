import Derived.Test.YtknnobnedepinaaLh
set_option linter.unusedVariables false
set_option linter.unusedSimpArgs false
namespace Go.Proofs.Ytknnobnedepinaa
open Go.RowKit
set_option linter.unusedSimpArgs false
theorem mlV_le (m : Ml) (to : Int) : (mlV m to).length ≤ 45 := by
  cases h : (mlB m && inZ to 0 65535) with
  | true =>
    rw [mlV_len h]
    have hb := h
    rw [Bool.and_eq_true] at hb
    have := (mlB_iff.1 hb.1).2.2.2
    omega
  | false => rw [mlV, if_neg (by rw [h]; decide)]; simp
theorem mfD_le (a t : Int) (b : List UInt8) : (mfD a t b).length ≤ b.length := by
  rw [mfD]
  split
  · rw [List.length_take, List.length_drop]; omega
  · simp
theorem sumM_bd {b : Nat} : ∀ {ms : List Ml}, (∀ m ∈ ms, m.d.length ≤ b) → sumM ms ≤ ms.length * b
  | [], _ => by simp [sumM]
  | x :: t, h => by
    have h1 := h x (List.mem_cons_self ..)
    have h2 := sumM_bd (ms := t) fun y hy => h y (List.mem_cons_of_mem _ hy)
    rw [sumM, List.map_cons, List.sum_cons, ← sumM, List.length_cons, Nat.succ_mul]
    omega
theorem posB_row {l : List Po} (h : posB l = true) {x : Po} (hx : x ∈ l) : x.row.length ≤ 3 ∧ sumM x.row ≤ 120 := by
  obtain ⟨_, h2, _⟩ := posB_iff.1 h
  obtain ⟨_, b2, b3⟩ := poB_iff.1 (h2 x hx)
  have := sumM_bd (b := 40) (ms := x.row) fun m hm => (mlB_iff.1 (b3 m hm).1).2.2.2
  exact ⟨b2, by omega⟩
theorem posB_sum {l : List Po} (h : posB l = true) : l.length ≤ 4 ∧ sumO l ≤ 516 := by
  have h1 := (posB_iff.1 h).1
  have := sumO_le (l := l) (b := 129) fun x hx => by have := posB_row h hx; omega
  exact ⟨h1, by omega⟩
theorem posB_good {l : List Po} (h : posB l = true) : poGood l := by
  obtain ⟨h1, h2⟩ := posB_sum h
  exact ⟨by omega, by omega, fun x hx => by have := posB_row h hx; omega⟩
theorem plV_ok (l : List Po) (x : Int) : posB (plV l x) = true := by
  cases h : plB l x with
  | true => exact (pl_yes h).1
  | false =>
    rw [plV, h]
    split
    · rename_i hb
      rw [Bool.and_eq_true] at hb
      exact hb.1
    · rfl
theorem pHearV_ok (l : List Po) (o : Int) (x : Pk) : posB (pHearV l o x) = true := by
  by_cases h : pHearN l o x = 1
  · exact (hear_here h).2.1
  · cases hb : posB l with
    | true => rw [hear_else hb h]; exact hb
    | false => rw [pHearV, if_neg (by rw [hb]; decide)]; rfl
def g_xl1 : PC := fun args => match args with
  | [.agg [.v (.int .i64 a), .v (.int .i64 f), .v (.int .i64 t), .l _ rows]] => some (rows.length ≤ 9223372036854775807 ∧ ∃ xs, rows = rowsOfBytes xs, .v (.bool true), [])
  | _ => none
def g_xl2 : PC := fun args => match args with
  | [.agg [.v (.int .i64 a), .v (.int .i64 f), .v (.int .i64 t), .l _ rows], .v (.int .i64 to)] => some (rows.length ≤ 9223372036854775807 ∧ ∃ xs, rows = rowsOfBytes xs, .v (.bool true), [])
  | _ => none
def g_xl3 : PC := fun args => match args with
  | [.v (.int .i64 a), .v (.int .i64 t), .l _ rows] => some (∃ xs, rows = rowsOfBytes xs, .v (.bool true), [])
  | _ => none
def g_xl4 : PC := fun args => match args with
  | [.l _ rows] => some (∃ l, rows = poRows l ∧ poFin l, .v (.bool true), [])
  | _ => none
def g_xl5 : PC := fun args => match args with
  | [.l _ rows, .v (.int .i64 x)] => some (∃ l, rows = poRows l ∧ poFin l, .v (.bool true), [])
  | _ => none
def g_xl6 : PC := fun args => match args with
  | [.l _ rows', .v (.int .i64 o), .agg [.v (.int .i64 f), .v (.int .i64 t), .v (.int .i64 p), .v (.int .i64 h), .v (.int .i64 i), .v (.int .i64 a), .v (.bool m), .v (.bool u), .l _ rows]] => some ((∃ l, rows' = poRows l ∧ poFin l) ∧ rows.length ≤ 9223372036854775807 ∧ ∃ xs, rows = rowsOfBytes xs, .v (.bool true), [])
  | _ => none
def xla : List (FuncId × Abs) := [(37, pureAbs g_szMail), (38, pureAbs g_toMail), (39, pureAbs g_eqMail), (16, pureAbs g_mailOk), (17, pureAbs g_mailOk)]
theorem xla_ok : ∀ p ∈ xla, CallOk Try.prog p.1 p.2 := by
  intro p hp
  simp only [xla, List.mem_cons, List.not_mem_nil, or_false] at hp
  rcases hp with rfl | rfl | rfl | rfl | rfl
  · exact szMail_ok.call
  · exact toMail_ok.call
  · exact eqMail_ok.call
  · exact implMailOk_ok.call
  · exact specMailOk_ok.call
set_option maxHeartbeats 4000000 in
set_option maxRecDepth 100000 in
theorem lawExactMailOk_ok : PureOk Try.prog 9 g_xl1 := by
  refine PureOk.of_vc (G := xla) xla_ok mixed Try.func9 (by kernel_rfl) rfl ?_
  intro args cnd r bs hg hc
  unfold g_xl1 at hg
  split at hg
  · rename_i a f t sz rows
    cases hg
    obtain ⟨hn, xs, rfl⟩ := hc
    rw [rowsOf_len] at hn
    refine ⟨⟨rfl, by simp, by simp [AV.ids, AV.ids.idsL]⟩, [.agg [.v (.int .i64 a), .v (.int .i64 f), .v (.int .i64 t), .l 1 (rowsOfBytes xs)]], rfl, fun w vs h => CvL.ok (.cons (.cons (.refl _) (.cons (.refl _) (.cons (.refl _) (.cons (.l _ _ _ (rowsOf_w xs)) .nil)))) .nil) h, ?_⟩
    simp (maxSteps := 3000000) only [Try.f9, xla, g_szMail, g_toMail, g_eqMail, g_mailOk, bytesOf_rows, rowsOf_len, marks_len, posOf_rows, poRows_len, poL_len, poC_mk, bne_self_eq_false, and_self, decide_true, tYs, evL, implies_true, oMin, oCopy, oBin, oUn, oLoadKid, oStoreTree, oField, oExtract, oNil, oSliceQ, oLoadRow, takeCells, TS.atRow, TS.ex, treeMode, AV.isOwn, TK.isSl, nilTk, nilsB, oLenQ, oLen, nodupB, treeOf, kidAbs, kidRows, TK.isCell, D.toL, oLoad, oStore, oMake, oIndexAddr, ↓reduceIte, reduceCtorEq, Nat.reduceBEq, Nat.reduceAdd, Nat.reduceMul, Nat.reduceLT, Nat.reduceSub, Nat.reduceLeDiff, Nat.reduceEqDiff, Nat.reduceBneDiff, Int.reduceToNat, decide_eq_true_eq, decide_eq_false_iff_not, beq_iff_eq, Int.toNat_natCast]
    have hb := szLeft_bd (l := 1048576) (n := xs.length) (by omega)
    refine ⟨⟨by omega, hn, _, rfl⟩, ?_⟩
    by_cases hz : szLeft 1048576 xs.length < 0
    · rw [if_pos hz]
      (refine ⟨_, [], rfl, ⟨⟨⟨?_, rfl, rfl⟩, trivial⟩, by simp [hpAt, fitH], by simp [hpAt]⟩⟩; refine congrArg (fun b => AV.v (Value.bool b)) ?_; first | rfl | (rw [Bool.eq_iff_iff]; simp only [decide_eq_true_eq, frB, inZ, Bool.false_eq_true, beq_eq_false_iff_ne, beq_iff_eq, ne_eq, decide_eq_false_iff_not, Bool.not_eq_eq_eq_not, Bool.not_true, Bool.not_false, false_iff, iff_false, true_iff, iff_true] at *; omega))
    · rw [if_neg hz]
      have hx := hb.2.2 (by omega)
      skip
      clear hz hb hn
      (repeat (first | (refine And.intro ?_ ?_; focus (((repeat' apply And.intro) <;> first | exact rowsOf_w _ | omega | (simp only [List.length_append, rowsOf_len, List.length_cons, List.length_nil, marks_len, List.length_take, List.length_drop, List.length_set]; omega) | exact ⟨_, rfl⟩ | (refine ⟨_, rfl, ?_⟩; omega) | (refine ⟨_, rfl, ?_⟩; simp only [List.length_append, rowsOf_len, List.length_cons, List.length_nil, marks_len, List.length_take, List.length_drop, List.length_set]; omega) | kernel_rfl | (simp; done)); done)) | (rw [if_neg]; rotate_left; focus (omega; done)) | (rw [if_pos]; rotate_left; focus (omega; done))))
      clear hx
      refine ⟨_, [], rfl, ?_⟩
      (refine ⟨?_, ?_, ?_⟩ <;> simp [packA, hpAt, fitT, fit1, fitH, fitB, trE, emptyB, rn, lk, AV.ren, AV.ren.renL, Blk.ren, blkIds, blkPids, AV.ids, AV.ids.idsL, AV.pids, AV.pids.pidsL, Blk.there])
  · cases hg
def xlb : List (FuncId × Abs) := [(37, pureAbs g_szMail), (38, pureAbs g_toMail), (39, pureAbs g_eqMail), (41, ownAbs g_markMail), (45, pureAbs g_heldMail), (44, pureAbs g_toByteS), (40, pureAbs g_eqByteS), (42, ownAbs g_markByteS), (43, pureAbs g_heldByteS), (20, pureAbs g_mailBytes), (22, pureAbs g_mailBytes)]
theorem xlb_ok : ∀ p ∈ xlb, CallOk Try.prog p.1 p.2 := by
  intro p hp
  simp only [xlb, List.mem_cons, List.not_mem_nil, or_false] at hp
  rcases hp with rfl | rfl | rfl | rfl | rfl | rfl | rfl | rfl | rfl | rfl | rfl
  · exact szMail_ok.call
  · exact toMail_ok.call
  · exact eqMail_ok.call
  · exact markMail_ok.call
  · exact heldMail_ok.call
  · exact toByteS_ok.call
  · exact eqByteS_ok.call
  · exact markByteS_ok.call
  · exact heldByteS_ok.call
  · exact implMailBytes_ok.call
  · exact specMailBytes_ok.call
set_option maxHeartbeats 4000000 in
set_option maxRecDepth 100000 in
theorem lawExactMailBytes_ok : PureOk Try.prog 10 g_xl2 := by
  refine PureOk.of_vc (G := xlb) xlb_ok mixed Try.func10 (by kernel_rfl) rfl ?_
  intro args cnd r bs hg hc
  unfold g_xl2 at hg
  split at hg
  · rename_i a f t sz rows to
    cases hg
    obtain ⟨hn, xs, rfl⟩ := hc
    rw [rowsOf_len] at hn
    refine ⟨⟨rfl, by simp, by simp [AV.ids, AV.ids.idsL]⟩, [.agg [.v (.int .i64 a), .v (.int .i64 f), .v (.int .i64 t), .l 1 (rowsOfBytes xs)], .v (.int .i64 to)], rfl, fun w vs h => CvL.ok (.cons (.cons (.refl _) (.cons (.refl _) (.cons (.refl _) (.cons (.l _ _ _ (rowsOf_w xs)) .nil)))) (.cons (.refl _) .nil)) h, ?_⟩
    simp (maxSteps := 3000000) only [Try.f10, xlb, g_szMail, g_toMail, g_eqMail, g_markMail, g_heldMail, g_toByteS, g_eqByteS, g_markByteS, g_heldByteS, g_mailBytes, bytesOf_rows, rowsOf_len, marks_len, posOf_rows, poRows_len, poL_len, poC_mk, bne_self_eq_false, and_self, decide_true, tYs, evL, implies_true, oMin, oCopy, oBin, oUn, oLoadKid, oStoreTree, oField, oExtract, oNil, oSliceQ, oLoadRow, takeCells, TS.atRow, TS.ex, treeMode, AV.isOwn, TK.isSl, nilTk, nilsB, oLenQ, oLen, nodupB, treeOf, kidAbs, kidRows, TK.isCell, D.toL, oLoad, oStore, oMake, oIndexAddr, ↓reduceIte, reduceCtorEq, Nat.reduceBEq, Nat.reduceAdd, Nat.reduceMul, Nat.reduceLT, Nat.reduceSub, Nat.reduceLeDiff, Nat.reduceEqDiff, Nat.reduceBneDiff, Int.reduceToNat, decide_eq_true_eq, decide_eq_false_iff_not, beq_iff_eq, Int.toNat_natCast]
    have hb := szLeft_bd (l := 1048576) (n := xs.length) (by omega)
    refine ⟨⟨by omega, hn, _, rfl⟩, ?_⟩
    by_cases hz : szLeft 1048576 xs.length < 0
    · rw [if_pos hz]
      (refine ⟨_, [], rfl, ⟨⟨⟨?_, rfl, rfl⟩, trivial⟩, by simp [hpAt, fitH], by simp [hpAt]⟩⟩; refine congrArg (fun b => AV.v (Value.bool b)) ?_; first | rfl | (rw [Bool.eq_iff_iff]; simp only [decide_eq_true_eq, frB, inZ, Bool.false_eq_true, beq_eq_false_iff_ne, beq_iff_eq, ne_eq, decide_eq_false_iff_not, Bool.not_eq_eq_eq_not, Bool.not_true, Bool.not_false, false_iff, iff_false, true_iff, iff_true] at *; omega))
    · rw [if_neg hz]
      have hx := hb.2.2 (by omega)
      have hv := mlV_le ⟨a, f, t, xs⟩ to
      clear hz hb hn
      (repeat (first | (refine And.intro ?_ ?_; focus (((repeat' apply And.intro) <;> first | exact rowsOf_w _ | omega | (simp only [List.length_append, rowsOf_len, List.length_cons, List.length_nil, marks_len, List.length_take, List.length_drop, List.length_set]; omega) | exact ⟨_, rfl⟩ | (refine ⟨_, rfl, ?_⟩; omega) | (refine ⟨_, rfl, ?_⟩; simp only [List.length_append, rowsOf_len, List.length_cons, List.length_nil, marks_len, List.length_take, List.length_drop, List.length_set]; omega) | kernel_rfl | (simp; done)); done)) | (rw [if_neg]; rotate_left; focus (omega; done)) | (rw [if_pos]; rotate_left; focus (omega; done))))
      clear hx hv
      refine ⟨_, [], rfl, ?_⟩
      (refine ⟨?_, ?_, ?_⟩ <;> simp [packA, hpAt, fitT, fit1, fitH, fitB, trE, emptyB, rn, lk, AV.ren, AV.ren.renL, Blk.ren, blkIds, blkPids, AV.ids, AV.ids.idsL, AV.pids, AV.pids.pidsL, Blk.there])
  · cases hg
def xlc : List (FuncId × Abs) := [(37, pureAbs g_szMail), (38, pureAbs g_toMail), (39, pureAbs g_eqMail), (41, ownAbs g_markMail), (45, pureAbs g_heldMail), (44, pureAbs g_toByteS), (40, pureAbs g_eqByteS), (42, ownAbs g_markByteS), (43, pureAbs g_heldByteS), (23, pureAbs g_mailFrom), (26, pureAbs g_mailFrom)]
theorem xlc_ok : ∀ p ∈ xlc, CallOk Try.prog p.1 p.2 := by
  intro p hp
  simp only [xlc, List.mem_cons, List.not_mem_nil, or_false] at hp
  rcases hp with rfl | rfl | rfl | rfl | rfl | rfl | rfl | rfl | rfl | rfl | rfl
  · exact szMail_ok.call
  · exact toMail_ok.call
  · exact eqMail_ok.call
  · exact markMail_ok.call
  · exact heldMail_ok.call
  · exact toByteS_ok.call
  · exact eqByteS_ok.call
  · exact markByteS_ok.call
  · exact heldByteS_ok.call
  · exact implMailFrom_ok.call
  · exact specMailFrom_ok.call
set_option maxHeartbeats 4000000 in
set_option maxRecDepth 100000 in
theorem lawExactMailFrom_ok : PureOk Try.prog 11 g_xl3 := by
  refine PureOk.of_vc (G := xlc) xlc_ok mixed Try.func11 (by kernel_rfl) rfl ?_
  intro args cnd r bs hg hc
  unfold g_xl3 at hg
  split at hg
  · rename_i a t sz rows
    cases hg
    obtain ⟨xs, rfl⟩ := hc
    refine ⟨⟨rfl, by simp, by simp [AV.ids, AV.ids.idsL]⟩, [.v (.int .i64 a), .v (.int .i64 t), .l 1 (rowsOfBytes xs)], rfl, fun w vs h => CvL.ok (.cons (.refl _) (.cons (.refl _) (.cons (.l _ _ _ (rowsOf_w xs)) .nil))) h, ?_⟩
    simp (maxSteps := 3000000) only [Try.f11, xlc, g_szMail, g_toMail, g_eqMail, g_markMail, g_heldMail, g_toByteS, g_eqByteS, g_markByteS, g_heldByteS, g_mailFrom, bytesOf_rows, rowsOf_len, marks_len, posOf_rows, poRows_len, poL_len, poC_mk, bne_self_eq_false, and_self, decide_true, tYs, evL, implies_true, oMin, oCopy, oBin, oUn, oLoadKid, oStoreTree, oField, oExtract, oNil, oSliceQ, oLoadRow, takeCells, TS.atRow, TS.ex, treeMode, AV.isOwn, TK.isSl, nilTk, nilsB, oLenQ, oLen, nodupB, treeOf, kidAbs, kidRows, TK.isCell, D.toL, oLoad, oStore, oMake, oIndexAddr, ↓reduceIte, reduceCtorEq, Nat.reduceBEq, Nat.reduceAdd, Nat.reduceMul, Nat.reduceLT, Nat.reduceSub, Nat.reduceLeDiff, Nat.reduceEqDiff, Nat.reduceBneDiff, Int.reduceToNat, decide_eq_true_eq, decide_eq_false_iff_not, beq_iff_eq, Int.toNat_natCast]
    by_cases hx : (xs.length : Int) > 1048576
    · rw [if_pos hx]
      (refine ⟨_, [], rfl, ⟨⟨⟨?_, rfl, rfl⟩, trivial⟩, by simp [hpAt, fitH], by simp [hpAt]⟩⟩; refine congrArg (fun b => AV.v (Value.bool b)) ?_; first | rfl | (rw [Bool.eq_iff_iff]; simp only [decide_eq_true_eq, frB, inZ, Bool.false_eq_true, beq_eq_false_iff_ne, beq_iff_eq, ne_eq, decide_eq_false_iff_not, Bool.not_eq_eq_eq_not, Bool.not_true, Bool.not_false, false_iff, iff_false, true_iff, iff_true] at *; omega))
    · rw [if_neg hx]
      have hv := mfD_le a t xs
      (repeat (first | (refine And.intro ?_ ?_; focus (((repeat' apply And.intro) <;> first | exact rowsOf_w _ | omega | (simp only [List.length_append, rowsOf_len, List.length_cons, List.length_nil, marks_len, List.length_take, List.length_drop, List.length_set]; omega) | exact ⟨_, rfl⟩ | (refine ⟨_, rfl, ?_⟩; omega) | (refine ⟨_, rfl, ?_⟩; simp only [List.length_append, rowsOf_len, List.length_cons, List.length_nil, marks_len, List.length_take, List.length_drop, List.length_set]; omega) | kernel_rfl | (simp; done)); done)) | (rw [if_neg]; rotate_left; focus (omega; done)) | (rw [if_pos]; rotate_left; focus (omega; done))))
      clear hx hv
      refine ⟨_, [], rfl, ?_⟩
      (refine ⟨?_, ?_, ?_⟩ <;> simp [packA, hpAt, fitT, fit1, fitH, fitB, trE, emptyB, rn, lk, AV.ren, AV.ren.renL, Blk.ren, blkIds, blkPids, AV.ids, AV.ids.idsL, AV.pids, AV.pids.pidsL, Blk.there])
  · cases hg
def xld : List (FuncId × Abs) := [(46, pureAbs g_szPortS), (47, pureAbs g_toPortS), (48, pureAbs g_eqPortS), (28, pureAbs g_portsOk), (29, pureAbs g_portsOk)]
theorem xld_ok : ∀ p ∈ xld, CallOk Try.prog p.1 p.2 := by
  intro p hp
  simp only [xld, List.mem_cons, List.not_mem_nil, or_false] at hp
  rcases hp with rfl | rfl | rfl | rfl | rfl
  · exact szPortS_ok.call
  · exact toPortS_ok.call
  · exact eqPortS_ok.call
  · exact implPortsOk_ok.call
  · exact specPortsOk_ok.call
set_option maxHeartbeats 8000000 in
set_option maxRecDepth 100000 in
theorem lawExactPortsOk_ok : PureOk Try.prog 12 g_xl4 := by
  refine PureOk.of_vc (G := xld) xld_ok mixed Try.func12 (by kernel_rfl) rfl ?_
  intro args cnd r bs hg hc
  unfold g_xl4 at hg
  split at hg
  · rename_i sz rows
    cases hg
    obtain ⟨l, rfl, hf⟩ := hc
    refine ⟨⟨rfl, by simp, by simp [AV.ids, AV.ids.idsL]⟩, [.l 2 (poRows l)], rfl, fun w vs h => CvL.ok (.cons (.l _ _ _ (poRows_w l)) .nil) h, ?_⟩
    simp (maxSteps := 3000000) only [Try.f12, xld, g_szPortS, g_toPortS, g_eqPortS, g_portsOk, bytesOf_rows, rowsOf_len, marks_len, posOf_rows, poRows_len, poL_len, poC_mk, bne_self_eq_false, and_self, decide_true, tYs, evL, implies_true, oMin, oCopy, oBin, oUn, oLoadKid, oStoreTree, oField, oExtract, oNil, oSliceQ, oLoadRow, takeCells, TS.atRow, TS.ex, treeMode, AV.isOwn, TK.isSl, nilTk, nilsB, oLenQ, oLen, nodupB, treeOf, kidAbs, kidRows, TK.isCell, D.toL, oLoad, oStore, oMake, oIndexAddr, ↓reduceIte, reduceCtorEq, Nat.reduceBEq, Nat.reduceAdd, Nat.reduceMul, Nat.reduceLT, Nat.reduceSub, Nat.reduceLeDiff, Nat.reduceEqDiff, Nat.reduceBneDiff, Int.reduceToNat, decide_eq_true_eq, decide_eq_false_iff_not, beq_iff_eq, Int.toNat_natCast]
    have hb := szOS_bd l 1048576 (by omega)
    refine ⟨⟨by omega, _, rfl, hf⟩, ?_⟩
    by_cases hz : szOS l 1048576 < 0
    · rw [if_pos hz]
      exact ⟨_, [], rfl, ⟨⟨⟨rfl, rfl, rfl⟩, trivial⟩, trivial, by simp [rn, hpAt]⟩⟩
    · rw [if_neg hz]
      have hm := hb.2.2 (by omega)
      have hsO := szOS_sum (l := l) (L := 1048576) (by omega) (by omega)
      have hse := szOS_each (l := l) (L := 1048576) (by omega) (by omega)
      have gl : poGood l := ⟨by have := hm.1; omega, by omega, fun x hx => ⟨by have := (hm.2 x hx).1; omega, by have := hse x hx; omega⟩⟩
      have q1 := poC_eq l 1
      have hml := hm.1
      clear hz hb
      repeat' first
        | refine And.intro ⟨_, rfl, hm⟩ ?_
        | refine And.intro ⟨_, rfl, by omega⟩ ?_
        | refine And.intro ⟨⟨_, rfl, hm⟩, ⟨_, rfl, hm⟩⟩ ?_
        | refine And.intro ⟨⟨_, rfl, hm⟩, ⟨_, rfl, by omega⟩⟩ ?_
        | refine And.intro ⟨⟨_, rfl, by omega⟩, ⟨_, rfl, by omega⟩⟩ ?_
        | refine And.intro ⟨⟨_, rfl, gl⟩, by omega, by omega⟩ ?_
        | refine And.intro ⟨⟨_, rfl⟩, by omega, by omega, by omega⟩ ?_
        | refine And.intro ⟨by omega, by omega, by omega⟩ ?_
        | refine And.intro (by kernel_rfl) ?_
        | rw [if_neg (by omega)]
        | rw [if_pos (by omega)]
      exact ⟨_, [], rfl, ⟨⟨⟨rfl, rfl, rfl⟩, trivial⟩, trivial, by simp [rn, hpAt]⟩⟩
  · cases hg
def xle : List (FuncId × Abs) := [(46, pureAbs g_szPortS), (47, pureAbs g_toPortS), (48, pureAbs g_eqPortS), (49, ownAbs g_markPortS), (50, pureAbs g_heldPortS), (31, pureAbs g_portListen), (32, pureAbs g_portListen)]
theorem xle_ok : ∀ p ∈ xle, CallOk Try.prog p.1 p.2 := by
  intro p hp
  simp only [xle, List.mem_cons, List.not_mem_nil, or_false] at hp
  rcases hp with rfl | rfl | rfl | rfl | rfl | rfl | rfl
  · exact szPortS_ok.call
  · exact toPortS_ok.call
  · exact eqPortS_ok.call
  · exact markPortS_ok.call
  · exact heldPortS_ok.call
  · exact implPortListen_ok.call
  · exact specPortListen_ok.call
set_option maxHeartbeats 8000000 in
set_option maxRecDepth 100000 in
theorem lawExactPortListen_ok : PureOk Try.prog 13 g_xl5 := by
  refine PureOk.of_vc (G := xle) xle_ok mixed Try.func13 (by kernel_rfl) rfl ?_
  intro args cnd r bs hg hc
  unfold g_xl5 at hg
  split at hg
  · rename_i sz rows x
    cases hg
    obtain ⟨l, rfl, hf⟩ := hc
    refine ⟨⟨rfl, by simp, by simp [AV.ids, AV.ids.idsL]⟩, [.l 2 (poRows l), .v (.int .i64 x)], rfl, fun w vs h => CvL.ok (.cons (.l _ _ _ (poRows_w l)) (.cons (.refl _) .nil)) h, ?_⟩
    simp (maxSteps := 3000000) only [Try.f13, xle, g_szPortS, g_toPortS, g_eqPortS, g_markPortS, g_heldPortS, g_portListen, bytesOf_rows, rowsOf_len, marks_len, posOf_rows, poRows_len, poL_len, poC_mk, bne_self_eq_false, and_self, decide_true, tYs, evL, implies_true, oMin, oCopy, oBin, oUn, oLoadKid, oStoreTree, oField, oExtract, oNil, oSliceQ, oLoadRow, takeCells, TS.atRow, TS.ex, treeMode, AV.isOwn, TK.isSl, nilTk, nilsB, oLenQ, oLen, nodupB, treeOf, kidAbs, kidRows, TK.isCell, D.toL, oLoad, oStore, oMake, oIndexAddr, ↓reduceIte, reduceCtorEq, Nat.reduceBEq, Nat.reduceAdd, Nat.reduceMul, Nat.reduceLT, Nat.reduceSub, Nat.reduceLeDiff, Nat.reduceEqDiff, Nat.reduceBneDiff, Int.reduceToNat, decide_eq_true_eq, decide_eq_false_iff_not, beq_iff_eq, Int.toNat_natCast]
    have hb := szOS_bd l 1048576 (by omega)
    refine ⟨⟨by omega, _, rfl, hf⟩, ?_⟩
    by_cases hz : szOS l 1048576 < 0
    · rw [if_pos hz]
      exact ⟨_, [], rfl, ⟨⟨⟨rfl, rfl, rfl⟩, trivial⟩, trivial, by simp [rn, hpAt]⟩⟩
    · rw [if_neg hz]
      have hm := hb.2.2 (by omega)
      have hsO := szOS_sum (l := l) (L := 1048576) (by omega) (by omega)
      have hse := szOS_each (l := l) (L := 1048576) (by omega) (by omega)
      have gl : poGood l := ⟨by have := hm.1; omega, by omega, fun x hx => ⟨by have := (hm.2 x hx).1; omega, by have := hse x hx; omega⟩⟩
      have q1 := poC_eq l 1
      have hml := hm.1
      have fo : posB (plV l x) = true := plV_ok l x
      have fm := poMid_ok fo
      have gf := posB_good fo
      obtain ⟨fl, fs⟩ := posB_sum fo
      have q2 := poC_eq (plV l x) 1
      clear hz hb
      repeat' first
        | refine And.intro ⟨_, rfl, hm⟩ ?_
        | refine And.intro ⟨_, rfl, by omega⟩ ?_
        | refine And.intro ⟨⟨_, rfl, hm⟩, ⟨_, rfl, hm⟩⟩ ?_
        | refine And.intro ⟨⟨_, rfl, hm⟩, ⟨_, rfl, by omega⟩⟩ ?_
        | refine And.intro ⟨_, rfl, fm⟩ ?_
        | refine And.intro ⟨⟨_, rfl, fm⟩, ⟨_, rfl, fm⟩⟩ ?_
        | refine And.intro ⟨⟨_, rfl, by omega⟩, ⟨_, rfl, by omega⟩⟩ ?_
        | refine And.intro ⟨⟨_, rfl, gl⟩, by omega, by omega⟩ ?_
        | refine And.intro ⟨⟨_, rfl, gf⟩, by omega, by omega⟩ ?_
        | refine And.intro ⟨⟨_, rfl⟩, by omega, by omega, by omega⟩ ?_
        | refine And.intro ⟨by omega, by omega, by omega⟩ ?_
        | refine And.intro (by kernel_rfl) ?_
        | rw [if_neg (by omega)]
        | rw [if_pos (by omega)]
      exact ⟨_, [], rfl, ⟨⟨⟨rfl, rfl, rfl⟩, trivial⟩, trivial, by simp [rn, hpAt]⟩⟩
  · cases hg
def xlf : List (FuncId × Abs) := [(46, pureAbs g_szPortS), (47, pureAbs g_toPortS), (48, pureAbs g_eqPortS), (49, ownAbs g_markPortS), (50, pureAbs g_heldPortS), (51, pureAbs g_szPacket), (52, pureAbs g_toPacket), (53, pureAbs g_eqPacket), (54, ownAbs g_markPacket), (35, pureAbs g_portHear), (36, pureAbs g_portHear)]
theorem xlf_ok : ∀ p ∈ xlf, CallOk Try.prog p.1 p.2 := by
  intro p hp
  simp only [xlf, List.mem_cons, List.not_mem_nil, or_false] at hp
  rcases hp with rfl | rfl | rfl | rfl | rfl | rfl | rfl | rfl | rfl | rfl | rfl
  · exact szPortS_ok.call
  · exact toPortS_ok.call
  · exact eqPortS_ok.call
  · exact markPortS_ok.call
  · exact heldPortS_ok.call
  · exact szPacket_ok.call
  · exact toPacket_ok.call
  · exact eqPacket_ok.call
  · exact markPacket_ok.call
  · exact implPortHear_ok.call
  · exact specPortHear_ok.call
set_option maxHeartbeats 16000000 in
set_option maxRecDepth 100000 in
theorem lawExactPortHear_ok : PureOk Try.prog 14 g_xl6 := by
  refine PureOk.of_vc (G := xlf) xlf_ok mixed Try.func14 (by kernel_rfl) rfl ?_
  intro args cnd r bs hg hc
  unfold g_xl6 at hg
  split at hg
  · rename_i sz' rows' o f t p h i a m u sz rows
    cases hg
    obtain ⟨⟨l, rfl, hf⟩, hn, xs, rfl⟩ := hc
    rw [rowsOf_len] at hn
    refine ⟨⟨rfl, by simp, by simp [AV.ids, AV.ids.idsL]⟩, [.l 2 (poRows l), .v (.int .i64 o), .agg [.v (.int .i64 f), .v (.int .i64 t), .v (.int .i64 p), .v (.int .i64 h), .v (.int .i64 i), .v (.int .i64 a), .v (.bool m), .v (.bool u), (.l 1 (rowsOfBytes xs))]], rfl, fun w vs h => CvL.ok (.cons (.l _ _ _ (poRows_w l)) (.cons (.refl _) (.cons (.cons (.refl _) (.cons (.refl _) (.cons (.refl _) (.cons (.refl _) (.cons (.refl _) (.cons (.refl _) (.cons (.refl _) (.cons (.refl _) (.cons (.l _ _ _ (rowsOf_w xs)) .nil))))))))) .nil))) h, ?_⟩
    simp (maxSteps := 3000000) only [Try.f14, xlf, g_szPortS, g_toPortS, g_eqPortS, g_markPortS, g_heldPortS, g_szPacket, g_toPacket, g_eqPacket, g_markPacket, g_portHear, bytesOf_rows, rowsOf_len, marks_len, posOf_rows, poRows_len, poL_len, poC_mk, bne_self_eq_false, and_self, decide_true, tYs, evL, implies_true, oMin, oCopy, oBin, oUn, oLoadKid, oStoreTree, oField, oExtract, oNil, oSliceQ, oLoadRow, takeCells, TS.atRow, TS.ex, treeMode, AV.isOwn, TK.isSl, nilTk, nilsB, oLenQ, oLen, nodupB, treeOf, kidAbs, kidRows, TK.isCell, D.toL, oLoad, oStore, oMake, oIndexAddr, ↓reduceIte, reduceCtorEq, Nat.reduceBEq, Nat.reduceAdd, Nat.reduceMul, Nat.reduceLT, Nat.reduceSub, Nat.reduceLeDiff, Nat.reduceEqDiff, Nat.reduceBneDiff, Int.reduceToNat, decide_eq_true_eq, decide_eq_false_iff_not, beq_iff_eq, Int.toNat_natCast]
    have hb := szOS_bd l 1048576 (by omega)
    refine ⟨⟨by omega, _, rfl, hf⟩, ?_⟩
    by_cases hz : szOS l 1048576 < 0
    · rw [if_pos hz]
      exact ⟨_, [], rfl, ⟨⟨⟨rfl, rfl, rfl⟩, trivial⟩, trivial, by simp [rn, hpAt]⟩⟩
    · rw [if_neg hz]
      have hb2 := szLeft_bd (l := szOS l 1048576) (n := xs.length) (by omega)
      refine ⟨⟨by omega, hn, _, rfl⟩, ?_⟩
      by_cases hz2 : szLeft (szOS l 1048576) xs.length < 0
      · rw [if_pos hz2]
        exact ⟨_, [], rfl, ⟨⟨⟨rfl, rfl, rfl⟩, trivial⟩, trivial, by simp [rn, hpAt]⟩⟩
      · rw [if_neg hz2]
        have hx := hb2.2.2 (by omega)
        have hm := hb.2.2 (by omega)
        have hsO := szOS_sum (l := l) (L := 1048576) (by omega) (by omega)
        have hse := szOS_each (l := l) (L := 1048576) (by omega) (by omega)
        have gl : poGood l := ⟨by have := hm.1; omega, by omega, fun x hx => ⟨by have := (hm.2 x hx).1; omega, by have := hse x hx; omega⟩⟩
        have q1 := poC_eq l 1
        have hml := hm.1
        have fo : posB (pHearV l o ⟨f, t, p, h, i, a, m, u, xs⟩) = true := pHearV_ok l o ⟨f, t, p, h, i, a, m, u, xs⟩
        have fm := poMid_ok fo
        have gf := posB_good fo
        obtain ⟨fl, fs⟩ := posB_sum fo
        have q2 := poC_eq (pHearV l o ⟨f, t, p, h, i, a, m, u, xs⟩) 1
        clear hz hb hz2 hb2
        repeat' first
          | refine And.intro ⟨_, rfl, hm⟩ ?_
          | refine And.intro ⟨_, rfl, by omega⟩ ?_
          | refine And.intro ⟨⟨_, rfl, hm⟩, ⟨_, rfl, hm⟩⟩ ?_
          | refine And.intro ⟨⟨_, rfl, hm⟩, ⟨_, rfl, by omega⟩⟩ ?_
          | refine And.intro ⟨_, rfl, fm⟩ ?_
          | refine And.intro ⟨⟨_, rfl, fm⟩, ⟨_, rfl, fm⟩⟩ ?_
          | refine And.intro ⟨⟨_, rfl, by omega⟩, ⟨_, rfl, by omega⟩⟩ ?_
          | refine And.intro ⟨⟨_, rfl, gl⟩, by omega, by omega⟩ ?_
          | refine And.intro ⟨⟨_, rfl, gf⟩, by omega, by omega⟩ ?_
          | refine And.intro ⟨⟨_, rfl⟩, by omega, by omega, by omega⟩ ?_
          | refine And.intro ⟨by omega, by omega, by omega⟩ ?_
          | refine And.intro (by kernel_rfl) ?_
          | rw [if_neg (by omega)]
          | rw [if_pos (by omega)]
        exact ⟨_, [], rfl, ⟨⟨⟨rfl, rfl, rfl⟩, trivial⟩, trivial, by simp [rn, hpAt]⟩⟩
  · cases hg
def mailKinds : List KD := [.int .i64, .int .i64, .int .i64, .sl [.int .u8]]
theorem mail_in {w : World} {ds : List D} {cs : Array Value} (H : Reads w mailKinds ds cs.toList) : ∃ (a f t : Int) (xs : List UInt8), AVR w (Zold w) (fun _ => .none) (fun _ => nilS) (.agg [.v (.int .i64 a), .v (.int .i64 f), .v (.int .i64 t), .l 1 (rowsOfBytes xs)]) (.agg cs) ∧ xs.length ≤ 9223372036854775807 := by
  obtain ⟨h1, h2, h3, h4⟩ := H
  obtain ⟨cs⟩ := cs
  match ds, h1, cs, h2 with
  | [x0, x1, x2, x3], _, [y0, y1, y2, y3], _ =>
    obtain ⟨a, rfl, _⟩ := wt_int (h3 0 _ x0 rfl rfl)
    obtain ⟨f, rfl, _⟩ := wt_int (h3 1 _ x1 rfl rfl)
    obtain ⟨t, rfl, _⟩ := wt_int (h3 2 _ x2 rfl rfl)
    obtain ⟨xs, rfl, hx⟩ := wt_bytes (h3 3 _ x3 rfl rfl)
    exact ⟨a, f, t, xs, avr_agg (xs := [y0, y1, y2, y3]) (arel_cons (avr_rep (h4 0 _ y0 rfl rfl)) (arel_cons (avr_rep (h4 1 _ y1 rfl rfl)) (arel_cons (avr_rep (h4 2 _ y2 rfl rfl)) (arel_cons (.l _ _ _ (h4 3 _ y3 rfl rfl)) arel_nil)))), Nat.le_trans hx (by decide)⟩
theorem wt_ml {d : D} (h : WT (.sl mailKinds) d) : ∃ ps, d = .l 4 (mRows ps) ∧ mFin ps := by
  obtain ⟨rows, rfl, hn, hr⟩ := wt_row h
  obtain ⟨ps, h1, h2⟩ := map_of mlRow (fun x => x.d.length ≤ 9223372036854775807) rows fun r hm => by
    obtain ⟨h1, h2⟩ := hr r hm
    match r, h1 with
    | [x0, x1, x2, x3], _ =>
      obtain ⟨a, rfl, _⟩ := wt_int (h2 0 _ x0 rfl rfl)
      obtain ⟨f, rfl, _⟩ := wt_int (h2 1 _ x1 rfl rfl)
      obtain ⟨t, rfl, _⟩ := wt_int (h2 2 _ x2 rfl rfl)
      obtain ⟨xs, rfl, hx⟩ := wt_bytes (h2 3 _ x3 rfl rfl)
      exact ⟨⟨a, f, t, xs⟩, rfl, Nat.le_trans hx (by decide)⟩
  refine ⟨ps, by rw [h1]; rfl, ?_, h2⟩
  rw [h1, List.length_map] at hn
  exact Nat.le_trans hn (by decide)
def portKinds : List KD := [.int .i64, .sl mailKinds]
theorem wt_po {d : D} (h : WT (.sl portKinds) d) : ∃ l, d = .l 2 (poRows l) ∧ poFin l := by
  obtain ⟨rows, rfl, hn, hr⟩ := wt_row h
  obtain ⟨l, h1, h2⟩ := map_of poRow (fun x => mFin x.row) rows fun r hm => by
    obtain ⟨h1, h2⟩ := hr r hm
    match r, h1 with
    | [x, y], _ =>
      obtain ⟨n, rfl, _⟩ := wt_int (h2 0 _ x rfl rfl)
      obtain ⟨ps, rfl, hp⟩ := wt_ml (h2 1 _ y rfl rfl)
      exact ⟨⟨n, ps⟩, rfl, hp⟩
  refine ⟨l, by rw [h1]; rfl, ?_, h2⟩
  rw [h1, List.length_map] at hn
  exact Nat.le_trans hn (by decide)
def portSKinds : List KD := [.sl portKinds]
theorem ports_in {w : World} {ds : List D} {c : Value} (H : Reads w portSKinds ds [c]) : ∃ l, AVR w (Zold w) (fun _ => .none) (fun _ => nilS) (.l 2 (poRows l)) c ∧ poFin l := by
  obtain ⟨h1, h2, h3, h4⟩ := H
  match ds, h1 with
  | [x], _ =>
    obtain ⟨l, rfl, hp⟩ := wt_po (h3 0 _ x rfl rfl)
    exact ⟨l, .l _ _ _ (h4 0 _ c rfl rfl), hp⟩
theorem walk_ExactMailOk (cs : Array Value) (ds : List D) (w : World) (H : Reads w mailKinds ds cs.toList) :
    Calls Try.prog 9 #[.agg cs] w fun e w' => e = .returned (.bool true) ∧ Below w.heap.size w w' := by
  obtain ⟨a, f, t, xs, hr, hx⟩ := mail_in H
  exact lawExactMailOk_ok.walk (vs := [_]) (arel_cons hr arel_nil) rfl ⟨by rw [rowsOf_len]; exact hx, _, rfl⟩
theorem walk_ExactMailBytes (cs : Array Value) (ds : List D) (o0 : Int) (w : World) (H : Reads w mailKinds ds cs.toList) (_ : (Lit.int .i64 o0).wf = true) :
    Calls Try.prog 10 #[.agg cs, .int .i64 o0] w fun e w' => e = .returned (.bool true) ∧ Below w.heap.size w w' := by
  obtain ⟨a, f, t, xs, hr, hx⟩ := mail_in H
  exact lawExactMailBytes_ok.walk (vs := [_, _]) (arel_cons hr (arel_cons (.v _) arel_nil)) rfl ⟨by rw [rowsOf_len]; exact hx, _, rfl⟩
theorem walk_ExactMailFrom (a0 a1 : Int) (A : Option Addr) (n c : Nat) (xs : List UInt8) (w : World) (_ : (Lit.int .i64 a0).wf = true) (_ : (Lit.int .i64 a1).wf = true) (h : Rd w w.heap.size A n (bv xs)) (hc : n ≤ c) :
    Calls Try.prog 11 #[.int .i64 a0, .int .i64 a1, .slice A n c] w fun e w' => e = .returned (.bool true) ∧ Below w.heap.size w w' :=
  lawExactMailFrom_ok.walk (vs := [_, _, _]) (arel_cons (.v _) (arel_cons (.v _) (arel_cons (.l _ _ _ (rep_of_rd h hc)) arel_nil))) rfl ⟨xs, rfl⟩
theorem walk_ExactPortsOk (c : Value) (ds : List D) (w : World) (H : Reads w portSKinds ds [c]) :
    Calls Try.prog 12 #[c] w fun e w' => e = .returned (.bool true) ∧ Below w.heap.size w w' := by
  obtain ⟨l, hr, hf⟩ := ports_in H
  exact lawExactPortsOk_ok.walk (vs := [_]) (arel_cons hr arel_nil) rfl ⟨_, rfl, hf⟩
theorem walk_ExactPortListen (c : Value) (ds : List D) (x : Int) (w : World) (H : Reads w portSKinds ds [c]) (_ : (Lit.int .i64 x).wf = true) :
    Calls Try.prog 13 #[c, .int .i64 x] w fun e w' => e = .returned (.bool true) ∧ Below w.heap.size w w' := by
  obtain ⟨l, hr, hf⟩ := ports_in H
  exact lawExactPortListen_ok.walk (vs := [_, _]) (arel_cons hr (arel_cons (.v _) arel_nil)) rfl ⟨_, rfl, hf⟩
theorem walk_ExactPortHear (c : Value) (ds : List D) (x : Int) (cs : Array Value) (ds' : List D) (w : World) (H : Reads w portSKinds ds [c]) (_ : (Lit.int .i64 x).wf = true) (H' : Reads w packetKinds ds' cs.toList) :
    Calls Try.prog 14 #[c, .int .i64 x, .agg cs] w fun e w' => e = .returned (.bool true) ∧ Below w.heap.size w w' := by
  obtain ⟨l, hr, hf⟩ := ports_in H
  obtain ⟨f, t, p, h, i, a, m, u, xs, hr', hx⟩ := packet_in H'
  exact lawExactPortHear_ok.walk (vs := [_, _, _]) (arel_cons hr (arel_cons (.v _) (arel_cons hr' arel_nil))) rfl ⟨⟨_, rfl, hf⟩, by rw [rowsOf_len]; exact hx, _, rfl⟩
end Go.Proofs.Ytknnobnedepinaa
