import Derived.Test.YtcpmifgdmlpcpaaLf
import Derived.Test.YtcpmifgdmlpcpaaXo
import Derived.Test.YtcpmifgdmlpcpaaVa
import Derived.Test.YtcpmifgdmlpcpaaTq
set_option linter.unusedVariables false
set_option linter.unusedSimpArgs false
namespace Go.Proofs.Ytcpmifgdmlpcpaa
open Go.RowKit
set_option linter.unusedSimpArgs false
theorem Ml_eq (x y : Ml) : x = y ↔ x.a = y.a ∧ x.f = y.f ∧ x.t = y.t ∧ x.d = y.d := by
  cases x; cases y; simp
theorem Po_eq (x y : Po) : x = y ↔ x.n = y.n ∧ x.row = y.row := by
  cases x; cases y; simp
instance : DecidableEq Ml := fun x y => decidable_of_iff _ (Ml_eq x y).symm
instance : DecidableEq Po := fun x y => decidable_of_iff _ (Po_eq x y).symm
def szM (x : Ml) (l : Int) : Int := szLeft l x.d.length
def szMS (ps : List Ml) (l : Int) : Int := if szLeft l ps.length < 0 then -1 else szF szM ps (szLeft l ps.length)
def szO (x : Po) (l : Int) : Int := szMS x.row l
def szOS (xs : List Po) (l : Int) : Int := if szLeft l xs.length < 0 then -1 else szF szO xs (szLeft l xs.length)
def mFin (ps : List Ml) : Prop := ps.length ≤ 9223372036854775807 ∧ ∀ x ∈ ps, x.d.length ≤ 9223372036854775807
def poFin (l : List Po) : Prop := l.length ≤ 9223372036854775807 ∧ ∀ x ∈ l, mFin x.row
def sumM (ms : List Ml) : Nat := (ms.map fun x => x.d.length).sum
theorem sumM_app (a b : List Ml) : sumM (a ++ b) = sumM a + sumM b := by simp [sumM]
theorem sumM_le (ps : List Ml) (k : Nat) : sumM (ps.take k) ≤ sumM ps := by
  conv => rhs; rw [← List.take_append_drop k ps, sumM_app]
  omega
theorem sumM_mem {x : Ml} : ∀ {ps : List Ml}, x ∈ ps → x.d.length ≤ sumM ps
  | [], h => by cases h
  | y :: ps, h => by
    rw [sumM, List.map_cons, List.sum_cons, ← sumM]
    rcases List.mem_cons.1 h with rfl | h
    · omega
    · have := sumM_mem h
      omega
theorem szMS_bd (ps : List Ml) (l : Int) (hl : 0 ≤ l ∧ l ≤ 1048576) : -1 ≤ szMS ps l ∧ szMS ps l ≤ 1048576 ∧ (0 ≤ szMS ps l → mMid ps) := by
  have hb := szLeft_bd (n := ps.length) hl
  unfold szMS
  split
  · exact ⟨by omega, by omega, fun h => by omega⟩
  · obtain ⟨h1, h2, h3⟩ := szF_bd (f := szM) (P := fun x => x.d.length ≤ 1048576) ps (fun x _ l hl => by
      have := szLeft_bd (n := x.d.length) hl
      simp only [szM]
      omega) (szLeft l ps.length) (by omega)
    exact ⟨h1, h2, fun h0 => ⟨by omega, h3 h0⟩⟩
theorem szOS_bd (xs : List Po) (l : Int) (hl : 0 ≤ l ∧ l ≤ 1048576) : -1 ≤ szOS xs l ∧ szOS xs l ≤ 1048576 ∧ (0 ≤ szOS xs l → poMid xs) := by
  have hb := szLeft_bd (n := xs.length) hl
  unfold szOS
  split
  · exact ⟨by omega, by omega, fun h => by omega⟩
  · obtain ⟨h1, h2, h3⟩ := szF_bd (f := szO) (P := fun x => mMid x.row) xs (fun x _ l hl => szMS_bd x.row l hl) (szLeft l xs.length) (by omega)
    exact ⟨h1, h2, fun h0 => ⟨by omega, h3 h0⟩⟩
theorem szLeft_eqv {l : Int} {n : Nat} (h : ¬ szLeft l n < 0) : szLeft l n = l - (n : Int) := by
  unfold szLeft at h ⊢
  split at h
  · omega
  · rename_i h2; rw [if_neg h2]
theorem szM_use : ∀ (ps : List Ml) (l : Int), 0 ≤ szF szM ps l → szF szM ps l + (sumM ps : Nat) ≤ l
  | [], l, h => by simp [szF, sumM]
  | x :: t, l, h => by
    simp only [szF] at h ⊢
    split at h
    · omega
    · rename_i hx
      have e : szM x l = l - (x.d.length : Int) := szLeft_eqv hx
      have := szM_use t _ h
      rw [if_neg hx, sumM, List.map_cons, List.sum_cons, ← sumM]
      rw [e] at this ⊢
      omega
theorem szMS_use {ps : List Ml} {l : Int} (hl : 0 ≤ l ∧ l ≤ 1048576) (h : 0 ≤ szMS ps l) : szMS ps l + (ps.length : Int) + (sumM ps : Nat) ≤ l := by
  unfold szMS at h ⊢
  split at h
  · omega
  · rename_i hx
    have e := szLeft_eqv hx
    have := szM_use ps _ h
    rw [if_neg hx]
    rw [e] at this ⊢
    omega
def sumO (l : List Po) : Nat := (l.map fun x => x.row.length * 3 + sumM x.row).sum
theorem sumO_app (a b : List Po) : sumO (a ++ b) = sumO a + sumO b := by simp [sumO]
theorem sumO_take (l : List Po) (k : Nat) : sumO (l.take k) ≤ sumO l := by
  conv => rhs; rw [← List.take_append_drop k l, sumO_app]
  omega
theorem sumO_mem {x : Po} : ∀ {l : List Po}, x ∈ l → x.row.length * 3 + sumM x.row ≤ sumO l
  | [], h => by cases h
  | y :: l, h => by
    rw [sumO, List.map_cons, List.sum_cons, ← sumO]
    rcases List.mem_cons.1 h with rfl | h
    · omega
    · have := sumO_mem h
      omega
theorem sumO_le {l : List Po} {b : Nat} (h : ∀ x ∈ l, x.row.length * 3 + sumM x.row ≤ b) : sumO l ≤ l.length * b := by
  induction l with
  | nil => simp [sumO]
  | cons x t ih =>
    have h1 := h x (List.mem_cons_self ..)
    have h2 := ih fun y hy => h y (List.mem_cons_of_mem _ hy)
    rw [sumO, List.map_cons, List.sum_cons, ← sumO, List.length_cons, Nat.succ_mul]
    omega
theorem szOS_sum {l : List Po} {L : Int} (hL : 0 ≤ L ∧ L ≤ 1048576) (h : 0 ≤ szOS l L) : ((sumO l : Nat) : Int) ≤ 3 * L := by
  have hv : ∀ (l : List Po) (L : Int), 0 ≤ L ∧ L ≤ 1048576 → 0 ≤ szF szO l L → 3 * szF szO l L + ((sumO l : Nat) : Int) ≤ 3 * L := by
    intro l
    induction l with
    | nil => intro L _ h; simp [szF, sumO]
    | cons x t ih =>
      intro L hL h
      simp only [szF] at h ⊢
      split at h
      · omega
      · rename_i hx
        rw [if_neg hx]
        have hb := szMS_bd x.row L hL
        have e : szO x L = szMS x.row L := rfl
        rw [e] at hx h ⊢
        have h1 := szMS_use hL (by omega : 0 ≤ szMS x.row L)
        have h2 := ih (szMS x.row L) (by omega) h
        rw [sumO, List.map_cons, List.sum_cons, ← sumO]
        omega
  unfold szOS at h
  split at h
  · omega
  · rename_i hx
    have hb := szLeft_bd (l := L) (n := l.length) hL
    have := hv l _ (by omega) h
    have h4 : szLeft L l.length ≤ L := by unfold szLeft at hx ⊢; split <;> omega
    omega
theorem szOS_each {l : List Po} {L : Int} (hL : 0 ≤ L ∧ L ≤ 1048576) (h : 0 ≤ szOS l L) : ∀ x ∈ l, sumM x.row ≤ 1048576 := by
  unfold szOS at h
  split at h
  · omega
  · have hb := szLeft_bd (l := L) (n := l.length) hL
    exact (szF_bd (f := szO) (P := fun x => sumM x.row ≤ 1048576) l (fun x _ l hl => by
      have hb := szMS_bd x.row l hl
      exact ⟨hb.1, hb.2.1, fun h0 => by have h1 : 0 ≤ szMS x.row l := h0; have := szMS_use hl h1; omega⟩) (szLeft L l.length) (by omega)).2.2 h
def mz0 : List D := [D.v (.int .i64 0), D.v (.int .i64 0), D.v (.int .i64 0), D.l 1 []]
def oz0 : List D := [D.v (.int .i64 0), D.l 4 []]
theorem ml_seen (l : List Ml) : SeenAs 4 [.cell, .cell, .cell, .sl 5 1 [.cell]] (List.replicate l.length [D.v (.int .i64 0), D.v (.int .i64 0), D.v (.int .i64 0), D.v (.slice none 0 0)]) (mRows (l.take 0) ++ List.replicate (l.length - 0) mz0) := by
  rw [List.take_zero, Nat.sub_zero]
  exact SeenAs.rep (n := l.length) (b := mz0) ⟨⟨rfl, _, rfl⟩, ⟨rfl, _, rfl⟩, ⟨rfl, _, rfl⟩, ⟨rfl, rfl, by decide, rfl⟩, trivial⟩ rfl
theorem po_seen (l : List Po) : SeenAs 2 [.cell, .sl 27 4 [.cell, .cell, .cell, .sl 5 1 [.cell]]] (List.replicate l.length [D.v (.int .i64 0), D.v (.slice none 0 0)]) (poRows (l.take 0) ++ List.replicate (l.length - 0) oz0) := by
  rw [List.take_zero, Nat.sub_zero]
  exact SeenAs.rep (n := l.length) (b := oz0) ⟨⟨rfl, _, rfl⟩, ⟨rfl, rfl, by decide, rfl⟩, trivial⟩ rfl
def g_szMail : PC := fun args => match args with
  | [.agg [.v (.int .i64 a), .v (.int .i64 f), .v (.int .i64 t), .l _ rows], .v (.int .i64 l)] => some ((0 ≤ l ∧ l ≤ 1048576) ∧ rows.length ≤ 9223372036854775807 ∧ ∃ xs, rows = rowsOfBytes xs, .v (.int .i64 (szLeft l rows.length)), [])
  | _ => none
def g_szMailS : PC := fun args => match args with
  | [.l _ rows, .v (.int .i64 l)] => some ((0 ≤ l ∧ l ≤ 1048576) ∧ ∃ ms, rows = mRows ms ∧ mFin ms, .v (.int .i64 (szMS (msOf rows) l)), [])
  | _ => none
def g_szPort : PC := fun args => match args with
  | [.agg [.v (.int .i64 n), .l _ rows], .v (.int .i64 l)] => some ((0 ≤ l ∧ l ≤ 1048576) ∧ ∃ ms, rows = mRows ms ∧ mFin ms, .v (.int .i64 (szMS (msOf rows) l)), [])
  | _ => none
def g_szPortS : PC := fun args => match args with
  | [.l _ rows, .v (.int .i64 l)] => some ((0 ≤ l ∧ l ≤ 1048576) ∧ ∃ xs, rows = poRows xs ∧ poFin xs, .v (.int .i64 (szOS (posOf rows) l)), [])
  | _ => none
def g_toMail : PC := fun args => match args with
  | [.agg [.v (.int .i64 a), .v (.int .i64 f), .v (.int .i64 t), .l _ rows]] => some (∃ xs, rows = rowsOfBytes xs ∧ xs.length ≤ 140737488355328, .agg [.v (.int .i64 a), .v (.int .i64 f), .v (.int .i64 t), .own 0], [.sl 5 1 rows])
  | _ => none
def g_toMailT : PC := fun args => match args with
  | [.agg [.v (.int .i64 a), .v (.int .i64 f), .v (.int .i64 t), .l _ rows]] => some (∃ xs, rows = rowsOfBytes xs ∧ xs.length ≤ 140737488355328, .agg [.v (.int .i64 a), .v (.int .i64 f), .v (.int .i64 t), .own 0], [.tr .whole 5 1 [.cell] rows])
  | _ => none
def g_toMailS : PC := fun args => match args with
  | [.l _ rows] => some (∃ ms, rows = mRows ms ∧ mMid ms, .own 0, [.tr .whole 27 4 [.cell, .cell, .cell, .sl 5 1 [.cell]] rows])
  | _ => none
def g_toPort : PC := fun args => match args with
  | [.agg [.v (.int .i64 n), .l _ rows]] => some (∃ ms, rows = mRows ms ∧ mMid ms, .agg [.v (.int .i64 n), .own 0], [.tr .whole 27 4 [.cell, .cell, .cell, .sl 5 1 [.cell]] rows])
  | _ => none
def g_toPortS : PC := fun args => match args with
  | [.l _ rows] => some (∃ l, rows = poRows l ∧ poMid l, .own 0, [.tr .whole 44 2 [.cell, .sl 27 4 [.cell, .cell, .cell, .sl 5 1 [.cell]]] rows])
  | _ => none
def g_eqMail : PC := fun args => match args with
  | [.agg [.v (.int .i64 a), .v (.int .i64 f), .v (.int .i64 t), .l _ rows], .agg [.v (.int .i64 a'), .v (.int .i64 f'), .v (.int .i64 t'), .l _ rows']] => some ((∃ xs, rows = rowsOfBytes xs ∧ xs.length ≤ 140737488355328) ∧ (∃ ys, rows' = rowsOfBytes ys ∧ ys.length ≤ 140737488355328), .v (.bool (decide (a = a' ∧ f = f' ∧ t = t' ∧ bytesOfRows rows = bytesOfRows rows'))), [])
  | _ => none
def g_eqMailS : PC := fun args => match args with
  | [.l _ rows, .l _ rows'] => some ((∃ ps, rows = mRows ps ∧ mMid ps) ∧ ∃ qs, rows' = mRows qs ∧ mMid qs, .v (.bool (decide (msOf rows = msOf rows'))), [])
  | _ => none
def g_eqPort : PC := fun args => match args with
  | [.agg [.v (.int .i64 n), .l _ rows], .agg [.v (.int .i64 n'), .l _ rows']] => some ((∃ ps, rows = mRows ps ∧ mMid ps) ∧ ∃ qs, rows' = mRows qs ∧ mMid qs, .v (.bool (decide (n = n' ∧ msOf rows = msOf rows'))), [])
  | _ => none
def g_eqPortS : PC := fun args => match args with
  | [.l _ rows, .l _ rows'] => some ((∃ l, rows = poRows l ∧ poMid l) ∧ ∃ r, rows' = poRows r ∧ poMid r, .v (.bool (decide (posOf rows = posOf rows'))), [])
  | _ => none
def g_markMail : OC := fun args B0 => match args, B0 with
  | [.agg [.v (.int .i64 a), .v (.int .i64 f), .v (.int .i64 t), .own r], .v (.int .i64 x)], [.sl T sz rows] => some (r = 0 ∧ T = 5 ∧ sz = 1 ∧ (∃ xs, rows = rowsOfBytes xs) ∧ rows.length ≤ 1099511627776 ∧ 0 ≤ x ∧ x ≤ 1099511627776, .v (.int .i64 (x + (rows.length : Int))), [.sl T sz (rowsOfBytes (marks x.toNat rows.length))], [])
  | _, _ => none
def g_heldMail : PC := fun args => match args with
  | [.agg [.v (.int .i64 a), .v (.int .i64 f), .v (.int .i64 t), .l _ rows], .v (.int .i64 x)] => some (0 ≤ x ∧ x ≤ 1099511627776 ∧ rows.length ≤ 1099511627776 ∧ rows = rowsOfBytes (marks x.toNat rows.length), .v (.int .i64 (x + (rows.length : Int))), [])
  | _ => none
def lz1 : List (FuncId × Abs) := [(40, pureAbs g_szS), (41, pureAbs g_toByteS), (23, pureAbs g_eqByteS), (27, pureAbs g_heldByteS), (25, ownAbs g_markByteS)]
theorem lz1_ok : ∀ p ∈ lz1, CallOk Try.prog p.1 p.2 := by
  intro p hp
  simp only [lz1, List.mem_cons, List.not_mem_nil, or_false] at hp
  rcases hp with rfl | rfl | rfl | rfl | rfl
  · exact szByteS_ok.call
  · exact toByteS_ok.call
  · exact eqByteS_ok.call
  · exact heldByteS_ok.call
  · exact markByteS_ok.call
set_option maxRecDepth 100000 in
theorem szMail_ok : PureOk Try.prog 35 g_szMail := by
  refine PureOk.of_vc (G := lz1) lz1_ok mixed Try.func35 (by kernel_rfl) rfl ?_
  intro args cnd r bs hg hc
  unfold g_szMail at hg
  split at hg
  · rename_i a f t sz rows l
    cases hg
    obtain ⟨hl, hn, xs, rfl⟩ := hc
    refine ⟨⟨rfl, by simp, by simp [AV.ids, AV.ids.idsL]⟩, [.agg [.v (.int .i64 a), .v (.int .i64 f), .v (.int .i64 t), .l 1 (rowsOfBytes xs)], .v (.int .i64 l)], rfl, fun w vs h => CvL.ok (.cons (.cons (.refl _) (.cons (.refl _) (.cons (.refl _) (.cons (.l _ _ _ (rowsOf_w xs)) .nil)))) (.cons (.refl _) .nil)) h, ?_⟩
    simp (maxSteps := 3000000) only [Try.f35, lz1, g_szS, tYs, evL, implies_true, oMin, x_max, oMax, oCopy, oBin, oUn, oLoadKid, oStoreTree, oField, oExtract, oNil, oSliceQ, oSliceE, x_appendZ, oAppendZ, oSliceEnd, endMode, oLoadRow, takeCells, TS.atRow, TS.ex, treeMode, AV.isOwn, TK.isSl, nilTk, nilsB, oLenQ, oLen, nodupB, treeOf, kidAbs, kidRows, TK.isCell, D.toL, oLoad, oStore, oMake, oIndexAddr, ↓reduceIte, reduceCtorEq, Nat.reduceBEq, Nat.reduceAdd, Nat.reduceMul, Nat.reduceLT, Nat.reduceSub, Nat.reduceLeDiff, Nat.reduceEqDiff, Nat.reduceBneDiff, Int.reduceToNat, decide_eq_true_eq, decide_eq_false_iff_not, beq_iff_eq, Int.toNat_natCast]
    refine ⟨⟨hl, hn, 1, rowsOf_w _⟩, ?_⟩
    have hb := szLeft_bd (n := (rowsOfBytes xs).length) hl
    by_cases hz : szLeft l (rowsOfBytes xs).length < 0
    · rw [if_pos hz]
      have e : szLeft l (rowsOfBytes xs).length = -1 := by omega
      rw [e]
      exact ⟨_, [], rfl, ⟨⟨⟨rfl, rfl, rfl⟩, trivial⟩, trivial, by simp [rn, hpAt]⟩⟩
    · rw [if_neg hz]
      exact ⟨_, [], rfl, ⟨⟨⟨rfl, rfl, rfl⟩, trivial⟩, trivial, by simp [rn, hpAt]⟩⟩
  · cases hg
set_option maxRecDepth 100000 in
theorem toMail_ok : PureOk Try.prog 36 g_toMail := by
  refine PureOk.of_vc (G := lz1) lz1_ok mixed Try.func36 (by kernel_rfl) rfl ?_
  intro args cnd r bs hg hc
  unfold g_toMail at hg
  split at hg
  · rename_i a f t sz rows
    cases hg
    obtain ⟨xs, rfl, hl⟩ := hc
    refine ⟨⟨rfl, by simpa [flatB] using rowsOf_flat (xs), by simp [AV.ids, AV.ids.idsL]⟩, [.agg [.v (.int .i64 a), .v (.int .i64 f), .v (.int .i64 t), .l 1 (rowsOfBytes xs)]], rfl, fun w vs h => CvL.ok (.cons (.cons (.refl _) (.cons (.refl _) (.cons (.refl _) (.cons (.l _ _ _ (rowsOf_w xs)) .nil)))) .nil) h, ?_⟩
    simp (maxSteps := 3000000) only [Try.f36, lz1, g_toByteS, bytesOf_rows, tYs, evL, implies_true, oMin, x_max, oMax, oCopy, oBin, oUn, oLoadKid, oStoreTree, oField, oExtract, oNil, oSliceQ, oSliceE, x_appendZ, oAppendZ, oSliceEnd, endMode, oLoadRow, takeCells, TS.atRow, TS.ex, treeMode, AV.isOwn, TK.isSl, nilTk, nilsB, oLenQ, oLen, nodupB, treeOf, kidAbs, kidRows, TK.isCell, D.toL, oLoad, oStore, oMake, oIndexAddr, ↓reduceIte, reduceCtorEq, Nat.reduceBEq, Nat.reduceAdd, Nat.reduceMul, Nat.reduceLT, Nat.reduceSub, Nat.reduceLeDiff, Nat.reduceEqDiff, Nat.reduceBneDiff, Int.reduceToNat, decide_eq_true_eq, decide_eq_false_iff_not, beq_iff_eq, Int.toNat_natCast]
    (repeat (refine And.intro ?_ ?_; focus (((repeat' apply And.intro) <;> first | exact rowsOf_w _ | omega | (simp only [List.length_append, rowsOf_len, List.length_cons, List.length_nil, marks_len, List.length_take, List.length_drop, List.length_set]; omega) | exact ⟨_, rfl⟩ | (refine ⟨_, rfl, ?_⟩; omega) | (refine ⟨_, rfl, ?_⟩; simp only [List.length_append, rowsOf_len, List.length_cons, List.length_nil, marks_len, List.length_take, List.length_drop, List.length_set]; omega) | kernel_rfl | (simp; done)); done)))
    exact ⟨_, [(0, some _)], rfl, ⟨⟨⟨rfl, rfl, rfl⟩, trivial⟩, ⟨.inl rfl, rfl, rfl, rfl, trivial⟩, by simp [rn, hpAt]⟩⟩
  · cases hg
theorem toMailT_ok : PureOk Try.prog 36 g_toMailT := toMail_ok.toTree fun args c r bs' h => by
  unfold g_toMailT at h
  split at h
  · cases h; exact ⟨_, rfl, rfl⟩
  · cases h
set_option maxRecDepth 100000 in
theorem eqMail_ok : PureOk Try.prog 9 g_eqMail := by
  refine PureOk.of_vc (G := lz1) lz1_ok mixed Try.func9 (by kernel_rfl) rfl ?_
  intro args cnd r bs hg hc
  unfold g_eqMail at hg
  split at hg
  · rename_i a f t sz rows a' f' t' sz' rows'
    cases hg
    obtain ⟨⟨xs, rfl, hx⟩, ys, rfl, hy⟩ := hc
    rw [bytesOf_rows, bytesOf_rows]
    refine ⟨⟨rfl, by simp, by simp [AV.ids, AV.ids.idsL]⟩, [.agg [.v (.int .i64 a), .v (.int .i64 f), .v (.int .i64 t), .l 1 (rowsOfBytes xs)], .agg [.v (.int .i64 a'), .v (.int .i64 f'), .v (.int .i64 t'), .l 1 (rowsOfBytes ys)]], rfl, fun w vs h => CvL.ok (.cons (.cons (.refl _) (.cons (.refl _) (.cons (.refl _) (.cons (.l _ _ _ (rowsOf_w xs)) .nil)))) (.cons (.cons (.refl _) (.cons (.refl _) (.cons (.refl _) (.cons (.l _ _ _ (rowsOf_w ys)) .nil)))) .nil)) h, ?_⟩
    simp (maxSteps := 3000000) only [Try.f9, lz1, g_eqByteS, bytesOf_rows, tYs, evL, implies_true, oMin, x_max, oMax, oCopy, oBin, oUn, oLoadKid, oStoreTree, oField, oExtract, oNil, oSliceQ, oSliceE, x_appendZ, oAppendZ, oSliceEnd, endMode, oLoadRow, takeCells, TS.atRow, TS.ex, treeMode, AV.isOwn, TK.isSl, nilTk, nilsB, oLenQ, oLen, nodupB, treeOf, kidAbs, kidRows, TK.isCell, D.toL, oLoad, oStore, oMake, oIndexAddr, ↓reduceIte, reduceCtorEq, Nat.reduceBEq, Nat.reduceAdd, Nat.reduceMul, Nat.reduceLT, Nat.reduceSub, Nat.reduceLeDiff, Nat.reduceEqDiff, Nat.reduceBneDiff, Int.reduceToNat, decide_eq_true_eq, decide_eq_false_iff_not, beq_iff_eq, Int.toNat_natCast]
    by_cases e0 : a = a'
    · rw [if_neg (by simp [e0])]
      by_cases e1 : f = f'
      · rw [if_neg (by simp [e1])]
        by_cases e2 : t = t'
        · rw [if_neg (by simp [e2])]
          (repeat (refine And.intro ?_ ?_; focus (((repeat' apply And.intro) <;> first | exact rowsOf_w _ | omega | (simp only [List.length_append, rowsOf_len, List.length_cons, List.length_nil, marks_len, List.length_take, List.length_drop, List.length_set]; omega) | exact ⟨_, rfl⟩ | (refine ⟨_, rfl, ?_⟩; omega) | (refine ⟨_, rfl, ?_⟩; simp only [List.length_append, rowsOf_len, List.length_cons, List.length_nil, marks_len, List.length_take, List.length_drop, List.length_set]; omega) | kernel_rfl | (simp; done)); done)))
          by_cases e8 : xs = ys
          · rw [if_neg (by simp [e8])]
            have e : decide (a = a' ∧ f = f' ∧ t = t' ∧ xs = ys) = true := by rw [decide_eq_true_eq]; exact ⟨e0, e1, e2, e8⟩
            rw [e]
            exact ⟨_, [], rfl, ⟨⟨⟨rfl, rfl, rfl⟩, trivial⟩, trivial, by simp [rn, hpAt]⟩⟩
          · rw [if_pos (by simp [e8])]
            have e : decide (a = a' ∧ f = f' ∧ t = t' ∧ xs = ys) = false := by rw [decide_eq_false_iff_not]; exact fun k => e8 k.2.2.2
            rw [e]
            exact ⟨_, [], rfl, ⟨⟨⟨rfl, rfl, rfl⟩, trivial⟩, trivial, by simp [rn, hpAt]⟩⟩
        · rw [if_pos (by simp [e2])]
          have e : decide (a = a' ∧ f = f' ∧ t = t' ∧ xs = ys) = false := by rw [decide_eq_false_iff_not]; exact fun k => e2 k.2.2.1
          rw [e]
          exact ⟨_, [], rfl, ⟨⟨⟨rfl, rfl, rfl⟩, trivial⟩, trivial, by simp [rn, hpAt]⟩⟩
      · rw [if_pos (by simp [e1])]
        have e : decide (a = a' ∧ f = f' ∧ t = t' ∧ xs = ys) = false := by rw [decide_eq_false_iff_not]; exact fun k => e1 k.2.1
        rw [e]
        exact ⟨_, [], rfl, ⟨⟨⟨rfl, rfl, rfl⟩, trivial⟩, trivial, by simp [rn, hpAt]⟩⟩
    · rw [if_pos (by simp [e0])]
      have e : decide (a = a' ∧ f = f' ∧ t = t' ∧ xs = ys) = false := by rw [decide_eq_false_iff_not]; exact fun k => e0 k.1
      rw [e]
      exact ⟨_, [], rfl, ⟨⟨⟨rfl, rfl, rfl⟩, trivial⟩, trivial, by simp [rn, hpAt]⟩⟩
  · cases hg
set_option maxRecDepth 100000 in
theorem markMail_ok : OwnOk Try.prog 11 g_markMail := by
  refine OwnOk.of_vc (G := lz1) lz1_ok mixed Try.func11 (by kernel_rfl) rfl ?_
  intro args B0 cnd r B1 bs hg hc hlive
  unfold g_markMail at hg
  split at hg
  · rename_i a f t r x T sz rows
    cases hg
    obtain ⟨rfl, rfl, rfl, ⟨xs, rfl⟩, hl, hk0, hk⟩ := hc
    rw [rowsOf_len] at hl ⊢
    refine ⟨⟨by simp [likeBs, likeB, rowsOf_len, marks_len], by simp [Blk.liveB, blkIds, AV.ids.idsL, AV.ids], by simp [AV.ids]⟩, _, rfl, fun w Z s vs h => h, ?_⟩
    clear hlive
    simp (maxSteps := 3000000) only [Try.f11, lz1, g_markByteS, rowsOf_len, tYs, evL, implies_true, oMin, x_max, oMax, oCopy, oBin, oUn, oLoadKid, oStoreTree, oField, oExtract, oNil, oSliceQ, oSliceE, x_appendZ, oAppendZ, oSliceEnd, endMode, oLoadRow, takeCells, TS.atRow, TS.ex, treeMode, AV.isOwn, TK.isSl, nilTk, nilsB, oLenQ, oLen, nodupB, treeOf, kidAbs, kidRows, TK.isCell, D.toL, oLoad, oStore, oMake, oIndexAddr, ↓reduceIte, reduceCtorEq, Nat.reduceBEq, Nat.reduceAdd, Nat.reduceMul, Nat.reduceLT, Nat.reduceSub, Nat.reduceLeDiff, Nat.reduceEqDiff, Nat.reduceBneDiff, Int.reduceToNat, decide_eq_true_eq, decide_eq_false_iff_not, beq_iff_eq, Int.toNat_natCast]
    (repeat (refine And.intro ?_ ?_; focus (((repeat' apply And.intro) <;> first | exact rowsOf_w _ | omega | (simp only [List.length_append, rowsOf_len, List.length_cons, List.length_nil, marks_len, List.length_take, List.length_drop, List.length_set]; omega) | exact ⟨_, rfl⟩ | (refine ⟨_, rfl, ?_⟩; omega) | (refine ⟨_, rfl, ?_⟩; simp only [List.length_append, rowsOf_len, List.length_cons, List.length_nil, marks_len, List.length_take, List.length_drop, List.length_set]; omega) | kernel_rfl | (simp; done)); done)))
    exact ⟨[], by (refine ⟨?_, ?_, ?_⟩ <;> simp [fitT, fit1, fitH, fitB, trE, emptyB, rn, lk, AV.ren, AV.ren.renL, Blk.ren, blkIds, blkPids, AV.ids, AV.ids.idsL, AV.pids, AV.pids.pidsL, Blk.there]), by simp [keepIds, rn, List.range, List.range.loop]⟩
  · cases hg
set_option maxRecDepth 100000 in
theorem heldMail_ok : PureOk Try.prog 13 g_heldMail := by
  refine PureOk.of_vc (G := lz1) lz1_ok mixed Try.func13 (by kernel_rfl) rfl ?_
  intro args cnd r bs hg hc
  unfold g_heldMail at hg
  split at hg
  · rename_i a f t sz rows x
    cases hg
    obtain ⟨h0, h1, h2, h3⟩ := hc
    refine ⟨⟨rfl, by simp, by simp [AV.ids, AV.ids.idsL]⟩, [.agg [.v (.int .i64 a), .v (.int .i64 f), .v (.int .i64 t), .l sz rows], .v (.int .i64 x)], rfl, fun w vs h => h, ?_⟩
    simp (maxSteps := 3000000) only [Try.f13, lz1, g_heldByteS, tYs, evL, implies_true, oMin, x_max, oMax, oCopy, oBin, oUn, oLoadKid, oStoreTree, oField, oExtract, oNil, oSliceQ, oSliceE, x_appendZ, oAppendZ, oSliceEnd, endMode, oLoadRow, takeCells, TS.atRow, TS.ex, treeMode, AV.isOwn, TK.isSl, nilTk, nilsB, oLenQ, oLen, nodupB, treeOf, kidAbs, kidRows, TK.isCell, D.toL, oLoad, oStore, oMake, oIndexAddr, ↓reduceIte, reduceCtorEq, Nat.reduceBEq, Nat.reduceAdd, Nat.reduceMul, Nat.reduceLT, Nat.reduceSub, Nat.reduceLeDiff, Nat.reduceEqDiff, Nat.reduceBneDiff, Int.reduceToNat, decide_eq_true_eq, decide_eq_false_iff_not, beq_iff_eq, Int.toNat_natCast]
    refine ⟨⟨h0, h1, h2, h3⟩, ?_⟩
    rw [if_neg (by omega)]
    clear h3
    exact ⟨_, [], rfl, ⟨⟨⟨rfl, rfl, rfl⟩, trivial⟩, trivial, by simp [rn, hpAt]⟩⟩
  · cases hg
def lz2 : List (FuncId × Abs) := [(35, pureAbs g_szMail)]
theorem lz2_ok : ∀ p ∈ lz2, CallOk Try.prog p.1 p.2 := by
  intro p hp
  simp only [lz2, List.mem_cons, List.not_mem_nil, or_false] at hp
  rcases hp with rfl
  · exact szMail_ok.call
set_option maxRecDepth 100000 in
theorem szMailS_ok : PureOk Try.prog 28 g_szMailS := by
  refine PureOk.of_vc (G := lz2) lz2_ok mixed Try.func28 (by kernel_rfl) rfl ?_
  intro args cnd r bs hg hc
  unfold g_szMailS at hg
  split at hg
  · rename_i sz rows l0
    cases hg
    obtain ⟨hl, ms, rfl, hf1, hf2⟩ := hc
    rw [msOf_rows]
    have hb := szLeft_bd (n := ms.length) hl
    have e0 := szLeft_eq hl hf1
    have w0 : IntKind.i64.wrap (l0 - (ms.length : Int)) = l0 - (ms.length : Int) := wrap_id (by omega) (by omega)
    refine ⟨⟨rfl, by simp, by simp [AV.ids, AV.ids.idsL]⟩, [.l 4 (mRows ms), .v (.int .i64 l0)], rfl, fun w vs h => CvL.ok (.cons (.l _ _ _ (mRows_w ms)) (.cons (.refl _) .nil)) h, ?_⟩
    simp (maxSteps := 3000000) only [Try.f28, lz2, mRows_len, w0, tYs, evL, implies_true, oMin, x_max, oMax, oCopy, oBin, oUn, oLoadKid, oStoreTree, oField, oExtract, oNil, oSliceQ, oSliceE, x_appendZ, oAppendZ, oSliceEnd, endMode, oLoadRow, takeCells, TS.atRow, TS.ex, treeMode, AV.isOwn, TK.isSl, nilTk, nilsB, oLenQ, oLen, nodupB, treeOf, kidAbs, kidRows, TK.isCell, D.toL, oLoad, oStore, oMake, oIndexAddr, ↓reduceIte, reduceCtorEq, Nat.reduceBEq, Nat.reduceAdd, Nat.reduceMul, Nat.reduceLT, Nat.reduceSub, Nat.reduceLeDiff, Nat.reduceEqDiff, Nat.reduceBneDiff, Int.reduceToNat, decide_eq_true_eq, decide_eq_false_iff_not, beq_iff_eq, Int.toNat_natCast]
    rw [w0] at e0
    by_cases h0 : l0 - (ms.length : Int) < 0
    · rw [if_pos h0]
      rw [if_pos h0] at e0
      have e : szMS ms l0 = -1 := by rw [szMS, e0]; rfl
      rw [e]
      exact ⟨_, [], rfl, ⟨⟨⟨rfl, rfl, rfl⟩, trivial⟩, trivial, by simp [rn, hpAt]⟩⟩
    · rw [if_neg h0]
      rw [if_neg h0] at e0
      have e : szMS ms l0 = szF szM ms (l0 - ms.length) := by rw [szMS, e0, if_neg h0]
      rw [e]
      refine e_loop _ _ _ _ _ _ _ _ (fun x : Nat × Int => [.l 4 (mRows ms), .v (.int .i64 x.2), .any, .any, .any, .v (.int .i64 (x.1 : Int))] ++ List.replicate (Try.f28.ntmps - 6) .any) (fun x => []) (fun x => x.1 ≤ ms.length ∧ (0 ≤ x.2 ∧ x.2 ≤ 1048576) ∧ szF szM ms (l0 - ms.length) = szF szM (ms.drop x.1) x.2) (fun x => ms.length - x.1) 0 (fun x => by simp) ?_ fun x hk' => ?_
      · exact ⟨(0, l0 - ms.length), [], ⟨Nat.zero_le _, ⟨by dsimp only; omega, by dsimp only; omega⟩, rfl⟩, ⟨⟨⟨rfl, rfl, rfl⟩, ⟨rfl, rfl, rfl⟩, trivial, trivial, trivial, ⟨rfl, rfl, rfl⟩, fitT_rep _ _ rfl⟩, trivial, by simp [rn, hpAt]⟩, by simp [keepIds]⟩
      obtain ⟨k, m⟩ := x
      obtain ⟨hk1, hm, hinv⟩ := hk'
      dsimp only at hk1 hm hinv
      have w2 : IntKind.i64.wrap ((k : Int) + 1) = ((k + 1 : Nat) : Int) := by rw [wrap_id] <;> omega
      by_cases hk : k < ms.length
      · have hrow := mRows_get ms k hk
        have hlt : ((k : Int) < (ms.length : Int)) = True := eq_true (by omega)
        have h0 : (0 ≤ (k : Int)) = True := eq_true (by omega)
        have hfk := hf2 ms[k] (List.getElem_mem hk)
        have hb2 := szLeft_bd (n := ms[k].d.length) hm
        rw [drop_at _ _ hk, szF] at hinv
        simp (maxSteps := 3000000) only [Try.f28, lz2, mRows_len, rowsOf_len, bytesOf_rows, msOf_rows, g_szMail, hrow, hlt, h0, D.toI, D.toL, mlRow, tYs, evL, implies_true, oMin, x_max, oMax, oCopy, oBin, oUn, oLoadKid, oStoreTree, oField, oExtract, oNil, oSliceQ, oSliceE, x_appendZ, oAppendZ, oSliceEnd, endMode, oLoadRow, takeCells, TS.atRow, TS.ex, treeMode, AV.isOwn, TK.isSl, nilTk, nilsB, oLenQ, oLen, nodupB, treeOf, kidAbs, kidRows, TK.isCell, D.toL, oLoad, oStore, oMake, oIndexAddr, ↓reduceIte, reduceCtorEq, Nat.reduceBEq, Nat.reduceAdd, Nat.reduceMul, Nat.reduceLT, Nat.reduceSub, Nat.reduceLeDiff, Nat.reduceEqDiff, Nat.reduceBneDiff, Int.reduceToNat, decide_eq_true_eq, decide_eq_false_iff_not, beq_iff_eq, Int.toNat_natCast, loopK_normal, loopK_exit, loopK_ret, w2]
        refine ⟨⟨hm, hfk, _, rfl⟩, ?_⟩
        by_cases hz : szLeft m ms[k].d.length < 0
        · rw [if_pos hz]
          rw [if_pos (show szM ms[k] m < 0 from hz)] at hinv
          rw [hinv]
          exact ⟨_, [], rfl, ⟨⟨⟨rfl, rfl, rfl⟩, trivial⟩, trivial, by simp [rn, hpAt]⟩⟩
        · rw [if_neg hz]
          rw [if_neg (show ¬ szM ms[k] m < 0 from hz)] at hinv
          exact ⟨(k + 1, szLeft m ms[k].d.length), [], ⟨by dsimp only; omega, ⟨by dsimp only; omega, by dsimp only; omega⟩, hinv⟩, by dsimp only; omega, ⟨⟨⟨rfl, rfl, rfl⟩, ⟨rfl, rfl, rfl⟩, trivial, trivial, trivial, ⟨rfl, rfl, rfl⟩, fitT_rep _ _ rfl⟩, trivial, by simp [rn, hpAt]⟩, by simp [keepIds]⟩
      · have hlt : ((k : Int) < (ms.length : Int)) = False := eq_false (by omega)
        simp (maxSteps := 3000000) only [Try.f28, lz2, mRows_len, rowsOf_len, bytesOf_rows, msOf_rows, hlt, D.toI, D.toL, mlRow, tYs, evL, implies_true, oMin, x_max, oMax, oCopy, oBin, oUn, oLoadKid, oStoreTree, oField, oExtract, oNil, oSliceQ, oSliceE, x_appendZ, oAppendZ, oSliceEnd, endMode, oLoadRow, takeCells, TS.atRow, TS.ex, treeMode, AV.isOwn, TK.isSl, nilTk, nilsB, oLenQ, oLen, nodupB, treeOf, kidAbs, kidRows, TK.isCell, D.toL, oLoad, oStore, oMake, oIndexAddr, ↓reduceIte, reduceCtorEq, Nat.reduceBEq, Nat.reduceAdd, Nat.reduceMul, Nat.reduceLT, Nat.reduceSub, Nat.reduceLeDiff, Nat.reduceEqDiff, Nat.reduceBneDiff, Int.reduceToNat, decide_eq_true_eq, decide_eq_false_iff_not, beq_iff_eq, Int.toNat_natCast, loopK_normal, loopK_exit, loopK_ret, w2]
        rw [List.drop_eq_nil_of_le (by omega), szF] at hinv
        rw [hinv]
        exact ⟨_, [], rfl, ⟨⟨⟨rfl, rfl, rfl⟩, trivial⟩, trivial, by simp [rn, hpAt]⟩⟩
  · cases hg
def lz3 : List (FuncId × Abs) := [(28, pureAbs g_szMailS)]
theorem lz3_ok : ∀ p ∈ lz3, CallOk Try.prog p.1 p.2 := by
  intro p hp
  simp only [lz3, List.mem_cons, List.not_mem_nil, or_false] at hp
  rcases hp with rfl
  · exact szMailS_ok.call
set_option maxRecDepth 100000 in
theorem szPort_ok : PureOk Try.prog 14 g_szPort := by
  refine PureOk.of_vc (G := lz3) lz3_ok mixed Try.func14 (by kernel_rfl) rfl ?_
  intro args cnd r bs hg hc
  unfold g_szPort at hg
  split at hg
  · rename_i n sz rows l0
    cases hg
    obtain ⟨hl, ms, rfl, hf⟩ := hc
    rw [msOf_rows]
    have hb := szMS_bd ms l0 hl
    refine ⟨⟨rfl, by simp, by simp [AV.ids, AV.ids.idsL]⟩, [.agg [.v (.int .i64 n), .l 4 (mRows ms)], .v (.int .i64 l0)], rfl, fun w vs h => CvL.ok (.cons (.cons (.refl _) (.cons (.l _ _ _ (mRows_w ms)) .nil)) (.cons (.refl _) .nil)) h, ?_⟩
    simp (maxSteps := 3000000) only [Try.f14, lz3, g_szMailS, msOf_rows, tYs, evL, implies_true, oMin, x_max, oMax, oCopy, oBin, oUn, oLoadKid, oStoreTree, oField, oExtract, oNil, oSliceQ, oSliceE, x_appendZ, oAppendZ, oSliceEnd, endMode, oLoadRow, takeCells, TS.atRow, TS.ex, treeMode, AV.isOwn, TK.isSl, nilTk, nilsB, oLenQ, oLen, nodupB, treeOf, kidAbs, kidRows, TK.isCell, D.toL, oLoad, oStore, oMake, oIndexAddr, ↓reduceIte, reduceCtorEq, Nat.reduceBEq, Nat.reduceAdd, Nat.reduceMul, Nat.reduceLT, Nat.reduceSub, Nat.reduceLeDiff, Nat.reduceEqDiff, Nat.reduceBneDiff, Int.reduceToNat, decide_eq_true_eq, decide_eq_false_iff_not, beq_iff_eq, Int.toNat_natCast]
    refine ⟨⟨hl, _, rfl, hf⟩, ?_⟩
    by_cases hz : szMS ms l0 < 0
    · have e : szMS ms l0 = -1 := by omega
      rw [if_pos hz, e]
      exact ⟨_, [], rfl, ⟨⟨⟨rfl, rfl, rfl⟩, trivial⟩, trivial, by simp [rn, hpAt]⟩⟩
    · rw [if_neg hz]
      exact ⟨_, [], rfl, ⟨⟨⟨rfl, rfl, rfl⟩, trivial⟩, trivial, by simp [rn, hpAt]⟩⟩
  · cases hg
def lz4 : List (FuncId × Abs) := [(14, pureAbs g_szPort)]
theorem lz4_ok : ∀ p ∈ lz4, CallOk Try.prog p.1 p.2 := by
  intro p hp
  simp only [lz4, List.mem_cons, List.not_mem_nil, or_false] at hp
  rcases hp with rfl
  · exact szPort_ok.call
set_option maxRecDepth 100000 in
theorem szPortS_ok : PureOk Try.prog 4 g_szPortS := by
  refine PureOk.of_vc (G := lz4) lz4_ok mixed Try.func4 (by kernel_rfl) rfl ?_
  intro args cnd r bs hg hc
  unfold g_szPortS at hg
  split at hg
  · rename_i sz rows l0
    cases hg
    obtain ⟨hl, l, rfl, hf1, hf2⟩ := hc
    rw [posOf_rows]
    have hb := szLeft_bd (n := l.length) hl
    have e0 := szLeft_eq hl hf1
    have w0 : IntKind.i64.wrap (l0 - (l.length : Int)) = l0 - (l.length : Int) := wrap_id (by omega) (by omega)
    refine ⟨⟨rfl, by simp, by simp [AV.ids, AV.ids.idsL]⟩, [.l 2 (poRows l), .v (.int .i64 l0)], rfl, fun w vs h => CvL.ok (.cons (.l _ _ _ (poRows_w l)) (.cons (.refl _) .nil)) h, ?_⟩
    simp (maxSteps := 3000000) only [Try.f4, lz4, poRows_len, w0, tYs, evL, implies_true, oMin, x_max, oMax, oCopy, oBin, oUn, oLoadKid, oStoreTree, oField, oExtract, oNil, oSliceQ, oSliceE, x_appendZ, oAppendZ, oSliceEnd, endMode, oLoadRow, takeCells, TS.atRow, TS.ex, treeMode, AV.isOwn, TK.isSl, nilTk, nilsB, oLenQ, oLen, nodupB, treeOf, kidAbs, kidRows, TK.isCell, D.toL, oLoad, oStore, oMake, oIndexAddr, ↓reduceIte, reduceCtorEq, Nat.reduceBEq, Nat.reduceAdd, Nat.reduceMul, Nat.reduceLT, Nat.reduceSub, Nat.reduceLeDiff, Nat.reduceEqDiff, Nat.reduceBneDiff, Int.reduceToNat, decide_eq_true_eq, decide_eq_false_iff_not, beq_iff_eq, Int.toNat_natCast]
    rw [w0] at e0
    by_cases h0 : l0 - (l.length : Int) < 0
    · rw [if_pos h0]
      rw [if_pos h0] at e0
      have e : szOS l l0 = -1 := by rw [szOS, e0]; rfl
      rw [e]
      exact ⟨_, [], rfl, ⟨⟨⟨rfl, rfl, rfl⟩, trivial⟩, trivial, by simp [rn, hpAt]⟩⟩
    · rw [if_neg h0]
      rw [if_neg h0] at e0
      have e : szOS l l0 = szF szO l (l0 - l.length) := by rw [szOS, e0, if_neg h0]
      rw [e]
      refine e_loop _ _ _ _ _ _ _ _ (fun x : Nat × Int => [.l 2 (poRows l), .v (.int .i64 x.2), .any, .any, .any, .v (.int .i64 (x.1 : Int))] ++ List.replicate (Try.f4.ntmps - 6) .any) (fun x => []) (fun x => x.1 ≤ l.length ∧ (0 ≤ x.2 ∧ x.2 ≤ 1048576) ∧ szF szO l (l0 - l.length) = szF szO (l.drop x.1) x.2) (fun x => l.length - x.1) 0 (fun x => by simp) ?_ fun x hk' => ?_
      · exact ⟨(0, l0 - l.length), [], ⟨Nat.zero_le _, ⟨by dsimp only; omega, by dsimp only; omega⟩, rfl⟩, ⟨⟨⟨rfl, rfl, rfl⟩, ⟨rfl, rfl, rfl⟩, trivial, trivial, trivial, ⟨rfl, rfl, rfl⟩, fitT_rep _ _ rfl⟩, trivial, by simp [rn, hpAt]⟩, by simp [keepIds]⟩
      obtain ⟨k, m⟩ := x
      obtain ⟨hk1, hm, hinv⟩ := hk'
      dsimp only at hk1 hm hinv
      have w2 : IntKind.i64.wrap ((k : Int) + 1) = ((k + 1 : Nat) : Int) := by rw [wrap_id] <;> omega
      by_cases hk : k < l.length
      · have hrow := poRows_get l k hk
        have hlt : ((k : Int) < (l.length : Int)) = True := eq_true (by omega)
        have h0 : (0 ≤ (k : Int)) = True := eq_true (by omega)
        have hfk := hf2 l[k] (List.getElem_mem hk)
        have hb2 := szMS_bd l[k].row m hm
        rw [drop_at _ _ hk, szF] at hinv
        simp (maxSteps := 3000000) only [Try.f4, lz4, poRows_len, mRows_len, rowsOf_len, bytesOf_rows, msOf_rows, posOf_rows, g_szPort, msOf_rows, hrow, hlt, h0, D.toI, D.toL, poRow, tYs, evL, implies_true, oMin, x_max, oMax, oCopy, oBin, oUn, oLoadKid, oStoreTree, oField, oExtract, oNil, oSliceQ, oSliceE, x_appendZ, oAppendZ, oSliceEnd, endMode, oLoadRow, takeCells, TS.atRow, TS.ex, treeMode, AV.isOwn, TK.isSl, nilTk, nilsB, oLenQ, oLen, nodupB, treeOf, kidAbs, kidRows, TK.isCell, D.toL, oLoad, oStore, oMake, oIndexAddr, ↓reduceIte, reduceCtorEq, Nat.reduceBEq, Nat.reduceAdd, Nat.reduceMul, Nat.reduceLT, Nat.reduceSub, Nat.reduceLeDiff, Nat.reduceEqDiff, Nat.reduceBneDiff, Int.reduceToNat, decide_eq_true_eq, decide_eq_false_iff_not, beq_iff_eq, Int.toNat_natCast, loopK_normal, loopK_exit, loopK_ret, w2]
        refine ⟨⟨hm, _, rfl, hfk⟩, ?_⟩
        by_cases hz : szMS l[k].row m < 0
        · rw [if_pos hz]
          rw [if_pos (show szO l[k] m < 0 from hz)] at hinv
          rw [hinv]
          exact ⟨_, [], rfl, ⟨⟨⟨rfl, rfl, rfl⟩, trivial⟩, trivial, by simp [rn, hpAt]⟩⟩
        · rw [if_neg hz]
          rw [if_neg (show ¬ szO l[k] m < 0 from hz)] at hinv
          exact ⟨(k + 1, szMS l[k].row m), [], ⟨by dsimp only; omega, ⟨by dsimp only; omega, by dsimp only; omega⟩, hinv⟩, by dsimp only; omega, ⟨⟨⟨rfl, rfl, rfl⟩, ⟨rfl, rfl, rfl⟩, trivial, trivial, trivial, ⟨rfl, rfl, rfl⟩, fitT_rep _ _ rfl⟩, trivial, by simp [rn, hpAt]⟩, by simp [keepIds]⟩
      · have hlt : ((k : Int) < (l.length : Int)) = False := eq_false (by omega)
        simp (maxSteps := 3000000) only [Try.f4, lz4, poRows_len, mRows_len, rowsOf_len, bytesOf_rows, msOf_rows, posOf_rows, hlt, D.toI, D.toL, poRow, tYs, evL, implies_true, oMin, x_max, oMax, oCopy, oBin, oUn, oLoadKid, oStoreTree, oField, oExtract, oNil, oSliceQ, oSliceE, x_appendZ, oAppendZ, oSliceEnd, endMode, oLoadRow, takeCells, TS.atRow, TS.ex, treeMode, AV.isOwn, TK.isSl, nilTk, nilsB, oLenQ, oLen, nodupB, treeOf, kidAbs, kidRows, TK.isCell, D.toL, oLoad, oStore, oMake, oIndexAddr, ↓reduceIte, reduceCtorEq, Nat.reduceBEq, Nat.reduceAdd, Nat.reduceMul, Nat.reduceLT, Nat.reduceSub, Nat.reduceLeDiff, Nat.reduceEqDiff, Nat.reduceBneDiff, Int.reduceToNat, decide_eq_true_eq, decide_eq_false_iff_not, beq_iff_eq, Int.toNat_natCast, loopK_normal, loopK_exit, loopK_ret, w2]
        rw [List.drop_eq_nil_of_le (by omega), szF] at hinv
        rw [hinv]
        exact ⟨_, [], rfl, ⟨⟨⟨rfl, rfl, rfl⟩, trivial⟩, trivial, by simp [rn, hpAt]⟩⟩
  · cases hg
def lt1 : List (FuncId × Abs) := [(36, pureAbs g_toMailT)]
theorem lt1_ok : ∀ p ∈ lt1, CallOk Try.prog p.1 p.2 := by
  intro p hp
  simp only [lt1, List.mem_cons, List.not_mem_nil, or_false] at hp
  rcases hp with rfl
  · exact toMailT_ok.call
set_option maxRecDepth 100000 in
theorem toMailS_ok : PureOk Try.prog 31 g_toMailS := by
  refine PureOk.of_vc (G := lt1) lt1_ok mixed Try.func31 (by kernel_rfl) rfl ?_
  intro args cnd r bs hg hc
  unfold g_toMailS at hg
  split at hg
  · rename_i sz rows
    cases hg
    obtain ⟨ms, rfl, hn, hd⟩ := hc
    refine ⟨⟨rfl, by simp [flatB], by simp [AV.ids, AV.ids.idsL]⟩, [.l 4 (mRows ms)], rfl, fun w vs h => CvL.ok (.cons (.l _ _ _ (mRows_w ms)) .nil) h, ?_⟩
    simp (maxSteps := 3000000) only [Try.f31, lt1, mRows_len, tYs, evL, implies_true, oMin, x_max, oMax, oCopy, oBin, oUn, oLoadKid, oStoreTree, oField, oExtract, oNil, oSliceQ, oSliceE, x_appendZ, oAppendZ, oSliceEnd, endMode, oLoadRow, takeCells, TS.atRow, TS.ex, treeMode, AV.isOwn, TK.isSl, nilTk, nilsB, oLenQ, oLen, nodupB, treeOf, kidAbs, kidRows, TK.isCell, D.toL, oLoad, oStore, oMake, oIndexAddr, ↓reduceIte, reduceCtorEq, Nat.reduceBEq, Nat.reduceAdd, Nat.reduceMul, Nat.reduceLT, Nat.reduceSub, Nat.reduceLeDiff, Nat.reduceEqDiff, Nat.reduceBneDiff, Int.reduceToNat, decide_eq_true_eq, decide_eq_false_iff_not, beq_iff_eq, Int.toNat_natCast]
    refine ⟨by omega, ?_⟩
    refine e_loop _ _ _ _ _ _ _ _ (fun k : Nat => [.l 4 (mRows ms), .any, .any, .own 0, .v (.int .i64 (k : Int))] ++ List.replicate (Try.f31.ntmps - 5) .any) (fun k => [(0, .tr .whole 27 4 [.cell, .cell, .cell, .sl 5 1 [.cell]] (mRows (ms.take k) ++ List.replicate (ms.length - k) mz0))]) (fun k => k ≤ ms.length) (fun k => ms.length - k) 1 (fun k => by simp) ?_ fun k hk' => ?_
    · exact ⟨0, [(0, some _)], Nat.zero_le _, ⟨⟨⟨rfl, rfl, rfl⟩, trivial, trivial, ⟨rfl, rfl, rfl⟩, ⟨rfl, rfl, rfl⟩, fitT_rep _ _ rfl⟩, ⟨.inr (.inr ⟨_, rfl, ml_seen ms⟩), rfl, rfl, rfl, trivial⟩, by simp [rn, hpAt]⟩, by simp [keepIds]⟩
    have w2 : IntKind.i64.wrap ((k : Int) + 1) = ((k + 1 : Nat) : Int) := by rw [wrap_id] <;> omega
    by_cases hk : k < ms.length
    · have hrow := mRows_get ms k hk
      have hlt : ((k : Int) < (ms.length : Int)) = True := eq_true (by omega)
      have h0 : (0 ≤ (k : Int)) = True := eq_true (by omega)
      have hx := hd ms[k] (List.getElem_mem hk)
      have hln : (mRows (ms.take k) ++ List.replicate (ms.length - k) mz0).length = ms.length := by rw [List.length_append, mRows_len, List.length_take, List.length_replicate]; omega
      have hdr : List.drop 4 ((mRows (ms.take k) ++ List.replicate (ms.length - k) mz0).getD k []) = [] := by
        rw [List.getD_eq_getElem?_getD, List.getElem?_append_right (by rw [mRows_len, List.length_take]; omega), List.getElem?_replicate, if_pos (by rw [mRows_len, List.length_take]; omega)]
        rfl
      have hset : (mRows (ms.take k) ++ List.replicate (ms.length - k) mz0).set k (mlRow ms[k]) = mRows (ms.take (k + 1)) ++ List.replicate (ms.length - (k + 1)) mz0 := by
        rw [← mRows_take, ← mRows_take]
        exact fill_row (mRows_len ms).symm (by simp [mRows, hk]) _
      rw [mlRow] at hset
      simp (maxSteps := 3000000) only [Try.f31, lt1, mRows_len, rowsOf_len, bytesOf_rows, msOf_rows, g_toMailT, hrow, hlt, h0, hln, hdr, hset, D.toI, D.toL, mlRow, tYs, evL, implies_true, oMin, x_max, oMax, oCopy, oBin, oUn, oLoadKid, oStoreTree, oField, oExtract, oNil, oSliceQ, oSliceE, x_appendZ, oAppendZ, oSliceEnd, endMode, oLoadRow, takeCells, TS.atRow, TS.ex, treeMode, AV.isOwn, TK.isSl, nilTk, nilsB, oLenQ, oLen, nodupB, treeOf, kidAbs, kidRows, TK.isCell, D.toL, oLoad, oStore, oMake, oIndexAddr, ↓reduceIte, reduceCtorEq, Nat.reduceBEq, Nat.reduceAdd, Nat.reduceMul, Nat.reduceLT, Nat.reduceSub, Nat.reduceLeDiff, Nat.reduceEqDiff, Nat.reduceBneDiff, Int.reduceToNat, decide_eq_true_eq, decide_eq_false_iff_not, beq_iff_eq, Int.toNat_natCast, loopK_normal, loopK_exit, loopK_ret, w2]
      exact ⟨⟨_, rfl, by omega⟩, hk, k + 1, [(0, some _)], by omega, by omega, ⟨⟨⟨rfl, rfl, rfl⟩, trivial, trivial, ⟨rfl, rfl, rfl⟩, ⟨rfl, rfl, rfl⟩, fitT_rep _ _ rfl⟩, ⟨.inl rfl, rfl, rfl, rfl, trivial⟩, by simp [rn, hpAt]⟩, by simp [keepIds]⟩
    · have hlt : ((k : Int) < (ms.length : Int)) = False := eq_false (by omega)
      simp (maxSteps := 3000000) only [Try.f31, lt1, mRows_len, rowsOf_len, bytesOf_rows, msOf_rows, hlt, D.toI, D.toL, mlRow, tYs, evL, implies_true, oMin, x_max, oMax, oCopy, oBin, oUn, oLoadKid, oStoreTree, oField, oExtract, oNil, oSliceQ, oSliceE, x_appendZ, oAppendZ, oSliceEnd, endMode, oLoadRow, takeCells, TS.atRow, TS.ex, treeMode, AV.isOwn, TK.isSl, nilTk, nilsB, oLenQ, oLen, nodupB, treeOf, kidAbs, kidRows, TK.isCell, D.toL, oLoad, oStore, oMake, oIndexAddr, ↓reduceIte, reduceCtorEq, Nat.reduceBEq, Nat.reduceAdd, Nat.reduceMul, Nat.reduceLT, Nat.reduceSub, Nat.reduceLeDiff, Nat.reduceEqDiff, Nat.reduceBneDiff, Int.reduceToNat, decide_eq_true_eq, decide_eq_false_iff_not, beq_iff_eq, Int.toNat_natCast, loopK_normal, loopK_exit, loopK_ret, w2]
      obtain rfl : k = ms.length := by omega
      have e : mRows (ms.take ms.length) ++ List.replicate (ms.length - ms.length) mz0 = mRows ms := by rw [List.take_length, Nat.sub_self]; simp
      rw [e]
      exact ⟨_, [(0, some _)], rfl, ⟨⟨⟨rfl, rfl, rfl⟩, trivial⟩, ⟨.inl rfl, rfl, rfl, rfl, trivial⟩, by simp [rn, hpAt]⟩⟩
  · cases hg
def lt2 : List (FuncId × Abs) := [(31, pureAbs g_toMailS)]
theorem lt2_ok : ∀ p ∈ lt2, CallOk Try.prog p.1 p.2 := by
  intro p hp
  simp only [lt2, List.mem_cons, List.not_mem_nil, or_false] at hp
  rcases hp with rfl
  · exact toMailS_ok.call
set_option maxRecDepth 100000 in
theorem toPort_ok : PureOk Try.prog 18 g_toPort := by
  refine PureOk.of_vc (G := lt2) lt2_ok mixed Try.func18 (by kernel_rfl) rfl ?_
  intro args cnd r bs hg hc
  unfold g_toPort at hg
  split at hg
  · rename_i n sz rows
    cases hg
    obtain ⟨ms, rfl, hm⟩ := hc
    refine ⟨⟨rfl, by simp [flatB], by simp [AV.ids, AV.ids.idsL]⟩, [.agg [.v (.int .i64 n), .l 4 (mRows ms)]], rfl, fun w vs h => CvL.ok (.cons (.cons (.refl _) (.cons (.l _ _ _ (mRows_w ms)) .nil)) .nil) h, ?_⟩
    simp (maxSteps := 3000000) only [Try.f18, lt2, g_toMailS, tYs, evL, implies_true, oMin, x_max, oMax, oCopy, oBin, oUn, oLoadKid, oStoreTree, oField, oExtract, oNil, oSliceQ, oSliceE, x_appendZ, oAppendZ, oSliceEnd, endMode, oLoadRow, takeCells, TS.atRow, TS.ex, treeMode, AV.isOwn, TK.isSl, nilTk, nilsB, oLenQ, oLen, nodupB, treeOf, kidAbs, kidRows, TK.isCell, D.toL, oLoad, oStore, oMake, oIndexAddr, ↓reduceIte, reduceCtorEq, Nat.reduceBEq, Nat.reduceAdd, Nat.reduceMul, Nat.reduceLT, Nat.reduceSub, Nat.reduceLeDiff, Nat.reduceEqDiff, Nat.reduceBneDiff, Int.reduceToNat, decide_eq_true_eq, decide_eq_false_iff_not, beq_iff_eq, Int.toNat_natCast]
    exact ⟨⟨_, rfl, hm⟩, _, [(0, some _)], rfl, ⟨⟨⟨rfl, rfl, rfl⟩, trivial⟩, ⟨.inl rfl, rfl, rfl, rfl, trivial⟩, by simp [rn, hpAt]⟩⟩
  · cases hg
def lt3 : List (FuncId × Abs) := [(18, pureAbs g_toPort)]
theorem lt3_ok : ∀ p ∈ lt3, CallOk Try.prog p.1 p.2 := by
  intro p hp
  simp only [lt3, List.mem_cons, List.not_mem_nil, or_false] at hp
  rcases hp with rfl
  · exact toPort_ok.call
set_option maxRecDepth 100000 in
theorem toPortS_ok : PureOk Try.prog 6 g_toPortS := by
  refine PureOk.of_vc (G := lt3) lt3_ok mixed Try.func6 (by kernel_rfl) rfl ?_
  intro args cnd r bs hg hc
  unfold g_toPortS at hg
  split at hg
  · rename_i sz rows
    cases hg
    obtain ⟨l, rfl, hn, hd⟩ := hc
    refine ⟨⟨rfl, by simp [flatB], by simp [AV.ids, AV.ids.idsL]⟩, [.l 2 (poRows l)], rfl, fun w vs h => CvL.ok (.cons (.l _ _ _ (poRows_w l)) .nil) h, ?_⟩
    simp (maxSteps := 3000000) only [Try.f6, lt3, poRows_len, tYs, evL, implies_true, oMin, x_max, oMax, oCopy, oBin, oUn, oLoadKid, oStoreTree, oField, oExtract, oNil, oSliceQ, oSliceE, x_appendZ, oAppendZ, oSliceEnd, endMode, oLoadRow, takeCells, TS.atRow, TS.ex, treeMode, AV.isOwn, TK.isSl, nilTk, nilsB, oLenQ, oLen, nodupB, treeOf, kidAbs, kidRows, TK.isCell, D.toL, oLoad, oStore, oMake, oIndexAddr, ↓reduceIte, reduceCtorEq, Nat.reduceBEq, Nat.reduceAdd, Nat.reduceMul, Nat.reduceLT, Nat.reduceSub, Nat.reduceLeDiff, Nat.reduceEqDiff, Nat.reduceBneDiff, Int.reduceToNat, decide_eq_true_eq, decide_eq_false_iff_not, beq_iff_eq, Int.toNat_natCast]
    refine ⟨by omega, ?_⟩
    refine e_loop _ _ _ _ _ _ _ _ (fun k : Nat => [.l 2 (poRows l), .any, .any, .own 0, .v (.int .i64 (k : Int))] ++ List.replicate (Try.f6.ntmps - 5) .any) (fun k => [(0, .tr .whole 44 2 [.cell, .sl 27 4 [.cell, .cell, .cell, .sl 5 1 [.cell]]] (poRows (l.take k) ++ List.replicate (l.length - k) oz0))]) (fun k => k ≤ l.length) (fun k => l.length - k) 1 (fun k => by simp) ?_ fun k hk' => ?_
    · exact ⟨0, [(0, some _)], Nat.zero_le _, ⟨⟨⟨rfl, rfl, rfl⟩, trivial, trivial, ⟨rfl, rfl, rfl⟩, ⟨rfl, rfl, rfl⟩, fitT_rep _ _ rfl⟩, ⟨.inr (.inr ⟨_, rfl, po_seen l⟩), rfl, rfl, rfl, trivial⟩, by simp [rn, hpAt]⟩, by simp [keepIds]⟩
    have w2 : IntKind.i64.wrap ((k : Int) + 1) = ((k + 1 : Nat) : Int) := by rw [wrap_id] <;> omega
    by_cases hk : k < l.length
    · have hrow := poRows_get l k hk
      have hlt : ((k : Int) < (l.length : Int)) = True := eq_true (by omega)
      have h0 : (0 ≤ (k : Int)) = True := eq_true (by omega)
      have hx := hd l[k] (List.getElem_mem hk)
      have hln : (poRows (l.take k) ++ List.replicate (l.length - k) oz0).length = l.length := by rw [List.length_append, poRows_len, List.length_take, List.length_replicate]; omega
      have hdr : List.drop 2 ((poRows (l.take k) ++ List.replicate (l.length - k) oz0).getD k []) = [] := by
        rw [List.getD_eq_getElem?_getD, List.getElem?_append_right (by rw [poRows_len, List.length_take]; omega), List.getElem?_replicate, if_pos (by rw [poRows_len, List.length_take]; omega)]
        rfl
      have hset : (poRows (l.take k) ++ List.replicate (l.length - k) oz0).set k (poRow l[k]) = poRows (l.take (k + 1)) ++ List.replicate (l.length - (k + 1)) oz0 := by
        rw [← poRows_take, ← poRows_take]
        exact fill_row (poRows_len l).symm (by simp [poRows, hk]) _
      rw [poRow] at hset
      simp (maxSteps := 3000000) only [Try.f6, lt3, poRows_len, mRows_len, rowsOf_len, bytesOf_rows, msOf_rows, posOf_rows, g_toPort, hrow, hlt, h0, hln, hdr, hset, D.toI, D.toL, poRow, tYs, evL, implies_true, oMin, x_max, oMax, oCopy, oBin, oUn, oLoadKid, oStoreTree, oField, oExtract, oNil, oSliceQ, oSliceE, x_appendZ, oAppendZ, oSliceEnd, endMode, oLoadRow, takeCells, TS.atRow, TS.ex, treeMode, AV.isOwn, TK.isSl, nilTk, nilsB, oLenQ, oLen, nodupB, treeOf, kidAbs, kidRows, TK.isCell, D.toL, oLoad, oStore, oMake, oIndexAddr, ↓reduceIte, reduceCtorEq, Nat.reduceBEq, Nat.reduceAdd, Nat.reduceMul, Nat.reduceLT, Nat.reduceSub, Nat.reduceLeDiff, Nat.reduceEqDiff, Nat.reduceBneDiff, Int.reduceToNat, decide_eq_true_eq, decide_eq_false_iff_not, beq_iff_eq, Int.toNat_natCast, loopK_normal, loopK_exit, loopK_ret, w2]
      exact ⟨⟨_, rfl, hx⟩, hk, k + 1, [(0, some _)], by omega, by omega, ⟨⟨⟨rfl, rfl, rfl⟩, trivial, trivial, ⟨rfl, rfl, rfl⟩, ⟨rfl, rfl, rfl⟩, fitT_rep _ _ rfl⟩, ⟨.inl rfl, rfl, rfl, rfl, trivial⟩, by simp [rn, hpAt]⟩, by simp [keepIds]⟩
    · have hlt : ((k : Int) < (l.length : Int)) = False := eq_false (by omega)
      simp (maxSteps := 3000000) only [Try.f6, lt3, poRows_len, mRows_len, rowsOf_len, bytesOf_rows, msOf_rows, posOf_rows, hlt, D.toI, D.toL, poRow, tYs, evL, implies_true, oMin, x_max, oMax, oCopy, oBin, oUn, oLoadKid, oStoreTree, oField, oExtract, oNil, oSliceQ, oSliceE, x_appendZ, oAppendZ, oSliceEnd, endMode, oLoadRow, takeCells, TS.atRow, TS.ex, treeMode, AV.isOwn, TK.isSl, nilTk, nilsB, oLenQ, oLen, nodupB, treeOf, kidAbs, kidRows, TK.isCell, D.toL, oLoad, oStore, oMake, oIndexAddr, ↓reduceIte, reduceCtorEq, Nat.reduceBEq, Nat.reduceAdd, Nat.reduceMul, Nat.reduceLT, Nat.reduceSub, Nat.reduceLeDiff, Nat.reduceEqDiff, Nat.reduceBneDiff, Int.reduceToNat, decide_eq_true_eq, decide_eq_false_iff_not, beq_iff_eq, Int.toNat_natCast, loopK_normal, loopK_exit, loopK_ret, w2]
      obtain rfl : k = l.length := by omega
      have e : poRows (l.take l.length) ++ List.replicate (l.length - l.length) oz0 = poRows l := by rw [List.take_length, Nat.sub_self]; simp
      rw [e]
      exact ⟨_, [(0, some _)], rfl, ⟨⟨⟨rfl, rfl, rfl⟩, trivial⟩, ⟨.inl rfl, rfl, rfl, rfl, trivial⟩, by simp [rn, hpAt]⟩⟩
  · cases hg
def le1 : List (FuncId × Abs) := [(9, pureAbs g_eqMail)]
theorem le1_ok : ∀ p ∈ le1, CallOk Try.prog p.1 p.2 := by
  intro p hp
  simp only [le1, List.mem_cons, List.not_mem_nil, or_false] at hp
  rcases hp with rfl
  · exact eqMail_ok.call
set_option maxRecDepth 100000 in
theorem eqMailS_ok : PureOk Try.prog 34 g_eqMailS := by
  refine PureOk.of_vc (G := le1) le1_ok mixed Try.func34 (by kernel_rfl) rfl ?_
  intro args cnd r bs hg hc
  unfold g_eqMailS at hg
  split at hg
  · rename_i sz rows sz' rows'
    cases hg
    obtain ⟨⟨ms, rfl, hn, hd⟩, qs, rfl, hn', hd'⟩ := hc
    rw [msOf_rows, msOf_rows]
    have no : ms ≠ qs → (decide (ms = qs)) = false := fun e => by simp [e]
    refine ⟨⟨rfl, by simp, by simp [AV.ids, AV.ids.idsL]⟩, [.l 4 (mRows ms), .l 4 (mRows qs)], rfl, fun w vs h => CvL.ok (.cons (.l _ _ _ (mRows_w ms)) (.cons (.l _ _ _ (mRows_w qs)) .nil)) h, ?_⟩
    simp (maxSteps := 3000000) only [Try.f34, le1, mRows_len, tYs, evL, implies_true, oMin, x_max, oMax, oCopy, oBin, oUn, oLoadKid, oStoreTree, oField, oExtract, oNil, oSliceQ, oSliceE, x_appendZ, oAppendZ, oSliceEnd, endMode, oLoadRow, takeCells, TS.atRow, TS.ex, treeMode, AV.isOwn, TK.isSl, nilTk, nilsB, oLenQ, oLen, nodupB, treeOf, kidAbs, kidRows, TK.isCell, D.toL, oLoad, oStore, oMake, oIndexAddr, ↓reduceIte, reduceCtorEq, Nat.reduceBEq, Nat.reduceAdd, Nat.reduceMul, Nat.reduceLT, Nat.reduceSub, Nat.reduceLeDiff, Nat.reduceEqDiff, Nat.reduceBneDiff, Int.reduceToNat, decide_eq_true_eq, decide_eq_false_iff_not, beq_iff_eq, Int.toNat_natCast]
    by_cases hll : ms.length = qs.length
    · rw [if_neg (by simp [hll])]
      refine e_loop _ _ _ _ _ _ _ _ (fun k : Nat => [.l 4 (mRows ms), .l 4 (mRows qs), .any, .any, .any, .v (.int .i64 (k : Int))] ++ List.replicate (Try.f34.ntmps - 6) .any) (fun k => []) (fun k => k ≤ ms.length ∧ ms.take k = qs.take k) (fun k => ms.length - k) 0 (fun k => by simp) ?_ fun k hk' => ?_
      · exact ⟨0, [], ⟨Nat.zero_le _, rfl⟩, ⟨⟨⟨rfl, rfl, rfl⟩, ⟨rfl, rfl, rfl⟩, trivial, trivial, trivial, ⟨rfl, rfl, rfl⟩, fitT_rep _ _ rfl⟩, trivial, by simp [rn, hpAt]⟩, by simp [keepIds]⟩
      obtain ⟨hk1, hk2⟩ := hk'
      have w2 : IntKind.i64.wrap ((k : Int) + 1) = ((k + 1 : Nat) : Int) := by rw [wrap_id] <;> omega
      by_cases hk : k < ms.length
      · have hky : k < qs.length := by omega
        have hrow := mRows_get ms k hk
        have hrow' := mRows_get qs k hky
        have hlt : ((k : Int) < (ms.length : Int)) = True := eq_true (by omega)
        have hlt' : ((k : Int) < (qs.length : Int)) = True := eq_true (by omega)
        have h0 : (0 ≤ (k : Int)) = True := eq_true (by omega)
        have hx := hd ms[k] (List.getElem_mem hk)
        have hx' := hd' qs[k] (List.getElem_mem hky)
        have hte := take_eq hk hky
        simp (maxSteps := 3000000) only [Try.f34, le1, mRows_len, rowsOf_len, bytesOf_rows, msOf_rows, g_eqMail, hrow, hrow', hlt, hlt', h0, D.toI, D.toL, mlRow, tYs, evL, implies_true, oMin, x_max, oMax, oCopy, oBin, oUn, oLoadKid, oStoreTree, oField, oExtract, oNil, oSliceQ, oSliceE, x_appendZ, oAppendZ, oSliceEnd, endMode, oLoadRow, takeCells, TS.atRow, TS.ex, treeMode, AV.isOwn, TK.isSl, nilTk, nilsB, oLenQ, oLen, nodupB, treeOf, kidAbs, kidRows, TK.isCell, D.toL, oLoad, oStore, oMake, oIndexAddr, ↓reduceIte, reduceCtorEq, Nat.reduceBEq, Nat.reduceAdd, Nat.reduceMul, Nat.reduceLT, Nat.reduceSub, Nat.reduceLeDiff, Nat.reduceEqDiff, Nat.reduceBneDiff, Int.reduceToNat, decide_eq_true_eq, decide_eq_false_iff_not, beq_iff_eq, Int.toNat_natCast, loopK_normal, loopK_exit, loopK_ret, w2]
        refine ⟨⟨⟨_, rfl, by omega⟩, _, rfl, by omega⟩, by kernel_rfl, ?_⟩
        by_cases he : ms[k] = qs[k]
        · rw [if_neg (by rw [Bool.not_eq_true, Bool.not_eq_false', decide_eq_true_eq]; exact (Ml_eq _ _).1 he)]
          exact ⟨k + 1, [], ⟨by omega, hte.2 ⟨hk2, he⟩⟩, by omega, ⟨⟨⟨rfl, rfl, rfl⟩, ⟨rfl, rfl, rfl⟩, trivial, trivial, trivial, ⟨rfl, rfl, rfl⟩, fitT_rep _ _ rfl⟩, trivial, by simp [rn, hpAt]⟩, by simp [keepIds]⟩
        · rw [if_pos (by rw [Bool.not_eq_true', decide_eq_false_iff_not]; exact fun h => he ((Ml_eq _ _).2 h)), no (fun e => he (by subst e; rfl))]
          exact ⟨_, [], rfl, ⟨⟨⟨rfl, rfl, rfl⟩, trivial⟩, trivial, by simp [rn, hpAt]⟩⟩
      · have hlt : ((k : Int) < (ms.length : Int)) = False := eq_false (by omega)
        simp (maxSteps := 3000000) only [Try.f34, le1, mRows_len, rowsOf_len, bytesOf_rows, msOf_rows, hlt, D.toI, D.toL, mlRow, tYs, evL, implies_true, oMin, x_max, oMax, oCopy, oBin, oUn, oLoadKid, oStoreTree, oField, oExtract, oNil, oSliceQ, oSliceE, x_appendZ, oAppendZ, oSliceEnd, endMode, oLoadRow, takeCells, TS.atRow, TS.ex, treeMode, AV.isOwn, TK.isSl, nilTk, nilsB, oLenQ, oLen, nodupB, treeOf, kidAbs, kidRows, TK.isCell, D.toL, oLoad, oStore, oMake, oIndexAddr, ↓reduceIte, reduceCtorEq, Nat.reduceBEq, Nat.reduceAdd, Nat.reduceMul, Nat.reduceLT, Nat.reduceSub, Nat.reduceLeDiff, Nat.reduceEqDiff, Nat.reduceBneDiff, Int.reduceToNat, decide_eq_true_eq, decide_eq_false_iff_not, beq_iff_eq, Int.toNat_natCast, loopK_normal, loopK_exit, loopK_ret, w2]
        have e : ms = qs := by
          have h1 := hk2
          rwa [List.take_of_length_le (by omega), List.take_of_length_le (by omega)] at h1
        rw [decide_eq_true e]
        exact ⟨_, [], rfl, ⟨⟨⟨rfl, rfl, rfl⟩, trivial⟩, trivial, by simp [rn, hpAt]⟩⟩
    · rw [if_pos (by rw [bne_iff_ne]; omega), no (fun e => hll (by rw [e]))]
      exact ⟨_, [], rfl, ⟨⟨⟨rfl, rfl, rfl⟩, trivial⟩, trivial, by simp [rn, hpAt]⟩⟩
  · cases hg
def le2 : List (FuncId × Abs) := [(34, pureAbs g_eqMailS)]
theorem le2_ok : ∀ p ∈ le2, CallOk Try.prog p.1 p.2 := by
  intro p hp
  simp only [le2, List.mem_cons, List.not_mem_nil, or_false] at hp
  rcases hp with rfl
  · exact eqMailS_ok.call
set_option maxRecDepth 100000 in
theorem eqPort_ok : PureOk Try.prog 22 g_eqPort := by
  refine PureOk.of_vc (G := le2) le2_ok mixed Try.func22 (by kernel_rfl) rfl ?_
  intro args cnd r bs hg hc
  unfold g_eqPort at hg
  split at hg
  · rename_i n sz rows n' sz' rows'
    cases hg
    obtain ⟨⟨ms, rfl, hm⟩, qs, rfl, hm'⟩ := hc
    rw [msOf_rows, msOf_rows]
    refine ⟨⟨rfl, by simp, by simp [AV.ids, AV.ids.idsL]⟩, [.agg [.v (.int .i64 n), .l 4 (mRows ms)], .agg [.v (.int .i64 n'), .l 4 (mRows qs)]], rfl, fun w vs h => CvL.ok (.cons (.cons (.refl _) (.cons (.l _ _ _ (mRows_w ms)) .nil)) (.cons (.cons (.refl _) (.cons (.l _ _ _ (mRows_w qs)) .nil)) .nil)) h, ?_⟩
    simp (maxSteps := 3000000) only [Try.f22, le2, g_eqMailS, msOf_rows, tYs, evL, implies_true, oMin, x_max, oMax, oCopy, oBin, oUn, oLoadKid, oStoreTree, oField, oExtract, oNil, oSliceQ, oSliceE, x_appendZ, oAppendZ, oSliceEnd, endMode, oLoadRow, takeCells, TS.atRow, TS.ex, treeMode, AV.isOwn, TK.isSl, nilTk, nilsB, oLenQ, oLen, nodupB, treeOf, kidAbs, kidRows, TK.isCell, D.toL, oLoad, oStore, oMake, oIndexAddr, ↓reduceIte, reduceCtorEq, Nat.reduceBEq, Nat.reduceAdd, Nat.reduceMul, Nat.reduceLT, Nat.reduceSub, Nat.reduceLeDiff, Nat.reduceEqDiff, Nat.reduceBneDiff, Int.reduceToNat, decide_eq_true_eq, decide_eq_false_iff_not, beq_iff_eq, Int.toNat_natCast]
    by_cases h1 : n = n'
    · rw [if_neg (by simp [h1])]
      refine ⟨⟨⟨_, rfl, hm⟩, _, rfl, hm'⟩, ?_⟩
      by_cases h2 : ms = qs
      · rw [if_neg (by simp [h2]), decide_eq_true ⟨h1, h2⟩]
        exact ⟨_, [], rfl, ⟨⟨⟨rfl, rfl, rfl⟩, trivial⟩, trivial, by simp [rn, hpAt]⟩⟩
      · rw [if_pos (by simpa using h2), decide_eq_false (fun h => h2 h.2)]
        exact ⟨_, [], rfl, ⟨⟨⟨rfl, rfl, rfl⟩, trivial⟩, trivial, by simp [rn, hpAt]⟩⟩
    · rw [if_pos (by simp [h1]), decide_eq_false (fun h => h1 h.1)]
      exact ⟨_, [], rfl, ⟨⟨⟨rfl, rfl, rfl⟩, trivial⟩, trivial, by simp [rn, hpAt]⟩⟩
  · cases hg
def le3 : List (FuncId × Abs) := [(22, pureAbs g_eqPort)]
theorem le3_ok : ∀ p ∈ le3, CallOk Try.prog p.1 p.2 := by
  intro p hp
  simp only [le3, List.mem_cons, List.not_mem_nil, or_false] at hp
  rcases hp with rfl
  · exact eqPort_ok.call
set_option maxRecDepth 100000 in
theorem eqPortS_ok : PureOk Try.prog 8 g_eqPortS := by
  refine PureOk.of_vc (G := le3) le3_ok mixed Try.func8 (by kernel_rfl) rfl ?_
  intro args cnd r bs hg hc
  unfold g_eqPortS at hg
  split at hg
  · rename_i sz rows sz' rows'
    cases hg
    obtain ⟨⟨l, rfl, hn, hd⟩, r, rfl, hn', hd'⟩ := hc
    rw [posOf_rows, posOf_rows]
    have no : l ≠ r → (decide (l = r)) = false := fun e => by simp [e]
    refine ⟨⟨rfl, by simp, by simp [AV.ids, AV.ids.idsL]⟩, [.l 2 (poRows l), .l 2 (poRows r)], rfl, fun w vs h => CvL.ok (.cons (.l _ _ _ (poRows_w l)) (.cons (.l _ _ _ (poRows_w r)) .nil)) h, ?_⟩
    simp (maxSteps := 3000000) only [Try.f8, le3, poRows_len, tYs, evL, implies_true, oMin, x_max, oMax, oCopy, oBin, oUn, oLoadKid, oStoreTree, oField, oExtract, oNil, oSliceQ, oSliceE, x_appendZ, oAppendZ, oSliceEnd, endMode, oLoadRow, takeCells, TS.atRow, TS.ex, treeMode, AV.isOwn, TK.isSl, nilTk, nilsB, oLenQ, oLen, nodupB, treeOf, kidAbs, kidRows, TK.isCell, D.toL, oLoad, oStore, oMake, oIndexAddr, ↓reduceIte, reduceCtorEq, Nat.reduceBEq, Nat.reduceAdd, Nat.reduceMul, Nat.reduceLT, Nat.reduceSub, Nat.reduceLeDiff, Nat.reduceEqDiff, Nat.reduceBneDiff, Int.reduceToNat, decide_eq_true_eq, decide_eq_false_iff_not, beq_iff_eq, Int.toNat_natCast]
    by_cases hll : l.length = r.length
    · rw [if_neg (by simp [hll])]
      refine e_loop _ _ _ _ _ _ _ _ (fun k : Nat => [.l 2 (poRows l), .l 2 (poRows r), .any, .any, .any, .v (.int .i64 (k : Int))] ++ List.replicate (Try.f8.ntmps - 6) .any) (fun k => []) (fun k => k ≤ l.length ∧ l.take k = r.take k) (fun k => l.length - k) 0 (fun k => by simp) ?_ fun k hk' => ?_
      · exact ⟨0, [], ⟨Nat.zero_le _, rfl⟩, ⟨⟨⟨rfl, rfl, rfl⟩, ⟨rfl, rfl, rfl⟩, trivial, trivial, trivial, ⟨rfl, rfl, rfl⟩, fitT_rep _ _ rfl⟩, trivial, by simp [rn, hpAt]⟩, by simp [keepIds]⟩
      obtain ⟨hk1, hk2⟩ := hk'
      have w2 : IntKind.i64.wrap ((k : Int) + 1) = ((k + 1 : Nat) : Int) := by rw [wrap_id] <;> omega
      by_cases hk : k < l.length
      · have hky : k < r.length := by omega
        have hrow := poRows_get l k hk
        have hrow' := poRows_get r k hky
        have hlt : ((k : Int) < (l.length : Int)) = True := eq_true (by omega)
        have hlt' : ((k : Int) < (r.length : Int)) = True := eq_true (by omega)
        have h0 : (0 ≤ (k : Int)) = True := eq_true (by omega)
        have hx := hd l[k] (List.getElem_mem hk)
        have hx' := hd' r[k] (List.getElem_mem hky)
        have hte := take_eq hk hky
        simp (maxSteps := 3000000) only [Try.f8, le3, poRows_len, mRows_len, rowsOf_len, bytesOf_rows, msOf_rows, posOf_rows, g_eqPort, msOf_rows, hrow, hrow', hlt, hlt', h0, D.toI, D.toL, poRow, tYs, evL, implies_true, oMin, x_max, oMax, oCopy, oBin, oUn, oLoadKid, oStoreTree, oField, oExtract, oNil, oSliceQ, oSliceE, x_appendZ, oAppendZ, oSliceEnd, endMode, oLoadRow, takeCells, TS.atRow, TS.ex, treeMode, AV.isOwn, TK.isSl, nilTk, nilsB, oLenQ, oLen, nodupB, treeOf, kidAbs, kidRows, TK.isCell, D.toL, oLoad, oStore, oMake, oIndexAddr, ↓reduceIte, reduceCtorEq, Nat.reduceBEq, Nat.reduceAdd, Nat.reduceMul, Nat.reduceLT, Nat.reduceSub, Nat.reduceLeDiff, Nat.reduceEqDiff, Nat.reduceBneDiff, Int.reduceToNat, decide_eq_true_eq, decide_eq_false_iff_not, beq_iff_eq, Int.toNat_natCast, loopK_normal, loopK_exit, loopK_ret, w2]
        refine ⟨⟨⟨_, rfl, hx⟩, _, rfl, hx'⟩, by kernel_rfl, ?_⟩
        by_cases he : l[k] = r[k]
        · rw [if_neg (by rw [Bool.not_eq_true, Bool.not_eq_false', decide_eq_true_eq]; exact (Po_eq _ _).1 he)]
          exact ⟨k + 1, [], ⟨by omega, hte.2 ⟨hk2, he⟩⟩, by omega, ⟨⟨⟨rfl, rfl, rfl⟩, ⟨rfl, rfl, rfl⟩, trivial, trivial, trivial, ⟨rfl, rfl, rfl⟩, fitT_rep _ _ rfl⟩, trivial, by simp [rn, hpAt]⟩, by simp [keepIds]⟩
        · rw [if_pos (by rw [Bool.not_eq_true', decide_eq_false_iff_not]; exact fun h => he ((Po_eq _ _).2 h)), no (fun e => he (by subst e; rfl))]
          exact ⟨_, [], rfl, ⟨⟨⟨rfl, rfl, rfl⟩, trivial⟩, trivial, by simp [rn, hpAt]⟩⟩
      · have hlt : ((k : Int) < (l.length : Int)) = False := eq_false (by omega)
        simp (maxSteps := 3000000) only [Try.f8, le3, poRows_len, mRows_len, rowsOf_len, bytesOf_rows, msOf_rows, posOf_rows, hlt, D.toI, D.toL, poRow, tYs, evL, implies_true, oMin, x_max, oMax, oCopy, oBin, oUn, oLoadKid, oStoreTree, oField, oExtract, oNil, oSliceQ, oSliceE, x_appendZ, oAppendZ, oSliceEnd, endMode, oLoadRow, takeCells, TS.atRow, TS.ex, treeMode, AV.isOwn, TK.isSl, nilTk, nilsB, oLenQ, oLen, nodupB, treeOf, kidAbs, kidRows, TK.isCell, D.toL, oLoad, oStore, oMake, oIndexAddr, ↓reduceIte, reduceCtorEq, Nat.reduceBEq, Nat.reduceAdd, Nat.reduceMul, Nat.reduceLT, Nat.reduceSub, Nat.reduceLeDiff, Nat.reduceEqDiff, Nat.reduceBneDiff, Int.reduceToNat, decide_eq_true_eq, decide_eq_false_iff_not, beq_iff_eq, Int.toNat_natCast, loopK_normal, loopK_exit, loopK_ret, w2]
        have e : l = r := by
          have h1 := hk2
          rwa [List.take_of_length_le (by omega), List.take_of_length_le (by omega)] at h1
        rw [decide_eq_true e]
        exact ⟨_, [], rfl, ⟨⟨⟨rfl, rfl, rfl⟩, trivial⟩, trivial, by simp [rn, hpAt]⟩⟩
    · rw [if_pos (by rw [bne_iff_ne]; omega), no (fun e => hll (by rw [e]))]
      exact ⟨_, [], rfl, ⟨⟨⟨rfl, rfl, rfl⟩, trivial⟩, trivial, by simp [rn, hpAt]⟩⟩
  · cases hg
end Go.Proofs.Ytcpmifgdmlpcpaa
