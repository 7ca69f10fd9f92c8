import Derived.Test.YthbcoakimbpkgaaXm
namespace Go.Proofs.Ythbcoakimbpkgaa
open Go.RowKit
set_option linter.unusedSimpArgs false
set_option linter.unusedVariables false
def mkPk (x : Pk) (c : Nat) : Pk := ⟨(c : Int), ((c + 1 : Nat) : Int), ((c + 2 : Nat) : Int), ((c + 3 : Nat) : Int), ((c + 4 : Nat) : Int), ((c + 5 : Nat) : Int), decide ((c + 6) % 3 = 0), decide ((c + 7) % 3 = 0), marks (c + 8) x.d.length⟩
def mkC : List Pk → Nat → Nat
  | [], c => c
  | x :: t, c => mkC t (c + 8 + x.d.length)
def mkL : List Pk → Nat → List Pk
  | [], _ => []
  | x :: t, c => mkPk x c :: mkL t (c + 8 + x.d.length)
theorem mkC_app : ∀ (a b : List Pk) (c : Nat), mkC (a ++ b) c = mkC b (mkC a c)
  | [], _, _ => rfl
  | x :: a, b, c => mkC_app a b _
theorem mkL_app : ∀ (a b : List Pk) (c : Nat), mkL (a ++ b) c = mkL a c ++ mkL b (mkC a c)
  | [], _, _ => rfl
  | x :: a, b, c => by simp only [List.cons_append, mkL, mkC, mkL_app a b]
theorem mkL_len : ∀ (a : List Pk) (c : Nat), (mkL a c).length = a.length
  | [], _ => rfl
  | x :: a, c => by simp only [mkL, List.length_cons, mkL_len a]
theorem mkC_eq : ∀ (a : List Pk) (c : Nat), mkC a c = c + 8 * a.length + sumN a
  | [], c => by simp [mkC, sumN]
  | x :: a, c => by
    rw [mkC, mkC_eq a]
    simp only [sumN, List.map_cons, List.sum_cons, List.length_cons]
    omega
def mkS (ps : List Pk) (c k : Nat) : List Pk := mkL (ps.take k) c ++ ps.drop k
theorem mkS_len (ps : List Pk) (c k : Nat) : (mkS ps c k).length = ps.length := by
  rw [mkS, List.length_append, mkL_len, ← List.length_append, List.take_append_drop]
theorem mkS_at {ps : List Pk} {c k : Nat} (h : k < ps.length) : (mkS ps c k)[k]? = some ps[k] := by
  have e : (mkL (ps.take k) c).length = k := by rw [mkL_len, List.length_take]; omega
  rw [mkS, List.getElem?_append_right (by omega), e, Nat.sub_self, List.getElem?_drop, Nat.add_zero, List.getElem?_eq_getElem h]
theorem mkS_set {ps : List Pk} {c k : Nat} (h : k < ps.length) : (mkS ps c k).set k (mkPk ps[k] (mkC (ps.take k) c)) = mkS ps c (k + 1) := by
  have e : (mkL (ps.take k) c).length = k := by rw [mkL_len, List.length_take]; omega
  rw [mkS, mkS, List.set_append_right _ _ (by omega), e, Nat.sub_self, List.drop_eq_getElem_cons h, List.set_cons_zero, List.take_add_one, List.getElem?_eq_getElem h, mkL_app]
  simp [mkL]
theorem mkC_next {ps : List Pk} {c k : Nat} (h : k < ps.length) : mkC (ps.take (k + 1)) c = mkC (ps.take k) c + 8 + ps[k].d.length := by
  rw [List.take_add_one, List.getElem?_eq_getElem h, mkC_app]; rfl
theorem sumN_mem {x : Pk} : ∀ {ps : List Pk}, x ∈ ps → x.d.length ≤ sumN ps
  | [], h => by cases h
  | y :: ps, h => by
    rw [sumN, List.map_cons, List.sum_cons, ← sumN]
    rcases List.mem_cons.1 h with rfl | h
    · omega
    · have := sumN_mem h
      omega
theorem t3 (n : Nat) : ((n : Int).tmod 3 == 0) = decide (n % 3 = 0) := by
  rw [Bool.eq_iff_iff, beq_iff_eq, decide_eq_true_eq, Int.tmod_eq_emod_of_nonneg (by omega)]
  omega
theorem set_getD {α : Type} {l : List α} {k : Nat} (h : k < l.length) (a d : α) : (l.set k a).getD k d = a := by
  rw [List.getD_eq_getElem?_getD, List.getElem?_set_self h]; rfl
def g_markPacketS : OC := fun args B0 => match args, B0 with
  | [.own r, .v (.int .i64 c)], [.tr .whole T sz cols rows] => some (r = 0 ∧ T = 31 ∧ sz = 9 ∧ cols = [.cell, .cell, .cell, .cell, .cell, .cell, .cell, .cell, .sl 5 1 [.cell]] ∧ (∃ ps, rows = pRows ps ∧ ps.length ≤ 1048576 ∧ sumN ps ≤ 1048576) ∧ 0 ≤ c ∧ c ≤ 549755813888,
      .v (.int .i64 (mkC (psOf rows) c.toNat : Nat)), [.tr .whole T sz cols (pRows (mkL (psOf rows) c.toNat))], [])
  | _, _ => none
def mkg : List (FuncId × Abs) := [(99, kidAbs g_markByteS)]
theorem mkg_ok : ∀ p ∈ mkg, CallOk Try.prog p.1 p.2 := by
  intro p hp
  simp only [mkg, List.mem_cons, List.not_mem_nil, or_false] at hp
  rcases hp with rfl
  exact markByteS_ok.callK
set_option maxHeartbeats 1000000 in
set_option maxRecDepth 100000 in
theorem markPacketS_ok : OwnOk Try.prog 100 g_markPacketS := by
  refine OwnOk.of_vc (G := mkg) mkg_ok mixed Try.func100 (by kernel_rfl) rfl ?_
  intro args B0 cnd r B1 bs hg hc hlive
  unfold g_markPacketS at hg
  split at hg
  · rename_i r c T sz cols rows
    cases hg
    obtain ⟨rfl, rfl, rfl, rfl, ⟨ps, rfl, hn, hs⟩, hc0, hc1⟩ := hc
    rw [psOf_rows]
    obtain ⟨c, rfl⟩ : ∃ n : Nat, c = (n : Int) := ⟨c.toNat, by omega⟩
    rw [Int.toNat_natCast]
    refine ⟨⟨by simp [likeBs, likeB, pRows_len, mkL_len], by simp [Blk.liveB, blkIds, AV.ids.idsL, AV.ids], by simp [AV.ids]⟩, _, rfl, fun w Z s vs h => h, ?_⟩
    clear hlive
    simp (maxSteps := 3000000) only [Try.f100, mkg, tYs, evL, implies_true, oMin, oCopy, oBin, oUn, oLoadKid, oStoreTree, oField, oExtract, oNil, oSliceQ, oLen, nodupB, treeOf, kidAbs, kidRows, TK.isCell, D.toL, oLoad, oStore, oMake, oIndexAddr, ↓reduceIte, reduceCtorEq, Nat.reduceBEq, Nat.reduceAdd, Nat.reduceMul, Nat.reduceLT, Nat.reduceSub, Nat.reduceLeDiff, Nat.reduceEqDiff, Nat.reduceBneDiff, Int.reduceToNat, decide_eq_true_eq, decide_eq_false_iff_not, beq_iff_eq, Int.toNat_natCast]
    refine e_loop _ _ _ _ _ _ _ _ (fun k : Nat => [.own 0, .v (.int .i64 (mkC (ps.take k) c : Nat)), .any, .any, .any, .v (.int .i64 (k : Int))] ++ List.replicate (Try.f100.ntmps - 6) .any) (fun k => [(0, .tr .whole 31 9 [.cell, .cell, .cell, .cell, .cell, .cell, .cell, .cell, .sl 5 1 [.cell]] (pRows (mkS ps c k)))]) (fun k => k ≤ ps.length) (fun k => ps.length - k) 1 (fun k => by simp) ?_ fun k hk' => ?_
    · exact ⟨0, [(0, some 0)], Nat.zero_le _, ⟨⟨⟨rfl, rfl, rfl⟩, ⟨rfl, rfl, rfl⟩, trivial, trivial, trivial, ⟨rfl, rfl, rfl⟩, fitT_rep _ _ rfl⟩, ⟨.inl rfl, rfl, rfl, rfl, trivial⟩, by simp [rn, hpAt]⟩, by simp [keepIds, rn]⟩
    have w2 : IntKind.i64.wrap ((k : Int) + 1) = ((k + 1 : Nat) : Int) := by rw [wrap_id] <;> omega
    by_cases hk : k < ps.length
    · have hrow := pRows_get ps k hk
      have hlt : ((k : Int) < (ps.length : Int)) = True := eq_true (by omega)
      have h0 : (0 ≤ (k : Int)) = True := eq_true (by omega)
      have hsl : (pRows (mkS ps c k)).length = ps.length := by rw [pRows_len, mkS_len]
      have hrw : (pRows (mkS ps c k)).getD k [] = pRow ps[k] := by
        rw [List.getD_eq_getElem?_getD, pRows, List.getElem?_map, mkS_at hk]; rfl
      have hset : ∀ r : List D, ((pRows (mkS ps c k)).set k r).getD k [] = r := fun r => set_getD (by rw [hsl]; exact hk) r []
      have hCe := mkC_eq (ps.take k) c
      have hsk := sumN_mem (List.getElem_mem hk)
      have hCl := sumN_le ps k
      have hCt : (ps.take k).length = k := by rw [List.length_take]; omega
      rw [hCt] at hCe
      have hCn := mkC_next (c := c) hk
      have hms := mkS_set (c := c) hk
      obtain ⟨C, hC⟩ : ∃ C, mkC (ps.take k) c = C := ⟨_, rfl⟩
      rw [hC] at hCe hCn hms ⊢
      have wc1 : IntKind.i64.wrap ((C : Int) + 1) = ((C + 1 : Nat) : Int) := by rw [wrap_id] <;> omega
      have wc2 : IntKind.i64.wrap (((C + 1 : Nat) : Int) + 1) = ((C + 2 : Nat) : Int) := by rw [wrap_id] <;> omega
      have wc3 : IntKind.i64.wrap (((C + 2 : Nat) : Int) + 1) = ((C + 3 : Nat) : Int) := by rw [wrap_id] <;> omega
      have wc4 : IntKind.i64.wrap (((C + 3 : Nat) : Int) + 1) = ((C + 4 : Nat) : Int) := by rw [wrap_id] <;> omega
      have wc5 : IntKind.i64.wrap (((C + 4 : Nat) : Int) + 1) = ((C + 5 : Nat) : Int) := by rw [wrap_id] <;> omega
      have wc6 : IntKind.i64.wrap (((C + 5 : Nat) : Int) + 1) = ((C + 6 : Nat) : Int) := by rw [wrap_id] <;> omega
      have wc7 : IntKind.i64.wrap (((C + 6 : Nat) : Int) + 1) = ((C + 7 : Nat) : Int) := by rw [wrap_id] <;> omega
      have wc8 : IntKind.i64.wrap (((C + 7 : Nat) : Int) + 1) = ((C + 8 : Nat) : Int) := by rw [wrap_id] <;> omega
      simp (maxSteps := 3000000) only [Try.f100, mkg, g_markByteS, hsl, hrw, hset, hlt, h0, List.set_set, List.length_set, wc1, wc2, wc3, wc4, wc5, wc6, wc7, wc8, rowsOf_len, pRow, tYs, evL, implies_true, oMin, oCopy, oBin, oUn, oLoadKid, oStoreTree, oField, oExtract, oNil, oSliceQ, oLen, nodupB, treeOf, kidAbs, kidRows, TK.isCell, D.toL, oLoad, oStore, oMake, oIndexAddr, ↓reduceIte, reduceCtorEq, Nat.reduceBEq, Nat.reduceAdd, Nat.reduceMul, Nat.reduceLT, Nat.reduceSub, Nat.reduceLeDiff, Nat.reduceEqDiff, Nat.reduceBneDiff, Int.reduceToNat, decide_eq_true_eq, decide_eq_false_iff_not, beq_iff_eq, Int.toNat_natCast, loopK_normal, loopK_exit, loopK_ret, w2]
      repeat' first
        | refine And.intro (by omega) ?_
        | refine And.intro ⟨⟨⟨_, rfl⟩, by omega, by omega, by omega⟩, rowsOf_flat _⟩ ?_
      have hfin : (pRows (mkS ps c k)).set k [D.v (.int .i64 (C : Nat)), D.v (.int .i64 ((C + 1 : Nat) : Int)), D.v (.int .i64 ((C + 2 : Nat) : Int)), D.v (.int .i64 ((C + 3 : Nat) : Int)), D.v (.int .i64 ((C + 4 : Nat) : Int)), D.v (.int .i64 ((C + 5 : Nat) : Int)), D.v (.bool (((C + 6 : Nat) : Int).tmod 3 == 0)), D.v (.bool (((C + 7 : Nat) : Int).tmod 3 == 0)), D.l 1 (rowsOfBytes (marks (C + 8) ps[k].d.length))] = pRows (mkS ps c (k + 1)) := by
        rw [← hms, t3, t3, pRows, pRows, List.map_set]; rfl
      rw [hfin]
      exact ⟨k + 1, [(0, some 0)], by omega, by omega, ⟨⟨⟨rfl, rfl, rfl⟩, ⟨congrArg (fun z : Int => AV.v (Value.int .i64 z)) (by rw [hCn]; omega), rfl, rfl⟩, trivial, trivial, trivial, ⟨rfl, rfl, rfl⟩, fitT_rep _ _ rfl⟩, ⟨.inl rfl, rfl, rfl, rfl, trivial⟩, by simp [rn, hpAt]⟩, by simp [keepIds, rn]⟩
    · have hlt : ((k : Int) < (ps.length : Int)) = False := eq_false (by omega)
      simp (maxSteps := 3000000) only [Try.f100, mkg, pRows_len, mkS_len, hlt, tYs, evL, implies_true, oMin, oCopy, oBin, oUn, oLoadKid, oStoreTree, oField, oExtract, oNil, oSliceQ, oLen, nodupB, treeOf, kidAbs, kidRows, TK.isCell, D.toL, oLoad, oStore, oMake, oIndexAddr, ↓reduceIte, reduceCtorEq, Nat.reduceBEq, Nat.reduceAdd, Nat.reduceMul, Nat.reduceLT, Nat.reduceSub, Nat.reduceLeDiff, Nat.reduceEqDiff, Nat.reduceBneDiff, Int.reduceToNat, decide_eq_true_eq, decide_eq_false_iff_not, beq_iff_eq, Int.toNat_natCast, loopK_normal, loopK_exit, loopK_ret, w2]
      obtain rfl : k = ps.length := by omega
      rw [mkS, List.take_length, List.drop_length, List.append_nil]
      exact ⟨[(0, some 0)], ⟨⟨⟨rfl, rfl, rfl⟩, trivial⟩, ⟨.inl rfl, rfl, rfl, rfl, trivial⟩, by simp [rn, hpAt]⟩, by simp [keepIds, rn]⟩
  · cases hg
theorem mkL_at {ps : List Pk} {c k : Nat} (h : k < ps.length) : (mkL ps c)[k]'(by rw [mkL_len]; exact h) = mkPk ps[k] (mkC (ps.take k) c) := by
  have e : mkL ps c = mkL (ps.take k) c ++ mkPk ps[k] (mkC (ps.take k) c) :: mkL (ps.drop (k + 1)) (mkC (ps.take k) c + 8 + ps[k].d.length) := by
    conv => lhs; rw [← List.take_append_drop k ps, List.drop_eq_getElem_cons h, mkL_app, mkL]
  have hl : (mkL (ps.take k) c).length = k := by rw [mkL_len, List.length_take]; omega
  simp only [e]
  rw [List.getElem_append_right (by omega)]
  simp [hl]
theorem mkPk_row (x : Pk) (C : Nat) : pRow (mkPk x C) = [D.v (.int .i64 (C : Nat)), D.v (.int .i64 ((C + 1 : Nat) : Int)), D.v (.int .i64 ((C + 2 : Nat) : Int)), D.v (.int .i64 ((C + 3 : Nat) : Int)), D.v (.int .i64 ((C + 4 : Nat) : Int)), D.v (.int .i64 ((C + 5 : Nat) : Int)), D.v (.bool (((C + 6 : Nat) : Int).tmod 3 == 0)), D.v (.bool (((C + 7 : Nat) : Int).tmod 3 == 0)), D.l 1 (rowsOfBytes (marks (C + 8) x.d.length))] := by
  rw [t3, t3]; rfl
def g_heldPacketS : PC := fun args => match args with
  | [.l _ rows, .v (.int .i64 c)] => some ((∃ ps, rows = pRows (mkL ps c.toNat) ∧ ps.length ≤ 1048576 ∧ sumN ps ≤ 1048576) ∧ 0 ≤ c ∧ c ≤ 549755813888, .v (.int .i64 (mkC (psOf rows) c.toNat : Nat)), [])
  | _ => none
theorem mkC_mk (ps : List Pk) : ∀ c, mkC (mkL ps c) c = mkC ps c := by
  intro c
  rw [mkC_eq, mkC_eq, mkL_len]
  congr 1
  have : ∀ (ps : List Pk) (c : Nat), sumN (mkL ps c) = sumN ps := by
    intro ps
    induction ps with
    | nil => intro c; rfl
    | cons x t ih =>
      intro c
      have h1 := ih (c + 8 + x.d.length)
      simp only [mkL, sumN, List.map_cons, List.sum_cons, mkPk, marks_len] at h1 ⊢
      omega
  exact this ps c
def hdg : List (FuncId × Abs) := [(123, pureAbs g_heldByteS)]
theorem hdg_ok : ∀ p ∈ hdg, CallOk Try.prog p.1 p.2 := by
  intro p hp
  simp only [hdg, List.mem_cons, List.not_mem_nil, or_false] at hp
  rcases hp with rfl
  · exact heldByteS_ok.call
set_option maxHeartbeats 2000000 in
set_option maxRecDepth 100000 in
theorem heldPacketS_ok : PureOk Try.prog 101 g_heldPacketS := by
  refine PureOk.of_vc (G := hdg) hdg_ok mixed Try.func101 (by kernel_rfl) rfl ?_
  intro args cnd r bs hg hc
  unfold g_heldPacketS at hg
  split at hg
  · rename_i sz rows c
    cases hg
    obtain ⟨⟨ps, rfl, hn, hs⟩, hc0, hc1⟩ := hc
    obtain ⟨c, rfl⟩ : ∃ n : Nat, c = (n : Int) := ⟨c.toNat, by omega⟩
    rw [Int.toNat_natCast, psOf_rows, mkC_mk]
    refine ⟨⟨rfl, by simp, by simp [AV.ids, AV.ids.idsL]⟩, [.l 9 (pRows (mkL ps c)), .v (.int .i64 (c : Int))], rfl, fun w vs h => CvL.ok (.cons (.l _ _ _ (pRows_w _)) (.cons (.refl _) .nil)) h, ?_⟩
    simp (maxSteps := 3000000) only [Try.f101, hdg, pRows_len, mkL_len, tYs, evL, implies_true, oMin, oCopy, oBin, oUn, oLoadKid, oStoreTree, oField, oExtract, oNil, oSliceQ, oLen, nodupB, treeOf, kidAbs, kidRows, TK.isCell, D.toL, oLoad, oStore, oMake, oIndexAddr, ↓reduceIte, reduceCtorEq, Nat.reduceBEq, Nat.reduceAdd, Nat.reduceMul, Nat.reduceLT, Nat.reduceSub, Nat.reduceLeDiff, Nat.reduceEqDiff, Nat.reduceBneDiff, Int.reduceToNat, decide_eq_true_eq, decide_eq_false_iff_not, beq_iff_eq, Int.toNat_natCast]
    refine e_loop _ _ _ _ _ _ _ _ (fun k : Nat => [.l 9 (pRows (mkL ps c)), .v (.int .i64 (mkC (ps.take k) c : Nat)), .any, .any, .any, .v (.int .i64 (k : Int))] ++ List.replicate (Try.f101.ntmps - 6) .any) (fun k => []) (fun k => k ≤ ps.length) (fun k => ps.length - k) 0 (fun k => by simp) ?_ fun k hk' => ?_
    · exact ⟨0, [], Nat.zero_le _, ⟨⟨⟨rfl, rfl, rfl⟩, ⟨rfl, rfl, rfl⟩, trivial, trivial, trivial, ⟨rfl, rfl, rfl⟩, fitT_rep _ _ rfl⟩, trivial, by simp [rn, hpAt]⟩, by simp [keepIds]⟩
    have w2 : IntKind.i64.wrap ((k : Int) + 1) = ((k + 1 : Nat) : Int) := by rw [wrap_id] <;> omega
    by_cases hk : k < ps.length
    · have hrow : (pRows (mkL ps c)).getD k [] = pRow (mkPk ps[k] (mkC (ps.take k) c)) := by
        rw [List.getD_eq_getElem?_getD, pRows, List.getElem?_map, List.getElem?_eq_getElem (by rw [mkL_len]; exact hk), mkL_at hk]; rfl
      rw [mkPk_row] at hrow
      have hlt : ((k : Int) < (ps.length : Int)) = True := eq_true (by omega)
      have h0 : (0 ≤ (k : Int)) = True := eq_true (by omega)
      have hCe := mkC_eq (ps.take k) c
      have hsk := sumN_mem (List.getElem_mem hk)
      have hCl := sumN_le ps k
      have hCt : (ps.take k).length = k := by rw [List.length_take]; omega
      rw [hCt] at hCe
      have hCn := mkC_next (c := c) hk
      obtain ⟨C, hC⟩ : ∃ C, mkC (ps.take k) c = C := ⟨_, rfl⟩
      rw [hC] at hCe hCn hrow ⊢
      have wc1 : IntKind.i64.wrap (((C : Nat) : Int) + 1) = ((C + 1 : Nat) : Int) := by rw [wrap_id] <;> omega
      have wc2 : IntKind.i64.wrap (((C + 1 : Nat) : Int) + 1) = ((C + 2 : Nat) : Int) := by rw [wrap_id] <;> omega
      have wc3 : IntKind.i64.wrap (((C + 2 : Nat) : Int) + 1) = ((C + 3 : Nat) : Int) := by rw [wrap_id] <;> omega
      have wc4 : IntKind.i64.wrap (((C + 3 : Nat) : Int) + 1) = ((C + 4 : Nat) : Int) := by rw [wrap_id] <;> omega
      have wc5 : IntKind.i64.wrap (((C + 4 : Nat) : Int) + 1) = ((C + 5 : Nat) : Int) := by rw [wrap_id] <;> omega
      have wc6 : IntKind.i64.wrap (((C + 5 : Nat) : Int) + 1) = ((C + 6 : Nat) : Int) := by rw [wrap_id] <;> omega
      have wc7 : IntKind.i64.wrap (((C + 6 : Nat) : Int) + 1) = ((C + 7 : Nat) : Int) := by rw [wrap_id] <;> omega
      have wc8 : IntKind.i64.wrap (((C + 7 : Nat) : Int) + 1) = ((C + 8 : Nat) : Int) := by rw [wrap_id] <;> omega
      have nb0 : ((((C : Nat) : Int)) != (((C : Nat) : Int))) = false := by simp
      have nb1 : ((((C + 1 : Nat) : Int)) != (((C + 1 : Nat) : Int))) = false := by simp
      have nb2 : ((((C + 2 : Nat) : Int)) != (((C + 2 : Nat) : Int))) = false := by simp
      have nb3 : ((((C + 3 : Nat) : Int)) != (((C + 3 : Nat) : Int))) = false := by simp
      have nb4 : ((((C + 4 : Nat) : Int)) != (((C + 4 : Nat) : Int))) = false := by simp
      have nb5 : ((((C + 5 : Nat) : Int)) != (((C + 5 : Nat) : Int))) = false := by simp
      have nb6 : ∀ b : Bool, (b == b) = true := by simp
      have nb7 : ∀ b : Bool, (b != b) = false := by simp
      simp (maxSteps := 3000000) only [Try.f101, hdg, g_heldByteS, pRows_len, mkL_len, rowsOf_len, marks_len, bytesOf_rows, hrow, hlt, h0, D.toI, D.toB, dB, D.toL, wc1, wc2, wc3, wc4, wc5, wc6, wc7, wc8, nb0, nb1, nb2, nb3, nb4, nb5, nb6, nb7, tYs, evL, implies_true, oMin, oCopy, oBin, oUn, oLoadKid, oStoreTree, oField, oExtract, oNil, oSliceQ, oLen, nodupB, treeOf, kidAbs, kidRows, TK.isCell, D.toL, oLoad, oStore, oMake, oIndexAddr, ↓reduceIte, reduceCtorEq, Nat.reduceBEq, Nat.reduceAdd, Nat.reduceMul, Nat.reduceLT, Nat.reduceSub, Nat.reduceLeDiff, Nat.reduceEqDiff, Nat.reduceBneDiff, Int.reduceToNat, decide_eq_true_eq, decide_eq_false_iff_not, beq_iff_eq, Int.toNat_natCast, loopK_normal, loopK_exit, loopK_ret, w2]
      refine ⟨by decide, by decide, ⟨by omega, by omega, by omega⟩, ?_⟩
      rw [if_neg (by omega)]
      exact ⟨k + 1, [], by omega, by omega, ⟨⟨⟨rfl, rfl, rfl⟩, ⟨congrArg (fun z : Int => AV.v (Value.int .i64 z)) (by rw [hCn]; omega), rfl, rfl⟩, trivial, trivial, trivial, ⟨rfl, rfl, rfl⟩, fitT_rep _ _ rfl⟩, trivial, by simp [rn, hpAt]⟩, by simp [keepIds]⟩
    · have hlt : ((k : Int) < (ps.length : Int)) = False := eq_false (by omega)
      simp (maxSteps := 3000000) only [Try.f101, hdg, pRows_len, mkL_len, hlt, tYs, evL, implies_true, oMin, oCopy, oBin, oUn, oLoadKid, oStoreTree, oField, oExtract, oNil, oSliceQ, oLen, nodupB, treeOf, kidAbs, kidRows, TK.isCell, D.toL, oLoad, oStore, oMake, oIndexAddr, ↓reduceIte, reduceCtorEq, Nat.reduceBEq, Nat.reduceAdd, Nat.reduceMul, Nat.reduceLT, Nat.reduceSub, Nat.reduceLeDiff, Nat.reduceEqDiff, Nat.reduceBneDiff, Int.reduceToNat, decide_eq_true_eq, decide_eq_false_iff_not, beq_iff_eq, Int.toNat_natCast, loopK_normal, loopK_exit, loopK_ret, w2]
      obtain rfl : k = ps.length := by omega
      rw [List.take_length]
      exact ⟨_, [], rfl, ⟨⟨⟨rfl, rfl, rfl⟩, trivial⟩, trivial, by simp [rn, hpAt]⟩⟩
  · cases hg
end Go.Proofs.Ythbcoakimbpkgaa
