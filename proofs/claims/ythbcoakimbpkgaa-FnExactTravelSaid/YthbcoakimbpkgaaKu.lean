import Derived.Test.YthbcoakimbpkgaaKt
set_option linter.unusedVariables false
set_option linter.unusedSimpArgs false
namespace Go.Proofs.Ythbcoakimbpkgaa
open Go.RowKit
set_option linter.unusedSimpArgs false
def sumS (l : List St) : Nat := (l.map fun x => x.rs.length).sum
def stMk (x : St) (c : Nat) : St := ⟨(c : Int), rtMks ((c + 1 : Nat) : Int) x.rs.length⟩
def stC : List St → Nat → Nat
  | [], c => c
  | x :: t, c => stC t (c + 1 + 4 * x.rs.length)
def stL : List St → Nat → List St
  | [], _ => []
  | x :: t, c => stMk x c :: stL t (c + 1 + 4 * x.rs.length)
theorem stC_app : ∀ (a b : List St) (c : Nat), stC (a ++ b) c = stC b (stC a c)
  | [], _, _ => rfl
  | x :: a, b, c => stC_app a b _
theorem stL_app : ∀ (a b : List St) (c : Nat), stL (a ++ b) c = stL a c ++ stL b (stC a c)
  | [], _, _ => rfl
  | x :: a, b, c => by simp only [List.cons_append, stL, stC, stL_app a b]
theorem stL_len : ∀ (a : List St) (c : Nat), (stL a c).length = a.length
  | [], c => rfl
  | x :: a, c => by simp only [stL, List.length_cons, stL_len a]
theorem stC_eq : ∀ (a : List St) (c : Nat), stC a c = c + a.length + 4 * sumS a
  | [], c => by simp [stC, sumS]
  | x :: a, c => by
    rw [stC, stC_eq a]
    simp only [sumS, List.map_cons, List.sum_cons, List.length_cons]
    omega
theorem sumS_mem {x : St} : ∀ {l : List St}, x ∈ l → x.rs.length ≤ sumS l
  | [], h => by cases h
  | y :: l, h => by
    rw [sumS, List.map_cons, List.sum_cons, ← sumS]
    rcases List.mem_cons.1 h with rfl | h
    · omega
    · have := sumS_mem h
      omega
theorem sumS_app (a b : List St) : sumS (a ++ b) = sumS a + sumS b := by simp [sumS]
theorem sumS_take (l : List St) (k : Nat) : sumS (l.take k) ≤ sumS l := by
  conv => rhs; rw [← List.take_append_drop k l, sumS_app]
  omega
def stO (l : List St) (c k : Nat) : List St := stL (l.take k) c ++ l.drop k
theorem stO_len (l : List St) (c k : Nat) : (stO l c k).length = l.length := by
  rw [stO, List.length_append, stL_len, ← List.length_append, List.take_append_drop]
theorem stO_at {l : List St} {c k : Nat} (h : k < l.length) : (stO l c k)[k]? = some l[k] := by
  have e : (stL (l.take k) c).length = k := by rw [stL_len, List.length_take]; omega
  rw [stO, List.getElem?_append_right (by omega), e, Nat.sub_self, List.getElem?_drop, Nat.add_zero, List.getElem?_eq_getElem h]
theorem stO_set {l : List St} {c k : Nat} (h : k < l.length) : (stO l c k).set k (stMk l[k] (stC (l.take k) c)) = stO l c (k + 1) := by
  have e : (stL (l.take k) c).length = k := by rw [stL_len, List.length_take]; omega
  rw [stO, stO, List.set_append_right _ _ (by omega), e, Nat.sub_self, List.drop_eq_getElem_cons h, List.set_cons_zero, List.take_add_one, List.getElem?_eq_getElem h, stL_app]
  simp [stL]
theorem stC_next {l : List St} {c k : Nat} (h : k < l.length) : stC (l.take (k + 1)) c = stC (l.take k) c + 1 + 4 * l[k].rs.length := by
  rw [List.take_add_one, List.getElem?_eq_getElem h, stC_app]; rfl
theorem stRows_setQ (l : List St) (k : Nat) (x : St) : (stRows l).set k [D.v (.int .i64 x.a), D.l 4 (rtRows x.rs)] = stRows (l.set k x) := by
  rw [stRows, stRows, List.map_set]; rfl
theorem stRows_at {l : List St} {k : Nat} {x : St} (h : l[k]? = some x) : (stRows l).getD k [] = [D.v (.int .i64 x.a), D.l 4 (rtRows x.rs)] := by
  rw [List.getD_eq_getElem?_getD, stRows, List.getElem?_map, h]; rfl
theorem szStS_sum {l : List St} {L : Int} (h : 0 ≤ szStS l L) : ((sumS l : Nat) : Int) ≤ L := by
  have hv : ∀ (l : List St) (L : Int), 0 ≤ szF szSt l L → ((sumS l : Nat) : Int) ≤ L := by
    intro l
    induction l with
    | nil => intro L h; simp only [szF] at h; simpa [sumS] using h
    | cons x t ih =>
      intro L h
      simp only [szF] at h
      split at h
      · omega
      · rename_i hx
        have := ih _ h
        simp only [szSt, szLeft] at hx this
        rw [sumS, List.map_cons, List.sum_cons, ← sumS]
        split at this <;> omega
  unfold szStS at h
  split at h
  · omega
  · rename_i hx
    have := hv l _ h
    simp only [szLeft] at hx this
    split at this <;> omega
theorem tr_48 (net : List St) (i : Nat) (p : Pk) : ∀ k, (∀ x ∈ (tvK net (trS i p) k).arr, x.d.length ≤ 48) ∧ ∀ x ∈ (tvK net (trS i p) k).nts, x.d.length ≤ 48
  | 0 => ⟨fun x hx => (by cases hx), fun x hx => (by cases hx)⟩
  | k + 1 => by
    have ih := tr_48 net i p k
    rw [tvK]
    cases (tvK net (trS i p) k).row[k]? with
    | none => exact ih
    | some q =>
      obtain ⟨j, q⟩ := q
      have hd : ∀ y ∈ (fwV (net.getD j st0) q).ps, y.d.length ≤ 48 := fun y hy => (ok_h (fw_ok hy).1).2
      dsimp only
      rw [tvOne]
      split
      · refine ⟨fun x hx => ?_, ih.2⟩
        rcases List.mem_append.1 hx with h | h
        · exact ih.1 x h
        · exact hd x h
      · split
        · refine ⟨ih.1, fun x hx => ?_⟩
          rcases List.mem_append.1 hx with h | h
          · exact ih.2 x h
          · exact hd x h
        · split
          · exact ih
          · exact ih
theorem trV_bd (net : List St) (n : Int) (p : Pk) : (pMid (trV net n p).arr ∧ (trV net n p).arr.length ≤ 1048576 ∧ sumN (trV net n p).arr ≤ 1048576) ∧ pMid (trV net n p).nts ∧ (trV net n p).nts.length ≤ 1048576 ∧ sumN (trV net n p).nts ≤ 1048576 := by
  cases hb : trB net n p with
  | false =>
    rw [(tr_no hb).1]
    exact ⟨⟨⟨by decide, fun x h => (by cases h)⟩, by decide, by decide⟩, ⟨by decide, fun x h => (by cases h)⟩, by decide, by decide⟩
  | true =>
    have hok : p.ok = true := by rw [trB, Bool.and_eq_true] at hb; exact hb.2
    rw [(tr_yes hb).1]
    have h1 := tr_len net (trS n.toNat p) (tvT net (trS n.toNat p))
    have h2 := tr_bd net n.toNat hok
    have e1 : (trS n.toNat p).arr.length = 0 := rfl
    have e2 : (trS n.toNat p).nts.length = 0 := rfl
    obtain ⟨h3, h4⟩ := tr_48 net n.toNat p (tvT net (trS n.toNat p))
    have h5 := sumN_le_mul h3
    have h6 := sumN_le_mul h4
    have h7 := Nat.mul_le_mul_right 48 (show (tvK net (trS n.toNat p) (tvT net (trS n.toNat p))).arr.length ≤ 12288 by omega)
    have h8 := Nat.mul_le_mul_right 48 (show (tvK net (trS n.toNat p) (tvT net (trS n.toNat p))).nts.length ≤ 12288 by omega)
    exact ⟨⟨⟨by omega, fun x h => by have := h3 x h; omega⟩, by omega, by omega⟩, ⟨by omega, fun x h => by have := h4 x h; omega⟩, by omega, by omega⟩
def g_markStS : OC := fun args B0 => match args, B0 with
  | [.own r, .v (.int .i64 c)], [.tr .whole T sz cols rows] => some (r = 0 ∧ T = 25 ∧ sz = 2 ∧ cols = [.cell, .sl 56 4 [.cell, .cell, .cell, .cell]] ∧ (∃ l, rows = stRows l ∧ l.length ≤ 1048577 ∧ sumS l ≤ 1048576) ∧ 0 ≤ c ∧ c ≤ 274877906944,
      .v (.int .i64 (stC (stsOf rows) c.toNat : Nat)), [.tr .whole T sz cols (stRows (stL (stsOf rows) c.toNat))], [])
  | _, _ => none
def msg : List (FuncId × Abs) := [(98, kidAbs g_rtMarkS)]
theorem msg_ok : ∀ p ∈ msg, CallOk Try.prog p.1 p.2 := by
  intro p hp
  simp only [msg, List.mem_cons, List.not_mem_nil, or_false] at hp
  rcases hp with rfl
  exact markRouteS_ok.callK
set_option maxHeartbeats 4000000 in
set_option maxRecDepth 100000 in
theorem markStationS_ok : OwnOk Try.prog 56 g_markStS := by
  refine OwnOk.of_vc (G := msg) msg_ok mixed Try.func56 (by kernel_rfl) rfl ?_
  intro args B0 cnd r B1 bs hg hc hlive
  unfold g_markStS at hg
  split at hg
  · rename_i r c T sz cols rows
    cases hg
    obtain ⟨rfl, rfl, rfl, rfl, ⟨l, rfl, hn, hsm⟩, hc0, hc1⟩ := hc
    rw [stsOf_rows]
    obtain ⟨c, rfl⟩ : ∃ n : Nat, c = (n : Int) := ⟨c.toNat, by omega⟩
    rw [Int.toNat_natCast]
    refine ⟨⟨by simp [likeBs, likeB, stRows_len, stL_len], by simp [Blk.liveB, blkIds, AV.ids.idsL, AV.ids], by simp [AV.ids]⟩, _, rfl, fun w Z s vs h => h, ?_⟩
    clear hlive
    simp (maxSteps := 3000000) only [Try.f56, msg, tYs, evL, implies_true, oMin, oCopy, oBin, oUn, oLoadKid, oStoreTree, oField, oExtract, oNil, oSliceQ, oLen, nodupB, treeOf, kidAbs, kidRows, TK.isCell, D.toL, oLoad, oStore, oMake, oIndexAddr, ↓reduceIte, reduceCtorEq, Nat.reduceBEq, Nat.reduceAdd, Nat.reduceMul, Nat.reduceLT, Nat.reduceSub, Nat.reduceLeDiff, Nat.reduceEqDiff, Nat.reduceBneDiff, Int.reduceToNat, decide_eq_true_eq, decide_eq_false_iff_not, beq_iff_eq, Int.toNat_natCast]
    refine e_loop _ _ _ _ _ _ _ _ (fun k : Nat => [.own 0, .v (.int .i64 (stC (l.take k) c : Nat)), .any, .any, .any, .v (.int .i64 (k : Int))] ++ List.replicate (Try.f56.ntmps - 6) .any) (fun k => [(0, .tr .whole 25 2 [.cell, .sl 56 4 [.cell, .cell, .cell, .cell]] (stRows (stO l c k)))]) (fun k => k ≤ l.length) (fun k => l.length - k) 1 (fun k => by simp) ?_ fun k hk' => ?_
    · exact ⟨0, [(0, some 0)], Nat.zero_le _, ⟨⟨⟨rfl, rfl, rfl⟩, ⟨rfl, rfl, rfl⟩, trivial, trivial, trivial, ⟨rfl, rfl, rfl⟩, fitT_rep _ _ rfl⟩, ⟨.inl rfl, rfl, rfl, rfl, trivial⟩, by simp [rn, hpAt]⟩, by simp [keepIds, rn]⟩
    have w2 : IntKind.i64.wrap ((k : Int) + 1) = ((k + 1 : Nat) : Int) := by rw [wrap_id] <;> omega
    have hsl : (stRows (stO l c k)).length = l.length := by rw [stRows_len, stO_len]
    by_cases hk : k < l.length
    · have hlt : ((k : Int) < (l.length : Int)) = True := eq_true (by omega)
      have h0 : (0 ≤ (k : Int)) = True := eq_true (by omega)
      have hrw := stRows_at (stO_at (c := c) hk)
      have hset : ∀ r : List D, ((stRows (stO l c k)).set k r).getD k [] = r := fun r => set_getD (by rw [hsl]; omega) r []
      have hCe := stC_eq (l.take k) c
      have hsk := sumS_mem (List.getElem_mem hk)
      have hCl := sumS_take l k
      have hCt : (l.take k).length = k := by rw [List.length_take]; omega
      rw [hCt] at hCe
      have hCn := stC_next (c := c) hk
      have hms := stO_set (c := c) hk
      obtain ⟨C, hC⟩ : ∃ C, stC (l.take k) c = C := ⟨_, rfl⟩
      rw [hC] at hCe hCn hms ⊢
      have wc1 : IntKind.i64.wrap ((C : Int) + 1) = ((C + 1 : Nat) : Int) := by rw [wrap_id] <;> omega
      simp (maxSteps := 3000000) only [Try.f56, msg, g_rtMarkS, hsl, hrw, hset, hlt, h0, List.set_set, List.length_set, wc1, rtRows_len, tYs, evL, implies_true, oMin, oCopy, oBin, oUn, oLoadKid, oStoreTree, oField, oExtract, oNil, oSliceQ, oLen, nodupB, treeOf, kidAbs, kidRows, TK.isCell, D.toL, oLoad, oStore, oMake, oIndexAddr, ↓reduceIte, reduceCtorEq, Nat.reduceBEq, Nat.reduceAdd, Nat.reduceMul, Nat.reduceLT, Nat.reduceSub, Nat.reduceLeDiff, Nat.reduceEqDiff, Nat.reduceBneDiff, Int.reduceToNat, decide_eq_true_eq, decide_eq_false_iff_not, beq_iff_eq, Int.toNat_natCast, loopK_normal, loopK_exit, loopK_ret, w2]
      refine ⟨hk, hk, ⟨⟨⟨_, rfl, by omega⟩, by omega, by omega⟩, rtRows_flat _⟩, ?_⟩
      have hfin : (stRows (stO l c k)).set k [D.v (.int .i64 (C : Nat)), D.l 4 (rtRows (rtMks ((C + 1 : Nat) : Int) l[k].rs.length))] = (stRows (stO l c (k + 1))) := (stRows_setQ _ _ (stMk l[k] C)).trans (by rw [hms])
      rw [hfin]
      exact ⟨k + 1, [(0, some 0)], by omega, by omega, ⟨⟨⟨rfl, rfl, rfl⟩, ⟨congrArg (fun z : Int => AV.v (Value.int .i64 z)) (by rw [hCn]; omega), rfl, rfl⟩, trivial, trivial, trivial, ⟨rfl, rfl, rfl⟩, fitT_rep _ _ rfl⟩, ⟨.inl rfl, rfl, rfl, rfl, trivial⟩, by simp [rn, hpAt]⟩, by simp [keepIds, rn]⟩
    · have hlt : ((k : Int) < (l.length : Int)) = False := eq_false (by omega)
      simp (maxSteps := 3000000) only [Try.f56, msg, hsl, hlt, tYs, evL, implies_true, oMin, oCopy, oBin, oUn, oLoadKid, oStoreTree, oField, oExtract, oNil, oSliceQ, oLen, nodupB, treeOf, kidAbs, kidRows, TK.isCell, D.toL, oLoad, oStore, oMake, oIndexAddr, ↓reduceIte, reduceCtorEq, Nat.reduceBEq, Nat.reduceAdd, Nat.reduceMul, Nat.reduceLT, Nat.reduceSub, Nat.reduceLeDiff, Nat.reduceEqDiff, Nat.reduceBneDiff, Int.reduceToNat, decide_eq_true_eq, decide_eq_false_iff_not, beq_iff_eq, Int.toNat_natCast, loopK_normal, loopK_exit, loopK_ret, w2]
      obtain rfl : k = l.length := by omega
      rw [stO, List.take_length, List.drop_length, List.append_nil]
      exact ⟨[(0, some 0)], ⟨⟨⟨rfl, rfl, rfl⟩, trivial⟩, ⟨.inl rfl, rfl, rfl, rfl, trivial⟩, by simp [rn, hpAt]⟩, by simp [keepIds, rn]⟩
  · cases hg
def g_eqTrip : PC := fun args => match args with
  | [.agg [.l _ ra, .l _ rb, .v (.int .i64 n)], .agg [.l _ ra', .l _ rb', .v (.int .i64 n')]] => some (n = n' ∧ (∃ A T, ra = pRows A ∧ ra' = pRows A ∧ rb = pRows T ∧ rb' = pRows T ∧ pMid A ∧ pMid T), .v (.bool true), [])
  | _ => none
def g_markTrip : OC := fun args B0 => match args, B0 with
  | [.agg [.own r0, .own r1, .v (.int .i64 n)], .v (.int .i64 c)], [.tr .whole T0 s0 c0 A, .tr .whole T1 s1 c1 B] => some ((r0 = 0 ∧ r1 = 1) ∧ (T0 = 31 ∧ s0 = 9 ∧ c0 = [.cell, .cell, .cell, .cell, .cell, .cell, .cell, .cell, .sl 5 1 [.cell]]) ∧ (T1 = 31 ∧ s1 = 9 ∧ c1 = [.cell, .cell, .cell, .cell, .cell, .cell, .cell, .cell, .sl 5 1 [.cell]]) ∧ (∃ ps, A = pRows ps ∧ ps.length ≤ 1048576 ∧ sumN ps ≤ 1048576) ∧ (∃ ps, B = pRows ps ∧ ps.length ≤ 1048576 ∧ sumN ps ≤ 1048576) ∧ 0 ≤ c ∧ c ≤ 274877906944,
      .v (.int .i64 (mkC (psOf B) (mkC (psOf A) c.toNat) : Nat)), [.tr .whole 31 9 [.cell, .cell, .cell, .cell, .cell, .cell, .cell, .cell, .sl 5 1 [.cell]] (pRows (mkL (psOf A) c.toNat)), .tr .whole 31 9 [.cell, .cell, .cell, .cell, .cell, .cell, .cell, .cell, .sl 5 1 [.cell]] (pRows (mkL (psOf B) (mkC (psOf A) c.toNat)))], [])
  | _, _ => none
def g_heldTrip : PC := fun args => match args with
  | [.agg [.l _ A, .l _ B, .v (.int .i64 n)], .v (.int .i64 c)] => some ((∃ ps, A = pRows (mkL ps c.toNat) ∧ ps.length ≤ 1048576 ∧ sumN ps ≤ 1048576) ∧ (∃ ps, B = pRows (mkL ps (mkC (psOf A) c.toNat)) ∧ ps.length ≤ 1048576 ∧ sumN ps ≤ 1048576) ∧ 0 ≤ c ∧ c ≤ 274877906944, .v (.int .i64 (mkC (psOf B) (mkC (psOf A) c.toNat) : Nat)), [])
  | _ => none
def etr : List (FuncId × Abs) := [(96, pureAbs g_eqPacketS), (100, ownAbs g_markPacketS), (101, pureAbs g_heldPacketS)]
theorem etr_ok : ∀ p ∈ etr, CallOk Try.prog p.1 p.2 := by
  intro p hp
  simp only [etr, List.mem_cons, List.not_mem_nil, or_false] at hp
  rcases hp with rfl | rfl | rfl
  · exact eqPacketS_ok.call
  · exact markPacketS_ok.call
  · exact heldPacketS_ok.call
set_option maxRecDepth 100000 in
theorem eqTrip_ok : PureOk Try.prog 55 g_eqTrip := by
  refine PureOk.of_vc (G := etr) etr_ok mixed Try.func55 (by kernel_rfl) rfl ?_
  intro args cnd r bs hg hc
  unfold g_eqTrip at hg
  split at hg
  · rename_i sa ra sb rb n sa' ra' sb' rb' n'
    cases hg
    obtain ⟨rfl, A, T, rfl, rfl, rfl, rfl, hA, hT⟩ := hc
    refine ⟨⟨rfl, by simp, by simp [AV.ids, AV.ids.idsL]⟩, [.agg [.l 9 (pRows A), .l 9 (pRows T), .v (.int .i64 n)], .agg [.l 9 (pRows A), .l 9 (pRows T), .v (.int .i64 n)]], rfl, fun w vs h => CvL.ok (.cons (.cons (.l _ _ _ (pRows_w A)) (.cons (.l _ _ _ (pRows_w T)) (.cons (.refl _) .nil))) (.cons (.cons (.l _ _ _ (pRows_w A)) (.cons (.l _ _ _ (pRows_w T)) (.cons (.refl _) .nil))) .nil)) h, ?_⟩
    simp (maxSteps := 3000000) only [Try.f55, etr, g_eqPacketS, psOf_rows, bne_self_eq_false, Bool.false_eq_true, ↓reduceIte, decide_true, Bool.not_true, tYs, evL, implies_true, oMin, oCopy, oBin, oUn, oLoadKid, oStoreTree, oField, oExtract, oNil, oSliceQ, oLen, nodupB, treeOf, kidAbs, kidRows, TK.isCell, D.toL, oLoad, oStore, oMake, oIndexAddr, ↓reduceIte, reduceCtorEq, Nat.reduceBEq, Nat.reduceAdd, Nat.reduceMul, Nat.reduceLT, Nat.reduceSub, Nat.reduceLeDiff, Nat.reduceEqDiff, Nat.reduceBneDiff, Int.reduceToNat, decide_eq_true_eq, decide_eq_false_iff_not, beq_iff_eq, Int.toNat_natCast]
    refine ⟨⟨_, rfl, hA⟩, ⟨_, rfl, hT⟩, ?_⟩
    exact ⟨_, [], rfl, ⟨⟨⟨rfl, rfl, rfl⟩, trivial⟩, trivial, by simp [rn, hpAt]⟩⟩
  · cases hg
set_option maxRecDepth 100000 in
theorem markTrip_ok : OwnOk Try.prog 57 g_markTrip := by
  refine OwnOk.of_vc (G := etr) etr_ok mixed Try.func57 (by kernel_rfl) rfl ?_
  intro args B0 cnd r B1 bs hg hc hlive
  unfold g_markTrip at hg
  split at hg
  · rename_i r0 r1 n c T0 s0 c0 A T1 s1 c1 B
    cases hg
    obtain ⟨⟨rfl, rfl⟩, ⟨rfl, rfl, rfl⟩, ⟨rfl, rfl, rfl⟩, ⟨ps, rfl, hn, hs⟩, ⟨qs, rfl, hn', hs'⟩, hc0, hc1⟩ := hc
    refine ⟨⟨by simp [likeBs, likeB, pRows_len, mkL_len, psOf_rows], by simp [Blk.liveB, blkIds, AV.ids.idsL, AV.ids], by simp [AV.ids, AV.ids.idsL]⟩, _, rfl, fun w Z s vs h => h, ?_⟩
    clear hlive
    have hmk := mkC_eq ps c.toNat
    simp (maxSteps := 3000000) only [Try.f57, etr, g_markPacketS, psOf_rows, tYs, evL, implies_true, oMin, oCopy, oBin, oUn, oLoadKid, oStoreTree, oField, oExtract, oNil, oSliceQ, oLen, nodupB, treeOf, kidAbs, kidRows, TK.isCell, D.toL, oLoad, oStore, oMake, oIndexAddr, ↓reduceIte, reduceCtorEq, Nat.reduceBEq, Nat.reduceAdd, Nat.reduceMul, Nat.reduceLT, Nat.reduceSub, Nat.reduceLeDiff, Nat.reduceEqDiff, Nat.reduceBneDiff, Int.reduceToNat, decide_eq_true_eq, decide_eq_false_iff_not, beq_iff_eq, Int.toNat_natCast]
    refine ⟨⟨⟨ps, rfl, hn, hs⟩, hc0, by omega⟩, ⟨⟨qs, rfl, hn', hs'⟩, by omega, by omega⟩, ?_⟩
    exact ⟨[(0, some 0), (1, some 1)], ⟨⟨⟨rfl, rfl, rfl⟩, trivial⟩, ⟨.inl rfl, rfl, rfl, rfl, .inl rfl, rfl, rfl, rfl, trivial⟩, by simp [rn, hpAt]⟩, by simp [keepIds, rn, List.range, List.range.loop]⟩
  · cases hg
set_option maxRecDepth 100000 in
theorem heldTrip_ok : PureOk Try.prog 58 g_heldTrip := by
  refine PureOk.of_vc (G := etr) etr_ok mixed Try.func58 (by kernel_rfl) rfl ?_
  intro args cnd r bs hg hc
  unfold g_heldTrip at hg
  split at hg
  · rename_i sa A sb B n c
    cases hg
    obtain ⟨⟨ps, rfl, hn, hs⟩, ⟨qs, hq, hn', hs'⟩, hc0, hc1⟩ := hc
    rw [psOf_rows, mkC_mk] at hq
    subst hq
    rw [psOf_rows, psOf_rows, mkC_mk, mkC_mk]
    have hmk := mkC_eq ps c.toNat
    refine ⟨⟨rfl, by simp, by simp [AV.ids, AV.ids.idsL]⟩, [.agg [.l 9 (pRows (mkL ps c.toNat)), .l 9 (pRows (mkL qs (mkC ps c.toNat))), .v (.int .i64 n)], .v (.int .i64 c)], rfl, fun w vs h => CvL.ok (.cons (.cons (.l _ _ _ (pRows_w _)) (.cons (.l _ _ _ (pRows_w _)) (.cons (.refl _) .nil))) (.cons (.refl _) .nil)) h, ?_⟩
    simp (maxSteps := 3000000) only [Try.f58, etr, g_heldPacketS, psOf_rows, mkC_mk, tYs, evL, implies_true, oMin, oCopy, oBin, oUn, oLoadKid, oStoreTree, oField, oExtract, oNil, oSliceQ, oLen, nodupB, treeOf, kidAbs, kidRows, TK.isCell, D.toL, oLoad, oStore, oMake, oIndexAddr, ↓reduceIte, reduceCtorEq, Nat.reduceBEq, Nat.reduceAdd, Nat.reduceMul, Nat.reduceLT, Nat.reduceSub, Nat.reduceLeDiff, Nat.reduceEqDiff, Nat.reduceBneDiff, Int.reduceToNat, decide_eq_true_eq, decide_eq_false_iff_not, beq_iff_eq, Int.toNat_natCast]
    refine ⟨⟨⟨ps, rfl, hn, hs⟩, hc0, by omega⟩, ?_⟩
    rw [if_neg (by omega)]
    refine ⟨⟨⟨qs, rfl, hn', hs'⟩, by omega, by omega⟩, ?_⟩
    rw [if_neg (by omega)]
    exact ⟨_, [], rfl, ⟨⟨⟨rfl, rfl, rfl⟩, trivial⟩, trivial, by simp [rn, hpAt]⟩⟩
  · cases hg
def g_xtv : PC := fun args => match args with
  | [.l _ rn', .v (.int .i64 n), .agg [.v (.int .i64 f), .v (.int .i64 t), .v (.int .i64 p), .v (.int .i64 h), .v (.int .i64 i), .v (.int .i64 a), .v (.bool m), .v (.bool u), .l _ rows]] => some ((∃ l, rn' = stRows l ∧ sFin l) ∧ rows.length ≤ 9223372036854775807 ∧ ∃ xs, rows = rowsOfBytes xs, .v (.bool true), [])
  | _ => none
def xtv : List (FuncId × Abs) := [(52, pureAbs g_szStS), (53, pureAbs g_toStS), (54, pureAbs g_eqStS), (44, pureAbs g_szPacket), (45, pureAbs g_toPacket), (47, pureAbs g_eqPacket), (49, ownAbs g_markPacket), (56, ownAbs g_markStS), (55, pureAbs g_eqTrip), (57, ownAbs g_markTrip), (58, pureAbs g_heldTrip), (32, frzAbs g_travelD), (31, pureAbs g_travel)]
theorem xtv_ok : ∀ p ∈ xtv, CallOk Try.prog p.1 p.2 := by
  intro p hp
  simp only [xtv, List.mem_cons, List.not_mem_nil, or_false] at hp
  rcases hp with rfl | rfl | rfl | rfl | rfl | rfl | rfl | rfl | rfl | rfl | rfl | rfl | rfl
  · exact szStationS_ok.call
  · exact toStationS_ok.call
  · exact eqStationS_ok.call
  · exact szPacket_ok.call
  · exact toPacket_ok.call
  · exact eqPacket_ok.call
  · exact markPacket_ok.call
  · exact markStationS_ok.call
  · exact eqTrip_ok.call
  · exact markTrip_ok.call
  · exact heldTrip_ok.call
  · exact specTravel_ok.callF
  · exact implTravel_ok.call
set_option maxHeartbeats 8000000 in
set_option maxRecDepth 100000 in
theorem lawExactTravel_ok : PureOk Try.prog 12 g_xtv := by
  refine PureOk.of_vc (G := xtv) xtv_ok mixed Try.func12 (by kernel_rfl) rfl ?_
  intro args cnd r bs hg hc
  unfold g_xtv at hg
  split at hg
  · rename_i sn rn' n f t p h i a m u sz rows
    cases hg
    obtain ⟨⟨l, rfl, hf⟩, hn, xs, rfl⟩ := hc
    rw [rowsOf_len] at hn
    refine ⟨⟨rfl, by simp, by simp [AV.ids, AV.ids.idsL]⟩, [.l 2 (stRows l), .v (.int .i64 n), .agg [.v (.int .i64 f), .v (.int .i64 t), .v (.int .i64 p), .v (.int .i64 h), .v (.int .i64 i), .v (.int .i64 a), .v (.bool m), .v (.bool u), (.l 1 (rowsOfBytes xs))]], rfl, fun w vs h => CvL.ok (.cons (.l _ _ _ (stRows_w l)) (.cons (.refl _) (.cons (.cons (.refl _) (.cons (.refl _) (.cons (.refl _) (.cons (.refl _) (.cons (.refl _) (.cons (.refl _) (.cons (.refl _) (.cons (.refl _) (.cons (.l _ _ _ (rowsOf_w xs)) .nil))))))))) .nil))) h, ?_⟩
    simp (maxSteps := 3000000) only [Try.f12, xtv, g_szStS, g_toStS, g_eqStS, g_markStS, g_szPacket, g_toPacket, g_eqPacket, g_markPacket, g_eqTrip, g_markTrip, g_heldTrip, g_travelD, g_travel, stsOf_rows, rtsOf_rows, stRows_len, rtRows_len, rtMks_len, bytesOf_rows, rowsOf_len, marks_len, psOf_rows, pRows_len, mkL_len, mkC_mk, bne_self_eq_false, and_self, decide_true, tYs, evL, implies_true, oMin, oCopy, oBin, oUn, oLoadKid, oStoreTree, oField, oExtract, oNil, oSliceQ, oLen, nodupB, treeOf, kidAbs, kidRows, TK.isCell, D.toL, oLoad, oStore, oMake, oIndexAddr, ↓reduceIte, reduceCtorEq, Nat.reduceBEq, Nat.reduceAdd, Nat.reduceMul, Nat.reduceLT, Nat.reduceSub, Nat.reduceLeDiff, Nat.reduceEqDiff, Nat.reduceBneDiff, Int.reduceToNat, decide_eq_true_eq, decide_eq_false_iff_not, beq_iff_eq, Int.toNat_natCast]
    have hb := szStS_bd l 1048576 (by omega)
    refine ⟨⟨by omega, _, rfl, hf⟩, ?_⟩
    by_cases hz : szStS l 1048576 < 0
    · rw [if_pos hz]
      exact ⟨_, [], rfl, ⟨⟨⟨rfl, rfl, rfl⟩, trivial⟩, trivial, by simp [rn, hpAt]⟩⟩
    rw [if_neg hz]
    have hm := hb.2.2 (by omega)
    have hsum := szStS_sum (l := l) (L := 1048576) (by omega)
    have hb2 := szLeft_bd (l := szStS l 1048576) (n := xs.length) (by omega)
    refine ⟨⟨by omega, hn, _, rfl⟩, ?_⟩
    by_cases hz2 : szLeft (szStS l 1048576) xs.length < 0
    · rw [if_pos hz2]
      exact ⟨_, [], rfl, ⟨⟨⟨rfl, rfl, rfl⟩, trivial⟩, trivial, by simp [rn, hpAt]⟩⟩
    rw [if_neg hz2]
    have hx := hb2.2.2 (by omega)
    clear hz hz2 hb hb2 hn hf
    obtain ⟨⟨hA0, hA1, hA2⟩, hT0, hT1, hT2⟩ := trV_bd l n ⟨f, t, p, h, i, a, m, u, xs⟩
    obtain ⟨DD, hD⟩ : ∃ DD, trV l n ⟨f, t, p, h, i, a, m, u, xs⟩ = DD := ⟨_, rfl⟩
    rw [hD] at hA0 hA1 hA2 hT0 hT1 hT2 ⊢
    clear hD
    have hl1 : l.length ≤ 1048577 := by have := hm.1; omega
    have hs1 : sumS l ≤ 1048576 := by omega
    have hmS := stC_eq l 1
    repeat' first
      | refine And.intro ⟨_, rfl, hm⟩ ?_
      | refine And.intro ⟨⟨_, rfl, hm⟩, ⟨_, rfl, hx⟩⟩ ?_
      | refine And.intro ⟨_, rfl, by omega⟩ ?_
      | refine And.intro ⟨DD.arr, DD.nts, rfl, rfl, rfl, rfl, hA0, hT0⟩ ?_
      | refine And.intro ⟨⟨l, rfl, hl1, hs1⟩, by omega, by omega⟩ ?_
      | refine And.intro ⟨⟨_, rfl⟩, by omega, by omega, by omega⟩ ?_
      | refine And.intro ⟨⟨DD.arr, rfl, hA1, hA2⟩, ⟨DD.nts, rfl, hT1, hT2⟩, by omega, by omega⟩ ?_
      | refine And.intro (by kernel_rfl) ?_
      | rw [if_neg (by omega)]
      | rw [if_pos (by omega)]
    exact ⟨_, [], rfl, ⟨⟨⟨rfl, rfl, rfl⟩, trivial⟩, trivial, by simp [rn, hpAt]⟩⟩
  · cases hg
theorem walk_ExactTravel (c : Value) (ds : List D) (n : Int) (cs' : Array Value) (ds' : List D) (w : World) (H : Reads w stSKinds ds [c]) (_ : (Lit.int .i64 n).wf = true) (H' : Reads w packetKinds ds' cs'.toList) :
    Calls Try.prog 12 #[c, .int .i64 n, .agg cs'] w fun e w' => e = .returned (.bool true) ∧ Below w.heap.size w w' := by
  obtain ⟨l, hr, hf⟩ := stS_in H
  obtain ⟨f, t, p, h, i, a, m, u, xs, hr', hf'⟩ := packet_in H'
  exact lawExactTravel_ok.walk (vs := [_, _, _]) (arel_cons hr (arel_cons (.v _) (arel_cons hr' arel_nil))) rfl ⟨⟨_, rfl, hf⟩, by rw [rowsOf_len]; exact hf', _, rfl⟩
end Go.Proofs.Ythbcoakimbpkgaa
