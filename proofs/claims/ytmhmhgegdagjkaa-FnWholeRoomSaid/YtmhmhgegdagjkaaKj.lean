import Derived.Test.YtmhmhgegdagjkaaKi
set_option linter.unusedVariables false
set_option linter.unusedSimpArgs false
namespace Go.Proofs.Ytmhmhgegdagjkaa
open Go.RowKit
set_option linter.unusedSimpArgs false
def rdV (net : List St) (to : Int) (i n : Nat) : Int := match sg net to n 64 i with
  | .arr => (n : Int)
  | s => nxN s
theorem notes_of {S : TrS} {s : Rs} {n : Nat} (h : outc S s) (hs : s ≠ .arr) (h6 : ∀ k v, s = .note k v → k = 6 → v < (n : Int)) :
    S.arr = [] ∧ ((S.nts = [] ∧ nxN s = 0) ∨ ∃ y, S.nts = [y] ∧ (y.p = 1 ∧ y.d.length ≤ 48) ∧ nfOk y.d = true ∧ ((nfK y.d = 6 ∧ nxN s = nfN y.d ∧ nfN y.d < (n : Int)) ∨ (nfK y.d ≠ 6 ∧ nxN s = 0))) := by
  cases s with
  | arr => exact absurd rfl hs
  | gone => exact ⟨h.1, .inl ⟨h.2, rfl⟩⟩
  | note k v =>
    obtain ⟨h1, y, h2, ⟨h3, h4⟩, h5, h7, h8⟩ := h
    refine ⟨h1, .inr ⟨y, h2, ⟨h3, (ok_h h4).2⟩, h5, ?_⟩⟩
    by_cases hk : k = 6
    · left
      refine ⟨h7.trans hk, ?_, ?_⟩
      · rw [nxN, if_pos hk, h8]
      · rw [h8]; exact h6 k v rfl hk
    · right
      exact ⟨fun e => hk (h7.symm.trans e), if_neg hk⟩
def tryP (a to pr : Int) (n : Nat) : Pk := ⟨a, to, pr, 64, 0, 0, false, true, List.replicate n 0⟩
theorem try_ok {a to pr : Int} {n : Nat} (ha : 0 ≤ a ∧ a ≤ 65535) (ht : 0 ≤ to ∧ to ≤ 65535) (hp : pr = 0 ∨ pr = 2) (hn : n ≤ 48) : (tryP a to pr n).ok = true := by
  rw [Pk.ok, pkB, Bool.and_eq_true, pkR, decide_eq_true_eq]
  refine ⟨?_, rfl⟩
  simp only [tryP, List.length_replicate]
  omega
theorem try_out {net : List St} (hn : netB net = true) {i : Nat} (hi : i < net.length) {to pr : Int} {n : Nat} (h0 : 0 < n) (h48 : n ≤ 48) (ht : 0 ≤ to ∧ to ≤ 65535) (hp : pr = 0 ∨ pr = 2) :
    (sg net to n 64 i = .arr → 0 < (trV net (i : Int) (tryP net[i].a to pr n)).arr.length) ∧
    (sg net to n 64 i ≠ .arr → (0 ≤ nxN (sg net to n 64 i) ∧ nxN (sg net to n 64 i) < (n : Int)) ∧ (trV net (i : Int) (tryP net[i].a to pr n)).arr = [] ∧ (((trV net (i : Int) (tryP net[i].a to pr n)).nts = [] ∧ nxN (sg net to n 64 i) = 0) ∨ ∃ y, (trV net (i : Int) (tryP net[i].a to pr n)).nts = [y] ∧ (y.p = 1 ∧ y.d.length ≤ 48) ∧ nfOk y.d = true ∧
      ((nfK y.d = 6 ∧ nxN (sg net to n 64 i) = nfN y.d ∧ nfN y.d < (n : Int)) ∨ (nfK y.d ≠ 6 ∧ nxN (sg net to n 64 i) = 0)))) := by
  have h5 : net.length ≤ 5 := by
    have := hn
    simp only [netB, Bool.and_eq_true, decide_eq_true_eq] at this
    exact this.1.1
  have hst := net_st hn hi
  rw [st_get hi, stB, Bool.and_eq_true, inZ, decide_eq_true_eq] at hst
  have hok := try_ok (n := n) hst.1 ht hp h48
  have hin : inNet net (i : Int) = true := by rw [inNet, hn, decide_eq_true (by omega)]; rfl
  have hb : trB net (i : Int) (tryP net[i].a to pr n) = true := by rw [trB, hin, hok]; rfl
  have hout := tv_sg hn hi hok rfl (show pr ≠ 1 by omega) rfl
  have e1 : (tryP net[i].a to pr n).d.length = n := List.length_replicate ..
  have e2 : (tryP net[i].a to pr n).t = to := rfl
  have e3 : (tryP net[i].a to pr n).h.toNat = 64 := rfl
  rw [e1, e2, e3] at hout
  rw [(tr_yes hb).1, Int.toNat_natCast]
  have hout : outc (tvK net (trS i (tryP net[i].a to pr n)) (tvT net (trS i (tryP net[i].a to pr n)))) (sg net to n 64 i) := hout
  have hst2 := find_step hn hi (to := to) (n := n) (h := 64) h48 h0 (by omega)
  refine ⟨fun e => ?_, fun e => ⟨(hst2.2 e).1, notes_of hout e fun k v hs hk => ((sg_no hn (to := to) (n := n) (h := 64) (i := i)).2 k v hs hk).2⟩⟩
  rw [e] at hout
  obtain ⟨⟨q, hq⟩, -⟩ := hout
  rw [hq]
  exact Nat.one_pos
def fdV (net : List St) (n to f : Int) : Int := if (rmB net n to && inZ f 1 48) = true then min f (roomV net n.toNat to) else 0
theorem rd_arr {net : List St} {to : Int} {i n : Nat} (h : sg net to n 64 i = .arr) : rdV net to i n = (n : Int) := by rw [rdV, h]
theorem rd_not {net : List St} {to : Int} {i n : Nat} (h : sg net to n 64 i ≠ .arr) : rdV net to i n = nxN (sg net to n 64 i) := by
  rw [rdV]
  cases hs : sg net to n 64 i with
  | arr => exact absurd hs h
  | _ => rfl
theorem sg_dec (net : List St) (to : Int) (i n : Nat) : sg net to n 64 i = .arr ∨ sg net to n 64 i ≠ .arr := by
  cases sg net to n 64 i with
  | arr => exact .inl rfl
  | _ => exact .inr (by intro h; cases h)
theorem stop_no {net : List St} {to : Int} {i n : Nat} (h0 : 0 < n) (h : sg net to n 64 i ≠ .arr) : stopB net to i n = false := by
  rw [stopB, decide_eq_false (by omega), Bool.false_or]
  cases hs : sg net to n 64 i with
  | arr => exact absurd hs h
  | _ => rfl
theorem stop_yes {net : List St} {to : Int} {i n : Nat} (h : sg net to n 64 i = .arr) : stopB net to i n = true := by
  rw [stopB, h, Bool.or_true]
theorem stop_zero {net : List St} {to : Int} {i : Nat} : stopB net to i 0 = true := by rw [stopB]; simp
def g_roomTried : PC := fun args => match args with
  | [.l _ rn', .v (.int .i64 n), .v (.int .i64 to), .v (.int .i64 k)] => some ((∃ l, rn' = stRows l ∧ sMid l) ∧ rmB (stsOf rn') n to = true ∧ 1 ≤ k ∧ k ≤ 48, .v (.int .i64 (rdV (stsOf rn') to n.toNat k.toNat)), [])
  | _ => none
def g_findRoom : PC := fun args => match args with
  | [.l _ rn', .v (.int .i64 n), .v (.int .i64 to), .v (.int .i64 f)] => some (∃ l, rn' = stRows l ∧ sMid l, .v (.int .i64 (fdV (stsOf rn') n to f)), [])
  | _ => none
def rt1 : List (FuncId × Abs) := [(9, frzAbs g_travelD), (88, pureAbs g_noteIn)]
theorem rt1_ok : ∀ p ∈ rt1, CallOk Try.prog p.1 p.2 := by
  intro p hp
  simp only [rt1, List.mem_cons, List.not_mem_nil, or_false] at hp
  rcases hp with rfl | rfl
  · exact implTravelD_ok.callF
  · exact noteIn_ok.call
set_option maxHeartbeats 8000000 in
set_option maxRecDepth 100000 in
theorem roomTried_ok : PureOk Try.prog 52 g_roomTried := by
  refine PureOk.of_vc (G := rt1) rt1_ok mixed Try.func52 (by kernel_rfl) rfl ?_
  intro args cnd r bs hg hc
  unfold g_roomTried at hg
  split at hg
  · rename_i sn rn' n to k
    cases hg
    obtain ⟨⟨l, rfl, hl, hd⟩, hrm, hk0, hk1⟩ := hc
    rw [stsOf_rows] at hrm ⊢
    refine ⟨⟨rfl, by simp, by simp [AV.ids, AV.ids.idsL]⟩, [.l 2 (stRows l), .v (.int .i64 n), .v (.int .i64 to), .v (.int .i64 k)], rfl, fun w vs h => CvL.ok (.cons (.l _ _ _ (stRows_w l)) (.cons (.refl _) (.cons (.refl _) (.cons (.refl _) .nil)))) h, ?_⟩
    rw [rmB, Bool.and_eq_true, inZ, decide_eq_true_eq] at hrm
    obtain ⟨hin, ht⟩ := hrm
    obtain ⟨h0', h5, hn0, hn1⟩ := inNet_of hin
    obtain ⟨j, rfl⟩ : ∃ j : Nat, n = (j : Int) := ⟨n.toNat, by omega⟩
    obtain ⟨m, rfl⟩ : ∃ m : Nat, k = (m : Int) := ⟨k.toNat, by omega⟩
    have hj : j < l.length := by omega
    have ho := try_out h0' hj (to := to) (pr := 0) (n := m) (by omega) (by omega) ht (.inl rfl)
    rw [Int.toNat_natCast, Int.toNat_natCast]
    obtain ⟨W, hW⟩ : ∃ W, trV l (j : Int) (tryP l[j].a to 0 m) = W := ⟨_, rfl⟩
    rw [hW] at ho
    have hW' : trV l (j : Int) ⟨l[j].a, to, 0, 64, 0, 0, false, true, List.replicate m 0⟩ = W := hW
    have hnet := stRows_get l j hj
    have hg0 : (0 ≤ (j : Int)) = True := eq_true (by omega)
    have hg1 : ((j : Int) < (l.length : Int)) = True := eq_true (by omega)
    have hg2 : (0 ≤ (m : Int)) = True := eq_true (by omega)
    have hrep : List.replicate m [D.v (.int .u8 0)] = rowsOfBytes (List.replicate m 0) := (rowsOf_zero m).symm
    have hxs : (∃ xs : List UInt8, rowsOfBytes (List.replicate m 0) = rowsOfBytes xs ∧ xs.length ≤ 1048576) = True := eq_true ⟨_, rfl, by rw [List.length_replicate]; omega⟩
    rcases sg_dec l to j m with hs | hs
    · have ha := ho.1 hs
      have hg3 : ((W.arr.length : Int) > 0) = True := eq_true (by omega)
      rw [rd_arr hs]
      simp (maxSteps := 3000000) only [Try.f52, rt1, g_travelD, g_noteIn, ocOf, stsOf_rows, bytesOf_rows, rowsOf_len, stRows_len, pRows_len, hnet, hg0, hg1, hg2, hg3, hrep, hW', hxs, D.toI, dB, D.toB, D.toL, ↓reduceIte, Bool.false_eq_true, tYs, evL, implies_true, oMin, oCopy, oBin, oUn, oLoadKid, oStoreTree, oField, oExtract, oNil, oSliceQ, oLen, nodupB, treeOf, kidAbs, kidRows, TK.isCell, D.toL, oLoad, oStore, oMake, oIndexAddr, ↓reduceIte, reduceCtorEq, Nat.reduceBEq, Nat.reduceAdd, Nat.reduceMul, Nat.reduceLT, Nat.reduceSub, Nat.reduceLeDiff, Nat.reduceEqDiff, Nat.reduceBneDiff, Int.reduceToNat, decide_eq_true_eq, decide_eq_false_iff_not, beq_iff_eq, Int.toNat_natCast, loopK_normal, loopK_exit, loopK_ret]
      refine ⟨⟨by omega, by omega, by omega⟩, by kernel_rfl, ⟨l, rfl, hl, hd⟩, ?_⟩
      exact ⟨_, [], rfl, ⟨⟨⟨rfl, rfl, rfl⟩, trivial⟩, trivial, by simp [rn, hpAt]⟩⟩
    · obtain ⟨hz0, ha, hno⟩ := ho.2 hs
      have hg3 : ((W.arr.length : Int) > 0) = False := eq_false (by rw [ha]; simp)
      rw [rd_not hs]
      obtain ⟨Z, hZ⟩ : ∃ Z, nxN (sg l to m 64 j) = Z := ⟨_, rfl⟩
      rw [hZ] at hz0 hno ⊢
      simp (maxSteps := 3000000) only [Try.f52, rt1, g_travelD, g_noteIn, ocOf, stsOf_rows, bytesOf_rows, rowsOf_len, stRows_len, pRows_len, hnet, hg0, hg1, hg2, hg3, hrep, hW', hxs, D.toI, dB, D.toB, D.toL, ↓reduceIte, Bool.false_eq_true, tYs, evL, implies_true, oMin, oCopy, oBin, oUn, oLoadKid, oStoreTree, oField, oExtract, oNil, oSliceQ, oLen, nodupB, treeOf, kidAbs, kidRows, TK.isCell, D.toL, oLoad, oStore, oMake, oIndexAddr, ↓reduceIte, reduceCtorEq, Nat.reduceBEq, Nat.reduceAdd, Nat.reduceMul, Nat.reduceLT, Nat.reduceSub, Nat.reduceLeDiff, Nat.reduceEqDiff, Nat.reduceBneDiff, Int.reduceToNat, decide_eq_true_eq, decide_eq_false_iff_not, beq_iff_eq, Int.toNat_natCast, loopK_normal, loopK_exit, loopK_ret]
      refine ⟨⟨by omega, by omega, by omega⟩, by kernel_rfl, ⟨l, rfl, hl, hd⟩, ?_⟩
      refine e_loop _ _ _ _ _ _ _ _ (fun c : Nat => [.any, .any, .any, .v (.int .i64 (m : Int)), .any, .any, .any, .any, .any, .any, .any, .any, .any, .any, .any, .any, .any, .any, .any, .any, .any, .any, .any, .any, .any, .any, .any, .any, .any, .any, .any, .any, .any, .any, .l 9 (pRows W.nts), .v (.int .i64 (W.nts.length : Int)), .v (.int .i64 (c : Int))] ++ List.replicate (Try.f52.ntmps - 37) .any) (fun c => []) (fun c => c ≤ W.nts.length ∧ (0 < c → Z = 0)) (fun c => W.nts.length - c) 0 (fun c => by simp) ?_ fun c hc' => ?_
      · exact ⟨0, [], ⟨Nat.zero_le _, fun h => absurd h (Nat.lt_irrefl _)⟩, ⟨⟨trivial, trivial, trivial, ⟨rfl, rfl, rfl⟩, trivial, trivial, trivial, trivial, trivial, trivial, trivial, trivial, trivial, trivial, trivial, trivial, trivial, trivial, trivial, trivial, trivial, trivial, trivial, trivial, trivial, trivial, trivial, trivial, trivial, trivial, trivial, trivial, trivial, trivial, ⟨rfl, rfl, rfl⟩, ⟨rfl, rfl, rfl⟩, ⟨rfl, rfl, rfl⟩, fitT_rep _ _ rfl⟩, trivial, by simp [rn, hpAt]⟩, by simp [keepIds]⟩
      obtain ⟨hc1, hcz⟩ := hc'
      have w3 : IntKind.i64.wrap ((c : Int) + 1) = ((c + 1 : Nat) : Int) := wrap_id (by
        rcases hno with ⟨hno, hz⟩ | ⟨y, hno, _⟩ <;> rw [hno] at hc1 <;> simp at hc1 <;> omega) (by
        rcases hno with ⟨hno, hz⟩ | ⟨y, hno, _⟩ <;> rw [hno] at hc1 <;> simp at hc1 <;> omega)
      by_cases hc : c < W.nts.length
      · have hcl1 : ((c : Int) < (W.nts.length : Int)) = True := eq_true (by omega)
        have hcl2 : (0 ≤ (c : Int)) = True := eq_true (by omega)
        have hrow := pRows_get W.nts c hc
        rcases hno with ⟨hno, hz⟩ | ⟨y, hno, ⟨hyp, hyd⟩, hyo, hy⟩
        · rw [hno] at hc; exact absurd hc (Nat.not_lt_zero _)
        obtain rfl : c = 0 := by rw [hno] at hc; simpa using hc
        have hg : W.nts[0] = y := by simp only [hno, List.getElem_cons_zero]
        rw [hg] at hrow
        have n1 : niOk y.p y.d = true := by rw [niOk, hyp, hyo]; rfl
        have n2 : niK y.p y.d = nfK y.d := by rw [niK, if_pos hyp]
        have n3 : niN y.p y.d = nfN y.d := by rw [niN, if_pos hyp]
        rcases hy with ⟨h6, hzv, hlt⟩ | ⟨h6, hzv⟩
        · have k1 : (nfK y.d = 6) = True := eq_true h6
          have k2 : (nfK y.d == 6) = true := by simp [h6]
          have k3 : (nfN y.d < (m : Int)) = True := eq_true hlt
          rw [hzv]
          simp (maxSteps := 3000000) only [Try.f52, rt1, g_travelD, g_noteIn, ocOf, stsOf_rows, bytesOf_rows, rowsOf_len, stRows_len, pRows_len, hcl1, hcl2, hrow, pRow, n1, n2, n3, k1, k2, k3, w3, D.toI, dB, D.toB, D.toL, ↓reduceIte, Bool.false_eq_true, tYs, evL, implies_true, oMin, oCopy, oBin, oUn, oLoadKid, oStoreTree, oField, oExtract, oNil, oSliceQ, oLen, nodupB, treeOf, kidAbs, kidRows, TK.isCell, D.toL, oLoad, oStore, oMake, oIndexAddr, ↓reduceIte, reduceCtorEq, Nat.reduceBEq, Nat.reduceAdd, Nat.reduceMul, Nat.reduceLT, Nat.reduceSub, Nat.reduceLeDiff, Nat.reduceEqDiff, Nat.reduceBneDiff, Int.reduceToNat, decide_eq_true_eq, decide_eq_false_iff_not, beq_iff_eq, Int.toNat_natCast, loopK_normal, loopK_exit, loopK_ret]
          refine ⟨⟨_, rfl, by omega⟩, ?_⟩
          exact ⟨_, [], rfl, ⟨⟨⟨rfl, rfl, rfl⟩, trivial⟩, trivial, by simp [rn, hpAt]⟩⟩
        · have k1 : (nfK y.d = 6) = False := eq_false h6
          have k2 : (nfK y.d == 6) = false := by simp [h6]
          simp (maxSteps := 3000000) only [Try.f52, rt1, g_travelD, g_noteIn, ocOf, stsOf_rows, bytesOf_rows, rowsOf_len, stRows_len, pRows_len, hcl1, hcl2, hrow, pRow, n1, n2, n3, k1, k2, w3, D.toI, dB, D.toB, D.toL, ↓reduceIte, Bool.false_eq_true, tYs, evL, implies_true, oMin, oCopy, oBin, oUn, oLoadKid, oStoreTree, oField, oExtract, oNil, oSliceQ, oLen, nodupB, treeOf, kidAbs, kidRows, TK.isCell, D.toL, oLoad, oStore, oMake, oIndexAddr, ↓reduceIte, reduceCtorEq, Nat.reduceBEq, Nat.reduceAdd, Nat.reduceMul, Nat.reduceLT, Nat.reduceSub, Nat.reduceLeDiff, Nat.reduceEqDiff, Nat.reduceBneDiff, Int.reduceToNat, decide_eq_true_eq, decide_eq_false_iff_not, beq_iff_eq, Int.toNat_natCast, loopK_normal, loopK_exit, loopK_ret]
          refine ⟨⟨_, rfl, by omega⟩, ?_⟩
          exact ⟨1, [], ⟨by omega, fun _ => hzv⟩, by omega, ⟨⟨trivial, trivial, trivial, ⟨rfl, rfl, rfl⟩, trivial, trivial, trivial, trivial, trivial, trivial, trivial, trivial, trivial, trivial, trivial, trivial, trivial, trivial, trivial, trivial, trivial, trivial, trivial, trivial, trivial, trivial, trivial, trivial, trivial, trivial, trivial, trivial, trivial, trivial, ⟨rfl, rfl, rfl⟩, ⟨rfl, rfl, rfl⟩, ⟨rfl, rfl, rfl⟩, fitT_rep _ _ rfl⟩, trivial, by simp [rn, hpAt]⟩, by simp [keepIds]⟩
      · have hcl1 : ((c : Int) < (W.nts.length : Int)) = False := eq_false (by omega)
        have hz : Z = 0 := by
          rcases hno with ⟨hno, hz⟩ | ⟨y, hno, _⟩
          · exact hz
          · exact hcz (by rw [hno] at hc; simp at hc; omega)
        rw [hz]
        simp (maxSteps := 3000000) only [Try.f52, rt1, g_travelD, g_noteIn, ocOf, stsOf_rows, bytesOf_rows, rowsOf_len, stRows_len, pRows_len, hcl1, w3, D.toI, dB, D.toB, D.toL, ↓reduceIte, Bool.false_eq_true, tYs, evL, implies_true, oMin, oCopy, oBin, oUn, oLoadKid, oStoreTree, oField, oExtract, oNil, oSliceQ, oLen, nodupB, treeOf, kidAbs, kidRows, TK.isCell, D.toL, oLoad, oStore, oMake, oIndexAddr, ↓reduceIte, reduceCtorEq, Nat.reduceBEq, Nat.reduceAdd, Nat.reduceMul, Nat.reduceLT, Nat.reduceSub, Nat.reduceLeDiff, Nat.reduceEqDiff, Nat.reduceBneDiff, Int.reduceToNat, decide_eq_true_eq, decide_eq_false_iff_not, beq_iff_eq, Int.toNat_natCast, loopK_normal, loopK_exit, loopK_ret]
        exact ⟨_, [], rfl, ⟨⟨⟨rfl, rfl, rfl⟩, trivial⟩, trivial, by simp [rn, hpAt]⟩⟩
  · cases hg
def fr1 : List (FuncId × Abs) := [(35, pureAbs g_inNet), (39, pureAbs g_isPair), (52, pureAbs g_roomTried)]
theorem fr1_ok : ∀ p ∈ fr1, CallOk Try.prog p.1 p.2 := by
  intro p hp
  simp only [fr1, List.mem_cons, List.not_mem_nil, or_false] at hp
  rcases hp with rfl | rfl | rfl
  · exact inNet_ok.call
  · exact isAddr_ok.call
  · exact roomTried_ok.call
set_option maxHeartbeats 8000000 in
set_option maxRecDepth 100000 in
theorem implFindRoom_ok : PureOk Try.prog 16 g_findRoom := by
  refine PureOk.of_vc (G := fr1) fr1_ok mixed Try.func16 (by kernel_rfl) rfl ?_
  intro args cnd r bs hg hc
  unfold g_findRoom at hg
  split at hg
  · rename_i sn rn' n to f
    cases hg
    obtain ⟨l, rfl, hl, hd⟩ := hc
    rw [stsOf_rows]
    refine ⟨⟨rfl, by simp, by simp [AV.ids, AV.ids.idsL]⟩, [.l 2 (stRows l), .v (.int .i64 n), .v (.int .i64 to), .v (.int .i64 f)], rfl, fun w vs h => CvL.ok (.cons (.l _ _ _ (stRows_w l)) (.cons (.refl _) (.cons (.refl _) (.cons (.refl _) .nil)))) h, ?_⟩
    cases h0 : inNet l n with
    | false =>
      have e : fdV l n to f = 0 := if_neg (by rw [rmB, h0]; simp)
      rw [e]
      simp (maxSteps := 3000000) only [Try.f16, fr1, g_inNet, g_isPair, g_roomTried, stsOf_rows, stRows_len, h0, D.toI, ↓reduceIte, Bool.false_eq_true, tYs, evL, implies_true, oMin, oCopy, oBin, oUn, oLoadKid, oStoreTree, oField, oExtract, oNil, oSliceQ, oLen, nodupB, treeOf, kidAbs, kidRows, TK.isCell, D.toL, oLoad, oStore, oMake, oIndexAddr, ↓reduceIte, reduceCtorEq, Nat.reduceBEq, Nat.reduceAdd, Nat.reduceMul, Nat.reduceLT, Nat.reduceSub, Nat.reduceLeDiff, Nat.reduceEqDiff, Nat.reduceBneDiff, Int.reduceToNat, decide_eq_true_eq, decide_eq_false_iff_not, beq_iff_eq, Int.toNat_natCast, loopK_normal, loopK_exit, loopK_ret]
      refine ⟨⟨l, rfl, hl, hd⟩, ?_⟩
      exact ⟨_, [], rfl, ⟨⟨⟨rfl, rfl, rfl⟩, trivial⟩, trivial, by simp [rn, hpAt]⟩⟩
    | true =>
      cases h1 : inZ to 0 65535 with
      | false =>
        have e : fdV l n to f = 0 := if_neg (by rw [rmB, h1]; simp)
        rw [e]
        simp (maxSteps := 3000000) only [Try.f16, fr1, g_inNet, g_isPair, g_roomTried, stsOf_rows, stRows_len, h0, h1, D.toI, ↓reduceIte, Bool.false_eq_true, tYs, evL, implies_true, oMin, oCopy, oBin, oUn, oLoadKid, oStoreTree, oField, oExtract, oNil, oSliceQ, oLen, nodupB, treeOf, kidAbs, kidRows, TK.isCell, D.toL, oLoad, oStore, oMake, oIndexAddr, ↓reduceIte, reduceCtorEq, Nat.reduceBEq, Nat.reduceAdd, Nat.reduceMul, Nat.reduceLT, Nat.reduceSub, Nat.reduceLeDiff, Nat.reduceEqDiff, Nat.reduceBneDiff, Int.reduceToNat, decide_eq_true_eq, decide_eq_false_iff_not, beq_iff_eq, Int.toNat_natCast, loopK_normal, loopK_exit, loopK_ret]
        refine ⟨⟨l, rfl, hl, hd⟩, ?_⟩
        exact ⟨_, [], rfl, ⟨⟨⟨rfl, rfl, rfl⟩, trivial⟩, trivial, by simp [rn, hpAt]⟩⟩
      | true =>
        by_cases hf0 : f < 1
        · have g0 : (f < 1) = True := eq_true hf0
          have e : fdV l n to f = 0 := if_neg (by rw [show inZ f 1 48 = false from by rw [inZ, decide_eq_false_iff_not]; omega]; simp)
          rw [e]
          simp (maxSteps := 3000000) only [Try.f16, fr1, g_inNet, g_isPair, g_roomTried, stsOf_rows, stRows_len, h0, h1, g0, D.toI, ↓reduceIte, Bool.false_eq_true, tYs, evL, implies_true, oMin, oCopy, oBin, oUn, oLoadKid, oStoreTree, oField, oExtract, oNil, oSliceQ, oLen, nodupB, treeOf, kidAbs, kidRows, TK.isCell, D.toL, oLoad, oStore, oMake, oIndexAddr, ↓reduceIte, reduceCtorEq, Nat.reduceBEq, Nat.reduceAdd, Nat.reduceMul, Nat.reduceLT, Nat.reduceSub, Nat.reduceLeDiff, Nat.reduceEqDiff, Nat.reduceBneDiff, Int.reduceToNat, decide_eq_true_eq, decide_eq_false_iff_not, beq_iff_eq, Int.toNat_natCast, loopK_normal, loopK_exit, loopK_ret]
          refine ⟨⟨l, rfl, hl, hd⟩, ?_⟩
          exact ⟨_, [], rfl, ⟨⟨⟨rfl, rfl, rfl⟩, trivial⟩, trivial, by simp [rn, hpAt]⟩⟩
        · have g0 : (f < 1) = False := eq_false hf0
          by_cases hf1 : f > 48
          · have g1 : (f > 48) = True := eq_true hf1
            have e : fdV l n to f = 0 := if_neg (by rw [show inZ f 1 48 = false from by rw [inZ, decide_eq_false_iff_not]; omega]; simp)
            rw [e]
            simp (maxSteps := 3000000) only [Try.f16, fr1, g_inNet, g_isPair, g_roomTried, stsOf_rows, stRows_len, h0, h1, g0, g1, D.toI, ↓reduceIte, Bool.false_eq_true, tYs, evL, implies_true, oMin, oCopy, oBin, oUn, oLoadKid, oStoreTree, oField, oExtract, oNil, oSliceQ, oLen, nodupB, treeOf, kidAbs, kidRows, TK.isCell, D.toL, oLoad, oStore, oMake, oIndexAddr, ↓reduceIte, reduceCtorEq, Nat.reduceBEq, Nat.reduceAdd, Nat.reduceMul, Nat.reduceLT, Nat.reduceSub, Nat.reduceLeDiff, Nat.reduceEqDiff, Nat.reduceBneDiff, Int.reduceToNat, decide_eq_true_eq, decide_eq_false_iff_not, beq_iff_eq, Int.toNat_natCast, loopK_normal, loopK_exit, loopK_ret]
            refine ⟨⟨l, rfl, hl, hd⟩, ?_⟩
            exact ⟨_, [], rfl, ⟨⟨⟨rfl, rfl, rfl⟩, trivial⟩, trivial, by simp [rn, hpAt]⟩⟩
          · have g1 : (f > 48) = False := eq_false hf1
            have hrm : rmB l n to = true := by rw [rmB, h0, h1]; rfl
            have e : fdV l n to f = min f (roomV l n.toNat to) := if_pos (by rw [hrm, show inZ f 1 48 = true from by rw [inZ, decide_eq_true_eq]; omega]; rfl)
            obtain ⟨h0', h5, hn0, hn1⟩ := inNet_of h0
            obtain ⟨j, rfl⟩ : ∃ j : Nat, n = (j : Int) := ⟨n.toNat, by omega⟩
            obtain ⟨g, rfl⟩ : ∃ g : Nat, f = (g : Int) := ⟨f.toNat, by omega⟩
            rw [e, Int.toNat_natCast]
            have hj : j < l.length := by omega
            have hg48 : g ≤ 48 := by omega
            have ht : 0 ≤ to ∧ to ≤ 65535 := by rw [inZ, decide_eq_true_eq] at h1; exact h1
            simp (maxSteps := 3000000) only [Try.f16, fr1, g_inNet, g_isPair, g_roomTried, stsOf_rows, stRows_len, h0, h1, g0, g1, D.toI, ↓reduceIte, Bool.false_eq_true, tYs, evL, implies_true, oMin, oCopy, oBin, oUn, oLoadKid, oStoreTree, oField, oExtract, oNil, oSliceQ, oLen, nodupB, treeOf, kidAbs, kidRows, TK.isCell, D.toL, oLoad, oStore, oMake, oIndexAddr, ↓reduceIte, reduceCtorEq, Nat.reduceBEq, Nat.reduceAdd, Nat.reduceMul, Nat.reduceLT, Nat.reduceSub, Nat.reduceLeDiff, Nat.reduceEqDiff, Nat.reduceBneDiff, Int.reduceToNat, decide_eq_true_eq, decide_eq_false_iff_not, beq_iff_eq, Int.toNat_natCast, loopK_normal, loopK_exit, loopK_ret]
            refine ⟨⟨l, rfl, hl, hd⟩, ?_⟩
            refine e_loop _ _ _ _ _ _ _ _ (fun x : Nat × Nat => [.l 2 (stRows l), .v (.int .i64 (j : Int)), .v (.int .i64 to), .any, .any, .any, .any, .any, .any, .v (.int .i64 (x.2 : Int))] ++ List.replicate (Try.f16.ntmps - 10) .any) (fun x => []) (fun x => (∀ i, i < x.1 → stopB l to j (nK l to j g i) = false) ∧ x.2 = nK l to j g x.1 ∧ x.2 ≤ g) (fun x => x.2) 0 (fun x => by simp) ?_ fun x hk' => ?_
            · exact ⟨(0, g), [], ⟨fun i h => absurd h (Nat.not_lt_zero _), rfl, Nat.le_refl _⟩, ⟨⟨⟨rfl, rfl, rfl⟩, ⟨rfl, rfl, rfl⟩, ⟨rfl, rfl, rfl⟩, trivial, trivial, trivial, trivial, trivial, trivial, ⟨rfl, rfl, rfl⟩, fitT_rep _ _ rfl⟩, trivial, by simp [rn, hpAt]⟩, by simp [keepIds]⟩
            obtain ⟨k, n⟩ := x
            obtain ⟨hst, hnk, hng⟩ := hk'
            dsimp only at hst hnk hng
            by_cases hn0 : 0 < n
            · have hg1 : ((n : Int) > 0) = True := eq_true (by omega)
              rcases sg_dec l to j n with hs | hs
              · have hr : rdV l to j n = (n : Int) := rd_arr hs
                have e : (n : Int) = min (g : Int) (roomV l j to) := by
                  rw [← find_end h0' hj hg48 hst (by rw [← hnk]; exact stop_yes hs), ← hnk]
                have hge : ((n : Int) ≥ (n : Int)) = True := eq_true (by omega)
                rw [← e]
                simp (maxSteps := 3000000) only [Try.f16, fr1, g_inNet, g_isPair, g_roomTried, stsOf_rows, stRows_len, hg1, hr, hge, D.toI, ↓reduceIte, Bool.false_eq_true, tYs, evL, implies_true, oMin, oCopy, oBin, oUn, oLoadKid, oStoreTree, oField, oExtract, oNil, oSliceQ, oLen, nodupB, treeOf, kidAbs, kidRows, TK.isCell, D.toL, oLoad, oStore, oMake, oIndexAddr, ↓reduceIte, reduceCtorEq, Nat.reduceBEq, Nat.reduceAdd, Nat.reduceMul, Nat.reduceLT, Nat.reduceSub, Nat.reduceLeDiff, Nat.reduceEqDiff, Nat.reduceBneDiff, Int.reduceToNat, decide_eq_true_eq, decide_eq_false_iff_not, beq_iff_eq, Int.toNat_natCast, loopK_normal, loopK_exit, loopK_ret]
                refine ⟨⟨⟨l, rfl, hl, hd⟩, hrm, by omega, by omega⟩, ?_⟩
                exact ⟨_, [], rfl, ⟨⟨⟨rfl, rfl, rfl⟩, trivial⟩, trivial, by simp [rn, hpAt]⟩⟩
              · have hr : rdV l to j n = nxN (sg l to n 64 j) := rd_not hs
                have hbd := ((find_step h0' hj (to := to) (n := n) (h := 64) (by omega) hn0 (by omega)).2 hs).1
                obtain ⟨z, hz⟩ : ∃ z : Nat, nxN (sg l to n 64 j) = (z : Int) := ⟨(nxN (sg l to n 64 j)).toNat, by omega⟩
                rw [hz] at hr hbd
                have hge : ((z : Int) ≥ (n : Int)) = False := eq_false (by omega)
                simp (maxSteps := 3000000) only [Try.f16, fr1, g_inNet, g_isPair, g_roomTried, stsOf_rows, stRows_len, hg1, hr, hge, D.toI, ↓reduceIte, Bool.false_eq_true, tYs, evL, implies_true, oMin, oCopy, oBin, oUn, oLoadKid, oStoreTree, oField, oExtract, oNil, oSliceQ, oLen, nodupB, treeOf, kidAbs, kidRows, TK.isCell, D.toL, oLoad, oStore, oMake, oIndexAddr, ↓reduceIte, reduceCtorEq, Nat.reduceBEq, Nat.reduceAdd, Nat.reduceMul, Nat.reduceLT, Nat.reduceSub, Nat.reduceLeDiff, Nat.reduceEqDiff, Nat.reduceBneDiff, Int.reduceToNat, decide_eq_true_eq, decide_eq_false_iff_not, beq_iff_eq, Int.toNat_natCast, loopK_normal, loopK_exit, loopK_ret]
                refine ⟨⟨⟨l, rfl, hl, hd⟩, hrm, by omega, by omega⟩, ?_⟩
                exact ⟨(k + 1, z), [], ⟨fun i hi => by
                  by_cases e : i = k
                  · rw [e, ← hnk]; exact stop_no hn0 hs
                  · exact hst i (by dsimp only at hi; omega), by
                  dsimp only
                  rw [nK, ← hnk, hz, Int.toNat_natCast], by dsimp only; omega⟩, by dsimp only; omega, ⟨⟨⟨rfl, rfl, rfl⟩, ⟨rfl, rfl, rfl⟩, ⟨rfl, rfl, rfl⟩, trivial, trivial, trivial, trivial, trivial, trivial, ⟨rfl, rfl, rfl⟩, fitT_rep _ _ rfl⟩, trivial, by simp [rn, hpAt]⟩, by simp [keepIds]⟩
            · have hg1 : ((n : Int) > 0) = False := eq_false (by omega)
              obtain rfl : n = 0 := by omega
              have e : (0 : Int) = min (g : Int) (roomV l j to) := by
                rw [← find_end h0' hj hg48 hst (by rw [← hnk]; exact stop_zero), ← hnk]; rfl
              rw [← e]
              simp (maxSteps := 3000000) only [Try.f16, fr1, g_inNet, g_isPair, g_roomTried, stsOf_rows, stRows_len, hg1, D.toI, ↓reduceIte, Bool.false_eq_true, tYs, evL, implies_true, oMin, oCopy, oBin, oUn, oLoadKid, oStoreTree, oField, oExtract, oNil, oSliceQ, oLen, nodupB, treeOf, kidAbs, kidRows, TK.isCell, D.toL, oLoad, oStore, oMake, oIndexAddr, ↓reduceIte, reduceCtorEq, Nat.reduceBEq, Nat.reduceAdd, Nat.reduceMul, Nat.reduceLT, Nat.reduceSub, Nat.reduceLeDiff, Nat.reduceEqDiff, Nat.reduceBneDiff, Int.reduceToNat, decide_eq_true_eq, decide_eq_false_iff_not, beq_iff_eq, Int.toNat_natCast, loopK_normal, loopK_exit, loopK_ret]
              exact ⟨_, [], rfl, ⟨⟨⟨rfl, rfl, rfl⟩, trivial⟩, trivial, by simp [rn, hpAt]⟩⟩
  · cases hg
def fs1 : List (FuncId × Abs) := [(20, pureAbs g_netOk), (42, pureAbs g_l1In), (53, frzAbs g_travelD), (54, pureAbs g_noteFrom)]
theorem fs1_ok : ∀ p ∈ fs1, CallOk Try.prog p.1 p.2 := by
  intro p hp
  simp only [fs1, List.mem_cons, List.not_mem_nil, or_false] at hp
  rcases hp with rfl | rfl | rfl | rfl
  · exact specNetOk_ok.call
  · exact l1In_ok.call
  · exact specTravel_ok.callF
  · exact specNoteFrom_ok.call
set_option maxHeartbeats 8000000 in
set_option maxRecDepth 100000 in
theorem specFindRoom_ok : PureOk Try.prog 17 g_findRoom := by
  refine PureOk.of_vc (G := fs1) fs1_ok mixed Try.func17 (by kernel_rfl) rfl ?_
  intro args cnd r bs hg hc
  unfold g_findRoom at hg
  split at hg
  · rename_i sn rn' n to f
    cases hg
    obtain ⟨l, rfl, hl, hd⟩ := hc
    rw [stsOf_rows]
    refine ⟨⟨rfl, by simp, by simp [AV.ids, AV.ids.idsL]⟩, [.l 2 (stRows l), .v (.int .i64 n), .v (.int .i64 to), .v (.int .i64 f)], rfl, fun w vs h => CvL.ok (.cons (.l _ _ _ (stRows_w l)) (.cons (.refl _) (.cons (.refl _) (.cons (.refl _) .nil)))) h, ?_⟩
    have hll : IntKind.i64.wrap ((l.length : Int) - 1) = (l.length : Int) - 1 := wrap_id (by omega) (by omega)
    cases h0 : netB l with
    | false =>
      have e : fdV l n to f = 0 := if_neg (by rw [rmB, inNet, h0]; simp)
      rw [e]
      simp (maxSteps := 3000000) only [Try.f17, fs1, g_netOk, g_l1In, g_travelD, g_noteFrom, stsOf_rows, bytesOf_rows, rowsOf_len, stRows_len, pRows_len, h0, D.toI, dB, D.toB, D.toL, ↓reduceIte, Bool.false_eq_true, tYs, evL, implies_true, oMin, oCopy, oBin, oUn, oLoadKid, oStoreTree, oField, oExtract, oNil, oSliceQ, oLen, nodupB, treeOf, kidAbs, kidRows, TK.isCell, D.toL, oLoad, oStore, oMake, oIndexAddr, ↓reduceIte, reduceCtorEq, Nat.reduceBEq, Nat.reduceAdd, Nat.reduceMul, Nat.reduceLT, Nat.reduceSub, Nat.reduceLeDiff, Nat.reduceEqDiff, Nat.reduceBneDiff, Int.reduceToNat, decide_eq_true_eq, decide_eq_false_iff_not, beq_iff_eq, Int.toNat_natCast, loopK_normal, loopK_exit, loopK_ret]
      refine ⟨⟨l, rfl, hl, hd⟩, ?_⟩
      exact ⟨_, [], rfl, ⟨⟨⟨rfl, rfl, rfl⟩, trivial⟩, trivial, by simp [rn, hpAt]⟩⟩
    | true =>
      cases h2 : inZ n 0 ((l.length : Int) - 1) with
      | false =>
        have hi : inNet l n = false := by
          rw [inNet, h0, Bool.true_and, decide_eq_false_iff_not]
          rw [inZ, decide_eq_false_iff_not] at h2
          omega
        have e : fdV l n to f = 0 := if_neg (by rw [rmB, hi]; simp)
        rw [e]
        simp (maxSteps := 3000000) only [Try.f17, fs1, g_netOk, g_l1In, g_travelD, g_noteFrom, stsOf_rows, bytesOf_rows, rowsOf_len, stRows_len, pRows_len, h0, h2, hll, D.toI, dB, D.toB, D.toL, ↓reduceIte, Bool.false_eq_true, tYs, evL, implies_true, oMin, oCopy, oBin, oUn, oLoadKid, oStoreTree, oField, oExtract, oNil, oSliceQ, oLen, nodupB, treeOf, kidAbs, kidRows, TK.isCell, D.toL, oLoad, oStore, oMake, oIndexAddr, ↓reduceIte, reduceCtorEq, Nat.reduceBEq, Nat.reduceAdd, Nat.reduceMul, Nat.reduceLT, Nat.reduceSub, Nat.reduceLeDiff, Nat.reduceEqDiff, Nat.reduceBneDiff, Int.reduceToNat, decide_eq_true_eq, decide_eq_false_iff_not, beq_iff_eq, Int.toNat_natCast, loopK_normal, loopK_exit, loopK_ret]
        refine ⟨⟨l, rfl, hl, hd⟩, ?_⟩
        exact ⟨_, [], rfl, ⟨⟨⟨rfl, rfl, rfl⟩, trivial⟩, trivial, by simp [rn, hpAt]⟩⟩
      | true =>
        have hn : 0 ≤ n ∧ n < (l.length : Int) := by
          rw [inZ, decide_eq_true_eq] at h2
          omega
        have hi : inNet l n = true := by rw [inNet, h0, decide_eq_true hn]; rfl
        cases h1 : inZ to 0 65535 with
        | false =>
          have e : fdV l n to f = 0 := if_neg (by rw [rmB, h1]; simp)
          rw [e]
          simp (maxSteps := 3000000) only [Try.f17, fs1, g_netOk, g_l1In, g_travelD, g_noteFrom, stsOf_rows, bytesOf_rows, rowsOf_len, stRows_len, pRows_len, h0, h2, hll, h1, D.toI, dB, D.toB, D.toL, ↓reduceIte, Bool.false_eq_true, tYs, evL, implies_true, oMin, oCopy, oBin, oUn, oLoadKid, oStoreTree, oField, oExtract, oNil, oSliceQ, oLen, nodupB, treeOf, kidAbs, kidRows, TK.isCell, D.toL, oLoad, oStore, oMake, oIndexAddr, ↓reduceIte, reduceCtorEq, Nat.reduceBEq, Nat.reduceAdd, Nat.reduceMul, Nat.reduceLT, Nat.reduceSub, Nat.reduceLeDiff, Nat.reduceEqDiff, Nat.reduceBneDiff, Int.reduceToNat, decide_eq_true_eq, decide_eq_false_iff_not, beq_iff_eq, Int.toNat_natCast, loopK_normal, loopK_exit, loopK_ret]
          refine ⟨⟨l, rfl, hl, hd⟩, ?_⟩
          exact ⟨_, [], rfl, ⟨⟨⟨rfl, rfl, rfl⟩, trivial⟩, trivial, by simp [rn, hpAt]⟩⟩
        | true =>
          cases h3 : inZ f 1 48 with
          | false =>
            have e : fdV l n to f = 0 := if_neg (by rw [h3]; simp)
            rw [e]
            simp (maxSteps := 3000000) only [Try.f17, fs1, g_netOk, g_l1In, g_travelD, g_noteFrom, stsOf_rows, bytesOf_rows, rowsOf_len, stRows_len, pRows_len, h0, h2, hll, h1, h3, D.toI, dB, D.toB, D.toL, ↓reduceIte, Bool.false_eq_true, tYs, evL, implies_true, oMin, oCopy, oBin, oUn, oLoadKid, oStoreTree, oField, oExtract, oNil, oSliceQ, oLen, nodupB, treeOf, kidAbs, kidRows, TK.isCell, D.toL, oLoad, oStore, oMake, oIndexAddr, ↓reduceIte, reduceCtorEq, Nat.reduceBEq, Nat.reduceAdd, Nat.reduceMul, Nat.reduceLT, Nat.reduceSub, Nat.reduceLeDiff, Nat.reduceEqDiff, Nat.reduceBneDiff, Int.reduceToNat, decide_eq_true_eq, decide_eq_false_iff_not, beq_iff_eq, Int.toNat_natCast, loopK_normal, loopK_exit, loopK_ret]
            refine ⟨⟨l, rfl, hl, hd⟩, ?_⟩
            exact ⟨_, [], rfl, ⟨⟨⟨rfl, rfl, rfl⟩, trivial⟩, trivial, by simp [rn, hpAt]⟩⟩
          | true =>
            have hrm : rmB l n to = true := by rw [rmB, hi, h1]; rfl
            have e : fdV l n to f = min f (roomV l n.toNat to) := if_pos (by rw [hrm, h3]; rfl)
            have hff : 1 ≤ f ∧ f ≤ 48 := by rw [inZ, decide_eq_true_eq] at h3; exact h3
            obtain ⟨h0', h5, hn0, hn1⟩ := inNet_of hi
            obtain ⟨j, rfl⟩ : ∃ j : Nat, n = (j : Int) := ⟨n.toNat, by omega⟩
            obtain ⟨g, rfl⟩ : ∃ g : Nat, f = (g : Int) := ⟨f.toNat, by omega⟩
            rw [e, Int.toNat_natCast]
            have hj : j < l.length := by omega
            have hg48 : g ≤ 48 := by omega
            have ht : 0 ≤ to ∧ to ≤ 65535 := by rw [inZ, decide_eq_true_eq] at h1; exact h1
            simp (maxSteps := 3000000) only [Try.f17, fs1, g_netOk, g_l1In, g_travelD, g_noteFrom, stsOf_rows, bytesOf_rows, rowsOf_len, stRows_len, pRows_len, h0, h2, hll, h1, h3, D.toI, dB, D.toB, D.toL, ↓reduceIte, Bool.false_eq_true, tYs, evL, implies_true, oMin, oCopy, oBin, oUn, oLoadKid, oStoreTree, oField, oExtract, oNil, oSliceQ, oLen, nodupB, treeOf, kidAbs, kidRows, TK.isCell, D.toL, oLoad, oStore, oMake, oIndexAddr, ↓reduceIte, reduceCtorEq, Nat.reduceBEq, Nat.reduceAdd, Nat.reduceMul, Nat.reduceLT, Nat.reduceSub, Nat.reduceLeDiff, Nat.reduceEqDiff, Nat.reduceBneDiff, Int.reduceToNat, decide_eq_true_eq, decide_eq_false_iff_not, beq_iff_eq, Int.toNat_natCast, loopK_normal, loopK_exit, loopK_ret]
            refine ⟨⟨l, rfl, hl, hd⟩, ?_⟩
            refine e_loop _ _ _ _ _ _ _ _ (fun x : Nat × Nat => [.l 2 (stRows l), .v (.int .i64 (j : Int)), .v (.int .i64 to), .any, .any, .any, .any, .any, .any, .v (.int .i64 (x.2 : Int))] ++ List.replicate (Try.f17.ntmps - 10) .any) (fun x => []) (fun x => (∀ i, i < x.1 → stopB l to j (nK l to j g i) = false) ∧ x.2 = nK l to j g x.1 ∧ x.2 ≤ g) (fun x => x.2) 0 (fun x => by simp) ?_ fun x hk' => ?_
            · exact ⟨(0, g), [], ⟨fun i h => absurd h (Nat.not_lt_zero _), rfl, Nat.le_refl _⟩, ⟨⟨⟨rfl, rfl, rfl⟩, ⟨rfl, rfl, rfl⟩, ⟨rfl, rfl, rfl⟩, trivial, trivial, trivial, trivial, trivial, trivial, ⟨rfl, rfl, rfl⟩, fitT_rep _ _ rfl⟩, trivial, by simp [rn, hpAt]⟩, by simp [keepIds]⟩
            obtain ⟨k, n⟩ := x
            obtain ⟨hst, hnk, hng⟩ := hk'
            dsimp only at hst hnk hng
            by_cases hn0 : 0 < n
            · have hg1 : ((n : Int) > 0) = True := eq_true (by omega)
              have ho := try_out h0' hj (to := to) (pr := 2) (n := n) hn0 (by omega) ht (.inr rfl)
              obtain ⟨W, hW⟩ : ∃ W, trV l (j : Int) (tryP l[j].a to 2 n) = W := ⟨_, rfl⟩
              rw [hW] at ho
              have hW' : trV l (j : Int) ⟨l[j].a, to, 2, 64, 0, 0, false, true, List.replicate n 0⟩ = W := hW
              have hnet := stRows_get l j hj
              have k0 : (0 ≤ (j : Int)) = True := eq_true (by omega)
              have k1 : ((j : Int) < (l.length : Int)) = True := eq_true (by omega)
              have k2 : (0 ≤ (n : Int)) = True := eq_true (by omega)
              have hrep : List.replicate n [D.v (.int .u8 0)] = rowsOfBytes (List.replicate n 0) := (rowsOf_zero n).symm
              have hxs : (∃ xs : List UInt8, rowsOfBytes (List.replicate n 0) = rowsOfBytes xs ∧ xs.length ≤ 1048576) = True := eq_true ⟨_, rfl, by rw [List.length_replicate]; omega⟩
              rcases sg_dec l to j n with hs | hs
              · have ha := ho.1 hs
                have e : (n : Int) = min (g : Int) (roomV l j to) := by
                  rw [← find_end h0' hj hg48 hst (by rw [← hnk]; exact stop_yes hs), ← hnk]
                have k3 : ((W.arr.length : Int) > 0) = True := eq_true (by omega)
                rw [← e]
                simp (maxSteps := 3000000) only [Try.f17, fs1, g_netOk, g_l1In, g_travelD, g_noteFrom, stsOf_rows, bytesOf_rows, rowsOf_len, stRows_len, pRows_len, hg1, hnet, k0, k1, k2, k3, hrep, hW', hxs, D.toI, dB, D.toB, D.toL, ↓reduceIte, Bool.false_eq_true, tYs, evL, implies_true, oMin, oCopy, oBin, oUn, oLoadKid, oStoreTree, oField, oExtract, oNil, oSliceQ, oLen, nodupB, treeOf, kidAbs, kidRows, TK.isCell, D.toL, oLoad, oStore, oMake, oIndexAddr, ↓reduceIte, reduceCtorEq, Nat.reduceBEq, Nat.reduceAdd, Nat.reduceMul, Nat.reduceLT, Nat.reduceSub, Nat.reduceLeDiff, Nat.reduceEqDiff, Nat.reduceBneDiff, Int.reduceToNat, decide_eq_true_eq, decide_eq_false_iff_not, beq_iff_eq, Int.toNat_natCast, loopK_normal, loopK_exit, loopK_ret]
                refine ⟨⟨by omega, by omega, by omega⟩, ⟨l, rfl, hl, hd⟩, by kernel_rfl, ?_⟩
                exact ⟨_, [], rfl, ⟨⟨⟨rfl, rfl, rfl⟩, trivial⟩, trivial, by simp [rn, hpAt]⟩⟩
              · obtain ⟨hz0, ha, hno⟩ := ho.2 hs
                obtain ⟨Z, hZ⟩ : ∃ Z, nxN (sg l to n 64 j) = Z := ⟨_, rfl⟩
                rw [hZ] at hz0 hno
                have k3 : ((W.arr.length : Int) > 0) = False := eq_false (by rw [ha]; simp)
                simp (maxSteps := 3000000) only [Try.f17, fs1, g_netOk, g_l1In, g_travelD, g_noteFrom, stsOf_rows, bytesOf_rows, rowsOf_len, stRows_len, pRows_len, hg1, hnet, k0, k1, k2, k3, hrep, hW', hxs, D.toI, dB, D.toB, D.toL, ↓reduceIte, Bool.false_eq_true, tYs, evL, implies_true, oMin, oCopy, oBin, oUn, oLoadKid, oStoreTree, oField, oExtract, oNil, oSliceQ, oLen, nodupB, treeOf, kidAbs, kidRows, TK.isCell, D.toL, oLoad, oStore, oMake, oIndexAddr, ↓reduceIte, reduceCtorEq, Nat.reduceBEq, Nat.reduceAdd, Nat.reduceMul, Nat.reduceLT, Nat.reduceSub, Nat.reduceLeDiff, Nat.reduceEqDiff, Nat.reduceBneDiff, Int.reduceToNat, decide_eq_true_eq, decide_eq_false_iff_not, beq_iff_eq, Int.toNat_natCast, loopK_normal, loopK_exit, loopK_ret]
                refine ⟨⟨by omega, by omega, by omega⟩, ⟨l, rfl, hl, hd⟩, by kernel_rfl, ?_⟩
                refine e_loop _ _ _ _ _ _ _ _ (fun x : Nat × Int => [.l 2 (stRows l), .v (.int .i64 (j : Int)), .v (.int .i64 to), .any, .any, .any, .any, .any, .any, .v (.int .i64 (n : Int)), .ptr 0 0, .v (.int .i64 x.2), .v (.int .i64 (x.1 : Int))] ++ List.replicate (Try.f17.ntmps - 13) .any) (fun x => [(0, .var 28 [.l 9 (pRows W.arr), .l 9 (pRows W.nts), .v (.int .i64 (trN l (j : Int) ⟨l[j].a, to, 2, 64, 0, 0, false, true, List.replicate n 0⟩ : Int))])]) (fun x => x.1 ≤ W.nts.length ∧ x.2 = if x.1 = 0 then 0 else Z) (fun x => W.nts.length - x.1) 1 (fun x => by simp) ?_ fun x hc' => ?_
                · exact ⟨(0, 0), [(0, some _)], ⟨Nat.zero_le _, rfl⟩, ⟨⟨⟨rfl, rfl, rfl⟩, ⟨rfl, rfl, rfl⟩, ⟨rfl, rfl, rfl⟩, trivial, trivial, trivial, trivial, trivial, trivial, ⟨rfl, rfl, rfl⟩, ⟨rfl, rfl, rfl⟩, ⟨rfl, rfl, rfl⟩, ⟨rfl, rfl, rfl⟩, fitT_rep _ _ rfl⟩, ⟨.inl rfl, rfl, rfl, rfl, trivial⟩, by simp [rn, hpAt]⟩, by simp [keepIds]⟩
                obtain ⟨c, nx⟩ := x
                obtain ⟨hc1, hcz⟩ := hc'
                dsimp only at hc1 hcz
                have w3 : IntKind.i64.wrap ((c : Int) + 1) = ((c + 1 : Nat) : Int) := wrap_id (by
                  rcases hno with ⟨hno, hz⟩ | ⟨y, hno, _⟩ <;> rw [hno] at hc1 <;> simp at hc1 <;> omega) (by
                  rcases hno with ⟨hno, hz⟩ | ⟨y, hno, _⟩ <;> rw [hno] at hc1 <;> simp at hc1 <;> omega)
                by_cases hc : c < W.nts.length
                · have hcl1 : ((c : Int) < (W.nts.length : Int)) = True := eq_true (by omega)
                  have hcl2 : (0 ≤ (c : Int)) = True := eq_true (by omega)
                  have hrow := pRows_get W.nts c hc
                  rcases hno with ⟨hno, hz⟩ | ⟨y, hno, ⟨hyp, hyd⟩, hyo, hy⟩
                  · rw [hno] at hc; exact absurd hc (Nat.not_lt_zero _)
                  obtain rfl : c = 0 := by rw [hno] at hc; simpa using hc
                  have hg : W.nts[0] = y := by simp only [hno, List.getElem_cons_zero]
                  rw [hg] at hrow
                  rcases hy with ⟨h6, hzv, hlt⟩ | ⟨h6, hzv⟩
                  · have k1 : (nfK y.d = 6) = True := eq_true h6
                    have k2 : (nfK y.d == 6) = true := by simp [h6]
                    have k3 : (nfN y.d < (n : Int)) = True := eq_true hlt
                    simp (maxSteps := 3000000) only [Try.f17, fs1, g_netOk, g_l1In, g_travelD, g_noteFrom, stsOf_rows, bytesOf_rows, rowsOf_len, stRows_len, pRows_len, hcl1, hcl2, hrow, pRow, hyo, k1, k2, k3, w3, D.toI, dB, D.toB, D.toL, ↓reduceIte, Bool.false_eq_true, tYs, evL, implies_true, oMin, oCopy, oBin, oUn, oLoadKid, oStoreTree, oField, oExtract, oNil, oSliceQ, oLen, nodupB, treeOf, kidAbs, kidRows, TK.isCell, D.toL, oLoad, oStore, oMake, oIndexAddr, ↓reduceIte, reduceCtorEq, Nat.reduceBEq, Nat.reduceAdd, Nat.reduceMul, Nat.reduceLT, Nat.reduceSub, Nat.reduceLeDiff, Nat.reduceEqDiff, Nat.reduceBneDiff, Int.reduceToNat, decide_eq_true_eq, decide_eq_false_iff_not, beq_iff_eq, Int.toNat_natCast, loopK_normal, loopK_exit, loopK_ret]
                    refine ⟨⟨_, rfl, by omega⟩, ?_⟩
                    exact ⟨(1, nfN y.d), [(0, some _)], ⟨by dsimp only; omega, by rw [hzv]; rfl⟩, by dsimp only; omega, ⟨⟨⟨rfl, rfl, rfl⟩, ⟨rfl, rfl, rfl⟩, ⟨rfl, rfl, rfl⟩, trivial, trivial, trivial, trivial, trivial, trivial, ⟨rfl, rfl, rfl⟩, ⟨rfl, rfl, rfl⟩, ⟨rfl, rfl, rfl⟩, ⟨rfl, rfl, rfl⟩, fitT_rep _ _ rfl⟩, ⟨.inl rfl, rfl, rfl, rfl, trivial⟩, by simp [rn, hpAt]⟩, by simp [keepIds]⟩
                  · have k1 : (nfK y.d = 6) = False := eq_false h6
                    have k2 : (nfK y.d == 6) = false := by simp [h6]
                    simp (maxSteps := 3000000) only [Try.f17, fs1, g_netOk, g_l1In, g_travelD, g_noteFrom, stsOf_rows, bytesOf_rows, rowsOf_len, stRows_len, pRows_len, hcl1, hcl2, hrow, pRow, hyo, k1, k2, w3, D.toI, dB, D.toB, D.toL, ↓reduceIte, Bool.false_eq_true, tYs, evL, implies_true, oMin, oCopy, oBin, oUn, oLoadKid, oStoreTree, oField, oExtract, oNil, oSliceQ, oLen, nodupB, treeOf, kidAbs, kidRows, TK.isCell, D.toL, oLoad, oStore, oMake, oIndexAddr, ↓reduceIte, reduceCtorEq, Nat.reduceBEq, Nat.reduceAdd, Nat.reduceMul, Nat.reduceLT, Nat.reduceSub, Nat.reduceLeDiff, Nat.reduceEqDiff, Nat.reduceBneDiff, Int.reduceToNat, decide_eq_true_eq, decide_eq_false_iff_not, beq_iff_eq, Int.toNat_natCast, loopK_normal, loopK_exit, loopK_ret]
                    refine ⟨⟨_, rfl, by omega⟩, ?_⟩
                    exact ⟨(1, nx), [(0, some _)], ⟨by dsimp only; omega, by rw [hzv]; exact hcz⟩, by dsimp only; omega, ⟨⟨⟨rfl, rfl, rfl⟩, ⟨rfl, rfl, rfl⟩, ⟨rfl, rfl, rfl⟩, trivial, trivial, trivial, trivial, trivial, trivial, ⟨rfl, rfl, rfl⟩, ⟨rfl, rfl, rfl⟩, ⟨rfl, rfl, rfl⟩, ⟨rfl, rfl, rfl⟩, fitT_rep _ _ rfl⟩, ⟨.inl rfl, rfl, rfl, rfl, trivial⟩, by simp [rn, hpAt]⟩, by simp [keepIds]⟩
                · have hcl1 : ((c : Int) < (W.nts.length : Int)) = False := eq_false (by omega)
                  have hz : nx = Z := by
                    rcases hno with ⟨hno, hz⟩ | ⟨y, hno, _⟩
                    · rw [hcz, hz]; split <;> rfl
                    · rw [hcz, if_neg (by rw [hno] at hc; simp at hc; omega)]
                  obtain ⟨z, hz2⟩ : ∃ z : Nat, nx = (z : Int) := ⟨nx.toNat, by omega⟩
                  rw [← hz, hz2] at hz0 hZ
                  rw [hz2]
                  simp (maxSteps := 3000000) only [Try.f17, fs1, g_netOk, g_l1In, g_travelD, g_noteFrom, stsOf_rows, bytesOf_rows, rowsOf_len, stRows_len, pRows_len, hcl1, w3, D.toI, dB, D.toB, D.toL, ↓reduceIte, Bool.false_eq_true, tYs, evL, implies_true, oMin, oCopy, oBin, oUn, oLoadKid, oStoreTree, oField, oExtract, oNil, oSliceQ, oLen, nodupB, treeOf, kidAbs, kidRows, TK.isCell, D.toL, oLoad, oStore, oMake, oIndexAddr, ↓reduceIte, reduceCtorEq, Nat.reduceBEq, Nat.reduceAdd, Nat.reduceMul, Nat.reduceLT, Nat.reduceSub, Nat.reduceLeDiff, Nat.reduceEqDiff, Nat.reduceBneDiff, Int.reduceToNat, decide_eq_true_eq, decide_eq_false_iff_not, beq_iff_eq, Int.toNat_natCast, loopK_normal, loopK_exit, loopK_ret]
                  exact ⟨(k + 1, z), [], ⟨fun i hi => by
                    by_cases e : i = k
                    · rw [e, ← hnk]; exact stop_no hn0 hs
                    · exact hst i (by dsimp only at hi; omega), by
                    dsimp only
                    rw [nK, ← hnk, hZ, Int.toNat_natCast], by dsimp only; omega⟩, by dsimp only; omega, ⟨⟨⟨rfl, rfl, rfl⟩, ⟨rfl, rfl, rfl⟩, ⟨rfl, rfl, rfl⟩, trivial, trivial, trivial, trivial, trivial, trivial, ⟨rfl, rfl, rfl⟩, fitT_rep _ _ rfl⟩, trivial, by simp [rn, hpAt]⟩, by simp [keepIds]⟩
            · have hg1 : ((n : Int) > 0) = False := eq_false (by omega)
              obtain rfl : n = 0 := by omega
              have e : (0 : Int) = min (g : Int) (roomV l j to) := by
                rw [← find_end h0' hj hg48 hst (by rw [← hnk]; exact stop_zero), ← hnk]; rfl
              rw [← e]
              simp (maxSteps := 3000000) only [Try.f17, fs1, g_netOk, g_l1In, g_travelD, g_noteFrom, stsOf_rows, bytesOf_rows, rowsOf_len, stRows_len, pRows_len, hg1, D.toI, dB, D.toB, D.toL, ↓reduceIte, Bool.false_eq_true, tYs, evL, implies_true, oMin, oCopy, oBin, oUn, oLoadKid, oStoreTree, oField, oExtract, oNil, oSliceQ, oLen, nodupB, treeOf, kidAbs, kidRows, TK.isCell, D.toL, oLoad, oStore, oMake, oIndexAddr, ↓reduceIte, reduceCtorEq, Nat.reduceBEq, Nat.reduceAdd, Nat.reduceMul, Nat.reduceLT, Nat.reduceSub, Nat.reduceLeDiff, Nat.reduceEqDiff, Nat.reduceBneDiff, Int.reduceToNat, decide_eq_true_eq, decide_eq_false_iff_not, beq_iff_eq, Int.toNat_natCast, loopK_normal, loopK_exit, loopK_ret]
              exact ⟨_, [], rfl, ⟨⟨⟨rfl, rfl, rfl⟩, trivial⟩, trivial, by simp [rn, hpAt]⟩⟩
  · cases hg
end Go.Proofs.Ytmhmhgegdagjkaa
