import Derived.Test.YtmhmhgegdagjkaaKf
set_option linter.unusedVariables false
set_option linter.unusedSimpArgs false
namespace Go.Proofs.Ytmhmhgegdagjkaa
open Go.RowKit
set_option linter.unusedSimpArgs false
def trS (i : Nat) (p : Pk) : TrS := ⟨[(i, p)], [], []⟩
def atRows (l : List (Nat × Pk)) : List (List D) := l.map fun x => [D.v (.int .i64 (x.1 : Int))]
theorem atRows_len (l : List (Nat × Pk)) : (atRows l).length = l.length := by simp [atRows]
theorem atRows_get (l : List (Nat × Pk)) (k : Nat) (h : k < l.length) : (atRows l).getD k [] = [D.v (.int .i64 (l[k].1 : Int))] := by
  unfold atRows
  rw [List.getD_eq_getElem?_getD, List.getElem?_map, List.getElem?_eq_getElem h]; rfl
theorem atRows_one (l : List (Nat × Pk)) (x : Nat × Pk) : atRows l ++ [[D.v (.int .i64 (x.1 : Int))]] = atRows (l ++ [x]) := by simp [atRows]
theorem sndL_len (l : List (Nat × Pk)) : (sndL l).length = l.length := by simp [sndL]
theorem sndL_get (l : List (Nat × Pk)) (k : Nat) (h : k < l.length) : (pRows (sndL l)).getD k [] = pRow l[k].2 := by
  rw [pRows_get (sndL l) k (by rw [sndL_len]; exact h)]
  congr 1
  simp [sndL]
theorem sndL_one (l : List (Nat × Pk)) (x : Nat × Pk) : pRows (sndL l) ++ [pRow x.2] = pRows (sndL (l ++ [x])) := by simp [sndL, pRows]
theorem tr_in {net : List St} {p : Pk} (hp : p.ok = true) {i : Nat} (hi : i < net.length) : ∀ k, ∀ x ∈ (tvK net (trS i p) k).row, x.1 < net.length ∧ x.2.ok = true
  | 0, x, hx => by
    rw [tvK, trS, List.mem_singleton] at hx
    rw [hx]; exact ⟨hi, hp⟩
  | k + 1, x, hx => by
    by_cases hk : k < (tvK net (trS i p) k).row.length
    · have hm := tr_in hp hi k _ (List.getElem_mem hk)
      rw [tvK_step hk] at hx
      rcases tv_cases net (tvK net (trS i p) k) (net.getD ((tvK net (trS i p) k).row[k]).1 st0) ((tvK net (trS i p) k).row[k]).2 with c | ⟨ok, ⟨ht, c⟩ | ⟨k', n, hb, c⟩ | ⟨r, n, ht, hh, hl, hc, hs, c⟩⟩
      · rw [c] at hx; exact tr_in hp hi k x hx
      · rw [c] at hx; exact tr_in hp hi k x hx
      · rw [c] at hx; exact tr_in hp hi k x hx
      · rw [c] at hx
        rcases List.mem_append.1 hx with hx | hx
        · exact tr_in hp hi k x hx
        · obtain ⟨y, hy, rfl⟩ := List.mem_map.1 hx
          exact ⟨(seek_lt hs).1, (cut_mem hc hy).2⟩
    · rw [tvK, List.getElem?_eq_none (by omega)] at hx
      exact tr_in hp hi k x hx
theorem tr_len (net : List St) (S : TrS) : ∀ k, (tvK net S k).arr.length ≤ S.arr.length + k ∧ (tvK net S k).nts.length ≤ S.nts.length + k
  | 0 => ⟨Nat.le_refl _, Nat.le_refl _⟩
  | k + 1 => by
    have ih := tr_len net S k
    by_cases hk : k < (tvK net S k).row.length
    · rw [tvK_step hk]
      rcases tv_cases net (tvK net S k) (net.getD ((tvK net S k).row[k]).1 st0) ((tvK net S k).row[k]).2 with c | ⟨ok, ⟨ht, c⟩ | ⟨k', n, hb, c⟩ | ⟨r, n, ht, hh, hl, hc, hs, c⟩⟩
      · rw [c]; omega
      · rw [c]; simp only [List.length_append, List.length_singleton]; omega
      · rw [c]; simp only [List.length_append, List.length_singleton]; omega
      · rw [c]; dsimp only; omega
    · rw [tvK, List.getElem?_eq_none (by omega)]
      dsimp only; omega
theorem tr_row_le {net : List St} {S : TrS} {k : Nat} (h : k ≤ tvT net S) : (tvK net S k).row.length ≤ tvT net S := by
  obtain ⟨l, e⟩ := tvK_mono net S k (tvT net S - k)
  rw [show k + (tvT net S - k) = tvT net S from by omega] at e
  have h1 := (tvT_end net S).2.1
  rw [e, List.length_append] at h1
  omega
theorem tr_lt {net : List St} {S : TrS} {k : Nat} (h : k ≤ tvT net S) : k < (tvK net S k).row.length ↔ k < tvT net S :=
  ⟨fun h1 => Nat.lt_of_lt_of_le h1 (tr_row_le h), (tvT_end net S).2.2 k⟩
theorem tr_bd (net : List St) (i : Nat) {p : Pk} (hp : p.ok = true) : tvT net (trS i p) ≤ 12288 := by
  refine Nat.le_trans (tvT_end net (trS i p)).1 ?_
  have h := ok_h hp
  have e : todo (sndL (trS i p).row) = todoOf p := by simp [todo, sndL, trS]
  rw [e, todoOf]
  have h1 : max 1 p.d.length ≤ 48 := by omega
  have h2 : p.h.toNat + 1 ≤ 256 := by omega
  exact Nat.mul_le_mul h1 h2
def trB (net : List St) (n : Int) (p : Pk) : Bool := inNet net n && p.ok
def trV (net : List St) (n : Int) (p : Pk) : TrS := if trB net n p = true then tvK net (trS n.toNat p) (tvT net (trS n.toNat p)) else ⟨[], [], []⟩
def trN (net : List St) (n : Int) (p : Pk) : Nat := if trB net n p = true then tvT net (trS n.toNat p) else 0
def wB (b : Bool) : Nat := if b = true then 9 else 1
theorem tr_no {net : List St} {n : Int} {p : Pk} (h : trB net n p = false) : trV net n p = ⟨[], [], []⟩ ∧ trN net n p = 0 := ⟨if_neg (by rw [h]; decide), if_neg (by rw [h]; decide)⟩
theorem tr_yes {net : List St} {n : Int} {p : Pk} (h : trB net n p = true) : trV net n p = tvK net (trS n.toNat p) (tvT net (trS n.toNat p)) ∧ trN net n p = tvT net (trS n.toNat p) := ⟨if_pos h, if_pos h⟩
theorem one_here (net : List St) (R : List (Nat × Pk)) (A T : List Pk) {d : Dn} (h : d.k = 1) : tvOne net ⟨R, A, T⟩ d = ⟨R, A ++ d.ps, T⟩ := if_pos h
theorem one_note (net : List St) (R : List (Nat × Pk)) (A T : List Pk) {d : Dn} (h1 : ¬ d.k = 1) (h : d.k = 3) : tvOne net ⟨R, A, T⟩ d = ⟨R, A, T ++ d.ps⟩ := by rw [tvOne, if_neg h1, if_pos h]
theorem one_none (net : List St) (R : List (Nat × Pk)) (A T : List Pk) {d : Dn} (h1 : ¬ d.k = 1) (h3 : ¬ d.k = 3) (h : seek net d.v = none) : tvOne net ⟨R, A, T⟩ d = ⟨R, A, T⟩ := by rw [tvOne, if_neg h1, if_neg h3, h]
theorem one_on (net : List St) (R : List (Nat × Pk)) (A T : List Pk) {d : Dn} (h1 : ¬ d.k = 1) (h3 : ¬ d.k = 3) {n : Nat} (h : seek net d.v = some n) : tvOne net ⟨R, A, T⟩ d = ⟨R ++ d.ps.map fun q => (n, q), A, T⟩ := by rw [tvOne, if_neg h1, if_neg h3, h]
theorem fw_len (s : St) (p : Pk) : (fwV s p).ps.length ≤ 48 := by
  rcases fw_cases s p with e | ⟨hok, ⟨ht, e⟩ | ⟨k, n, hb, e⟩ | ⟨r, ht, hh, hl, hc, e⟩⟩
  · rw [e]; exact Nat.zero_le _
  · rw [e]; show 1 ≤ 48; omega
  · rw [e]; show 1 ≤ 48; omega
  · rw [e]
    show (cutL (lessH p) r.m).length ≤ 48
    have h1 := cut_cases hc
    have hd : p.d.length ≤ 48 := (ok_h hok.2).2
    obtain ⟨a1, a2, ⟨a3, e⟩ | ⟨a3, a4, a5, e⟩⟩ := h1
    · rw [e]; show 1 ≤ 48; omega
    · rw [e, piecesK_len]
      exact Nat.le_trans (pieceN_le (by omega)) hd
def g_travelW : PC := fun args => match args with
  | [.l _ rn', .v (.int .i64 n), .agg [.v (.int .i64 f), .v (.int .i64 t), .v (.int .i64 p), .v (.int .i64 h), .v (.int .i64 i), .v (.int .i64 a), .v (.bool m), .v (.bool u), .l _ rows]] => some ((∃ l, rn' = stRows l ∧ sMid l) ∧ ∃ xs, rows = rowsOfBytes xs ∧ xs.length ≤ 1048576, .agg [.l (wB (trB (stsOf rn') n ⟨f, t, p, h, i, a, m, u, bytesOfRows rows⟩)) (pRows (trV (stsOf rn') n ⟨f, t, p, h, i, a, m, u, bytesOfRows rows⟩).arr), .l (wB (trB (stsOf rn') n ⟨f, t, p, h, i, a, m, u, bytesOfRows rows⟩)) (pRows (trV (stsOf rn') n ⟨f, t, p, h, i, a, m, u, bytesOfRows rows⟩).nts), .v (.int .i64 (trN (stsOf rn') n ⟨f, t, p, h, i, a, m, u, bytesOfRows rows⟩ : Int))], [])
  | _ => none
def g_travelD : PC := fun args => match args with
  | [.l _ rn', .v (.int .i64 n), .agg [.v (.int .i64 f), .v (.int .i64 t), .v (.int .i64 p), .v (.int .i64 h), .v (.int .i64 i), .v (.int .i64 a), .v (.bool m), .v (.bool u), .l _ rows]] => some ((∃ l, rn' = stRows l ∧ sMid l) ∧ ∃ xs, rows = rowsOfBytes xs ∧ xs.length ≤ 1048576, .agg [.l 9 (pRows (trV (stsOf rn') n ⟨f, t, p, h, i, a, m, u, bytesOfRows rows⟩).arr), .l 9 (pRows (trV (stsOf rn') n ⟨f, t, p, h, i, a, m, u, bytesOfRows rows⟩).nts), .v (.int .i64 (trN (stsOf rn') n ⟨f, t, p, h, i, a, m, u, bytesOfRows rows⟩ : Int))], [])
  | _ => none
def tv1 : List (FuncId × Abs) := [(20, pureAbs g_netOk), (65, pureAbs g_packetOk), (42, pureAbs g_l1In), (89, ownAbs (ocOf g_fwdD)), (44, pureAbs g_seek)]
theorem tv1_ok : ∀ p ∈ tv1, CallOk Try.prog p.1 p.2 := by
  intro p hp
  simp only [tv1, List.mem_cons, List.not_mem_nil, or_false] at hp
  rcases hp with rfl | rfl | rfl | rfl | rfl
  · exact specNetOk_ok.call
  · exact specPacketOk_ok.call
  · exact l1In_ok.call
  · exact specForward_ok.call
  · exact specSeek_ok.call
set_option maxHeartbeats 8000000 in
set_option maxRecDepth 100000 in
theorem specTravelW_ok : OwnOk Try.prog 53 (ocOf g_travelW) := by
  refine OwnOk.of_vcD (G := tv1) tv1_ok mixed Try.func53 (by kernel_rfl) rfl ?_
  intro args cnd r bs hg hc
  unfold g_travelW at hg
  split at hg
  · rename_i sn rn' n f t p h i a m u sz rows
    cases hg
    obtain ⟨⟨l, rfl, hl, hd⟩, xs, rfl, hxl⟩ := hc
    rw [stsOf_rows, bytesOf_rows]
    refine ⟨⟨rfl, by simp [AV.ids, AV.ids.idsL]⟩, [.l 2 (stRows l), .v (.int .i64 n), .agg [.v (.int .i64 f), .v (.int .i64 t), .v (.int .i64 p), .v (.int .i64 h), .v (.int .i64 i), .v (.int .i64 a), .v (.bool m), .v (.bool u), (.l 1 (rowsOfBytes xs))]], rfl, fun w Z s vs h => CvL.ok (.cons (.l _ _ _ (stRows_w l)) (.cons (.refl _) (.cons (.cons (.refl _) (.cons (.refl _) (.cons (.refl _) (.cons (.refl _) (.cons (.refl _) (.cons (.refl _) (.cons (.refl _) (.cons (.refl _) (.cons (.l _ _ _ (rowsOf_w xs)) .nil))))))))) .nil))) h, ?_⟩
    have gone : trB l n ⟨f, t, p, h, i, a, m, u, xs⟩ = false → ∀ (w : Nat), w = wB (trB l n ⟨f, t, p, h, i, a, m, u, xs⟩) → (AV.agg [.l 1 [], .l 1 [], .v (.int .i64 0)] : AV) = .agg [.l w (pRows (trV l n ⟨f, t, p, h, i, a, m, u, xs⟩).arr), .l w (pRows (trV l n ⟨f, t, p, h, i, a, m, u, xs⟩).nts), .v (.int .i64 (trN l n ⟨f, t, p, h, i, a, m, u, xs⟩ : Int))] := fun h w hw => by
      rw [hw, (tr_no h).1, (tr_no h).2, h]; rfl
    have hll : IntKind.i64.wrap ((l.length : Int) - 1) = (l.length : Int) - 1 := wrap_id (by omega) (by omega)
    cases h0 : netB l with
    | false =>
      rw [← gone (by rw [trB, inNet, h0]; rfl) _ rfl]
      simp (maxSteps := 3000000) only [Try.f53, tv1, g_netOk, g_packetOk, g_l1In, g_fwdD, g_seek, ocOf, stsOf_rows, rtsOf_rows, bytesOf_rows, rowsOf_len, rtRows_len, stRows_len, pRows_len, atRows_len, sndL_len, h0, D.toI, dB, D.toB, D.toL, ↓reduceIte, Bool.false_eq_true, tYs, evL, implies_true, oMin, oCopy, oBin, oUn, oLoadKid, oStoreTree, oField, oExtract, oNil, oSliceQ, oLen, nodupB, treeOf, kidAbs, kidRows, TK.isCell, D.toL, oLoad, oStore, oMake, oIndexAddr, ↓reduceIte, reduceCtorEq, Nat.reduceBEq, Nat.reduceAdd, Nat.reduceMul, Nat.reduceLT, Nat.reduceSub, Nat.reduceLeDiff, Nat.reduceEqDiff, Nat.reduceBneDiff, Int.reduceToNat, decide_eq_true_eq, decide_eq_false_iff_not, beq_iff_eq, Int.toNat_natCast, loopK_normal, loopK_exit, loopK_ret, doneD_ret, doneD_normal]
      refine ⟨⟨l, rfl, hl, hd⟩, ?_⟩
      exact ⟨_, rfl, rfl⟩
    | true =>
      cases h1 : pkB f t p h i a m u xs.length with
      | false =>
        rw [← gone (by rw [trB, Pk.ok, h1, Bool.and_false]) _ rfl]
        simp (maxSteps := 3000000) only [Try.f53, tv1, g_netOk, g_packetOk, g_l1In, g_fwdD, g_seek, ocOf, stsOf_rows, rtsOf_rows, bytesOf_rows, rowsOf_len, rtRows_len, stRows_len, pRows_len, atRows_len, sndL_len, h0, h1, D.toI, dB, D.toB, D.toL, ↓reduceIte, Bool.false_eq_true, tYs, evL, implies_true, oMin, oCopy, oBin, oUn, oLoadKid, oStoreTree, oField, oExtract, oNil, oSliceQ, oLen, nodupB, treeOf, kidAbs, kidRows, TK.isCell, D.toL, oLoad, oStore, oMake, oIndexAddr, ↓reduceIte, reduceCtorEq, Nat.reduceBEq, Nat.reduceAdd, Nat.reduceMul, Nat.reduceLT, Nat.reduceSub, Nat.reduceLeDiff, Nat.reduceEqDiff, Nat.reduceBneDiff, Int.reduceToNat, decide_eq_true_eq, decide_eq_false_iff_not, beq_iff_eq, Int.toNat_natCast, loopK_normal, loopK_exit, loopK_ret, doneD_ret, doneD_normal]
        refine ⟨⟨l, rfl, hl, hd⟩, ?_⟩
        exact ⟨_, rfl, rfl⟩
      | true =>
        cases h2 : inZ n 0 ((l.length : Int) - 1) with
        | false =>
          have hi : inNet l n = false := by
            rw [inNet, h0, Bool.true_and, decide_eq_false_iff_not]
            rw [inZ, decide_eq_false_iff_not] at h2
            omega
          rw [← gone (by rw [trB, hi]; rfl) _ rfl]
          simp (maxSteps := 3000000) only [Try.f53, tv1, g_netOk, g_packetOk, g_l1In, g_fwdD, g_seek, ocOf, stsOf_rows, rtsOf_rows, bytesOf_rows, rowsOf_len, rtRows_len, stRows_len, pRows_len, atRows_len, sndL_len, h0, h1, h2, hll, D.toI, dB, D.toB, D.toL, ↓reduceIte, Bool.false_eq_true, tYs, evL, implies_true, oMin, oCopy, oBin, oUn, oLoadKid, oStoreTree, oField, oExtract, oNil, oSliceQ, oLen, nodupB, treeOf, kidAbs, kidRows, TK.isCell, D.toL, oLoad, oStore, oMake, oIndexAddr, ↓reduceIte, reduceCtorEq, Nat.reduceBEq, Nat.reduceAdd, Nat.reduceMul, Nat.reduceLT, Nat.reduceSub, Nat.reduceLeDiff, Nat.reduceEqDiff, Nat.reduceBneDiff, Int.reduceToNat, decide_eq_true_eq, decide_eq_false_iff_not, beq_iff_eq, Int.toNat_natCast, loopK_normal, loopK_exit, loopK_ret, doneD_ret, doneD_normal]
          refine ⟨⟨l, rfl, hl, hd⟩, ?_⟩
          exact ⟨_, rfl, rfl⟩
        | true =>
          have hn : 0 ≤ n ∧ n < (l.length : Int) := by
            rw [inZ, decide_eq_true_eq] at h2
            omega
          have hi : trB l n ⟨f, t, p, h, i, a, m, u, xs⟩ = true := by rw [trB, inNet, h0, decide_eq_true hn, Pk.ok, h1]; rfl
          obtain ⟨j, rfl⟩ : ∃ j : Nat, n = (j : Int) := ⟨n.toNat, by omega⟩
          have hok : Pk.ok ⟨f, t, p, h, i, a, m, u, xs⟩ = true := h1
          rw [(tr_yes hi).1, (tr_yes hi).2, hi, Int.toNat_natCast]
          obtain ⟨B, hB⟩ : ∃ B, B = tvT l (trS j ⟨f, t, p, h, i, a, m, u, xs⟩) := ⟨_, rfl⟩
          have hBb : B ≤ 12288 := by rw [hB]; exact tr_bd l j hok
          simp (maxSteps := 3000000) only [Try.f53, tv1, g_netOk, g_packetOk, g_l1In, g_fwdD, g_seek, ocOf, stsOf_rows, rtsOf_rows, bytesOf_rows, rowsOf_len, rtRows_len, stRows_len, pRows_len, atRows_len, sndL_len, h0, h1, h2, hll, D.toI, dB, D.toB, D.toL, ↓reduceIte, Bool.false_eq_true, tYs, evL, implies_true, oMin, oCopy, oBin, oUn, oLoadKid, oStoreTree, oField, oExtract, oNil, oSliceQ, oLen, nodupB, treeOf, kidAbs, kidRows, TK.isCell, D.toL, oLoad, oStore, oMake, oIndexAddr, ↓reduceIte, reduceCtorEq, Nat.reduceBEq, Nat.reduceAdd, Nat.reduceMul, Nat.reduceLT, Nat.reduceSub, Nat.reduceLeDiff, Nat.reduceEqDiff, Nat.reduceBneDiff, Int.reduceToNat, decide_eq_true_eq, decide_eq_false_iff_not, beq_iff_eq, Int.toNat_natCast, loopK_normal, loopK_exit, loopK_ret, doneD_ret, doneD_normal]
          refine ⟨⟨l, rfl, hl, hd⟩, ?_⟩
          refine e_loop _ _ _ _ _ _ _ _ (fun x : Nat × TrS => [.l 2 (stRows l), .any, .any, .any, .any, .any, .ptr 0 0, .ptr 1 0, .own 2, .own 3, .v (.int .i64 (x.1 : Int))] ++ List.replicate (Try.f53.ntmps - 11) .any) (fun x => [(0, .var 28 [.v (.slice none 0 0), .v (.slice none 0 0), .v (.int .i64 0)]), (1, .var 28 [.own 4, .own 5, .v (.int .i64 (x.1 : Int))]), (2, .sl 3 1 (atRows x.2.row)), (3, .sl 31 9 (pRows (sndL x.2.row))), (4, .sl 31 9 (pRows x.2.arr)), (5, .sl 31 9 (pRows x.2.nts))]) (fun x => x.1 ≤ tvT l (trS j ⟨f, t, p, h, i, a, m, u, xs⟩) ∧ x.2 = tvK l (trS j ⟨f, t, p, h, i, a, m, u, xs⟩) x.1) (fun x => tvT l (trS j ⟨f, t, p, h, i, a, m, u, xs⟩) - x.1) 6 (fun x => by simp) ?_ fun x hk' => ?_
          · exact ⟨(0, trS j ⟨f, t, p, h, i, a, m, u, xs⟩), [(0, some _), (1, some _), (2, some _), (3, some _), (4, none), (5, none)], ⟨Nat.zero_le _, rfl⟩, ⟨⟨⟨rfl, rfl, rfl⟩, trivial, trivial, trivial, trivial, trivial, ⟨rfl, rfl, rfl⟩, ⟨rfl, rfl, rfl⟩, ⟨rfl, rfl, rfl⟩, ⟨rfl, rfl, rfl⟩, ⟨rfl, rfl, rfl⟩, fitT_rep _ _ rfl⟩, ⟨.inl rfl, rfl, rfl, rfl, .inl rfl, rfl, rfl, rfl, .inl rfl, rfl, rfl, rfl, .inl rfl, rfl, rfl, rfl, ⟨by omega, rfl⟩, rfl, rfl, rfl, ⟨by omega, rfl⟩, rfl, rfl, rfl, trivial⟩, by simp [rn, hpAt]⟩, by simp [keepIds]⟩
          obtain ⟨k, R, A, T⟩ := x
          obtain ⟨hk1, hS⟩ := hk'
          dsimp only at hk1 hS
          have hlt := tr_lt hk1
          rw [← hS] at hlt
          dsimp only at hlt
          have w2 : IntKind.i64.wrap ((k : Int) + 1) = ((k + 1 : Nat) : Int) := wrap_id (by omega) (by omega)
          by_cases hk : k < R.length
          · have hkT := hlt.1 hk
            obtain ⟨si, q, hq⟩ : ∃ si q, R[k] = (si, q) := ⟨_, _, rfl⟩
            have hin : si < l.length ∧ q.ok = true := by
              have := tr_in hok (show j < l.length by omega) k R[k] (by rw [← hS]; exact List.getElem_mem hk)
              rw [hq] at this
              exact this
            have hst : tvK l (trS j ⟨f, t, p, h, i, a, m, u, xs⟩) (k + 1) = tvOne l ⟨R, A, T⟩ (fwV l[si] q) := by
              have h2 : k < (tvK l (trS j ⟨f, t, p, h, i, a, m, u, xs⟩) k).row.length := by rw [← hS]; exact hk
              rw [tvK_step h2]
              simp only [← hS, hq, st_get hin.1]
            have hrl := tr_row_le (net := l) (S := trS j ⟨f, t, p, h, i, a, m, u, xs⟩) (k := k) (by omega)
            have hrn := tr_row_le (net := l) (S := trS j ⟨f, t, p, h, i, a, m, u, xs⟩) (k := k + 1) (by omega)
            have hal := tr_len l (trS j ⟨f, t, p, h, i, a, m, u, xs⟩) k
            rw [← hS] at hrl hal
            have hal1 : A.length ≤ 0 + k := hal.1
            have hal2 : T.length ≤ 0 + k := hal.2
            rw [hst] at hrn
            have hrow := sndL_get R k hk
            have hat := atRows_get R k hk
            rw [hq] at hrow hat
            have hnet := stRows_get l si hin.1
            have hx := hd l[si] (List.getElem_mem hin.1)
            have hqb := ok_h hin.2
            have hg1 : ((k : Int) < (R.length : Int)) = True := eq_true (by omega)
            have hg2 : (0 ≤ (k : Int)) = True := eq_true (by omega)
            have hg3 : (0 ≤ (si : Int)) = True := eq_true (by omega)
            have hg4 : ((si : Int) < (l.length : Int)) = True := eq_true (by omega)
            have hfl := fw_len l[si] q
            obtain ⟨Y, hD⟩ : ∃ Y, Y = fwV l[si] q := ⟨_, rfl⟩
            have hD' : fwV ⟨l[si].a, l[si].rs⟩ ⟨q.f, q.t, q.p, q.h, q.i, q.a, q.m, q.u, q.d⟩ = Y := hD.symm
            rw [← hD] at hst hfl hrn
            simp (maxSteps := 3000000) only [Try.f53, tv1, g_netOk, g_packetOk, g_l1In, g_fwdD, g_seek, ocOf, stsOf_rows, rtsOf_rows, bytesOf_rows, rowsOf_len, rtRows_len, stRows_len, pRows_len, atRows_len, sndL_len, hrow, hat, hnet, hg1, hg2, hg3, hg4, w2, pRow, hD', D.toI, dB, D.toB, D.toL, ↓reduceIte, Bool.false_eq_true, tYs, evL, implies_true, oMin, oCopy, oBin, oUn, oLoadKid, oStoreTree, oField, oExtract, oNil, oSliceQ, oLen, nodupB, treeOf, kidAbs, kidRows, TK.isCell, D.toL, oLoad, oStore, oMake, oIndexAddr, ↓reduceIte, reduceCtorEq, Nat.reduceBEq, Nat.reduceAdd, Nat.reduceMul, Nat.reduceLT, Nat.reduceSub, Nat.reduceLeDiff, Nat.reduceEqDiff, Nat.reduceBneDiff, Int.reduceToNat, decide_eq_true_eq, decide_eq_false_iff_not, beq_iff_eq, Int.toNat_natCast, loopK_normal, loopK_exit, loopK_ret, doneD_ret, doneD_normal]
            refine ⟨hk, hk, ⟨⟨_, rfl, hx⟩, _, rfl, by omega⟩, by kernel_rfl, ⟨_, rfl, hl⟩, ?_⟩
            by_cases hk1 : Y.k = 1
            · have ka : (Y.k = 1) = True := eq_true hk1
              have kb : (Y.k == 1) = true := by simp [hk1]
              refine e_loop _ _ _ _ _ _ _ _ (fun c : Nat => [.l 2 (stRows l), .any, .any, .any, .any, .any, .ptr 0 0, .ptr 1 0, .own 2, .own 3, .v (.int .i64 (k : Int)), .ptr 6 0, .v (.int .i64 (seekI l Y.v)), .v (.int .i64 (c : Int))] ++ List.replicate (Try.f53.ntmps - 14) .any) (fun c => [(0, .var 28 [.v (.slice none 0 0), .v (.slice none 0 0), .v (.int .i64 0)]), (1, .var 28 [.own 4, .own 5, .v (.int .i64 ((k + 1 : Nat) : Int))]), (2, .sl 3 1 (atRows (R))), (3, .sl 31 9 (pRows (sndL (R)))), (4, .sl 31 9 (pRows (A ++ Y.ps.take c))), (5, .sl 31 9 (pRows (T))), (6, .var 69 [.v (.int .i64 Y.k), .v (.int .i64 Y.v), .l 9 (pRows Y.ps)])]) (fun c => c ≤ Y.ps.length) (fun c => Y.ps.length - c) 7 (fun c => by simp) ?_ fun c hc' => ?_
              · refine ⟨0, [(0, some 0), (1, some 1), (2, some 2), (3, some 3), (4, some 4), (5, some 5), (6, some 262)], Nat.zero_le _, ?_, by simp [keepIds]⟩
                try simp only [List.take_zero, List.append_nil, List.map_nil]
                exact ⟨⟨⟨rfl, rfl, rfl⟩, trivial, trivial, trivial, trivial, trivial, ⟨rfl, rfl, rfl⟩, ⟨rfl, rfl, rfl⟩, ⟨rfl, rfl, rfl⟩, ⟨rfl, rfl, rfl⟩, ⟨rfl, rfl, rfl⟩, ⟨rfl, rfl, rfl⟩, ⟨rfl, rfl, rfl⟩, ⟨rfl, rfl, rfl⟩, fitT_rep _ _ rfl⟩, ⟨.inl rfl, rfl, rfl, rfl, .inl rfl, rfl, rfl, rfl, .inl rfl, rfl, rfl, rfl, .inl rfl, rfl, rfl, rfl, .inl rfl, rfl, rfl, rfl, .inl rfl, rfl, rfl, rfl, .inl rfl, rfl, rfl, rfl, trivial⟩, by simp [rn, hpAt]⟩
              have w3 : IntKind.i64.wrap ((c : Int) + 1) = ((c + 1 : Nat) : Int) := wrap_id (by omega) (by omega)
              by_cases hc : c < Y.ps.length
              · have hrow2 := pRows_get Y.ps c hc
                have hc1 : ((c : Int) < (Y.ps.length : Int)) = True := eq_true (by omega)
                have hc2 : (0 ≤ (c : Int)) = True := eq_true (by omega)
                have eA : pRows (A ++ Y.ps.take c) ++ [pRow Y.ps[c]] = pRows (A ++ Y.ps.take (c + 1)) := by
                  rw [List.take_add_one, List.getElem?_eq_getElem hc, ← List.append_assoc, ← pRows_app (A ++ Y.ps.take c)]; rfl
                have eL : (A ++ Y.ps.take c).length = A.length + c := by rw [List.length_append, List.length_take]; omega
                rw [pRow] at eA
                simp (maxSteps := 3000000) only [Try.f53, tv1, g_netOk, g_packetOk, g_l1In, g_fwdD, g_seek, ocOf, stsOf_rows, rtsOf_rows, bytesOf_rows, rowsOf_len, rtRows_len, stRows_len, pRows_len, atRows_len, sndL_len, ka, kb, hrow2, hc1, hc2, w3, pRow, eA, eL, D.toI, dB, D.toB, D.toL, ↓reduceIte, Bool.false_eq_true, tYs, evL, implies_true, oMin, oCopy, oBin, oUn, oLoadKid, oStoreTree, oField, oExtract, oNil, oSliceQ, oLen, nodupB, treeOf, kidAbs, kidRows, TK.isCell, D.toL, oLoad, oStore, oMake, oIndexAddr, ↓reduceIte, reduceCtorEq, Nat.reduceBEq, Nat.reduceAdd, Nat.reduceMul, Nat.reduceLT, Nat.reduceSub, Nat.reduceLeDiff, Nat.reduceEqDiff, Nat.reduceBneDiff, Int.reduceToNat, decide_eq_true_eq, decide_eq_false_iff_not, beq_iff_eq, Int.toNat_natCast, loopK_normal, loopK_exit, loopK_ret, doneD_ret, doneD_normal]
                refine ⟨⟨by omega, by omega, by simp⟩, by kernel_rfl, ?_⟩
                exact ⟨c + 1, [(0, some 0), (1, some 1), (2, some _), (3, some _), (4, some _), (5, some _), (6, some _)], by omega, by omega, ⟨⟨⟨rfl, rfl, rfl⟩, trivial, trivial, trivial, trivial, trivial, ⟨rfl, rfl, rfl⟩, ⟨rfl, rfl, rfl⟩, ⟨rfl, rfl, rfl⟩, ⟨rfl, rfl, rfl⟩, ⟨rfl, rfl, rfl⟩, ⟨rfl, rfl, rfl⟩, ⟨rfl, rfl, rfl⟩, ⟨rfl, rfl, rfl⟩, fitT_rep _ _ rfl⟩, ⟨.inl rfl, rfl, rfl, rfl, .inl rfl, rfl, rfl, rfl, .inl rfl, rfl, rfl, rfl, .inl rfl, rfl, rfl, rfl, .inl rfl, rfl, rfl, rfl, .inl rfl, rfl, rfl, rfl, .inl rfl, rfl, rfl, rfl, trivial⟩, by simp [rn, hpAt]⟩, by simp [keepIds]⟩
              · have hc1 : ((c : Int) < (Y.ps.length : Int)) = False := eq_false (by omega)
                have hcl : c = Y.ps.length := by omega
                simp (maxSteps := 3000000) only [Try.f53, tv1, g_netOk, g_packetOk, g_l1In, g_fwdD, g_seek, ocOf, stsOf_rows, rtsOf_rows, bytesOf_rows, rowsOf_len, rtRows_len, stRows_len, pRows_len, atRows_len, sndL_len, ka, kb, hc1, w2, w3, D.toI, dB, D.toB, D.toL, ↓reduceIte, Bool.false_eq_true, tYs, evL, implies_true, oMin, oCopy, oBin, oUn, oLoadKid, oStoreTree, oField, oExtract, oNil, oSliceQ, oLen, nodupB, treeOf, kidAbs, kidRows, TK.isCell, D.toL, oLoad, oStore, oMake, oIndexAddr, ↓reduceIte, reduceCtorEq, Nat.reduceBEq, Nat.reduceAdd, Nat.reduceMul, Nat.reduceLT, Nat.reduceSub, Nat.reduceLeDiff, Nat.reduceEqDiff, Nat.reduceBneDiff, Int.reduceToNat, decide_eq_true_eq, decide_eq_false_iff_not, beq_iff_eq, Int.toNat_natCast, loopK_normal, loopK_exit, loopK_ret, doneD_ret, doneD_normal]
                exact ⟨(k + 1, ⟨R, A ++ Y.ps.take c, T⟩), [(0, some 0), (1, some 1), (2, some _), (3, some _), (4, some _), (5, some _)], ⟨by dsimp only; omega, by rw [hst, one_here _ _ _ _ hk1, List.take_of_length_le (by omega)]⟩, by dsimp only; omega, ⟨⟨⟨rfl, rfl, rfl⟩, trivial, trivial, trivial, trivial, trivial, ⟨rfl, rfl, rfl⟩, ⟨rfl, rfl, rfl⟩, ⟨rfl, rfl, rfl⟩, ⟨rfl, rfl, rfl⟩, ⟨rfl, rfl, rfl⟩, fitT_rep _ _ rfl⟩, ⟨.inl rfl, rfl, rfl, rfl, .inl rfl, rfl, rfl, rfl, .inl rfl, rfl, rfl, rfl, .inl rfl, rfl, rfl, rfl, .inl rfl, rfl, rfl, rfl, .inl rfl, rfl, rfl, rfl, trivial⟩, by simp [rn, hpAt]⟩, by simp [keepIds]⟩
            · have ka : (Y.k = 1) = False := eq_false hk1
              have kb : (Y.k == 1) = false := by simp [hk1]
              by_cases hk3 : Y.k = 3
              · have kc : (Y.k = 3) = True := eq_true hk3
                have kd : (Y.k == 3) = true := by simp [hk3]
                refine e_loop _ _ _ _ _ _ _ _ (fun c : Nat => [.l 2 (stRows l), .any, .any, .any, .any, .any, .ptr 0 0, .ptr 1 0, .own 2, .own 3, .v (.int .i64 (k : Int)), .ptr 6 0, .v (.int .i64 (seekI l Y.v)), .v (.int .i64 (c : Int))] ++ List.replicate (Try.f53.ntmps - 14) .any) (fun c => [(0, .var 28 [.v (.slice none 0 0), .v (.slice none 0 0), .v (.int .i64 0)]), (1, .var 28 [.own 4, .own 5, .v (.int .i64 ((k + 1 : Nat) : Int))]), (2, .sl 3 1 (atRows (R))), (3, .sl 31 9 (pRows (sndL (R)))), (4, .sl 31 9 (pRows (A))), (5, .sl 31 9 (pRows (T ++ Y.ps.take c))), (6, .var 69 [.v (.int .i64 Y.k), .v (.int .i64 Y.v), .l 9 (pRows Y.ps)])]) (fun c => c ≤ Y.ps.length) (fun c => Y.ps.length - c) 7 (fun c => by simp) ?_ fun c hc' => ?_
                · refine ⟨0, [(0, some 0), (1, some 1), (2, some 2), (3, some 3), (4, some 4), (5, some 5), (6, some 262)], Nat.zero_le _, ?_, by simp [keepIds]⟩
                  try simp only [List.take_zero, List.append_nil, List.map_nil]
                  exact ⟨⟨⟨rfl, rfl, rfl⟩, trivial, trivial, trivial, trivial, trivial, ⟨rfl, rfl, rfl⟩, ⟨rfl, rfl, rfl⟩, ⟨rfl, rfl, rfl⟩, ⟨rfl, rfl, rfl⟩, ⟨rfl, rfl, rfl⟩, ⟨rfl, rfl, rfl⟩, ⟨rfl, rfl, rfl⟩, ⟨rfl, rfl, rfl⟩, fitT_rep _ _ rfl⟩, ⟨.inl rfl, rfl, rfl, rfl, .inl rfl, rfl, rfl, rfl, .inl rfl, rfl, rfl, rfl, .inl rfl, rfl, rfl, rfl, .inl rfl, rfl, rfl, rfl, .inl rfl, rfl, rfl, rfl, .inl rfl, rfl, rfl, rfl, trivial⟩, by simp [rn, hpAt]⟩
                have w3 : IntKind.i64.wrap ((c : Int) + 1) = ((c + 1 : Nat) : Int) := wrap_id (by omega) (by omega)
                by_cases hc : c < Y.ps.length
                · have hrow2 := pRows_get Y.ps c hc
                  have hc1 : ((c : Int) < (Y.ps.length : Int)) = True := eq_true (by omega)
                  have hc2 : (0 ≤ (c : Int)) = True := eq_true (by omega)
                  have eA : pRows (T ++ Y.ps.take c) ++ [pRow Y.ps[c]] = pRows (T ++ Y.ps.take (c + 1)) := by
                    rw [List.take_add_one, List.getElem?_eq_getElem hc, ← List.append_assoc, ← pRows_app (T ++ Y.ps.take c)]; rfl
                  have eL : (T ++ Y.ps.take c).length = T.length + c := by rw [List.length_append, List.length_take]; omega
                  rw [pRow] at eA
                  simp (maxSteps := 3000000) only [Try.f53, tv1, g_netOk, g_packetOk, g_l1In, g_fwdD, g_seek, ocOf, stsOf_rows, rtsOf_rows, bytesOf_rows, rowsOf_len, rtRows_len, stRows_len, pRows_len, atRows_len, sndL_len, ka, kb, kc, kd, hrow2, hc1, hc2, w3, pRow, eA, eL, D.toI, dB, D.toB, D.toL, ↓reduceIte, Bool.false_eq_true, tYs, evL, implies_true, oMin, oCopy, oBin, oUn, oLoadKid, oStoreTree, oField, oExtract, oNil, oSliceQ, oLen, nodupB, treeOf, kidAbs, kidRows, TK.isCell, D.toL, oLoad, oStore, oMake, oIndexAddr, ↓reduceIte, reduceCtorEq, Nat.reduceBEq, Nat.reduceAdd, Nat.reduceMul, Nat.reduceLT, Nat.reduceSub, Nat.reduceLeDiff, Nat.reduceEqDiff, Nat.reduceBneDiff, Int.reduceToNat, decide_eq_true_eq, decide_eq_false_iff_not, beq_iff_eq, Int.toNat_natCast, loopK_normal, loopK_exit, loopK_ret, doneD_ret, doneD_normal]
                  refine ⟨⟨by omega, by omega, by simp⟩, by kernel_rfl, ?_⟩
                  exact ⟨c + 1, [(0, some 0), (1, some 1), (2, some _), (3, some _), (4, some _), (5, some _), (6, some _)], by omega, by omega, ⟨⟨⟨rfl, rfl, rfl⟩, trivial, trivial, trivial, trivial, trivial, ⟨rfl, rfl, rfl⟩, ⟨rfl, rfl, rfl⟩, ⟨rfl, rfl, rfl⟩, ⟨rfl, rfl, rfl⟩, ⟨rfl, rfl, rfl⟩, ⟨rfl, rfl, rfl⟩, ⟨rfl, rfl, rfl⟩, ⟨rfl, rfl, rfl⟩, fitT_rep _ _ rfl⟩, ⟨.inl rfl, rfl, rfl, rfl, .inl rfl, rfl, rfl, rfl, .inl rfl, rfl, rfl, rfl, .inl rfl, rfl, rfl, rfl, .inl rfl, rfl, rfl, rfl, .inl rfl, rfl, rfl, rfl, .inl rfl, rfl, rfl, rfl, trivial⟩, by simp [rn, hpAt]⟩, by simp [keepIds]⟩
                · have hc1 : ((c : Int) < (Y.ps.length : Int)) = False := eq_false (by omega)
                  have hcl : c = Y.ps.length := by omega
                  simp (maxSteps := 3000000) only [Try.f53, tv1, g_netOk, g_packetOk, g_l1In, g_fwdD, g_seek, ocOf, stsOf_rows, rtsOf_rows, bytesOf_rows, rowsOf_len, rtRows_len, stRows_len, pRows_len, atRows_len, sndL_len, ka, kb, kc, kd, hc1, w2, w3, D.toI, dB, D.toB, D.toL, ↓reduceIte, Bool.false_eq_true, tYs, evL, implies_true, oMin, oCopy, oBin, oUn, oLoadKid, oStoreTree, oField, oExtract, oNil, oSliceQ, oLen, nodupB, treeOf, kidAbs, kidRows, TK.isCell, D.toL, oLoad, oStore, oMake, oIndexAddr, ↓reduceIte, reduceCtorEq, Nat.reduceBEq, Nat.reduceAdd, Nat.reduceMul, Nat.reduceLT, Nat.reduceSub, Nat.reduceLeDiff, Nat.reduceEqDiff, Nat.reduceBneDiff, Int.reduceToNat, decide_eq_true_eq, decide_eq_false_iff_not, beq_iff_eq, Int.toNat_natCast, loopK_normal, loopK_exit, loopK_ret, doneD_ret, doneD_normal]
                  exact ⟨(k + 1, ⟨R, A, T ++ Y.ps.take c⟩), [(0, some 0), (1, some 1), (2, some _), (3, some _), (4, some _), (5, some _)], ⟨by dsimp only; omega, by rw [hst, one_note _ _ _ _ hk1 hk3, List.take_of_length_le (by omega)]⟩, by dsimp only; omega, ⟨⟨⟨rfl, rfl, rfl⟩, trivial, trivial, trivial, trivial, trivial, ⟨rfl, rfl, rfl⟩, ⟨rfl, rfl, rfl⟩, ⟨rfl, rfl, rfl⟩, ⟨rfl, rfl, rfl⟩, ⟨rfl, rfl, rfl⟩, fitT_rep _ _ rfl⟩, ⟨.inl rfl, rfl, rfl, rfl, .inl rfl, rfl, rfl, rfl, .inl rfl, rfl, rfl, rfl, .inl rfl, rfl, rfl, rfl, .inl rfl, rfl, rfl, rfl, .inl rfl, rfl, rfl, rfl, trivial⟩, by simp [rn, hpAt]⟩, by simp [keepIds]⟩
              · have kc : (Y.k = 3) = False := eq_false hk3
                have kd : (Y.k == 3) = false := by simp [hk3]
                by_cases hsk : seekI l Y.v ≥ 0
                · have ke : (seekI l Y.v ≥ 0) = True := eq_true hsk
                  obtain ⟨m0, hm0⟩ : ∃ m0, seek l Y.v = some m0 := by
                    cases hs : seek l Y.v with
                    | none => have := seek_neg.2 hs; omega
                    | some m0 => exact ⟨m0, rfl⟩
                  have hsv : seekI l Y.v = (m0 : Int) := seek_some hm0
                  rw [one_on _ _ _ _ hk1 hk3 hm0] at hrn hst
                  have hrn' : R.length + Y.ps.length ≤ tvT l (trS j ⟨f, t, p, h, i, a, m, u, xs⟩) := by
                    simpa using hrn
                  refine e_loop _ _ _ _ _ _ _ _ (fun c : Nat => [.l 2 (stRows l), .any, .any, .any, .any, .any, .ptr 0 0, .ptr 1 0, .own 2, .own 3, .v (.int .i64 (k : Int)), .ptr 6 0, .v (.int .i64 (seekI l Y.v)), .v (.int .i64 (c : Int))] ++ List.replicate (Try.f53.ntmps - 14) .any) (fun c => [(0, .var 28 [.v (.slice none 0 0), .v (.slice none 0 0), .v (.int .i64 0)]), (1, .var 28 [.own 4, .own 5, .v (.int .i64 ((k + 1 : Nat) : Int))]), (2, .sl 3 1 (atRows (R ++ (Y.ps.take c).map fun q => (m0, q)))), (3, .sl 31 9 (pRows (sndL (R ++ (Y.ps.take c).map fun q => (m0, q))))), (4, .sl 31 9 (pRows (A))), (5, .sl 31 9 (pRows (T))), (6, .var 69 [.v (.int .i64 Y.k), .v (.int .i64 Y.v), .l 9 (pRows Y.ps)])]) (fun c => c ≤ Y.ps.length) (fun c => Y.ps.length - c) 7 (fun c => by simp) ?_ fun c hc' => ?_
                  · refine ⟨0, [(0, some 0), (1, some 1), (2, some 2), (3, some 3), (4, some 4), (5, some 5), (6, some 262)], Nat.zero_le _, ?_, by simp [keepIds]⟩
                    try simp only [List.take_zero, List.append_nil, List.map_nil]
                    exact ⟨⟨⟨rfl, rfl, rfl⟩, trivial, trivial, trivial, trivial, trivial, ⟨rfl, rfl, rfl⟩, ⟨rfl, rfl, rfl⟩, ⟨rfl, rfl, rfl⟩, ⟨rfl, rfl, rfl⟩, ⟨rfl, rfl, rfl⟩, ⟨rfl, rfl, rfl⟩, ⟨rfl, rfl, rfl⟩, ⟨rfl, rfl, rfl⟩, fitT_rep _ _ rfl⟩, ⟨.inl rfl, rfl, rfl, rfl, .inl rfl, rfl, rfl, rfl, .inl rfl, rfl, rfl, rfl, .inl rfl, rfl, rfl, rfl, .inl rfl, rfl, rfl, rfl, .inl rfl, rfl, rfl, rfl, .inl rfl, rfl, rfl, rfl, trivial⟩, by simp [rn, hpAt]⟩
                  have w3 : IntKind.i64.wrap ((c : Int) + 1) = ((c + 1 : Nat) : Int) := wrap_id (by omega) (by omega)
                  by_cases hc : c < Y.ps.length
                  · have hrow2 := pRows_get Y.ps c hc
                    have hc1 : ((c : Int) < (Y.ps.length : Int)) = True := eq_true (by omega)
                    have hc2 : (0 ≤ (c : Int)) = True := eq_true (by omega)
                    have e0 : (R ++ (Y.ps.take c).map fun q => (m0, q)) ++ [(m0, Y.ps[c])] = R ++ (Y.ps.take (c + 1)).map fun q => (m0, q) := by
                      rw [List.take_add_one, List.getElem?_eq_getElem hc, List.append_assoc, List.map_append]; rfl
                    have eA : pRows (sndL (R ++ (Y.ps.take c).map fun q => (m0, q))) ++ [pRow Y.ps[c]] = pRows (sndL (R ++ (Y.ps.take (c + 1)).map fun q => (m0, q))) := by
                      rw [← e0]; exact sndL_one _ (m0, Y.ps[c])
                    have eB : atRows (R ++ (Y.ps.take c).map fun q => (m0, q)) ++ [[D.v (.int .i64 (seekI l Y.v))]] = atRows (R ++ (Y.ps.take (c + 1)).map fun q => (m0, q)) := by
                      rw [← e0, hsv]; exact atRows_one _ (m0, Y.ps[c])
                    have eL : (R ++ (Y.ps.take c).map fun q => (m0, q)).length = R.length + c := by rw [List.length_append, List.length_map, List.length_take]; omega
                    rw [pRow] at eA
                    simp (maxSteps := 3000000) only [Try.f53, tv1, g_netOk, g_packetOk, g_l1In, g_fwdD, g_seek, ocOf, stsOf_rows, rtsOf_rows, bytesOf_rows, rowsOf_len, rtRows_len, stRows_len, pRows_len, atRows_len, sndL_len, ka, kb, kc, kd, ke, hrow2, hc1, hc2, w3, pRow, eA, eB, eL, D.toI, dB, D.toB, D.toL, ↓reduceIte, Bool.false_eq_true, tYs, evL, implies_true, oMin, oCopy, oBin, oUn, oLoadKid, oStoreTree, oField, oExtract, oNil, oSliceQ, oLen, nodupB, treeOf, kidAbs, kidRows, TK.isCell, D.toL, oLoad, oStore, oMake, oIndexAddr, ↓reduceIte, reduceCtorEq, Nat.reduceBEq, Nat.reduceAdd, Nat.reduceMul, Nat.reduceLT, Nat.reduceSub, Nat.reduceLeDiff, Nat.reduceEqDiff, Nat.reduceBneDiff, Int.reduceToNat, decide_eq_true_eq, decide_eq_false_iff_not, beq_iff_eq, Int.toNat_natCast, loopK_normal, loopK_exit, loopK_ret, doneD_ret, doneD_normal]
                    refine ⟨⟨by omega, by omega, by simp⟩, ⟨by omega, by omega, by simp⟩, ?_⟩
                    exact ⟨c + 1, [(0, some 0), (1, some 1), (2, some _), (3, some _), (4, some _), (5, some _), (6, some _)], by omega, by omega, ⟨⟨⟨rfl, rfl, rfl⟩, trivial, trivial, trivial, trivial, trivial, ⟨rfl, rfl, rfl⟩, ⟨rfl, rfl, rfl⟩, ⟨rfl, rfl, rfl⟩, ⟨rfl, rfl, rfl⟩, ⟨rfl, rfl, rfl⟩, ⟨rfl, rfl, rfl⟩, ⟨rfl, rfl, rfl⟩, ⟨rfl, rfl, rfl⟩, fitT_rep _ _ rfl⟩, ⟨.inl rfl, rfl, rfl, rfl, .inl rfl, rfl, rfl, rfl, .inl rfl, rfl, rfl, rfl, .inl rfl, rfl, rfl, rfl, .inl rfl, rfl, rfl, rfl, .inl rfl, rfl, rfl, rfl, .inl rfl, rfl, rfl, rfl, trivial⟩, by simp [rn, hpAt]⟩, by simp [keepIds]⟩
                  · have hc1 : ((c : Int) < (Y.ps.length : Int)) = False := eq_false (by omega)
                    have hcl : c = Y.ps.length := by omega
                    simp (maxSteps := 3000000) only [Try.f53, tv1, g_netOk, g_packetOk, g_l1In, g_fwdD, g_seek, ocOf, stsOf_rows, rtsOf_rows, bytesOf_rows, rowsOf_len, rtRows_len, stRows_len, pRows_len, atRows_len, sndL_len, ka, kb, kc, kd, ke, hc1, w2, w3, D.toI, dB, D.toB, D.toL, ↓reduceIte, Bool.false_eq_true, tYs, evL, implies_true, oMin, oCopy, oBin, oUn, oLoadKid, oStoreTree, oField, oExtract, oNil, oSliceQ, oLen, nodupB, treeOf, kidAbs, kidRows, TK.isCell, D.toL, oLoad, oStore, oMake, oIndexAddr, ↓reduceIte, reduceCtorEq, Nat.reduceBEq, Nat.reduceAdd, Nat.reduceMul, Nat.reduceLT, Nat.reduceSub, Nat.reduceLeDiff, Nat.reduceEqDiff, Nat.reduceBneDiff, Int.reduceToNat, decide_eq_true_eq, decide_eq_false_iff_not, beq_iff_eq, Int.toNat_natCast, loopK_normal, loopK_exit, loopK_ret, doneD_ret, doneD_normal]
                    exact ⟨(k + 1, ⟨R ++ (Y.ps.take c).map fun q => (m0, q), A, T⟩), [(0, some 0), (1, some 1), (2, some _), (3, some _), (4, some _), (5, some _)], ⟨by dsimp only; omega, by rw [hst, List.take_of_length_le (by omega)]⟩, by dsimp only; omega, ⟨⟨⟨rfl, rfl, rfl⟩, trivial, trivial, trivial, trivial, trivial, ⟨rfl, rfl, rfl⟩, ⟨rfl, rfl, rfl⟩, ⟨rfl, rfl, rfl⟩, ⟨rfl, rfl, rfl⟩, ⟨rfl, rfl, rfl⟩, fitT_rep _ _ rfl⟩, ⟨.inl rfl, rfl, rfl, rfl, .inl rfl, rfl, rfl, rfl, .inl rfl, rfl, rfl, rfl, .inl rfl, rfl, rfl, rfl, .inl rfl, rfl, rfl, rfl, .inl rfl, rfl, rfl, rfl, trivial⟩, by simp [rn, hpAt]⟩, by simp [keepIds]⟩
                · have ke : (seekI l Y.v ≥ 0) = False := eq_false hsk
                  have hm0 : seek l Y.v = none := seek_neg.1 (by omega)
                  rw [one_none _ _ _ _ hk1 hk3 hm0] at hst
                  refine e_loop _ _ _ _ _ _ _ _ (fun c : Nat => [.l 2 (stRows l), .any, .any, .any, .any, .any, .ptr 0 0, .ptr 1 0, .own 2, .own 3, .v (.int .i64 (k : Int)), .ptr 6 0, .v (.int .i64 (seekI l Y.v)), .v (.int .i64 (c : Int))] ++ List.replicate (Try.f53.ntmps - 14) .any) (fun c => [(0, .var 28 [.v (.slice none 0 0), .v (.slice none 0 0), .v (.int .i64 0)]), (1, .var 28 [.own 4, .own 5, .v (.int .i64 ((k + 1 : Nat) : Int))]), (2, .sl 3 1 (atRows (R))), (3, .sl 31 9 (pRows (sndL (R)))), (4, .sl 31 9 (pRows (A))), (5, .sl 31 9 (pRows (T))), (6, .var 69 [.v (.int .i64 Y.k), .v (.int .i64 Y.v), .l 9 (pRows Y.ps)])]) (fun c => c ≤ Y.ps.length) (fun c => Y.ps.length - c) 7 (fun c => by simp) ?_ fun c hc' => ?_
                  · refine ⟨0, [(0, some 0), (1, some 1), (2, some 2), (3, some 3), (4, some 4), (5, some 5), (6, some 262)], Nat.zero_le _, ?_, by simp [keepIds]⟩
                    try simp only [List.take_zero, List.append_nil, List.map_nil]
                    exact ⟨⟨⟨rfl, rfl, rfl⟩, trivial, trivial, trivial, trivial, trivial, ⟨rfl, rfl, rfl⟩, ⟨rfl, rfl, rfl⟩, ⟨rfl, rfl, rfl⟩, ⟨rfl, rfl, rfl⟩, ⟨rfl, rfl, rfl⟩, ⟨rfl, rfl, rfl⟩, ⟨rfl, rfl, rfl⟩, ⟨rfl, rfl, rfl⟩, fitT_rep _ _ rfl⟩, ⟨.inl rfl, rfl, rfl, rfl, .inl rfl, rfl, rfl, rfl, .inl rfl, rfl, rfl, rfl, .inl rfl, rfl, rfl, rfl, .inl rfl, rfl, rfl, rfl, .inl rfl, rfl, rfl, rfl, .inl rfl, rfl, rfl, rfl, trivial⟩, by simp [rn, hpAt]⟩
                  have w3 : IntKind.i64.wrap ((c : Int) + 1) = ((c + 1 : Nat) : Int) := wrap_id (by omega) (by omega)
                  by_cases hc : c < Y.ps.length
                  · have hrow2 := pRows_get Y.ps c hc
                    have hc1 : ((c : Int) < (Y.ps.length : Int)) = True := eq_true (by omega)
                    have hc2 : (0 ≤ (c : Int)) = True := eq_true (by omega)
                    simp (maxSteps := 3000000) only [Try.f53, tv1, g_netOk, g_packetOk, g_l1In, g_fwdD, g_seek, ocOf, stsOf_rows, rtsOf_rows, bytesOf_rows, rowsOf_len, rtRows_len, stRows_len, pRows_len, atRows_len, sndL_len, ka, kb, kc, kd, ke, hrow2, hc1, hc2, w3, pRow, D.toI, dB, D.toB, D.toL, ↓reduceIte, Bool.false_eq_true, tYs, evL, implies_true, oMin, oCopy, oBin, oUn, oLoadKid, oStoreTree, oField, oExtract, oNil, oSliceQ, oLen, nodupB, treeOf, kidAbs, kidRows, TK.isCell, D.toL, oLoad, oStore, oMake, oIndexAddr, ↓reduceIte, reduceCtorEq, Nat.reduceBEq, Nat.reduceAdd, Nat.reduceMul, Nat.reduceLT, Nat.reduceSub, Nat.reduceLeDiff, Nat.reduceEqDiff, Nat.reduceBneDiff, Int.reduceToNat, decide_eq_true_eq, decide_eq_false_iff_not, beq_iff_eq, Int.toNat_natCast, loopK_normal, loopK_exit, loopK_ret, doneD_ret, doneD_normal]
                    exact ⟨c + 1, [(0, some 0), (1, some 1), (2, some _), (3, some _), (4, some _), (5, some _), (6, some _)], by omega, by omega, ⟨⟨⟨rfl, rfl, rfl⟩, trivial, trivial, trivial, trivial, trivial, ⟨rfl, rfl, rfl⟩, ⟨rfl, rfl, rfl⟩, ⟨rfl, rfl, rfl⟩, ⟨rfl, rfl, rfl⟩, ⟨rfl, rfl, rfl⟩, ⟨rfl, rfl, rfl⟩, ⟨rfl, rfl, rfl⟩, ⟨rfl, rfl, rfl⟩, fitT_rep _ _ rfl⟩, ⟨.inl rfl, rfl, rfl, rfl, .inl rfl, rfl, rfl, rfl, .inl rfl, rfl, rfl, rfl, .inl rfl, rfl, rfl, rfl, .inl rfl, rfl, rfl, rfl, .inl rfl, rfl, rfl, rfl, .inl rfl, rfl, rfl, rfl, trivial⟩, by simp [rn, hpAt]⟩, by simp [keepIds]⟩
                  · have hc1 : ((c : Int) < (Y.ps.length : Int)) = False := eq_false (by omega)
                    have hcl : c = Y.ps.length := by omega
                    simp (maxSteps := 3000000) only [Try.f53, tv1, g_netOk, g_packetOk, g_l1In, g_fwdD, g_seek, ocOf, stsOf_rows, rtsOf_rows, bytesOf_rows, rowsOf_len, rtRows_len, stRows_len, pRows_len, atRows_len, sndL_len, ka, kb, kc, kd, ke, hc1, w2, w3, D.toI, dB, D.toB, D.toL, ↓reduceIte, Bool.false_eq_true, tYs, evL, implies_true, oMin, oCopy, oBin, oUn, oLoadKid, oStoreTree, oField, oExtract, oNil, oSliceQ, oLen, nodupB, treeOf, kidAbs, kidRows, TK.isCell, D.toL, oLoad, oStore, oMake, oIndexAddr, ↓reduceIte, reduceCtorEq, Nat.reduceBEq, Nat.reduceAdd, Nat.reduceMul, Nat.reduceLT, Nat.reduceSub, Nat.reduceLeDiff, Nat.reduceEqDiff, Nat.reduceBneDiff, Int.reduceToNat, decide_eq_true_eq, decide_eq_false_iff_not, beq_iff_eq, Int.toNat_natCast, loopK_normal, loopK_exit, loopK_ret, doneD_ret, doneD_normal]
                    exact ⟨(k + 1, ⟨R, A, T⟩), [(0, some 0), (1, some 1), (2, some _), (3, some _), (4, some _), (5, some _)], ⟨by dsimp only; omega, by rw [hst]⟩, by dsimp only; omega, ⟨⟨⟨rfl, rfl, rfl⟩, trivial, trivial, trivial, trivial, trivial, ⟨rfl, rfl, rfl⟩, ⟨rfl, rfl, rfl⟩, ⟨rfl, rfl, rfl⟩, ⟨rfl, rfl, rfl⟩, ⟨rfl, rfl, rfl⟩, fitT_rep _ _ rfl⟩, ⟨.inl rfl, rfl, rfl, rfl, .inl rfl, rfl, rfl, rfl, .inl rfl, rfl, rfl, rfl, .inl rfl, rfl, rfl, rfl, .inl rfl, rfl, rfl, rfl, .inl rfl, rfl, rfl, rfl, trivial⟩, by simp [rn, hpAt]⟩, by simp [keepIds]⟩
          · have hg1 : ((k : Int) < (R.length : Int)) = False := eq_false (by omega)
            have hkT : k = tvT l (trS j ⟨f, t, p, h, i, a, m, u, xs⟩) := by omega
            rw [← hkT, ← hS]
            simp (maxSteps := 3000000) only [Try.f53, tv1, g_netOk, g_packetOk, g_l1In, g_fwdD, g_seek, ocOf, stsOf_rows, rtsOf_rows, bytesOf_rows, rowsOf_len, rtRows_len, stRows_len, pRows_len, atRows_len, sndL_len, hg1, w2, D.toI, dB, D.toB, D.toL, ↓reduceIte, Bool.false_eq_true, tYs, evL, implies_true, oMin, oCopy, oBin, oUn, oLoadKid, oStoreTree, oField, oExtract, oNil, oSliceQ, oLen, nodupB, treeOf, kidAbs, kidRows, TK.isCell, D.toL, oLoad, oStore, oMake, oIndexAddr, ↓reduceIte, reduceCtorEq, Nat.reduceBEq, Nat.reduceAdd, Nat.reduceMul, Nat.reduceLT, Nat.reduceSub, Nat.reduceLeDiff, Nat.reduceEqDiff, Nat.reduceBneDiff, Int.reduceToNat, decide_eq_true_eq, decide_eq_false_iff_not, beq_iff_eq, Int.toNat_natCast, loopK_normal, loopK_exit, loopK_ret, doneD_ret, doneD_normal]
            exact ⟨_, rfl, rfl⟩
  · cases hg
end Go.Proofs.Ytmhmhgegdagjkaa
