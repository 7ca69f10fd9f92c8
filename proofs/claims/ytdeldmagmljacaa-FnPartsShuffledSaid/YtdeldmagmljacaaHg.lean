import Derived.Test.YtdeldmagmljacaaHc
namespace Go.Proofs.Ytdeldmagmljacaa
open Go.RowKit
set_option linter.unusedSimpArgs false
set_option linter.unusedVariables false

/-! an order that is drawn -/
def ordK (xs : List UInt8) (q : Int) : Nat → List Nat
  | 0 => []
  | k + 1 => (ordK xs q k).take (pickV xs (q + (k : Int)) ((k : Int) + 1)).toNat ++ [k] ++ (ordK xs q k).drop (pickV xs (q + (k : Int)) ((k : Int) + 1)).toNat
theorem ordK_len (xs : List UInt8) (q : Int) : ∀ k, (ordK xs q k).length = k
  | 0 => rfl
  | k + 1 => by
    have := ordK_len xs q k
    rw [ordK, List.length_append, List.length_append, List.length_take, List.length_drop]
    simp only [List.length_cons, List.length_nil]
    omega
theorem mem_cut {α : Type} (l : List α) (n : Nat) (x y : α) : x ∈ l.take n ++ [y] ++ l.drop n ↔ x ∈ l ∨ x = y := by
  conv => rhs; rw [← List.take_append_drop n l]
  simp only [List.mem_append, List.mem_singleton]
  constructor
  · rintro ((h | h) | h)
    · exact .inl (.inl h)
    · exact .inr h
    · exact .inl (.inr h)
  · rintro ((h | h) | h)
    · exact .inl (.inl h)
    · exact .inr h
    · exact .inl (.inr h)
theorem ordK_mem (xs : List UInt8) (q : Int) : ∀ k x, x ∈ ordK xs q k ↔ x < k
  | 0, x => by simp [ordK]
  | k + 1, x => by
    rw [ordK, mem_cut, ordK_mem xs q k x]; omega
theorem ordK_nodup (xs : List UInt8) (q : Int) : ∀ k, (ordK xs q k).Nodup
  | 0 => List.nodup_nil
  | k + 1 => by
    have h := ordK_nodup xs q k
    have hk : k ∉ ordK xs q k := fun hm => by have := (ordK_mem xs q k k).1 hm; omega
    rw [ordK]
    have hs : (ordK xs q k).take (pickV xs (q + (k : Int)) ((k : Int) + 1)).toNat ++ (ordK xs q k).drop (pickV xs (q + (k : Int)) ((k : Int) + 1)).toNat = ordK xs q k := List.take_append_drop _ _
    have hp : ((ordK xs q k).take (pickV xs (q + (k : Int)) ((k : Int) + 1)).toNat ++ [k] ++ (ordK xs q k).drop (pickV xs (q + (k : Int)) ((k : Int) + 1)).toNat).Perm (k :: ordK xs q k) := by
      conv => rhs; rw [← hs]
      rw [List.append_assoc]
      exact List.perm_middle
    exact hp.nodup_iff.2 (List.nodup_cons.2 ⟨hk, h⟩)
/-- the order with some of them twice -/
def twK (xs : List UInt8) (o : List Nat) (q : Int) : Nat → List Nat × Int
  | 0 => ([], q)
  | k + 1 => if k + 1 < o.length then (if pickV xs (twK xs o q k).2 3 = 0 then ((twK xs o q k).1 ++ [o.getD k 0] ++ [o.getD (pickV xs ((twK xs o q k).2 + 1) ((k : Int) + 1)).toNat 0], (twK xs o q k).2 + 1 + 1) else ((twK xs o q k).1 ++ [o.getD k 0], (twK xs o q k).2 + 1)) else ((twK xs o q k).1 ++ [o.getD k 0], (twK xs o q k).2)
theorem twK_pos (xs : List UInt8) (o : List Nat) (q : Int) : ∀ k : Nat, q ≤ (twK xs o q k).2 ∧ (twK xs o q k).2 ≤ q + 2 * (k : Int) ∧ k ≤ (twK xs o q k).1.length ∧ (twK xs o q k).1.length ≤ 2 * k
  | 0 => by simp [twK]
  | k + 1 => by
    have := twK_pos xs o q k
    rw [twK]
    repeat' split
    all_goals (simp only [List.length_append, List.length_cons, List.length_nil]; omega)
theorem twK_mem (xs : List UInt8) (o : List Nat) (q : Int) (hq : q < 1000000000) : ∀ k, k ≤ o.length → k ≤ 1000 → ∀ x, x ∈ (twK xs o q k).1 ↔ x ∈ o.take k
  | 0, _, _, x => by simp [twK]
  | k + 1, hk, h1000, x => by
    have ih := twK_mem xs o q hq k (by omega) (by omega) x
    have hp := twK_pos xs o q k
    have hg : o.getD k 0 = o[k]'(by omega) := by rw [List.getD_eq_getElem?_getD, List.getElem?_eq_getElem (by omega)]; rfl
    have ht : x ∈ o.take (k + 1) ↔ x ∈ o.take k ∨ x = o[k]'(by omega) := by
      rw [List.take_add_one, List.getElem?_eq_getElem (by omega), List.mem_append]; simp
    rw [twK, ht]
    split
    · split
      · have a0 := pickV_nonneg xs ((twK xs o q k).2 + 1) ((k : Int) + 1) (by omega)
        have a1 := pickV_lt xs ((twK xs o q k).2 + 1) ((k : Int) + 1) (by omega)
        obtain ⟨i, hi⟩ : ∃ i, (pickV xs ((twK xs o q k).2 + 1) ((k : Int) + 1)).toNat = i := ⟨_, rfl⟩
        have hik : i ≤ k := by omega
        rw [hi, hg, List.mem_append, List.mem_append, ih, List.mem_singleton, List.mem_singleton]
        have hgi : o.getD i 0 = o[i]'(by omega) := by rw [List.getD_eq_getElem?_getD, List.getElem?_eq_getElem (by omega)]; rfl
        rw [hgi]
        constructor
        · rintro ((h | h) | h)
          · exact .inl h
          · exact .inr h
          · by_cases e : i = k
            · subst e; exact .inr h
            · rw [h]
              exact .inl (List.mem_take_iff_getElem.2 ⟨i, by omega, rfl⟩)
        · rintro (h | h)
          · exact .inl (.inl h)
          · exact .inl (.inr h)
      · rw [hg, List.mem_append, ih, List.mem_singleton]
    · rw [hg, List.mem_append, ih, List.mem_singleton]
/-- each comes, and the last one at the end alone -/
theorem tw_last (xs : List UInt8) (q q2 : Int) (hq2 : q2 < 1000000000) (n : Nat) (h0 : 0 < n) (hn : n ≤ 1000) : ∃ (T : List Nat) (z : Nat), (twK xs (ordK xs q n) q2 n).1 = T ++ [z] ∧ z < n ∧ z ∉ T ∧ (∀ i ∈ T, i < n) ∧ ∀ i, i < n → i ∈ T ++ [z] := by
  obtain ⟨m, rfl⟩ : ∃ m, n = m + 1 := ⟨n - 1, by omega⟩
  have hl := ordK_len xs q (m + 1)
  have hnd := ordK_nodup xs q (m + 1)
  have hme := ordK_mem xs q (m + 1)
  generalize ordK xs q (m + 1) = o at hl hnd hme
  have hg : o.getD m 0 = o[m]'(by omega) := by rw [List.getD_eq_getElem?_getD, List.getElem?_eq_getElem (by omega)]; rfl
  have hT := twK_mem xs o q2 hq2 m (by omega) (by omega)
  have ho : o.take m ++ [o[m]'(by omega)] = o := by
    have : o.take (m + 1) = o.take m ++ [o[m]'(by omega)] := by rw [List.take_add_one, List.getElem?_eq_getElem (by omega)]; rfl
    rw [← this, List.take_of_length_le (by omega)]
  refine ⟨(twK xs o q2 m).1, o[m]'(by omega), ?_, (hme _).1 (List.getElem_mem _), fun h => ?_, fun i hi => ?_, fun i hi => ?_⟩
  · rw [twK, if_neg (by omega), hg]
  · rw [hT] at h
    rw [← ho] at hnd
    have := (List.nodup_append.1 hnd).2.2 _ h _ (List.mem_singleton.2 rfl)
    exact this rfl
  · rw [hT] at hi
    exact (hme _).1 (List.mem_of_mem_take hi)
  · have := (hme i).2 hi
    rw [← ho] at this
    rcases List.mem_append.1 this with h | h
    · exact List.mem_append.2 (.inl ((hT i).2 h))
    · exact List.mem_append.2 (.inr h)

/-! numbers in a list -/
def nRow (n : Nat) : List D := [.v (.int .i64 (n : Int))]
def nRows (l : List Nat) : List (List D) := l.map nRow
theorem nRows_len (l : List Nat) : (nRows l).length = l.length := by simp [nRows]
theorem nRows_w (l : List Nat) : ∀ r ∈ nRows l, r.length = 1 := fun r hr => by
  obtain ⟨e, _, rfl⟩ := List.mem_map.1 hr
  rfl
theorem nRows_get (l : List Nat) (k : Nat) (h : k < l.length) : (nRows l).getD k [] = nRow l[k] := by
  unfold nRows
  rw [List.getD_eq_getElem?_getD, List.getElem?_map, List.getElem?_eq_getElem h]; rfl
theorem nRows_take (l : List Nat) (k : Nat) : (nRows l).take k = nRows (l.take k) := by simp [nRows, List.map_take]
theorem nRows_drop (l : List Nat) (k : Nat) : (nRows l).drop k = nRows (l.drop k) := by simp [nRows, List.map_drop]
theorem nRows_app (a b : List Nat) : nRows a ++ nRows b = nRows (a ++ b) := by simp [nRows]
def shL (xs : List UInt8) : Int := 1 + pickV xs (lnV xs 0).q 8
def shC (xs : List UInt8) : List Pk := cutL (pvK (lnV xs 0)) (shL xs)
def shQ (xs : List UInt8) : Int := (lnV xs 0).q + 1
def shT (xs : List UInt8) : List Nat := (twK xs (ordK xs (shQ xs) (shC xs).length) (shQ xs + ((shC xs).length : Int)) (shC xs).length).1
theorem shB (xs : List UInt8) : cutB (pvK (lnV xs 0)) (shL xs) = true := by
  have h1 := lnV_ok xs 0 (by omega)
  have h2 := lnV_q xs 0 (by omega)
  have k0 := pickV_nonneg xs (lnV xs 0).q 8 (by omega)
  have k1 := pickV_lt xs (lnV xs 0).q 8 (by omega)
  obtain ⟨n, hn⟩ : ∃ n : Nat, shL xs = (n : Int) := ⟨(shL xs).toNat, by unfold shL; omega⟩
  have hn2 : 1 ≤ n ∧ n ≤ 8 := by unfold shL at hn; omega
  rw [hn, cutB, h1, Int.toNat_natCast, decide_eq_true (p := 1 ≤ (n : Int) ∧ (n : Int) ≤ 48) (by omega)]
  have hd : ((pvK (lnV xs 0)).d.length - 1) / n * n ≤ (pvK (lnV xs 0)).d.length - 1 := Nat.div_mul_le_self _ _
  have hdl : (pvK (lnV xs 0)).d.length ≤ 21 := h2.2.2.2
  have ha : (pvK (lnV xs 0)).a = 0 := rfl
  have hu : (pvK (lnV xs 0)).u = false := rfl
  rw [hu, ha, decide_eq_true (p := (0 : Int) + ((((pvK (lnV xs 0)).d.length - 1) / n * n : Nat) : Int) ≤ 255) (by omega)]
  simp
theorem shC_bd (xs : List UInt8) : (0 < (shC xs).length ∧ (shC xs).length ≤ 48) ∧ ∀ y ∈ shC xs, y.d.length ≤ 48 :=
  ⟨⟨cut_pos (shB xs), (cut_len _ _).1⟩, (cut_len _ _).2⟩
def g_drawSh : PC := fun args => match args with
  | [.l _ rows] => some (∃ xs, rows = rowsOfBytes xs, .tup [.agg [.v (.int .i64 (lnV ((bytesOfRows rows).take 2000) 0).f), .v (.int .i64 (lnV ((bytesOfRows rows).take 2000) 0).t), .v (.int .i64 (lnV ((bytesOfRows rows).take 2000) 0).pr), .v (.int .i64 (lnV ((bytesOfRows rows).take 2000) 0).h), .v (.int .i64 (lnV ((bytesOfRows rows).take 2000) 0).i), .v (.int .i64 (lnV ((bytesOfRows rows).take 2000) 0).a), .v (.bool (lnV ((bytesOfRows rows).take 2000) 0).m), .v (.bool (lnV ((bytesOfRows rows).take 2000) 0).u), .l 1 (rowsOfBytes (lnV ((bytesOfRows rows).take 2000) 0).d)], .v (.int .i64 (shL ((bytesOfRows rows).take 2000))), .l 1 (nRows (shT ((bytesOfRows rows).take 2000)))], [])
  | _ => none
def dsh : List (FuncId × Abs) := [(38, ownAbs g_open), (41, ownAbs g_long), (40, ownAbs g_pick), (13, ownAbs (ocOf g_sPacketCut))]
theorem dsh_ok : ∀ p ∈ dsh, CallOk Try.prog p.1 p.2 := by
  intro p hp
  simp only [dsh, List.mem_cons, List.not_mem_nil, or_false] at hp
  rcases hp with rfl | rfl | rfl | rfl
  · exact open_ok.call
  · exact long_ok.call
  · exact pick_ok.call
  · exact specPacketCut_ok.call
set_option maxHeartbeats 8000000 in
set_option maxRecDepth 100000 in
theorem drawShuffled_ok : OwnOk Try.prog 36 (ocOf g_drawSh) := by
  refine OwnOk.of_vcD (G := dsh) dsh_ok mixed Try.func36 (by kernel_rfl) rfl ?_
  intro args cnd r bs hg hc
  unfold g_drawSh at hg
  split at hg
  · rename_i sz rows
    cases hg
    obtain ⟨xs, rfl⟩ := hc
    rw [bytesOf_rows]
    have hx : (∃ ys, rowsOfBytes (List.take 2000 xs) = rowsOfBytes ys ∧ ys.length ≤ 2000) = True := eq_true ⟨_, rfl, by rw [List.length_take]; omega⟩
    obtain ⟨ys, hys⟩ : ∃ ys, ys = List.take 2000 xs := ⟨_, rfl⟩
    rw [← hys] at hx ⊢
    have hb := lnV_q ys 0 (by omega)
    have hok := shB ys
    have hcb := shC_bd ys
    have hC0 : shC ys = cutL (pvK (lnV ys 0)) (shL ys) := rfl
    have hT0 : shT ys = (twK ys (ordK ys (shQ ys) (shC ys).length) (shQ ys + ((shC ys).length : Int)) (shC ys).length).1 := rfl
    have hl0 : shL ys = 1 + pickV ys (lnV ys 0).q 8 := rfl
    have hS1 : shQ ys = (lnV ys 0).q + 1 := rfl
    obtain ⟨V, hV⟩ : ∃ V, lnV ys 0 = V := ⟨_, rfl⟩
    obtain ⟨C, hC⟩ : ∃ C, shC ys = C := ⟨_, rfl⟩
    obtain ⟨l, hl⟩ : ∃ l, shL ys = l := ⟨_, rfl⟩
    rw [hV] at hb hC0 hS1 hl0 hok
    rw [hC] at hC0 hcb hT0
    rw [hl] at hC0 hl0 hok
    have hC' := hC0.symm
    obtain ⟨q, hq⟩ : ∃ q, V.q + 1 = q := ⟨_, rfl⟩
    rw [hS1, hq] at hT0
    rw [hl, hT0]
    have a0 := pickV_nonneg ys V.q 8 (by omega)
    have a1 := pickV_lt ys V.q 8 (by omega)
    have hX : (⟨V.f, V.t, V.pr, V.h, V.i, V.a, V.m, V.u, V.d⟩ : Pk) = pvK V := rfl
    have w1 : IntKind.i64.wrap (1 + pickV ys V.q 8) = l := by rw [hl0, wrap_id (by omega) (by omega)]
    have hC1 := hcb.1.1
    have hC2 := hcb.1.2
    have hq0 : 0 ≤ q ∧ q < 1000 := by omega
    refine ⟨⟨rfl, by simp [AV.ids, AV.ids.idsL]⟩, [.l 1 (rowsOfBytes xs)], rfl, fun w Z s vs h => CvL.ok (.cons (.l _ _ _ (rowsOf_w xs)) .nil) h, ?_⟩
    simp (maxSteps := 3000000) only [Try.f36, dsh, g_open, g_long, g_pick, ocOf, g_sPacketCut, bytesOf_rows, rowsOf_len, hx, ← hys, hV, hX, hC', w1, hq, tY2, tY3, tY4, tY5, tY9, tY12, tY21, tY22, tY23, tY24, tY27, tY35, tY36, tY47, tY55, tY83, tY84, tY97, tY106, Try.underlying2, Try.underlying3, Try.underlying4, Try.underlying5, Try.underlying9, Try.underlying12, Try.underlying21, Try.underlying22, Try.underlying23, Try.underlying24, Try.underlying27, Try.underlying35, Try.underlying36, Try.underlying47, Try.underlying55, Try.underlying83, Try.underlying84, Try.underlying97, Try.underlying106, e_skip, e_label, e_ret, e_exit, e_seq, e_cond, e_block, e_region, seqK_normal, seqK_ret, seqK_exit, blkK_normal, blkK_ret, blkK_exit, condK_some, regK_true, regK_false, e_nil, e_cons, gateK_go, gateK_skip, gateK_ask, pickK_some, exK_some, x_pick, x_move, x_assign, x_alloc, x_box, x_build, x_buildSlice, x_load, x_store, x_binOp, x_unOp, x_convert, x_makeSlice, x_slice, x_fieldAddr, x_field, x_indexAddr, x_extract, x_nilCheck, x_call, x_len, x_append, x_min, oMin, x_copy, oCopy, eqAVs, callK_some, done_ret, done_normal, doneO_ret, doneO_normal, endsO_one, endsO_nil, endsO_more, ownAbs, frzAbs, leafs, leafs.leafsL, uniq, idxOf, bk, zipB, Blk.liveB, gate_none, gate_some, gateS_none, gateS_some, gateV_bool, gateV_undef, boolOf, evA, putT, refn, fpD, oBin, oUn, upsl, upl, up, ups, lk, dstsOf, resL, resA, packA, oLoadQ, oLoadKid, oStoreQ, oStoreTree, oBuildSliceQ, oBuildTree, oAppendQ, oAppendTree, isTr, isTrP, tkd, tkds, tkRows, ownOf, nodupB, deadL, treeOf, kidAbs, kidBlk, kidRows, TK.isCell, D.toL, oLoad, oStore, oAlloc, oBox, oBuild, oBuildSlice, oMake, oAppend, oIndexAddr, oFieldAddr, oField, oExtract, oNil, oSlice, oLen, oConvert, rowLoad, fillA, fillR, slB, dk, dks, dkRows, frz, loOf, hiOf, lenOf, rowsOf, nilV, lenV, putAt, views, viewsOk, CK.av, CK.ok, AV.cells, AV.one, Value.oneCell', Value.cells, pureAbs, nrm, nrm.nrmL, hpAt, sh, AV.ren, AV.ren.renL, Blk.ren, fpOf, footO, foot, blkIds, AV.ids, AV.ids.idsL, Op.operands, Call.operands, List.find?_cons, List.find?_nil, Nat.reduceBEq, beq_self_eq_true, List.map_cons, List.map_nil, List.getD_cons_zero, List.getD_cons_succ, List.getD_nil, List.set_cons_zero, List.set_cons_succ, List.length_cons, List.length_nil, List.replicate, List.cons_append, List.nil_append, List.append_nil, List.getElem?_cons_zero, List.getElem?_cons_succ, List.getElem?_toArray, List.getElem?_nil, List.take_zero, List.take_succ_cons, List.take_nil, List.drop_zero, List.drop_succ_cons, List.drop_nil, List.headD_cons, List.tail_cons, List.flatten_cons, List.flatten_nil, List.flatMap_cons, List.flatMap_nil, List.toList_toArray, Array.toList_append, Option.bind_some, Option.map_some, Option.map_none, Option.isSome_some, List.all_nil, List.all_cons, Bool.and_self, Bool.and_true, Bool.true_and, true_and, and_true, ↓reduceIte, List.size_toArray, Bool.false_eq_true, Bool.true_eq_false, false_implies, true_implies, Bool.not_true, Bool.not_false, and_self, implies_true, decide_true, decide_false, Nat.reduceAdd, Nat.reduceMul, Nat.reduceLT, Nat.reduceSub, Nat.reduceLeDiff, Nat.reduceEqDiff, eq_self, ne_eq, not_false_eq_true, false_and, and_false, reduceCtorEq, List.filter_nil, List.filter_cons, List.isEmpty_nil, List.isEmpty_cons, bne_self_eq_false, Nat.reduceBneDiff, Nat.lt_add_one, Nat.zero_lt_succ, List.append_assoc, Nat.zero_le, and_self_iff, Int.reduceToNat, List.any_nil, List.any_cons, List.filterMap_nil, List.filterMap_cons, List.contains_nil, List.contains_cons, Bool.or_false, Bool.false_or, Bool.or_true, Bool.true_or, Bool.false_and, Bool.and_false, decide_eq_true_eq, decide_eq_false_iff_not, beq_iff_eq, Int.toNat_natCast, doneD_ret, doneD_normal]
    refine ⟨⟨_, rfl⟩, by omega, by omega, ⟨_, rfl, by omega⟩, ?_⟩
    refine e_loop _ _ _ _ _ _ _ _ (fun k : Nat => [.any, .any, .ptr 0 0, .any, .any, .ptr 1 0, .ptr 2 0, .v (.int .i64 l), .l 9 (pRows C), .any, .own 3, .v (.int .i64 (k : Int))] ++ List.replicate (Try.f36.ntmps - 12) .any) (fun k => [(0, .var 24 [.v (.int .i64 0), .v (.int .i64 0), .v (.int .i64 0), .v (.int .i64 0), .v (.int .i64 0), .v (.int .i64 0), .v (.bool false), .v (.bool false), .v (.slice none 0 0)]), (1, .var 84 [.l 1 (rowsOfBytes ys), .v (.int .i64 (q + (k : Int)))]), (2, .var 24 [.v (.int .i64 V.f), .v (.int .i64 V.t), .v (.int .i64 V.pr), .v (.int .i64 V.h), .v (.int .i64 V.i), .v (.int .i64 V.a), .v (.bool V.m), .v (.bool V.u), .l 1 (rowsOfBytes V.d)]), (3, .sl 3 1 (nRows (ordK ys q k)))]) (fun k => k ≤ C.length) (fun k => C.length - k) 4 (fun k => by simp) ?_ fun k hk' => ?_
    · exact ⟨0, [(0, some _), (1, some _), (2, some _), (3, some _)], Nat.zero_le _, ⟨⟨trivial, trivial, ⟨rfl, rfl, rfl⟩, trivial, trivial, ⟨rfl, rfl, rfl⟩, ⟨rfl, rfl, rfl⟩, ⟨rfl, rfl, rfl⟩, ⟨rfl, rfl, rfl⟩, trivial, ⟨rfl, rfl, rfl⟩, ⟨rfl, rfl, rfl⟩, fitT_rep _ _ rfl⟩, ⟨.inl rfl, rfl, rfl, rfl, .inl (by rw [show q + ((0 : Nat) : Int) = q from by omega]; rfl), rfl, rfl, rfl, .inl rfl, rfl, rfl, rfl, .inl rfl, rfl, rfl, rfl, trivial⟩, by simp [rn, hpAt]⟩, by simp [keepIds]⟩
    have w2 : IntKind.i64.wrap ((k : Int) + 1) = ((k + 1 : Nat) : Int) := by rw [wrap_id] <;> omega
    have hol := ordK_len ys q k
    by_cases hk : k < C.length
    · have hlt : ((k : Int) < (C.length : Int)) = True := eq_true (by omega)
      have b0 := pickV_nonneg ys (q + (k : Int)) ((k : Int) + 1) (by omega)
      have b1 := pickV_lt ys (q + (k : Int)) ((k : Int) + 1) (by omega)
      have hst : ordK ys q (k + 1) = (ordK ys q k).take (pickV ys (q + (k : Int)) ((k : Int) + 1)).toNat ++ [k] ++ (ordK ys q k).drop (pickV ys (q + (k : Int)) ((k : Int) + 1)).toNat := rfl
      obtain ⟨i, hi⟩ : ∃ i : Nat, pickV ys (q + (k : Int)) ((k : Int) + 1) = (i : Int) := ⟨(pickV ys (q + (k : Int)) ((k : Int) + 1)).toNat, by omega⟩
      have hi' : pickV ys (q + (k : Int)) ((k + 1 : Nat) : Int) = (i : Int) := hi
      rw [hi, Int.toNat_natCast] at hst
      rw [hi] at b0 b1
      have qn : q + (k : Int) + 1 = q + ((k + 1 : Nat) : Int) := by omega
      have e1 : nRows ((ordK ys q k).take i) ++ [[D.v (.int .i64 (k : Int))]] = nRows ((ordK ys q k).take i ++ [k]) := nRows_app _ [k]
      have e2 : nRows ((ordK ys q k).take i ++ [k]) ++ nRows ((ordK ys q k).drop i) = nRows (ordK ys q (k + 1)) := by rw [nRows_app, ← hst]
      have htk : (ordK ys q k).take k = ordK ys q k := List.take_of_length_le (by omega)
      have l1 : ((ordK ys q k).take i).length ≤ k := by rw [List.length_take]; omega
      have l2 : ((ordK ys q k).drop i).length ≤ k := by rw [List.length_drop]; omega
      have l3 : ((ordK ys q k).take i ++ [k]).length ≤ k + 1 := by rw [List.length_append]; simp only [List.length_cons, List.length_nil]; omega
      simp (maxSteps := 3000000) only [Try.f36, dsh, g_open, g_long, g_pick, ocOf, g_sPacketCut, ← hys, hlt, w2, hol, hi, hi', qn, htk, e1, e2, bytesOf_rows, rowsOf_len, pRows_len, nRows_len, nRows_take, nRows_drop, hx, tY2, tY3, tY4, tY5, tY9, tY12, tY21, tY22, tY23, tY24, tY27, tY35, tY36, tY47, tY55, tY83, tY84, tY97, tY106, Try.underlying2, Try.underlying3, Try.underlying4, Try.underlying5, Try.underlying9, Try.underlying12, Try.underlying21, Try.underlying22, Try.underlying23, Try.underlying24, Try.underlying27, Try.underlying35, Try.underlying36, Try.underlying47, Try.underlying55, Try.underlying83, Try.underlying84, Try.underlying97, Try.underlying106, e_skip, e_label, e_ret, e_exit, e_seq, e_cond, e_block, e_region, seqK_normal, seqK_ret, seqK_exit, blkK_normal, blkK_ret, blkK_exit, condK_some, regK_true, regK_false, e_nil, e_cons, gateK_go, gateK_skip, gateK_ask, pickK_some, exK_some, x_pick, x_move, x_assign, x_alloc, x_box, x_build, x_buildSlice, x_load, x_store, x_binOp, x_unOp, x_convert, x_makeSlice, x_slice, x_fieldAddr, x_field, x_indexAddr, x_extract, x_nilCheck, x_call, x_len, x_append, x_min, oMin, x_copy, oCopy, eqAVs, callK_some, done_ret, done_normal, doneO_ret, doneO_normal, endsO_one, endsO_nil, endsO_more, ownAbs, frzAbs, leafs, leafs.leafsL, uniq, idxOf, bk, zipB, Blk.liveB, gate_none, gate_some, gateS_none, gateS_some, gateV_bool, gateV_undef, boolOf, evA, putT, refn, fpD, oBin, oUn, upsl, upl, up, ups, lk, dstsOf, resL, resA, packA, oLoadQ, oLoadKid, oStoreQ, oStoreTree, oBuildSliceQ, oBuildTree, oAppendQ, oAppendTree, isTr, isTrP, tkd, tkds, tkRows, ownOf, nodupB, deadL, treeOf, kidAbs, kidBlk, kidRows, TK.isCell, D.toL, oLoad, oStore, oAlloc, oBox, oBuild, oBuildSlice, oMake, oAppend, oIndexAddr, oFieldAddr, oField, oExtract, oNil, oSlice, oLen, oConvert, rowLoad, fillA, fillR, slB, dk, dks, dkRows, frz, loOf, hiOf, lenOf, rowsOf, nilV, lenV, putAt, views, viewsOk, CK.av, CK.ok, AV.cells, AV.one, Value.oneCell', Value.cells, pureAbs, nrm, nrm.nrmL, hpAt, sh, AV.ren, AV.ren.renL, Blk.ren, fpOf, footO, foot, blkIds, AV.ids, AV.ids.idsL, Op.operands, Call.operands, List.find?_cons, List.find?_nil, Nat.reduceBEq, beq_self_eq_true, List.map_cons, List.map_nil, List.getD_cons_zero, List.getD_cons_succ, List.getD_nil, List.set_cons_zero, List.set_cons_succ, List.length_cons, List.length_nil, List.replicate, List.cons_append, List.nil_append, List.append_nil, List.getElem?_cons_zero, List.getElem?_cons_succ, List.getElem?_toArray, List.getElem?_nil, List.take_zero, List.take_succ_cons, List.take_nil, List.drop_zero, List.drop_succ_cons, List.drop_nil, List.headD_cons, List.tail_cons, List.flatten_cons, List.flatten_nil, List.flatMap_cons, List.flatMap_nil, List.toList_toArray, Array.toList_append, Option.bind_some, Option.map_some, Option.map_none, Option.isSome_some, List.all_nil, List.all_cons, Bool.and_self, Bool.and_true, Bool.true_and, true_and, and_true, ↓reduceIte, List.size_toArray, Bool.false_eq_true, Bool.true_eq_false, false_implies, true_implies, Bool.not_true, Bool.not_false, and_self, implies_true, decide_true, decide_false, Nat.reduceAdd, Nat.reduceMul, Nat.reduceLT, Nat.reduceSub, Nat.reduceLeDiff, Nat.reduceEqDiff, eq_self, ne_eq, not_false_eq_true, false_and, and_false, reduceCtorEq, List.filter_nil, List.filter_cons, List.isEmpty_nil, List.isEmpty_cons, bne_self_eq_false, Nat.reduceBneDiff, Nat.lt_add_one, Nat.zero_lt_succ, List.append_assoc, Nat.zero_le, and_self_iff, Int.reduceToNat, List.any_nil, List.any_cons, List.filterMap_nil, List.filterMap_cons, List.contains_nil, List.contains_cons, Bool.or_false, Bool.false_or, Bool.or_true, Bool.true_or, Bool.false_and, Bool.and_false, decide_eq_true_eq, decide_eq_false_iff_not, beq_iff_eq, Int.toNat_natCast, loopK_normal, loopK_exit, loopK_ret, doneD_ret, doneD_normal]
      exact ⟨⟨by omega, by omega⟩, ⟨by omega, by omega⟩, ⟨by omega, by omega, nRows_w _⟩, ⟨by omega, by omega, by simp⟩, ⟨by omega, by omega⟩, ⟨by omega, by omega, nRows_w _⟩, by kernel_rfl, k + 1, [(0, some 0), (1, some 1), (2, some 2), (3, some _)], by omega, by omega, ⟨⟨trivial, trivial, ⟨rfl, rfl, rfl⟩, trivial, trivial, ⟨rfl, rfl, rfl⟩, ⟨rfl, rfl, rfl⟩, ⟨rfl, rfl, rfl⟩, ⟨rfl, rfl, rfl⟩, trivial, ⟨rfl, rfl, rfl⟩, ⟨rfl, rfl, rfl⟩, fitT_rep _ _ rfl⟩, ⟨.inl rfl, rfl, rfl, rfl, .inl rfl, rfl, rfl, rfl, .inl rfl, rfl, rfl, rfl, .inl rfl, rfl, rfl, rfl, trivial⟩, by simp [rn, hpAt]⟩, by simp [keepIds]⟩
    · have hlt : ((k : Int) < (C.length : Int)) = False := eq_false (by omega)
      obtain rfl : k = C.length := by omega
      simp (maxSteps := 3000000) only [Try.f36, dsh, g_open, g_long, g_pick, ocOf, g_sPacketCut, hlt, bytesOf_rows, rowsOf_len, pRows_len, nRows_len, nRows_take, nRows_drop, hx, tY2, tY3, tY4, tY5, tY9, tY12, tY21, tY22, tY23, tY24, tY27, tY35, tY36, tY47, tY55, tY83, tY84, tY97, tY106, Try.underlying2, Try.underlying3, Try.underlying4, Try.underlying5, Try.underlying9, Try.underlying12, Try.underlying21, Try.underlying22, Try.underlying23, Try.underlying24, Try.underlying27, Try.underlying35, Try.underlying36, Try.underlying47, Try.underlying55, Try.underlying83, Try.underlying84, Try.underlying97, Try.underlying106, e_skip, e_label, e_ret, e_exit, e_seq, e_cond, e_block, e_region, seqK_normal, seqK_ret, seqK_exit, blkK_normal, blkK_ret, blkK_exit, condK_some, regK_true, regK_false, e_nil, e_cons, gateK_go, gateK_skip, gateK_ask, pickK_some, exK_some, x_pick, x_move, x_assign, x_alloc, x_box, x_build, x_buildSlice, x_load, x_store, x_binOp, x_unOp, x_convert, x_makeSlice, x_slice, x_fieldAddr, x_field, x_indexAddr, x_extract, x_nilCheck, x_call, x_len, x_append, x_min, oMin, x_copy, oCopy, eqAVs, callK_some, done_ret, done_normal, doneO_ret, doneO_normal, endsO_one, endsO_nil, endsO_more, ownAbs, frzAbs, leafs, leafs.leafsL, uniq, idxOf, bk, zipB, Blk.liveB, gate_none, gate_some, gateS_none, gateS_some, gateV_bool, gateV_undef, boolOf, evA, putT, refn, fpD, oBin, oUn, upsl, upl, up, ups, lk, dstsOf, resL, resA, packA, oLoadQ, oLoadKid, oStoreQ, oStoreTree, oBuildSliceQ, oBuildTree, oAppendQ, oAppendTree, isTr, isTrP, tkd, tkds, tkRows, ownOf, nodupB, deadL, treeOf, kidAbs, kidBlk, kidRows, TK.isCell, D.toL, oLoad, oStore, oAlloc, oBox, oBuild, oBuildSlice, oMake, oAppend, oIndexAddr, oFieldAddr, oField, oExtract, oNil, oSlice, oLen, oConvert, rowLoad, fillA, fillR, slB, dk, dks, dkRows, frz, loOf, hiOf, lenOf, rowsOf, nilV, lenV, putAt, views, viewsOk, CK.av, CK.ok, AV.cells, AV.one, Value.oneCell', Value.cells, pureAbs, nrm, nrm.nrmL, hpAt, sh, AV.ren, AV.ren.renL, Blk.ren, fpOf, footO, foot, blkIds, AV.ids, AV.ids.idsL, Op.operands, Call.operands, List.find?_cons, List.find?_nil, Nat.reduceBEq, beq_self_eq_true, List.map_cons, List.map_nil, List.getD_cons_zero, List.getD_cons_succ, List.getD_nil, List.set_cons_zero, List.set_cons_succ, List.length_cons, List.length_nil, List.replicate, List.cons_append, List.nil_append, List.append_nil, List.getElem?_cons_zero, List.getElem?_cons_succ, List.getElem?_toArray, List.getElem?_nil, List.take_zero, List.take_succ_cons, List.take_nil, List.drop_zero, List.drop_succ_cons, List.drop_nil, List.headD_cons, List.tail_cons, List.flatten_cons, List.flatten_nil, List.flatMap_cons, List.flatMap_nil, List.toList_toArray, Array.toList_append, Option.bind_some, Option.map_some, Option.map_none, Option.isSome_some, List.all_nil, List.all_cons, Bool.and_self, Bool.and_true, Bool.true_and, true_and, and_true, ↓reduceIte, List.size_toArray, Bool.false_eq_true, Bool.true_eq_false, false_implies, true_implies, Bool.not_true, Bool.not_false, and_self, implies_true, decide_true, decide_false, Nat.reduceAdd, Nat.reduceMul, Nat.reduceLT, Nat.reduceSub, Nat.reduceLeDiff, Nat.reduceEqDiff, eq_self, ne_eq, not_false_eq_true, false_and, and_false, reduceCtorEq, List.filter_nil, List.filter_cons, List.isEmpty_nil, List.isEmpty_cons, bne_self_eq_false, Nat.reduceBneDiff, Nat.lt_add_one, Nat.zero_lt_succ, List.append_assoc, Nat.zero_le, and_self_iff, Int.reduceToNat, List.any_nil, List.any_cons, List.filterMap_nil, List.filterMap_cons, List.contains_nil, List.contains_cons, Bool.or_false, Bool.false_or, Bool.or_true, Bool.true_or, Bool.false_and, Bool.and_false, decide_eq_true_eq, decide_eq_false_iff_not, beq_iff_eq, Int.toNat_natCast, loopK_normal, loopK_exit, loopK_ret, doneD_ret, doneD_normal]
      obtain ⟨o, ho⟩ : ∃ o, ordK ys q C.length = o := ⟨_, rfl⟩
      rw [ho] at hol ⊢
      refine e_loop _ _ _ _ _ _ _ _ (fun k : Nat => [.any, .any, .ptr 0 0, .any, .any, .ptr 1 0, .ptr 2 0, .v (.int .i64 l), .any, .any, .own 3, .any, .any, .own 4, .v (.int .i64 (k : Int))] ++ List.replicate (Try.f36.ntmps - 15) .any) (fun k => [(0, .var 24 [.v (.int .i64 0), .v (.int .i64 0), .v (.int .i64 0), .v (.int .i64 0), .v (.int .i64 0), .v (.int .i64 0), .v (.bool false), .v (.bool false), .v (.slice none 0 0)]), (1, .var 84 [.l 1 (rowsOfBytes ys), .v (.int .i64 ((twK ys o (q + (C.length : Int)) k).2))]), (2, .var 24 [.v (.int .i64 V.f), .v (.int .i64 V.t), .v (.int .i64 V.pr), .v (.int .i64 V.h), .v (.int .i64 V.i), .v (.int .i64 V.a), .v (.bool V.m), .v (.bool V.u), .l 1 (rowsOfBytes V.d)]), (3, .sl 3 1 (nRows (o))), (4, .sl 3 1 (nRows (twK ys o (q + (C.length : Int)) k).1))]) (fun k => k ≤ o.length) (fun k => o.length - k) 5 (fun k => by simp) ?_ fun k hk' => ?_
      · exact ⟨0, [(0, some 0), (1, some 1), (2, some 2), (3, some 3), (4, some _)], Nat.zero_le _, ⟨⟨trivial, trivial, ⟨rfl, rfl, rfl⟩, trivial, trivial, ⟨rfl, rfl, rfl⟩, ⟨rfl, rfl, rfl⟩, ⟨rfl, rfl, rfl⟩, trivial, trivial, ⟨rfl, rfl, rfl⟩, trivial, trivial, ⟨rfl, rfl, rfl⟩, ⟨rfl, rfl, rfl⟩, fitT_rep _ _ rfl⟩, ⟨.inl rfl, rfl, rfl, rfl, .inl rfl, rfl, rfl, rfl, .inl rfl, rfl, rfl, rfl, .inl rfl, rfl, rfl, rfl, .inl rfl, rfl, rfl, rfl, trivial⟩, by simp [rn, hpAt]⟩, by simp [keepIds]⟩
      have w3 : IntKind.i64.wrap ((k : Int) + 1) = ((k + 1 : Nat) : Int) := by rw [wrap_id] <;> omega
      have htp := twK_pos ys o (q + (C.length : Int)) k
      obtain ⟨t, ht⟩ : ∃ t, (twK ys o (q + (C.length : Int)) k).1 = t := ⟨_, rfl⟩
      obtain ⟨p, hp⟩ : ∃ p, (twK ys o (q + (C.length : Int)) k).2 = p := ⟨_, rfl⟩
      rw [ht, hp] at htp ⊢
      by_cases hk : k < o.length
      · have hlt : ((k : Int) < (o.length : Int)) = True := eq_true (by omega)
        have h0 : (0 ≤ (k : Int)) = True := eq_true (by omega)
        have hrow := nRows_get o k hk
        have hg : o.getD k 0 = o[k] := by rw [List.getD_eq_getElem?_getD, List.getElem?_eq_getElem hk]; rfl
        have e1 : nRows t ++ [[D.v (.int .i64 (o[k] : Int))]] = nRows (t ++ [o[k]]) := nRows_app _ [o[k]]
        by_cases hlast : k + 1 < o.length
        · have hl2 : (((k + 1 : Nat) : Int) < (o.length : Int)) = True := eq_true (by omega)
          by_cases h3 : pickV ys p 3 = 0
          · have h3' : (pickV ys p 3 = 0) = True := eq_true h3
            have c0 := pickV_nonneg ys (p + 1) ((k : Int) + 1) (by omega)
            have c1 := pickV_lt ys (p + 1) ((k : Int) + 1) (by omega)
            have hst : (twK ys o (q + (C.length : Int)) (k + 1)) = (t ++ [o.getD k 0] ++ [o.getD (pickV ys (p + 1) ((k : Int) + 1)).toNat 0], p + 1 + 1) := by rw [twK, ht, hp, if_pos hlast, if_pos h3]
            obtain ⟨i, hi⟩ : ∃ i : Nat, pickV ys (p + 1) ((k : Int) + 1) = (i : Int) := ⟨(pickV ys (p + 1) ((k : Int) + 1)).toNat, by omega⟩
            have hi' : pickV ys (p + 1) ((k + 1 : Nat) : Int) = (i : Int) := hi
            rw [hi, Int.toNat_natCast] at hst
            rw [hi] at c0 c1
            have hio : i < o.length := by omega
            have hgi : o.getD i 0 = o[i] := by rw [List.getD_eq_getElem?_getD, List.getElem?_eq_getElem hio]; rfl
            have hrowi := nRows_get o i hio
            have hi0 : (0 ≤ (i : Int)) = True := eq_true (by omega)
            have hi1 : ((i : Int) < (o.length : Int)) = True := eq_true (by omega)
            have e2 : nRows (t ++ [o[k]]) ++ [[D.v (.int .i64 (o[i] : Int))]] = nRows (t ++ [o[k]] ++ [o[i]]) := nRows_app _ [o[i]]
            simp (maxSteps := 3000000) only [Try.f36, dsh, g_open, g_long, g_pick, ocOf, g_sPacketCut, ← hys, hlt, h0, w3, hrow, hrowi, hi0, hi1, hl2, h3', hi, hi', e1, e2, nRow, D.toI, bytesOf_rows, rowsOf_len, pRows_len, nRows_len, nRows_take, nRows_drop, hx, tY2, tY3, tY4, tY5, tY9, tY12, tY21, tY22, tY23, tY24, tY27, tY35, tY36, tY47, tY55, tY83, tY84, tY97, tY106, Try.underlying2, Try.underlying3, Try.underlying4, Try.underlying5, Try.underlying9, Try.underlying12, Try.underlying21, Try.underlying22, Try.underlying23, Try.underlying24, Try.underlying27, Try.underlying35, Try.underlying36, Try.underlying47, Try.underlying55, Try.underlying83, Try.underlying84, Try.underlying97, Try.underlying106, e_skip, e_label, e_ret, e_exit, e_seq, e_cond, e_block, e_region, seqK_normal, seqK_ret, seqK_exit, blkK_normal, blkK_ret, blkK_exit, condK_some, regK_true, regK_false, e_nil, e_cons, gateK_go, gateK_skip, gateK_ask, pickK_some, exK_some, x_pick, x_move, x_assign, x_alloc, x_box, x_build, x_buildSlice, x_load, x_store, x_binOp, x_unOp, x_convert, x_makeSlice, x_slice, x_fieldAddr, x_field, x_indexAddr, x_extract, x_nilCheck, x_call, x_len, x_append, x_min, oMin, x_copy, oCopy, eqAVs, callK_some, done_ret, done_normal, doneO_ret, doneO_normal, endsO_one, endsO_nil, endsO_more, ownAbs, frzAbs, leafs, leafs.leafsL, uniq, idxOf, bk, zipB, Blk.liveB, gate_none, gate_some, gateS_none, gateS_some, gateV_bool, gateV_undef, boolOf, evA, putT, refn, fpD, oBin, oUn, upsl, upl, up, ups, lk, dstsOf, resL, resA, packA, oLoadQ, oLoadKid, oStoreQ, oStoreTree, oBuildSliceQ, oBuildTree, oAppendQ, oAppendTree, isTr, isTrP, tkd, tkds, tkRows, ownOf, nodupB, deadL, treeOf, kidAbs, kidBlk, kidRows, TK.isCell, D.toL, oLoad, oStore, oAlloc, oBox, oBuild, oBuildSlice, oMake, oAppend, oIndexAddr, oFieldAddr, oField, oExtract, oNil, oSlice, oLen, oConvert, rowLoad, fillA, fillR, slB, dk, dks, dkRows, frz, loOf, hiOf, lenOf, rowsOf, nilV, lenV, putAt, views, viewsOk, CK.av, CK.ok, AV.cells, AV.one, Value.oneCell', Value.cells, pureAbs, nrm, nrm.nrmL, hpAt, sh, AV.ren, AV.ren.renL, Blk.ren, fpOf, footO, foot, blkIds, AV.ids, AV.ids.idsL, Op.operands, Call.operands, List.find?_cons, List.find?_nil, Nat.reduceBEq, beq_self_eq_true, List.map_cons, List.map_nil, List.getD_cons_zero, List.getD_cons_succ, List.getD_nil, List.set_cons_zero, List.set_cons_succ, List.length_cons, List.length_nil, List.replicate, List.cons_append, List.nil_append, List.append_nil, List.getElem?_cons_zero, List.getElem?_cons_succ, List.getElem?_toArray, List.getElem?_nil, List.take_zero, List.take_succ_cons, List.take_nil, List.drop_zero, List.drop_succ_cons, List.drop_nil, List.headD_cons, List.tail_cons, List.flatten_cons, List.flatten_nil, List.flatMap_cons, List.flatMap_nil, List.toList_toArray, Array.toList_append, Option.bind_some, Option.map_some, Option.map_none, Option.isSome_some, List.all_nil, List.all_cons, Bool.and_self, Bool.and_true, Bool.true_and, true_and, and_true, ↓reduceIte, List.size_toArray, Bool.false_eq_true, Bool.true_eq_false, false_implies, true_implies, Bool.not_true, Bool.not_false, and_self, implies_true, decide_true, decide_false, Nat.reduceAdd, Nat.reduceMul, Nat.reduceLT, Nat.reduceSub, Nat.reduceLeDiff, Nat.reduceEqDiff, eq_self, ne_eq, not_false_eq_true, false_and, and_false, reduceCtorEq, List.filter_nil, List.filter_cons, List.isEmpty_nil, List.isEmpty_cons, bne_self_eq_false, Nat.reduceBneDiff, Nat.lt_add_one, Nat.zero_lt_succ, List.append_assoc, Nat.zero_le, and_self_iff, Int.reduceToNat, List.any_nil, List.any_cons, List.filterMap_nil, List.filterMap_cons, List.contains_nil, List.contains_cons, Bool.or_false, Bool.false_or, Bool.or_true, Bool.true_or, Bool.false_and, Bool.and_false, decide_eq_true_eq, decide_eq_false_iff_not, beq_iff_eq, Int.toNat_natCast, loopK_normal, loopK_exit, loopK_ret, doneD_ret, doneD_normal]
            exact ⟨hk, ⟨by omega, by omega, by simp⟩, ⟨by omega, by omega⟩, ⟨by omega, by omega⟩, hio, ⟨by rw [List.length_append]; simp only [List.length_cons, List.length_nil]; omega, by rw [List.length_append]; simp only [List.length_cons, List.length_nil]; omega, by simp⟩, k + 1, [(0, some 0), (1, some 1), (2, some 2), (3, some 3), (4, some _)], by omega, by omega, ⟨⟨trivial, trivial, ⟨rfl, rfl, rfl⟩, trivial, trivial, ⟨rfl, rfl, rfl⟩, ⟨rfl, rfl, rfl⟩, ⟨rfl, rfl, rfl⟩, trivial, trivial, ⟨rfl, rfl, rfl⟩, trivial, trivial, ⟨rfl, rfl, rfl⟩, ⟨rfl, rfl, rfl⟩, fitT_rep _ _ rfl⟩, ⟨.inl rfl, rfl, rfl, rfl, .inl (by rw [hst]; rfl), rfl, rfl, rfl, .inl rfl, rfl, rfl, rfl, .inl rfl, rfl, rfl, rfl, .inl (by rw [hst, hg, hgi, List.append_assoc]; rfl), rfl, rfl, rfl, trivial⟩, by simp [rn, hpAt]⟩, by simp [keepIds]⟩
          · have h3' : (pickV ys p 3 = 0) = False := eq_false h3
            have hst : (twK ys o (q + (C.length : Int)) (k + 1)) = (t ++ [o.getD k 0], p + 1) := by rw [twK, ht, hp, if_pos hlast, if_neg h3]
            simp (maxSteps := 3000000) only [Try.f36, dsh, g_open, g_long, g_pick, ocOf, g_sPacketCut, ← hys, hlt, h0, w3, hrow, hl2, h3', e1, nRow, D.toI, bytesOf_rows, rowsOf_len, pRows_len, nRows_len, nRows_take, nRows_drop, hx, tY2, tY3, tY4, tY5, tY9, tY12, tY21, tY22, tY23, tY24, tY27, tY35, tY36, tY47, tY55, tY83, tY84, tY97, tY106, Try.underlying2, Try.underlying3, Try.underlying4, Try.underlying5, Try.underlying9, Try.underlying12, Try.underlying21, Try.underlying22, Try.underlying23, Try.underlying24, Try.underlying27, Try.underlying35, Try.underlying36, Try.underlying47, Try.underlying55, Try.underlying83, Try.underlying84, Try.underlying97, Try.underlying106, e_skip, e_label, e_ret, e_exit, e_seq, e_cond, e_block, e_region, seqK_normal, seqK_ret, seqK_exit, blkK_normal, blkK_ret, blkK_exit, condK_some, regK_true, regK_false, e_nil, e_cons, gateK_go, gateK_skip, gateK_ask, pickK_some, exK_some, x_pick, x_move, x_assign, x_alloc, x_box, x_build, x_buildSlice, x_load, x_store, x_binOp, x_unOp, x_convert, x_makeSlice, x_slice, x_fieldAddr, x_field, x_indexAddr, x_extract, x_nilCheck, x_call, x_len, x_append, x_min, oMin, x_copy, oCopy, eqAVs, callK_some, done_ret, done_normal, doneO_ret, doneO_normal, endsO_one, endsO_nil, endsO_more, ownAbs, frzAbs, leafs, leafs.leafsL, uniq, idxOf, bk, zipB, Blk.liveB, gate_none, gate_some, gateS_none, gateS_some, gateV_bool, gateV_undef, boolOf, evA, putT, refn, fpD, oBin, oUn, upsl, upl, up, ups, lk, dstsOf, resL, resA, packA, oLoadQ, oLoadKid, oStoreQ, oStoreTree, oBuildSliceQ, oBuildTree, oAppendQ, oAppendTree, isTr, isTrP, tkd, tkds, tkRows, ownOf, nodupB, deadL, treeOf, kidAbs, kidBlk, kidRows, TK.isCell, D.toL, oLoad, oStore, oAlloc, oBox, oBuild, oBuildSlice, oMake, oAppend, oIndexAddr, oFieldAddr, oField, oExtract, oNil, oSlice, oLen, oConvert, rowLoad, fillA, fillR, slB, dk, dks, dkRows, frz, loOf, hiOf, lenOf, rowsOf, nilV, lenV, putAt, views, viewsOk, CK.av, CK.ok, AV.cells, AV.one, Value.oneCell', Value.cells, pureAbs, nrm, nrm.nrmL, hpAt, sh, AV.ren, AV.ren.renL, Blk.ren, fpOf, footO, foot, blkIds, AV.ids, AV.ids.idsL, Op.operands, Call.operands, List.find?_cons, List.find?_nil, Nat.reduceBEq, beq_self_eq_true, List.map_cons, List.map_nil, List.getD_cons_zero, List.getD_cons_succ, List.getD_nil, List.set_cons_zero, List.set_cons_succ, List.length_cons, List.length_nil, List.replicate, List.cons_append, List.nil_append, List.append_nil, List.getElem?_cons_zero, List.getElem?_cons_succ, List.getElem?_toArray, List.getElem?_nil, List.take_zero, List.take_succ_cons, List.take_nil, List.drop_zero, List.drop_succ_cons, List.drop_nil, List.headD_cons, List.tail_cons, List.flatten_cons, List.flatten_nil, List.flatMap_cons, List.flatMap_nil, List.toList_toArray, Array.toList_append, Option.bind_some, Option.map_some, Option.map_none, Option.isSome_some, List.all_nil, List.all_cons, Bool.and_self, Bool.and_true, Bool.true_and, true_and, and_true, ↓reduceIte, List.size_toArray, Bool.false_eq_true, Bool.true_eq_false, false_implies, true_implies, Bool.not_true, Bool.not_false, and_self, implies_true, decide_true, decide_false, Nat.reduceAdd, Nat.reduceMul, Nat.reduceLT, Nat.reduceSub, Nat.reduceLeDiff, Nat.reduceEqDiff, eq_self, ne_eq, not_false_eq_true, false_and, and_false, reduceCtorEq, List.filter_nil, List.filter_cons, List.isEmpty_nil, List.isEmpty_cons, bne_self_eq_false, Nat.reduceBneDiff, Nat.lt_add_one, Nat.zero_lt_succ, List.append_assoc, Nat.zero_le, and_self_iff, Int.reduceToNat, List.any_nil, List.any_cons, List.filterMap_nil, List.filterMap_cons, List.contains_nil, List.contains_cons, Bool.or_false, Bool.false_or, Bool.or_true, Bool.true_or, Bool.false_and, Bool.and_false, decide_eq_true_eq, decide_eq_false_iff_not, beq_iff_eq, Int.toNat_natCast, loopK_normal, loopK_exit, loopK_ret, doneD_ret, doneD_normal]
            exact ⟨hk, ⟨by omega, by omega, by simp⟩, ⟨by omega, by omega⟩, k + 1, [(0, some 0), (1, some 1), (2, some 2), (3, some 3), (4, some _)], by omega, by omega, ⟨⟨trivial, trivial, ⟨rfl, rfl, rfl⟩, trivial, trivial, ⟨rfl, rfl, rfl⟩, ⟨rfl, rfl, rfl⟩, ⟨rfl, rfl, rfl⟩, trivial, trivial, ⟨rfl, rfl, rfl⟩, trivial, trivial, ⟨rfl, rfl, rfl⟩, ⟨rfl, rfl, rfl⟩, fitT_rep _ _ rfl⟩, ⟨.inl rfl, rfl, rfl, rfl, .inl (by rw [hst]; rfl), rfl, rfl, rfl, .inl rfl, rfl, rfl, rfl, .inl rfl, rfl, rfl, rfl, .inl (by rw [hst, hg]; rfl), rfl, rfl, rfl, trivial⟩, by simp [rn, hpAt]⟩, by simp [keepIds]⟩
        · have hl2 : (((k + 1 : Nat) : Int) < (o.length : Int)) = False := eq_false (by omega)
          have hst : (twK ys o (q + (C.length : Int)) (k + 1)) = (t ++ [o.getD k 0], p) := by rw [twK, ht, hp, if_neg hlast]
          simp (maxSteps := 3000000) only [Try.f36, dsh, g_open, g_long, g_pick, ocOf, g_sPacketCut, ← hys, hlt, h0, w3, hrow, hl2, e1, nRow, D.toI, bytesOf_rows, rowsOf_len, pRows_len, nRows_len, nRows_take, nRows_drop, hx, tY2, tY3, tY4, tY5, tY9, tY12, tY21, tY22, tY23, tY24, tY27, tY35, tY36, tY47, tY55, tY83, tY84, tY97, tY106, Try.underlying2, Try.underlying3, Try.underlying4, Try.underlying5, Try.underlying9, Try.underlying12, Try.underlying21, Try.underlying22, Try.underlying23, Try.underlying24, Try.underlying27, Try.underlying35, Try.underlying36, Try.underlying47, Try.underlying55, Try.underlying83, Try.underlying84, Try.underlying97, Try.underlying106, e_skip, e_label, e_ret, e_exit, e_seq, e_cond, e_block, e_region, seqK_normal, seqK_ret, seqK_exit, blkK_normal, blkK_ret, blkK_exit, condK_some, regK_true, regK_false, e_nil, e_cons, gateK_go, gateK_skip, gateK_ask, pickK_some, exK_some, x_pick, x_move, x_assign, x_alloc, x_box, x_build, x_buildSlice, x_load, x_store, x_binOp, x_unOp, x_convert, x_makeSlice, x_slice, x_fieldAddr, x_field, x_indexAddr, x_extract, x_nilCheck, x_call, x_len, x_append, x_min, oMin, x_copy, oCopy, eqAVs, callK_some, done_ret, done_normal, doneO_ret, doneO_normal, endsO_one, endsO_nil, endsO_more, ownAbs, frzAbs, leafs, leafs.leafsL, uniq, idxOf, bk, zipB, Blk.liveB, gate_none, gate_some, gateS_none, gateS_some, gateV_bool, gateV_undef, boolOf, evA, putT, refn, fpD, oBin, oUn, upsl, upl, up, ups, lk, dstsOf, resL, resA, packA, oLoadQ, oLoadKid, oStoreQ, oStoreTree, oBuildSliceQ, oBuildTree, oAppendQ, oAppendTree, isTr, isTrP, tkd, tkds, tkRows, ownOf, nodupB, deadL, treeOf, kidAbs, kidBlk, kidRows, TK.isCell, D.toL, oLoad, oStore, oAlloc, oBox, oBuild, oBuildSlice, oMake, oAppend, oIndexAddr, oFieldAddr, oField, oExtract, oNil, oSlice, oLen, oConvert, rowLoad, fillA, fillR, slB, dk, dks, dkRows, frz, loOf, hiOf, lenOf, rowsOf, nilV, lenV, putAt, views, viewsOk, CK.av, CK.ok, AV.cells, AV.one, Value.oneCell', Value.cells, pureAbs, nrm, nrm.nrmL, hpAt, sh, AV.ren, AV.ren.renL, Blk.ren, fpOf, footO, foot, blkIds, AV.ids, AV.ids.idsL, Op.operands, Call.operands, List.find?_cons, List.find?_nil, Nat.reduceBEq, beq_self_eq_true, List.map_cons, List.map_nil, List.getD_cons_zero, List.getD_cons_succ, List.getD_nil, List.set_cons_zero, List.set_cons_succ, List.length_cons, List.length_nil, List.replicate, List.cons_append, List.nil_append, List.append_nil, List.getElem?_cons_zero, List.getElem?_cons_succ, List.getElem?_toArray, List.getElem?_nil, List.take_zero, List.take_succ_cons, List.take_nil, List.drop_zero, List.drop_succ_cons, List.drop_nil, List.headD_cons, List.tail_cons, List.flatten_cons, List.flatten_nil, List.flatMap_cons, List.flatMap_nil, List.toList_toArray, Array.toList_append, Option.bind_some, Option.map_some, Option.map_none, Option.isSome_some, List.all_nil, List.all_cons, Bool.and_self, Bool.and_true, Bool.true_and, true_and, and_true, ↓reduceIte, List.size_toArray, Bool.false_eq_true, Bool.true_eq_false, false_implies, true_implies, Bool.not_true, Bool.not_false, and_self, implies_true, decide_true, decide_false, Nat.reduceAdd, Nat.reduceMul, Nat.reduceLT, Nat.reduceSub, Nat.reduceLeDiff, Nat.reduceEqDiff, eq_self, ne_eq, not_false_eq_true, false_and, and_false, reduceCtorEq, List.filter_nil, List.filter_cons, List.isEmpty_nil, List.isEmpty_cons, bne_self_eq_false, Nat.reduceBneDiff, Nat.lt_add_one, Nat.zero_lt_succ, List.append_assoc, Nat.zero_le, and_self_iff, Int.reduceToNat, List.any_nil, List.any_cons, List.filterMap_nil, List.filterMap_cons, List.contains_nil, List.contains_cons, Bool.or_false, Bool.false_or, Bool.or_true, Bool.true_or, Bool.false_and, Bool.and_false, decide_eq_true_eq, decide_eq_false_iff_not, beq_iff_eq, Int.toNat_natCast, loopK_normal, loopK_exit, loopK_ret, doneD_ret, doneD_normal]
          exact ⟨hk, ⟨by omega, by omega, by simp⟩, k + 1, [(0, some 0), (1, some 1), (2, some 2), (3, some 3), (4, some _)], by omega, by omega, ⟨⟨trivial, trivial, ⟨rfl, rfl, rfl⟩, trivial, trivial, ⟨rfl, rfl, rfl⟩, ⟨rfl, rfl, rfl⟩, ⟨rfl, rfl, rfl⟩, trivial, trivial, ⟨rfl, rfl, rfl⟩, trivial, trivial, ⟨rfl, rfl, rfl⟩, ⟨rfl, rfl, rfl⟩, fitT_rep _ _ rfl⟩, ⟨.inl rfl, rfl, rfl, rfl, .inl (by rw [hst]; rfl), rfl, rfl, rfl, .inl rfl, rfl, rfl, rfl, .inl rfl, rfl, rfl, rfl, .inl (by rw [hst, hg]; rfl), rfl, rfl, rfl, trivial⟩, by simp [rn, hpAt]⟩, by simp [keepIds]⟩
      · have hlt : ((k : Int) < (o.length : Int)) = False := eq_false (by omega)
        have hko : k = C.length := by omega
        simp (maxSteps := 3000000) only [Try.f36, dsh, g_open, g_long, g_pick, ocOf, g_sPacketCut, hlt, bytesOf_rows, rowsOf_len, pRows_len, nRows_len, nRows_take, nRows_drop, hx, tY2, tY3, tY4, tY5, tY9, tY12, tY21, tY22, tY23, tY24, tY27, tY35, tY36, tY47, tY55, tY83, tY84, tY97, tY106, Try.underlying2, Try.underlying3, Try.underlying4, Try.underlying5, Try.underlying9, Try.underlying12, Try.underlying21, Try.underlying22, Try.underlying23, Try.underlying24, Try.underlying27, Try.underlying35, Try.underlying36, Try.underlying47, Try.underlying55, Try.underlying83, Try.underlying84, Try.underlying97, Try.underlying106, e_skip, e_label, e_ret, e_exit, e_seq, e_cond, e_block, e_region, seqK_normal, seqK_ret, seqK_exit, blkK_normal, blkK_ret, blkK_exit, condK_some, regK_true, regK_false, e_nil, e_cons, gateK_go, gateK_skip, gateK_ask, pickK_some, exK_some, x_pick, x_move, x_assign, x_alloc, x_box, x_build, x_buildSlice, x_load, x_store, x_binOp, x_unOp, x_convert, x_makeSlice, x_slice, x_fieldAddr, x_field, x_indexAddr, x_extract, x_nilCheck, x_call, x_len, x_append, x_min, oMin, x_copy, oCopy, eqAVs, callK_some, done_ret, done_normal, doneO_ret, doneO_normal, endsO_one, endsO_nil, endsO_more, ownAbs, frzAbs, leafs, leafs.leafsL, uniq, idxOf, bk, zipB, Blk.liveB, gate_none, gate_some, gateS_none, gateS_some, gateV_bool, gateV_undef, boolOf, evA, putT, refn, fpD, oBin, oUn, upsl, upl, up, ups, lk, dstsOf, resL, resA, packA, oLoadQ, oLoadKid, oStoreQ, oStoreTree, oBuildSliceQ, oBuildTree, oAppendQ, oAppendTree, isTr, isTrP, tkd, tkds, tkRows, ownOf, nodupB, deadL, treeOf, kidAbs, kidBlk, kidRows, TK.isCell, D.toL, oLoad, oStore, oAlloc, oBox, oBuild, oBuildSlice, oMake, oAppend, oIndexAddr, oFieldAddr, oField, oExtract, oNil, oSlice, oLen, oConvert, rowLoad, fillA, fillR, slB, dk, dks, dkRows, frz, loOf, hiOf, lenOf, rowsOf, nilV, lenV, putAt, views, viewsOk, CK.av, CK.ok, AV.cells, AV.one, Value.oneCell', Value.cells, pureAbs, nrm, nrm.nrmL, hpAt, sh, AV.ren, AV.ren.renL, Blk.ren, fpOf, footO, foot, blkIds, AV.ids, AV.ids.idsL, Op.operands, Call.operands, List.find?_cons, List.find?_nil, Nat.reduceBEq, beq_self_eq_true, List.map_cons, List.map_nil, List.getD_cons_zero, List.getD_cons_succ, List.getD_nil, List.set_cons_zero, List.set_cons_succ, List.length_cons, List.length_nil, List.replicate, List.cons_append, List.nil_append, List.append_nil, List.getElem?_cons_zero, List.getElem?_cons_succ, List.getElem?_toArray, List.getElem?_nil, List.take_zero, List.take_succ_cons, List.take_nil, List.drop_zero, List.drop_succ_cons, List.drop_nil, List.headD_cons, List.tail_cons, List.flatten_cons, List.flatten_nil, List.flatMap_cons, List.flatMap_nil, List.toList_toArray, Array.toList_append, Option.bind_some, Option.map_some, Option.map_none, Option.isSome_some, List.all_nil, List.all_cons, Bool.and_self, Bool.and_true, Bool.true_and, true_and, and_true, ↓reduceIte, List.size_toArray, Bool.false_eq_true, Bool.true_eq_false, false_implies, true_implies, Bool.not_true, Bool.not_false, and_self, implies_true, decide_true, decide_false, Nat.reduceAdd, Nat.reduceMul, Nat.reduceLT, Nat.reduceSub, Nat.reduceLeDiff, Nat.reduceEqDiff, eq_self, ne_eq, not_false_eq_true, false_and, and_false, reduceCtorEq, List.filter_nil, List.filter_cons, List.isEmpty_nil, List.isEmpty_cons, bne_self_eq_false, Nat.reduceBneDiff, Nat.lt_add_one, Nat.zero_lt_succ, List.append_assoc, Nat.zero_le, and_self_iff, Int.reduceToNat, List.any_nil, List.any_cons, List.filterMap_nil, List.filterMap_cons, List.contains_nil, List.contains_cons, Bool.or_false, Bool.false_or, Bool.or_true, Bool.true_or, Bool.false_and, Bool.and_false, decide_eq_true_eq, decide_eq_false_iff_not, beq_iff_eq, Int.toNat_natCast, loopK_normal, loopK_exit, loopK_ret, doneD_ret, doneD_normal]
        have htk : (twK ys o (q + (C.length : Int)) C.length).1 = t := by rw [← ht, hko]
        rw [htk]
        exact ⟨_, rfl, rfl⟩
  · cases hg
end Go.Proofs.Ytdeldmagmljacaa
