import Derived.Test.YtikcpbgnmdhilaaIq
import Derived.Test.YtikcpbgnmdhilaaIn
set_option linter.unusedVariables false
set_option linter.unusedSimpArgs false
namespace Go.Proofs.Ytikcpbgnmdhilaa
open Go.RowKit
set_option linter.unusedSimpArgs false
def lsE (ys : List UInt8) : Nat → Ea × List UInt8
  | 0 => (⟨0, 4 + pickV ys 0 20, [], []⟩, [])
  | k + 1 =>
    (rdV12 (hrV (lsE ys k).1 (lsR ys k).f (heardV (lsR ys k).f ((lsR ys k).t - (lsR ys k).f).toNat)) (lsI ys k),
     (lsE ys k).2 ++ rdB12 (hrV (lsE ys k).1 (lsR ys k).f (heardV (lsR ys k).f ((lsR ys k).t - (lsR ys k).f).toNat)) (lsI ys k))
theorem lsE_ok (ys : List UInt8) : ∀ k, k ≤ 26 → eaB (lsE ys k).1 = true ∧ (lsE ys k).1.room = 4 + pickV ys 0 20 ∧ follows stV (lsE ys k).1 (lsE ys k).2 ∧ (lsE ys k).1.n ≤ 32 * (k : Int)
  | 0, _ => by
    have a1 := pickV_nonneg ys 0 20 (by omega)
    have a2 := pickV_lt ys 0 20 (by omega)
    refine ⟨eaB_iff.2 ⟨⟨Int.le_refl _, by show (0 : Int) ≤ 1000000; decide⟩, ⟨?_, ?_⟩, ?_, fun x hx => by simp [lsE] at hx, by simp [lsE, erS]⟩, rfl, ⟨fun x hx => by simp [lsE] at hx, by simp [lsE], fun j b hj => by simp [lsE] at hj⟩, by simp [lsE]⟩
    · show 1 ≤ 4 + pickV ys 0 20; omega
    · show 4 + pickV ys 0 20 ≤ 32; omega
    · show ((([] : List UInt8).length : Nat) : Int) ≤ 4 + pickV ys 0 20; simp; omega
  | k + 1, hk => by
    obtain ⟨i1, i2, i3, i4⟩ := lsE_ok ys k (by omega)
    have b1 := pickV_nonneg ys (2 + 3 * (k : Int)) 30 (by omega)
    have b2 := pickV_lt ys (2 + 3 * (k : Int)) 30 (by omega)
    have b5 := pickV_nonneg ys (2 + 3 * (k : Int) + 1 + 1) 6 (by omega)
    rw [lsE]
    generalize lsE ys k = S at i1 i2 i3 i4 ⊢
    obtain ⟨e, got⟩ := S
    dsimp only at i1 i2 i3 i4 ⊢
    have hf : (lsR ys k).f = pickV ys (2 + 3 * (k : Int)) 30 := rfl
    have hI : lsI ys k = pickV ys (2 + 3 * (k : Int) + 1 + 1) 6 := rfl
    generalize ((lsR ys k).t - (lsR ys k).f).toNat = m
    generalize (lsR ys k).f = a at hf ⊢
    have hm := hrM_le i1 a (heardV a m)
    have hF : eaF e ≤ 32 := by obtain ⟨_, q, _⟩ := eaB_iff.1 i1; unfold eaF; omega
    obtain ⟨q0, _⟩ := eaB_iff.1 i1
    have ho : hrO e a (heardV a m) = true := by rw [hrO, i1, inZ_iff.2 (by omega), decide_eq_true (by omega)]; rfl
    have hV : hrV e a (heardV a m) = hrE e a (heardV a m) := if_pos ho
    rw [hV]
    have h1 := (hr_ok ho).1
    have h2 := follows_hear i3 (fun j b hj => heardV_at a m j b hj) ho
    have hn : (hrE e a (heardV a m)).n = e.n + (hrM e a (heardV a m) : Int) := rfl
    have hroom : (hrE e a (heardV a m)).room = e.room := rfl
    generalize hrE e a (heardV a m) = e1 at h1 h2 hn hroom ⊢
    have hr : rdO e1 (lsI ys k) = true := by rw [rdO, h1, decide_eq_true (by omega)]; rfl
    have e2 : rdV12 e1 (lsI ys k) = rdE e1 (lsI ys k) := if_pos hr
    have e3 : rdB12 e1 (lsI ys k) = e1.g.take (rdN e1 (lsI ys k)) := if_pos hr
    rw [e2, e3]
    refine ⟨(rd_ok hr).1, by show e1.room = _; rw [hroom]; exact i2, follows_read h2 hr, ?_⟩
    show e1.n ≤ _
    omega
theorem ls_bytes {f : Int → UInt8} {e : Ea} {got : List UInt8} (h : ∀ (j : Nat) (b : UInt8), (got ++ e.g)[j]? = some b → b = f (j : Int)) : got = (List.range got.length).map fun k : Nat => f (0 + (k : Int)) := by
  apply List.ext_getElem?
  intro j
  rw [List.getElem?_map]
  by_cases hj : j < got.length
  · rw [List.getElem?_range hj, List.getElem?_eq_getElem hj, Option.map_some, Int.zero_add]
    congr 1
    exact h j _ (by rw [List.getElem?_append_left hj, List.getElem?_eq_getElem hj])
  · rw [List.getElem?_eq_none (by omega), List.getElem?_eq_none (by simpa using hj)]; rfl
def g_ear2 : PC := fun args => match args with
  | [.v (.int .i64 room)] => some (True, .agg [.v (.int .i64 0), .v (.int .i64 room), .v (.slice none 0 0), .v (.slice none 0 0)], [])
  | _ => none
def g_stFrom : PC := fun args => match args with
  | [.v (.int .i64 a), .v (.int .i64 n)] => some (0 ≤ a ∧ a ≤ 100000000 ∧ n ≤ 100000000, .own 0, [.sl 5 1 (rowsOfBytes (heardV a n.toNat))])
  | _ => none
def g_stFromD : PC := fun args => match args with
  | [.v (.int .i64 a), .v (.int .i64 n)] => some (0 ≤ a ∧ a ≤ 100000000 ∧ n ≤ 100000000, .l 1 (rowsOfBytes (heardV a n.toNat)), [])
  | _ => none
def ecl (e : Ea) : Nat → List AV
  | 0 => [.v (.int .i64 e.n), .v (.int .i64 e.room), .v (.slice none 0 0), .v (.slice none 0 0)]
  | _ + 1 => [.v (.int .i64 e.n), .v (.int .i64 e.room), .l 1 (rowsOfBytes e.g), .l 2 (erRows e.fr)]
theorem ecl_s (e : Ea) (k : Nat) : ecl e (k + 1) = [.v (.int .i64 e.n), .v (.int .i64 e.room), .l 1 (rowsOfBytes e.g), .l 2 (erRows e.fr)] := rfl
set_option maxRecDepth 100000 in
theorem ear2_ok : PureOk Try.prog 29 g_ear2 := by
  refine PureOk.of_vc (G := []) (by simp) mixed Try.func29 (by kernel_rfl) rfl ?_
  intro args cnd r bs hg hc
  unfold g_ear2 at hg
  split at hg
  · rename_i room
    cases hg
    refine ⟨⟨rfl, by simp, by simp [AV.ids, AV.ids.idsL]⟩, _, rfl, fun w vs h => h, ?_⟩
    simp (maxSteps := 3000000) only [Try.f29, tYs, evL, implies_true, oMin, x_min3, oMin3, x_max, oMax, oCopy, oBin, oUn, oLoadKid, oStoreTree, oField, oExtract, oNil, oSliceQ, oSliceE, x_appendZ, oAppendZ, oSliceEnd, endMode, oLoadRow, takeCells, TS.atRow, TS.ex, treeMode, AV.isOwn, TK.isSl, nilTk, nilsB, oLenQ, oLen, nodupB, treeOf, kidAbs, kidRows, TK.isCell, D.toL, oLoad, oStore, oMake, oIndexAddr, ↓reduceIte, reduceCtorEq, Nat.reduceBEq, Nat.reduceAdd, Nat.reduceMul, Nat.reduceLT, Nat.reduceSub, Nat.reduceLeDiff, Nat.reduceEqDiff, Nat.reduceBneDiff, Int.reduceToNat, decide_eq_true_eq, decide_eq_false_iff_not, beq_iff_eq, Int.toNat_natCast]
    exact ⟨_, [], rfl, ⟨⟨⟨rfl, rfl, rfl⟩, trivial⟩, trivial, by simp [rn, hpAt]⟩⟩
  · cases hg
def stf12 : List (FuncId × Abs) := [(42, pureAbs g_heardS)]
theorem stf12_ok : ∀ p ∈ stf12, CallOk Try.prog p.1 p.2 := by
  intro p hp
  simp only [stf12, List.mem_cons, List.not_mem_nil, or_false] at hp
  rcases hp with rfl
  · exact l20Heard_ok.call
set_option maxRecDepth 100000 in
theorem stFrom_ok : PureOk Try.prog 30 g_stFrom := by
  refine PureOk.of_vc (G := stf12) stf12_ok mixed Try.func30 (by kernel_rfl) rfl ?_
  intro args cnd r bs hg hc
  unfold g_stFrom at hg
  split at hg
  · rename_i a n
    cases hg
    refine ⟨⟨rfl, by simpa [flatB] using rowsOf_flat (heardV a n.toNat), by simp [AV.ids, AV.ids.idsL]⟩, _, rfl, fun w vs h => h, ?_⟩
    simp (maxSteps := 3000000) only [Try.f30, stf12, g_heardS, tYs, evL, implies_true, oMin, x_min3, oMin3, x_max, oMax, oCopy, oBin, oUn, oLoadKid, oStoreTree, oField, oExtract, oNil, oSliceQ, oSliceE, x_appendZ, oAppendZ, oSliceEnd, endMode, oLoadRow, takeCells, TS.atRow, TS.ex, treeMode, AV.isOwn, TK.isSl, nilTk, nilsB, oLenQ, oLen, nodupB, treeOf, kidAbs, kidRows, TK.isCell, D.toL, oLoad, oStore, oMake, oIndexAddr, ↓reduceIte, reduceCtorEq, Nat.reduceBEq, Nat.reduceAdd, Nat.reduceMul, Nat.reduceLT, Nat.reduceSub, Nat.reduceLeDiff, Nat.reduceEqDiff, Nat.reduceBneDiff, Int.reduceToNat, decide_eq_true_eq, decide_eq_false_iff_not, beq_iff_eq, Int.toNat_natCast]
    refine ⟨hc, ?_⟩
    exact ⟨_, [(0, some _)], rfl, ⟨⟨⟨rfl, rfl, rfl⟩, trivial⟩, ⟨.inl rfl, rfl, rfl, rfl, trivial⟩, by simp [rn, hpAt]⟩⟩
  · cases hg
theorem specStreamFromD_ok : OwnOk Try.prog 30 (ocOf g_stFromD) := by
  refine stFrom_ok.toOwn.toData.narrow12 fun args B0 c r B1 bs hg hc => ?_
  unfold ocOf g_stFromD at hg
  split at hg
  · split at hg
    · rename_i c' r' bs' hg'
      cases hg
      split at hg'
      · cases hg'
        exact ⟨_, rfl, hc⟩
      · cases hg'
    · cases hg
  · cases hg
def lea6 : List (FuncId × Abs) := [(12, pureAbs g_alive), (21, pureAbs g_sameBytes), (19, pureAbs g_sameEa), (10, pureAbs g_earOk), (18, frzAbs g_earHearD), (16, frzAbs g_earReadD), (20, frzAbs g_earHearD), (23, frzAbs g_earReadD), (28, ownAbs (ocOf g_drawLs)), (30, ownAbs (ocOf g_stFromD)), (29, pureAbs g_ear2)]
theorem lea6_ok : ∀ p ∈ lea6, CallOk Try.prog p.1 p.2 := by
  intro p hp
  simp only [lea6, List.mem_cons, List.not_mem_nil, or_false] at hp
  rcases hp with rfl | rfl | rfl | rfl | rfl | rfl | rfl | rfl | rfl | rfl | rfl
  · exact alive_ok.call
  · exact sameBytes_ok.call
  · exact sameEar_ok.call
  · exact implEarOk_ok.call
  · exact implEarHearD_ok.callF
  · exact implEarReadD_ok.callF
  · exact specEarHearD_ok.callF
  · exact specEarReadD_ok.callF
  · exact drawListening_ok.call
  · exact specStreamFromD_ok.call
  · exact ear2_ok.call
set_option maxHeartbeats 8000000 in
set_option maxRecDepth 100000 in
theorem lawListening_ok : PureOk Try.prog 8 g_true := by
  refine PureOk.of_vc (G := lea6) lea6_ok mixed Try.func8 (by kernel_rfl) rfl ?_
  intro args cnd r bs hg hc
  unfold g_true at hg
  split at hg
  · rename_i sz rows
    cases hg
    obtain ⟨xs, rfl⟩ := hc
    refine ⟨⟨rfl, by simp, by simp [AV.ids, AV.ids.idsL]⟩, [.l 1 (rowsOfBytes xs)], rfl, fun w vs h => CvL.ok (.cons (.l _ _ _ (rowsOf_w xs)) .nil) h, ?_⟩
    obtain ⟨ys, hys⟩ : ∃ ys, ys = List.take 2000 xs := ⟨_, rfl⟩
    by_cases h20 : (xs.length : Int) > 1048576
    · have e20 : ((xs.length : Int) > 1048576) = True := eq_true h20
      simp (maxSteps := 3000000) only [Try.f8, lea6, e20, g_alive, g_sameBytes, g_sameEa, g_earOk, g_earHearD, g_earReadD, ocOf, g_drawLs, g_stFromD, g_ear2, bytesOf_rows, rowsOf_len, ersOf_rows, erRows_len, ersOf_nil, bytesOf_nil, ↓reduceIte, Bool.false_eq_true, Bool.not_true, Bool.not_false, tYs, evL, implies_true, oMin, x_min3, oMin3, x_max, oMax, oCopy, oBin, oUn, oLoadKid, oStoreTree, oField, oExtract, oNil, oSliceQ, oSliceE, x_appendZ, oAppendZ, oSliceEnd, endMode, oLoadRow, takeCells, TS.atRow, TS.ex, treeMode, AV.isOwn, TK.isSl, nilTk, nilsB, oLenQ, oLen, nodupB, treeOf, kidAbs, kidRows, TK.isCell, D.toL, oLoad, oStore, oMake, oIndexAddr, ↓reduceIte, reduceCtorEq, Nat.reduceBEq, Nat.reduceAdd, Nat.reduceMul, Nat.reduceLT, Nat.reduceSub, Nat.reduceLeDiff, Nat.reduceEqDiff, Nat.reduceBneDiff, Int.reduceToNat, decide_eq_true_eq, decide_eq_false_iff_not, beq_iff_eq, Int.toNat_natCast, loopK_normal, loopK_exit, loopK_ret, bne_self_eq_false]
      exact ⟨_, [], rfl, ⟨⟨⟨rfl, rfl, rfl⟩, trivial⟩, trivial, by simp [rn, hpAt]⟩⟩
    have e20 : ((xs.length : Int) > 1048576) = False := eq_false h20
    have a1 := pickV_nonneg ys 0 20 (by omega)
    have a2 := pickV_lt ys 0 20 (by omega)
    have a3 := pickV_nonneg ys 1 24 (by omega)
    have a4 := pickV_lt ys 1 24 (by omega)
    obtain ⟨K, hK⟩ : ∃ K, lsK ys = K := ⟨_, rfl⟩
    have hK25 : K ≤ 26 := by rw [← hK, lsK]; omega
    simp (maxSteps := 3000000) only [Try.f8, lea6, e20, ← hys, rgRows_len, inRows_len, lsW_len, lsM_len, hK, g_alive, g_sameBytes, g_sameEa, g_earOk, g_earHearD, g_earReadD, ocOf, g_drawLs, g_stFromD, g_ear2, bytesOf_rows, rowsOf_len, ersOf_rows, erRows_len, ersOf_nil, bytesOf_nil, ↓reduceIte, Bool.false_eq_true, Bool.not_true, Bool.not_false, tYs, evL, implies_true, oMin, x_min3, oMin3, x_max, oMax, oCopy, oBin, oUn, oLoadKid, oStoreTree, oField, oExtract, oNil, oSliceQ, oSliceE, x_appendZ, oAppendZ, oSliceEnd, endMode, oLoadRow, takeCells, TS.atRow, TS.ex, treeMode, AV.isOwn, TK.isSl, nilTk, nilsB, oLenQ, oLen, nodupB, treeOf, kidAbs, kidRows, TK.isCell, D.toL, oLoad, oStore, oMake, oIndexAddr, ↓reduceIte, reduceCtorEq, Nat.reduceBEq, Nat.reduceAdd, Nat.reduceMul, Nat.reduceLT, Nat.reduceSub, Nat.reduceLeDiff, Nat.reduceEqDiff, Nat.reduceBneDiff, Int.reduceToNat, decide_eq_true_eq, decide_eq_false_iff_not, beq_iff_eq, Int.toNat_natCast, loopK_normal, loopK_exit, loopK_ret, bne_self_eq_false]
    repeat' first
      | (refine And.intro ?_ ?_; focus (exact ⟨by omega, by omega, by omega⟩))
      | (refine And.intro ?_ ?_; focus (exact ⟨⟨⟨[], rfl, by simp⟩, [], rfl, by simp⟩, _, rfl, by omega⟩))
      | (refine And.intro ?_ ?_; focus (omega; done))
      | (refine And.intro ?_ ?_; focus (exact ⟨xs, rfl⟩))
      | (refine And.intro ?_ ?_; focus (exact ⟨⟨_, rfl, by omega⟩, _, rfl, by omega⟩))
      | (refine And.intro ?_ ?_; focus (exact ⟨⟨_, rfl, by omega⟩, [], rfl, by simp⟩))
      | (refine And.intro ?_ ?_; focus (exact ⟨⟨[], rfl, by simp⟩, [], rfl, by simp⟩))
      | (refine And.intro ?_ ?_; focus (exact ⟨⟨_, rfl, rfl⟩, ⟨_, rfl, rfl, by omega⟩, rfl, rfl⟩))
      | (refine And.intro ?_ ?_; focus (exact ⟨_, rfl⟩))
      | (refine And.intro ?_ ?_; focus (exact ⟨⟨_, rfl⟩, _, rfl, rfl, by omega⟩))
      | (refine And.intro ?_ ?_; focus (exact ⟨by omega, rowsOf_w _⟩))
      | (refine And.intro ?_ ?_; focus (exact ⟨⟨_, rfl, by omega⟩, ⟨_, rfl, by omega⟩, _, rfl, by omega⟩))
      | (refine And.intro ?_ ?_; focus (exact ⟨⟨⟨_, rfl, by omega⟩, _, rfl, by omega⟩, _, rfl, by omega⟩))
      | (refine And.intro ?_ ?_; focus (exact ⟨⟨_, rfl⟩, _, rfl⟩))
      | (refine And.intro ?_ ?_; focus (exact ⟨by omega, by omega, rowsOf_w _⟩))
      | (refine And.intro ?_ ?_; focus (exact ⟨by simp only [List.length_append, rowsOf_len, erRows_len, List.length_cons, List.length_nil, marks_len, List.length_take, List.length_drop, List.length_set, List.length_map, List.length_range]; omega, by simp only [List.length_append, rowsOf_len, erRows_len, List.length_cons, List.length_nil, marks_len, List.length_take, List.length_drop, List.length_set, List.length_map, List.length_range]; omega, rowsOf_w _⟩))
      | (refine And.intro ?_ ?_; focus (kernel_rfl))
    refine e_loop _ _ _ _ _ _ _ _ (fun k : Nat => [.any, .any, .any, .v (.int .i64 (4 + pickV ys 0 20)), .l 2 (rgRows (lsW ys K)), .l 1 (inRows (lsM ys K)), .ptr 0 0, .ptr 1 0, .own 2, .v (.int .i64 (k : Int))] ++ List.replicate (Try.f8.ntmps - 10) .any) (fun k => [(0, .var 25 (ecl (lsE ys k).1 k)), (1, .var 25 (ecl (lsE ys k).1 k)), (2, .sl 5 1 (rowsOfBytes ((lsE ys k).2)))]) (fun k => k ≤ K) (fun k => K - k) 3 (fun k => by simp) ?_ fun k hk' => ?_
    · exact ⟨0, [(0, some _), (1, some _), (2, some _)], Nat.zero_le _, ⟨⟨trivial, trivial, trivial, ⟨rfl, rfl, rfl⟩, ⟨rfl, rfl, rfl⟩, ⟨rfl, rfl, rfl⟩, ⟨rfl, rfl, rfl⟩, ⟨rfl, rfl, rfl⟩, ⟨rfl, rfl, rfl⟩, ⟨rfl, rfl, rfl⟩, fitT_rep _ _ rfl⟩, ⟨.inl rfl, rfl, rfl, rfl, .inl rfl, rfl, rfl, rfl, .inl rfl, rfl, rfl, rfl, trivial⟩, by simp [rn, hpAt]⟩, by simp [keepIds, rn]⟩
    have hk1 : k ≤ K := hk'
    have w2 : IntKind.i64.wrap ((k : Int) + 1) = ((k + 1 : Nat) : Int) := by rw [wrap_id] <;> omega
    obtain ⟨i1, i2, i3, i4⟩ := lsE_ok ys k (by omega)
    by_cases hk : k < K
    · obtain ⟨j1, j2, j3, j4⟩ := lsE_ok ys (k + 1) (by omega)
      have hnx : lsE ys (k + 1) = (rdV12 (hrV (lsE ys k).1 (lsR ys k).f (heardV (lsR ys k).f ((lsR ys k).t - (lsR ys k).f).toNat)) (lsI ys k),
         (lsE ys k).2 ++ rdB12 (hrV (lsE ys k).1 (lsR ys k).f (heardV (lsR ys k).f ((lsR ys k).t - (lsR ys k).f).toNat)) (lsI ys k)) := rfl
      have hlt : ((k : Int) < (K : Int)) = True := eq_true (by omega)
      have h00 : (0 ≤ (k : Int)) = True := eq_true (by omega)
      have hrow : (rgRows (lsW ys K)).getD k [] = [.v (.int .i64 (lsR ys k).f), .v (.int .i64 (lsR ys k).t)] := by
        rw [rgRows_get _ k (by rw [lsW_len]; exact hk)]; simp [lsW]
      have hrow2 : (inRows (lsM ys K)).getD k [] = [D.v (.int .i64 (lsI ys k))] := by
        rw [inRows_get _ k (by rw [lsM_len]; exact hk)]; simp [lsM]
      have b1 := pickV_nonneg ys (2 + 3 * (k : Int)) 30 (by omega)
      have b2 := pickV_lt ys (2 + 3 * (k : Int)) 30 (by omega)
      have b3 := pickV_nonneg ys (2 + 3 * (k : Int) + 1) 6 (by omega)
      have b4 := pickV_lt ys (2 + 3 * (k : Int) + 1) 6 (by omega)
      have b5 := pickV_nonneg ys (2 + 3 * (k : Int) + 1 + 1) 6 (by omega)
      have b6 := pickV_lt ys (2 + 3 * (k : Int) + 1 + 1) 6 (by omega)
      have hfb : 0 ≤ (lsR ys k).f ∧ (lsR ys k).f < 30 := ⟨b1, b2⟩
      have htb : (lsR ys k).f < (lsR ys k).t ∧ (lsR ys k).t ≤ (lsR ys k).f + 6 := by show pickV ys (2 + 3 * (k : Int)) 30 < pickV ys (2 + 3 * (k : Int)) 30 + 1 + pickV ys (2 + 3 * (k : Int) + 1) 6 ∧ pickV ys (2 + 3 * (k : Int)) 30 + 1 + pickV ys (2 + 3 * (k : Int) + 1) 6 ≤ pickV ys (2 + 3 * (k : Int)) 30 + 6; omega
      have hIb : 0 ≤ lsI ys k ∧ lsI ys k < 6 := ⟨b5, b6⟩
      have w3 : IntKind.i64.wrap ((lsR ys k).t - (lsR ys k).f) = (lsR ys k).t - (lsR ys k).f := wrap_id (by omega) (by omega)
      have hdl : (heardV (lsR ys k).f ((lsR ys k).t - (lsR ys k).f).toNat).length ≤ 6 := by rw [heardV_len]; omega
      have c1 := ea_count i1
      obtain ⟨_, c2, _⟩ := eaB_iff.1 i1
      have hgl : ((lsE ys k).2.length : Int) ≤ 32 * (k : Int) := by have := i3.2.1; omega
      generalize (lsR ys k).f = a at *
      generalize (lsR ys k).t = t at *
      generalize lsI ys k = r at *
      generalize hd : heardV a (t - a).toNat = d at *
      have hm := hrM_le i1 a d
      have hF : eaF (lsE ys k).1 ≤ 32 := by unfold eaF; omega
      obtain ⟨q0, _⟩ := eaB_iff.1 i1
      have ho : hrO (lsE ys k).1 a d = true := by rw [hrO, i1, inZ_iff.2 (by omega), decide_eq_true (by omega)]; rfl
      have hV : hrV (lsE ys k).1 a d = hrE (lsE ys k).1 a d := if_pos ho
      have hHk := (hr_ok ho).1
      rw [← hV] at hHk
      have hroom : (hrV (lsE ys k).1 a d).room = (lsE ys k).1.room := by rw [hV]; rfl
      clear hV ho hm
      obtain ⟨H, hH⟩ : ∃ H, hrV (lsE ys k).1 a d = H := ⟨_, rfl⟩
      rw [hH] at hHk hroom hnx
      have e0 : k = 0 → hrV ⟨(lsE ys k).1.n, (lsE ys k).1.room, [], []⟩ a d = H := fun h => by subst h; exact hH
      have e1 : hrV ⟨(lsE ys k).1.n, (lsE ys k).1.room, (lsE ys k).1.g, (lsE ys k).1.fr⟩ a d = H := hH
      clear hH
      have c5 := ea_count hHk
      obtain ⟨_, c6, _⟩ := eaB_iff.1 hHk
      obtain ⟨m1, m2, m3⟩ := rdV_mid (e := H) (m := r) (by omega) (by omega)
      have hR1 : eaB (rdV12 H r) = true := by rw [hnx] at j1; exact j1
      obtain ⟨R, hR⟩ : ∃ R, rdV12 H r = R := ⟨_, rfl⟩
      obtain ⟨B, hB⟩ : ∃ B, rdB12 H r = B := ⟨_, rfl⟩
      rw [hR] at m1 m2 hR1 hnx
      rw [hB] at m3 hnx
      have f1 : rdV12 ⟨H.n, H.room, H.g, H.fr⟩ r = R := hR
      have f2 : rdB12 ⟨H.n, H.room, H.g, H.fr⟩ r = B := hB
      clear hR hB
      have hRb : eaB ⟨R.n, R.room, R.g, R.fr⟩ = true := hR1
      have hap : rowsOfBytes (lsE ys k).2 ++ rowsOfBytes B = rowsOfBytes ((lsE ys k).2 ++ B) := by rw [rowsOf_app]
      rcases Nat.eq_zero_or_pos k with hk0 | hk0
      · have hcl : ecl (lsE ys k).1 k = [.v (.int .i64 (lsE ys k).1.n), .v (.int .i64 (lsE ys k).1.room), .v (.slice none 0 0), .v (.slice none 0 0)] := by subst hk0; rfl
        have e2 := e0 hk0
        simp (maxSteps := 3000000) only [Try.f8, lea6, e20, ← hys, rgRows_len, inRows_len, lsW_len, lsM_len, hlt, h00, hrow, hrow2, w2, w3, hcl, hd, e2, f1, f2, hRb, hap, D.toI, D.toL, beq_self_eq_true, g_alive, g_sameBytes, g_sameEa, g_earOk, g_earHearD, g_earReadD, ocOf, g_drawLs, g_stFromD, g_ear2, bytesOf_rows, rowsOf_len, ersOf_rows, erRows_len, ersOf_nil, bytesOf_nil, ↓reduceIte, Bool.false_eq_true, Bool.not_true, Bool.not_false, tYs, evL, implies_true, oMin, x_min3, oMin3, x_max, oMax, oCopy, oBin, oUn, oLoadKid, oStoreTree, oField, oExtract, oNil, oSliceQ, oSliceE, x_appendZ, oAppendZ, oSliceEnd, endMode, oLoadRow, takeCells, TS.atRow, TS.ex, treeMode, AV.isOwn, TK.isSl, nilTk, nilsB, oLenQ, oLen, nodupB, treeOf, kidAbs, kidRows, TK.isCell, D.toL, oLoad, oStore, oMake, oIndexAddr, ↓reduceIte, reduceCtorEq, Nat.reduceBEq, Nat.reduceAdd, Nat.reduceMul, Nat.reduceLT, Nat.reduceSub, Nat.reduceLeDiff, Nat.reduceEqDiff, Nat.reduceBneDiff, Int.reduceToNat, decide_eq_true_eq, decide_eq_false_iff_not, beq_iff_eq, Int.toNat_natCast, loopK_normal, loopK_exit, loopK_ret, bne_self_eq_false]
        repeat' first
          | (refine And.intro ?_ ?_; focus (exact ⟨by omega, by omega, by omega⟩))
          | (refine And.intro ?_ ?_; focus (exact ⟨⟨⟨[], rfl, by simp⟩, [], rfl, by simp⟩, _, rfl, by omega⟩))
          | (refine And.intro ?_ ?_; focus (omega; done))
          | (refine And.intro ?_ ?_; focus (exact ⟨xs, rfl⟩))
          | (refine And.intro ?_ ?_; focus (exact ⟨⟨_, rfl, by omega⟩, _, rfl, by omega⟩))
          | (refine And.intro ?_ ?_; focus (exact ⟨⟨_, rfl, by omega⟩, [], rfl, by simp⟩))
          | (refine And.intro ?_ ?_; focus (exact ⟨⟨[], rfl, by simp⟩, [], rfl, by simp⟩))
          | (refine And.intro ?_ ?_; focus (exact ⟨⟨_, rfl, rfl⟩, ⟨_, rfl, rfl, by omega⟩, rfl, rfl⟩))
          | (refine And.intro ?_ ?_; focus (exact ⟨_, rfl⟩))
          | (refine And.intro ?_ ?_; focus (exact ⟨⟨_, rfl⟩, _, rfl, rfl, by omega⟩))
          | (refine And.intro ?_ ?_; focus (exact ⟨by omega, rowsOf_w _⟩))
          | (refine And.intro ?_ ?_; focus (exact ⟨⟨_, rfl, by omega⟩, ⟨_, rfl, by omega⟩, _, rfl, by omega⟩))
          | (refine And.intro ?_ ?_; focus (exact ⟨⟨⟨_, rfl, by omega⟩, _, rfl, by omega⟩, _, rfl, by omega⟩))
          | (refine And.intro ?_ ?_; focus (exact ⟨⟨_, rfl⟩, _, rfl⟩))
          | (refine And.intro ?_ ?_; focus (exact ⟨by omega, by omega, rowsOf_w _⟩))
          | (refine And.intro ?_ ?_; focus (exact ⟨by simp only [List.length_append, rowsOf_len, erRows_len, List.length_cons, List.length_nil, marks_len, List.length_take, List.length_drop, List.length_set, List.length_map, List.length_range]; omega, by simp only [List.length_append, rowsOf_len, erRows_len, List.length_cons, List.length_nil, marks_len, List.length_take, List.length_drop, List.length_set, List.length_map, List.length_range]; omega, rowsOf_w _⟩))
          | (refine And.intro ?_ ?_; focus (kernel_rfl))
        refine ⟨k + 1, [(0, some 0), (1, some 1), (2, some 1059)], by omega, by omega, ?_, by simp [keepIds, rn]⟩
        simp only [hnx, ecl_s]
        exact ⟨⟨trivial, trivial, trivial, ⟨rfl, rfl, rfl⟩, ⟨rfl, rfl, rfl⟩, ⟨rfl, rfl, rfl⟩, ⟨rfl, rfl, rfl⟩, ⟨rfl, rfl, rfl⟩, ⟨rfl, rfl, rfl⟩, ⟨rfl, rfl, rfl⟩, fitT_rep _ _ rfl⟩, ⟨.inl rfl, rfl, rfl, rfl, .inl rfl, rfl, rfl, rfl, .inl rfl, rfl, rfl, rfl, trivial⟩, by simp [rn, hpAt]⟩
      · have hcl : ecl (lsE ys k).1 k = [.v (.int .i64 (lsE ys k).1.n), .v (.int .i64 (lsE ys k).1.room), .l 1 (rowsOfBytes (lsE ys k).1.g), .l 2 (erRows (lsE ys k).1.fr)] := by
          obtain ⟨k', rfl⟩ : ∃ k', k = k' + 1 := ⟨k - 1, by omega⟩
          rfl
        have e2 := e1
        simp (maxSteps := 3000000) only [Try.f8, lea6, e20, ← hys, rgRows_len, inRows_len, lsW_len, lsM_len, hlt, h00, hrow, hrow2, w2, w3, hcl, hd, e2, f1, f2, hRb, hap, D.toI, D.toL, beq_self_eq_true, g_alive, g_sameBytes, g_sameEa, g_earOk, g_earHearD, g_earReadD, ocOf, g_drawLs, g_stFromD, g_ear2, bytesOf_rows, rowsOf_len, ersOf_rows, erRows_len, ersOf_nil, bytesOf_nil, ↓reduceIte, Bool.false_eq_true, Bool.not_true, Bool.not_false, tYs, evL, implies_true, oMin, x_min3, oMin3, x_max, oMax, oCopy, oBin, oUn, oLoadKid, oStoreTree, oField, oExtract, oNil, oSliceQ, oSliceE, x_appendZ, oAppendZ, oSliceEnd, endMode, oLoadRow, takeCells, TS.atRow, TS.ex, treeMode, AV.isOwn, TK.isSl, nilTk, nilsB, oLenQ, oLen, nodupB, treeOf, kidAbs, kidRows, TK.isCell, D.toL, oLoad, oStore, oMake, oIndexAddr, ↓reduceIte, reduceCtorEq, Nat.reduceBEq, Nat.reduceAdd, Nat.reduceMul, Nat.reduceLT, Nat.reduceSub, Nat.reduceLeDiff, Nat.reduceEqDiff, Nat.reduceBneDiff, Int.reduceToNat, decide_eq_true_eq, decide_eq_false_iff_not, beq_iff_eq, Int.toNat_natCast, loopK_normal, loopK_exit, loopK_ret, bne_self_eq_false]
        repeat' first
          | (refine And.intro ?_ ?_; focus (exact ⟨by omega, by omega, by omega⟩))
          | (refine And.intro ?_ ?_; focus (exact ⟨⟨⟨[], rfl, by simp⟩, [], rfl, by simp⟩, _, rfl, by omega⟩))
          | (refine And.intro ?_ ?_; focus (omega; done))
          | (refine And.intro ?_ ?_; focus (exact ⟨xs, rfl⟩))
          | (refine And.intro ?_ ?_; focus (exact ⟨⟨_, rfl, by omega⟩, _, rfl, by omega⟩))
          | (refine And.intro ?_ ?_; focus (exact ⟨⟨_, rfl, by omega⟩, [], rfl, by simp⟩))
          | (refine And.intro ?_ ?_; focus (exact ⟨⟨[], rfl, by simp⟩, [], rfl, by simp⟩))
          | (refine And.intro ?_ ?_; focus (exact ⟨⟨_, rfl, rfl⟩, ⟨_, rfl, rfl, by omega⟩, rfl, rfl⟩))
          | (refine And.intro ?_ ?_; focus (exact ⟨_, rfl⟩))
          | (refine And.intro ?_ ?_; focus (exact ⟨⟨_, rfl⟩, _, rfl, rfl, by omega⟩))
          | (refine And.intro ?_ ?_; focus (exact ⟨by omega, rowsOf_w _⟩))
          | (refine And.intro ?_ ?_; focus (exact ⟨⟨_, rfl, by omega⟩, ⟨_, rfl, by omega⟩, _, rfl, by omega⟩))
          | (refine And.intro ?_ ?_; focus (exact ⟨⟨⟨_, rfl, by omega⟩, _, rfl, by omega⟩, _, rfl, by omega⟩))
          | (refine And.intro ?_ ?_; focus (exact ⟨⟨_, rfl⟩, _, rfl⟩))
          | (refine And.intro ?_ ?_; focus (exact ⟨by omega, by omega, rowsOf_w _⟩))
          | (refine And.intro ?_ ?_; focus (exact ⟨by simp only [List.length_append, rowsOf_len, erRows_len, List.length_cons, List.length_nil, marks_len, List.length_take, List.length_drop, List.length_set, List.length_map, List.length_range]; omega, by simp only [List.length_append, rowsOf_len, erRows_len, List.length_cons, List.length_nil, marks_len, List.length_take, List.length_drop, List.length_set, List.length_map, List.length_range]; omega, rowsOf_w _⟩))
          | (refine And.intro ?_ ?_; focus (kernel_rfl))
        refine ⟨k + 1, [(0, some 0), (1, some 1), (2, some 1059)], by omega, by omega, ?_, by simp [keepIds, rn]⟩
        simp only [hnx, ecl_s]
        exact ⟨⟨trivial, trivial, trivial, ⟨rfl, rfl, rfl⟩, ⟨rfl, rfl, rfl⟩, ⟨rfl, rfl, rfl⟩, ⟨rfl, rfl, rfl⟩, ⟨rfl, rfl, rfl⟩, ⟨rfl, rfl, rfl⟩, ⟨rfl, rfl, rfl⟩, fitT_rep _ _ rfl⟩, ⟨.inl rfl, rfl, rfl, rfl, .inl rfl, rfl, rfl, rfl, .inl rfl, rfl, rfl, rfl, trivial⟩, by simp [rn, hpAt]⟩
    · obtain rfl : k = K := by omega
      have hlt : ((k : Int) < (k : Int)) = False := eq_false (by omega)
      have hkk : 2 ≤ k := by rw [← hK, lsK]; omega
      have hcl : ecl (lsE ys k).1 k = [.v (.int .i64 (lsE ys k).1.n), .v (.int .i64 (lsE ys k).1.room), .l 1 (rowsOfBytes (lsE ys k).1.g), .l 2 (erRows (lsE ys k).1.fr)] := by
        obtain ⟨k', rfl⟩ : ∃ k', k = k' + 1 := ⟨k - 1, by omega⟩
        rfl
      have hby : heardV 0 (lsE ys k).2.length = (lsE ys k).2 := (ls_bytes i3.2.2).symm
      have c1 := ea_count i1
      obtain ⟨_, c2, _⟩ := eaB_iff.1 i1
      have hnn := i3.2.1
      have hgl : ((lsE ys k).2.length : Int) ≤ 32 * (k : Int) := by omega
      have w5 : IntKind.i64.wrap (((lsE ys k).2.length : Int) + ((lsE ys k).1.g.length : Int)) = (lsE ys k).1.n := by rw [wrap_id] <;> omega
      simp (maxSteps := 3000000) only [Try.f8, lea6, e20, ← hys, rgRows_len, inRows_len, lsW_len, lsM_len, hlt, hcl, hby, w5, D.toI, D.toL, beq_self_eq_true, Bool.and_true, g_alive, g_sameBytes, g_sameEa, g_earOk, g_earHearD, g_earReadD, ocOf, g_drawLs, g_stFromD, g_ear2, bytesOf_rows, rowsOf_len, ersOf_rows, erRows_len, ersOf_nil, bytesOf_nil, ↓reduceIte, Bool.false_eq_true, Bool.not_true, Bool.not_false, tYs, evL, implies_true, oMin, x_min3, oMin3, x_max, oMax, oCopy, oBin, oUn, oLoadKid, oStoreTree, oField, oExtract, oNil, oSliceQ, oSliceE, x_appendZ, oAppendZ, oSliceEnd, endMode, oLoadRow, takeCells, TS.atRow, TS.ex, treeMode, AV.isOwn, TK.isSl, nilTk, nilsB, oLenQ, oLen, nodupB, treeOf, kidAbs, kidRows, TK.isCell, D.toL, oLoad, oStore, oMake, oIndexAddr, ↓reduceIte, reduceCtorEq, Nat.reduceBEq, Nat.reduceAdd, Nat.reduceMul, Nat.reduceLT, Nat.reduceSub, Nat.reduceLeDiff, Nat.reduceEqDiff, Nat.reduceBneDiff, Int.reduceToNat, decide_eq_true_eq, decide_eq_false_iff_not, beq_iff_eq, Int.toNat_natCast, loopK_normal, loopK_exit, loopK_ret, bne_self_eq_false]
      repeat' first
        | (refine And.intro ?_ ?_; focus (exact ⟨by omega, by omega, by omega⟩))
        | (refine And.intro ?_ ?_; focus (exact ⟨⟨⟨[], rfl, by simp⟩, [], rfl, by simp⟩, _, rfl, by omega⟩))
        | (refine And.intro ?_ ?_; focus (omega; done))
        | (refine And.intro ?_ ?_; focus (exact ⟨xs, rfl⟩))
        | (refine And.intro ?_ ?_; focus (exact ⟨⟨_, rfl, by omega⟩, _, rfl, by omega⟩))
        | (refine And.intro ?_ ?_; focus (exact ⟨⟨_, rfl, by omega⟩, [], rfl, by simp⟩))
        | (refine And.intro ?_ ?_; focus (exact ⟨⟨[], rfl, by simp⟩, [], rfl, by simp⟩))
        | (refine And.intro ?_ ?_; focus (exact ⟨⟨_, rfl, rfl⟩, ⟨_, rfl, rfl, by omega⟩, rfl, rfl⟩))
        | (refine And.intro ?_ ?_; focus (exact ⟨_, rfl⟩))
        | (refine And.intro ?_ ?_; focus (exact ⟨⟨_, rfl⟩, _, rfl, rfl, by omega⟩))
        | (refine And.intro ?_ ?_; focus (exact ⟨by omega, rowsOf_w _⟩))
        | (refine And.intro ?_ ?_; focus (exact ⟨⟨_, rfl, by omega⟩, ⟨_, rfl, by omega⟩, _, rfl, by omega⟩))
        | (refine And.intro ?_ ?_; focus (exact ⟨⟨⟨_, rfl, by omega⟩, _, rfl, by omega⟩, _, rfl, by omega⟩))
        | (refine And.intro ?_ ?_; focus (exact ⟨⟨_, rfl⟩, _, rfl⟩))
        | (refine And.intro ?_ ?_; focus (exact ⟨by omega, by omega, rowsOf_w _⟩))
        | (refine And.intro ?_ ?_; focus (exact ⟨by simp only [List.length_append, rowsOf_len, erRows_len, List.length_cons, List.length_nil, marks_len, List.length_take, List.length_drop, List.length_set, List.length_map, List.length_range]; omega, by simp only [List.length_append, rowsOf_len, erRows_len, List.length_cons, List.length_nil, marks_len, List.length_take, List.length_drop, List.length_set, List.length_map, List.length_range]; omega, rowsOf_w _⟩))
        | (refine And.intro ?_ ?_; focus (kernel_rfl))
      exact ⟨_, [], rfl, ⟨⟨⟨rfl, rfl, rfl⟩, trivial⟩, trivial, by simp [rn, hpAt]⟩⟩
  · cases hg
theorem walk_Listening (A : Option Addr) (n c : Nat) (xs : List UInt8) (w : World) (h : Rd w w.heap.size A n (bv xs)) (hc : n ≤ c) :
    Calls Try.prog 8 #[.slice A n c] w fun e w' => e = .returned (.bool true) ∧ Below w.heap.size w w' :=
  lawListening_ok.walk (vs := [_]) (arel_cons (.l _ _ _ (rep_of_rd h hc)) arel_nil) rfl ⟨xs, rfl⟩
end Go.Proofs.Ytikcpbgnmdhilaa
