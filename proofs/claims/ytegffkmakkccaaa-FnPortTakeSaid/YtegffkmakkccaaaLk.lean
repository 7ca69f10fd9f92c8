import Derived.Test.YtegffkmakkccaaaLj
import Derived.Test.YtegffkmakkccaaaR8
set_option linter.unusedVariables false
set_option linter.unusedSimpArgs false
namespace Go.Proofs.Ytegffkmakkccaaa
open Go.RowKit
set_option linter.unusedSimpArgs false
theorem OwnOk.either {P : Program} {f : FuncId} {g gA gB : OC} (hs : ∀ args B0 c r B1 bs, g args B0 = some (c, r, B1, bs) → ∃ q : Prop, gA args B0 = some (c ∧ q, r, B1, bs) ∧ gB args B0 = some (c ∧ ¬ q, r, B1, bs)) (A : OwnOk P f gA) (B : OwnOk P f gB) : OwnOk P f g :=
  ⟨A.there, fun w F Z0 s0 args vs B0 c r B1 bs h1 h2 h3 hg hc => by
    obtain ⟨q, ha, hb⟩ := hs _ _ _ _ _ _ hg
    rcases Classical.em q with hq | hq
    · exact A.does w F Z0 s0 args vs B0 _ r B1 bs h1 h2 h3 ha ⟨hc, hq⟩
    · exact B.does w F Z0 s0 args vs B0 _ r B1 bs h1 h2 h3 hb ⟨hc, hq⟩⟩
theorem plV_okk (l : List Po) (x : Int) : posB (plV l x) = true := by
  cases h : plB l x with
  | true => exact (pl_yes h).1
  | false =>
    rw [plV, h]
    split
    · rename_i hb
      rw [Bool.and_eq_true] at hb
      exact hb.1
    · rfl
theorem pHearV_okk (l : List Po) (o : Int) (x : Pk) : posB (pHearV l o x) = true := by
  by_cases h : pHearN l o x = 1
  · exact (hear_here h).2.1
  · cases hb : posB l with
    | true => rw [hear_else hb h]; exact hb
    | false => rw [pHearV, if_neg (by rw [hb]; decide)]; rfl
def lsL (xs : List UInt8) (q : Int) : Nat → List Po
  | 0 => []
  | k + 1 => plV (lsL xs q k) (1 + pickV xs (q + (k : Int)) 6)
theorem lsL_ok (xs : List UInt8) (q : Int) : ∀ k, posB (lsL xs q k) = true
  | 0 => rfl
  | k + 1 => plV_okk _ _
structure HrS where
  q : Int
  l : List Po
def mwP (v : MlW) : Pk := ⟨v.a, 3, 2, 0, 0, 0, false, false, mlV ⟨v.a, v.f, v.t, v.d⟩ 3⟩
def hrK (xs : List UInt8) (q : Int) (l : List Po) : Nat → HrS
  | 0 => ⟨q, l⟩
  | k + 1 => ⟨(mwV xs (hrK xs q l k).q 0).q, pHearV (hrK xs q l k).l 3 (mwP (mwV xs (hrK xs q l k).q 0))⟩
theorem hrK_ok (xs : List UInt8) (q : Int) {l : List Po} (h : posB l = true) : ∀ k, posB (hrK xs q l k).l = true
  | 0 => h
  | k + 1 => pHearV_okk _ _ _
theorem hrK_q (xs : List UInt8) (q : Int) (l : List Po) : ∀ k : Nat, q ≤ (hrK xs q l k).q ∧ (hrK xs q l k).q ≤ q + 20 * (k : Int)
  | 0 => by rw [hrK]; dsimp only; omega
  | k + 1 => by
    have ih := hrK_q xs q l k
    have h := mwV_q xs (hrK xs q l k).q 0
    rw [hrK]
    dsimp only
    omega
def lpA (xs : List UInt8) (p : Int) : Nat := (pickV xs p 6).toNat
def lpB (xs : List UInt8) (p : Int) : Nat := (pickV xs (p + 1 + (lpA xs p : Int)) 8).toNat
def lpS (xs : List UInt8) (p : Int) : HrS := hrK xs (p + 1 + (lpA xs p : Int) + 1) (lsL xs (p + 1) (lpA xs p)) (lpB xs p)
def lpO (xs : List UInt8) (p n : Int) : Bool := decide (0 < (lpS xs p).l.length) && (decide (0 < n) && (pickV xs (lpS xs p).q n == n - 1))
def lpR (xs : List UInt8) (p n : Int) : Int := if 0 < (lpS xs p).l.length then (lpS xs p).q + oneIf n else (lpS xs p).q
def poH (l : List Po) : Po := l.getD 0 po0
def lpL (xs : List UInt8) (p n : Int) : List Po :=
  if lpO xs p n = true then
    (if pickV xs (lpR xs p n) 3 = 0 then (lpS xs p).l ++ [poH (lpS xs p).l]
    else if pickV xs (lpR xs p n) 3 = 1 then (lpS xs p).l.set 0 ⟨(poH (lpS xs p).l).n, (poH (lpS xs p).l).row ++ [mwM (mwV xs (lpR xs p n + 1) 2)]⟩
    else (lpS xs p).l.set 0 ⟨pickV xs (lpR xs p n + 1) 2 * 256, (poH (lpS xs p).l).row⟩)
  else (lpS xs p).l
def lpQ (xs : List UInt8) (p n : Int) : Int :=
  if lpO xs p n = true then
    (if pickV xs (lpR xs p n) 3 = 0 then lpR xs p n + 1
    else if pickV xs (lpR xs p n) 3 = 1 then (mwV xs (lpR xs p n + 1) 2).q
    else lpR xs p n + 1 + 1)
  else lpR xs p n
def lpT (xs : List UInt8) (p n : Int) : Prop := lpO xs p n = true ∧ pickV xs (lpR xs p n) 3 = 1
theorem lpS_bd (xs : List UInt8) (p : Int) (hp : 0 ≤ p ∧ p < 10000000) : posB (lpS xs p).l = true ∧ p ≤ (lpS xs p).q ∧ (lpS xs p).q ≤ p + 200 ∧ lpA xs p ≤ 5 ∧ lpB xs p ≤ 7 := by
  have a1 := pickV_nonneg xs p 6 (by omega)
  have a2 := pickV_lt xs p 6 (by omega)
  have hA : lpA xs p ≤ 5 := by unfold lpA; omega
  have b1 := pickV_nonneg xs (p + 1 + (lpA xs p : Int)) 8 (by omega)
  have b2 := pickV_lt xs (p + 1 + (lpA xs p : Int)) 8 (by omega)
  have hB : lpB xs p ≤ 7 := by unfold lpB; omega
  have hq := hrK_q xs (p + 1 + (lpA xs p : Int) + 1) (lsL xs (p + 1) (lpA xs p)) (lpB xs p)
  have hs : (lpS xs p).q = (hrK xs (p + 1 + (lpA xs p : Int) + 1) (lsL xs (p + 1) (lpA xs p)) (lpB xs p)).q := rfl
  exact ⟨hrK_ok _ _ (lsL_ok _ _ _) _, by omega, by omega, hA, hB⟩
theorem lpL_mid (xs : List UInt8) (p n : Int) (hp : 0 ≤ p ∧ p < 10000000) : (poMid (lpL xs p n) ∧ (lpL xs p n).length ≤ 5) ∧ p ≤ lpQ xs p n ∧ lpQ xs p n ≤ p + 230 := by
  obtain ⟨h1, h2, h3, h4, h5⟩ := lpS_bd xs p hp
  have hm := poMid_ok h1
  have hl := (posB_iff.1 h1).1
  have ho := oneIf_le n
  have hR : p ≤ lpR xs p n ∧ lpR xs p n ≤ p + 201 := by unfold lpR; split <;> omega
  have hv := mwV_q xs (lpR xs p n + 1) 2
  unfold lpL lpQ
  by_cases hO : lpO xs p n = true
  · rw [if_pos hO, if_pos hO]
    have hO' := hO
    rw [lpO, Bool.and_eq_true, decide_eq_true_eq] at hO'
    have hp1 : poH (lpS xs p).l ∈ (lpS xs p).l := by rw [poH, po_get hO'.1]; exact List.getElem_mem _
    have hr := hm.2 _ hp1
    have hr3 : (poH (lpS xs p).l).row.length ≤ 3 := by
      obtain ⟨_, h2, _⟩ := posB_iff.1 h1
      exact (poB_iff.1 (h2 _ hp1)).2.1
    split
    · refine ⟨⟨⟨by simp; omega, fun x hx => ?_⟩, by simp; omega⟩, by omega, by omega⟩
      rcases List.mem_append.1 hx with hx | hx
      · exact hm.2 x hx
      · rw [List.mem_singleton.1 hx]; exact hr
    · split
      · refine ⟨⟨⟨by rw [List.length_set]; omega, fun x hx => ?_⟩, by rw [List.length_set]; omega⟩, by omega, by omega⟩
        rcases List.mem_or_eq_of_mem_set hx with hx | rfl
        · exact hm.2 x hx
        · refine ⟨by simp; omega, fun y hy => ?_⟩
          rcases List.mem_append.1 hy with hy | hy
          · exact hr.2 y hy
          · rw [List.mem_singleton.1 hy]
            show (mwV xs (lpR xs p n + 1) 2).d.length ≤ 1048576
            omega
      · refine ⟨⟨⟨by rw [List.length_set]; omega, fun x hx => ?_⟩, by rw [List.length_set]; omega⟩, by omega, by omega⟩
        rcases List.mem_or_eq_of_mem_set hx with hx | rfl
        · exact hm.2 x hx
        · exact hr
  · rw [if_neg hO, if_neg hO]
    exact ⟨⟨hm, by omega⟩, by omega, by omega⟩
def g_ports : OC := fun args B0 => match args, B0 with
  | [.ptr r o, .v (.int .i64 n)], [.var T [.l 1 rows, .v (.int .i64 p)]] => some (T = 148 ∧ r = 0 ∧ o = 0 ∧ (∃ xs, rows = rowsOfBytes xs ∧ xs.length ≤ 2000) ∧ 0 ≤ p ∧ p < 1000000 ∧ 0 ≤ n ∧ n ≤ 1000000, .l 2 (poRows (lpL (bytesOfRows rows) p n)), [.var T [.l 1 rows, .v (.int .i64 (lpQ (bytesOfRows rows) p n))]], [])
  | _, _ => none
def g_portsA : OC := fun args B0 => match args, B0 with
  | [.ptr r o, .v (.int .i64 n)], [.var T [.l 1 rows, .v (.int .i64 p)]] => some ((T = 148 ∧ r = 0 ∧ o = 0 ∧ (∃ xs, rows = rowsOfBytes xs ∧ xs.length ≤ 2000) ∧ 0 ≤ p ∧ p < 1000000 ∧ 0 ≤ n ∧ n ≤ 1000000) ∧ lpT (bytesOfRows rows) p n, .l 2 (poRows (lpL (bytesOfRows rows) p n)), [.var T [.l 1 rows, .v (.int .i64 (lpQ (bytesOfRows rows) p n))]], [])
  | _, _ => none
def g_portsB : OC := fun args B0 => match args, B0 with
  | [.ptr r o, .v (.int .i64 n)], [.var T [.l 1 rows, .v (.int .i64 p)]] => some ((T = 148 ∧ r = 0 ∧ o = 0 ∧ (∃ xs, rows = rowsOfBytes xs ∧ xs.length ≤ 2000) ∧ 0 ≤ p ∧ p < 1000000 ∧ 0 ≤ n ∧ n ≤ 1000000) ∧ ¬ lpT (bytesOfRows rows) p n, .l 2 (poRows (lpL (bytesOfRows rows) p n)), [.var T [.l 1 rows, .v (.int .i64 (lpQ (bytesOfRows rows) p n))]], [])
  | _, _ => none
def g_mailO : OC := fun args B0 => match args, B0 with
  | [.ptr r o, .v (.int .i64 n)], [.var T [.l 1 rows, .v (.int .i64 p)]] => some (T = 148 ∧ r = 0 ∧ o = 0 ∧ (∃ xs, rows = rowsOfBytes xs ∧ xs.length ≤ 2000) ∧ 0 ≤ p ∧ p < 10000000000 ∧ 0 ≤ n ∧ n ≤ 1000000, .agg [.v (.int .i64 (mwV (bytesOfRows rows) p n).a), .v (.int .i64 (mwV (bytesOfRows rows) p n).f), .v (.int .i64 (mwV (bytesOfRows rows) p n).t), .own 1], [.var T [.l 1 rows, .v (.int .i64 (mwV (bytesOfRows rows) p n).q)]], [.sl 5 1 (rowsOfBytes (mwV (bytesOfRows rows) p n).d)])
  | _, _ => none
set_option maxHeartbeats 4000000 in
set_option maxRecDepth 100000 in
theorem l20MailO_ok : OwnOk Try.prog 135 g_mailO := by
  refine OwnOk.of_vc (G := rdm) rdm_ok mixed Try.func135 (by kernel_rfl) rfl ?_
  intro args B0 cnd r B1 bs hg hc hlive
  unfold g_mailO at hg
  split at hg
  · rename_i r o n T rows p
    cases hg
    obtain ⟨rfl, rfl, rfl, ⟨xs, rfl, hl⟩, hp0, hp1, hn0, hn1⟩ := hc
    rw [bytesOf_rows]
    have a1 := pickV_nonneg xs (p + 1) 4 (by omega)
    have a2 := pickV_lt xs (p + 1) 4 (by omega)
    have a3 := pickV_nonneg xs (p + 1 + 1) 6 (by omega)
    have a4 := pickV_lt xs (p + 1 + 1) 6 (by omega)
    have k0 := pickV_nonneg xs (p + 1 + 1 + 1) 6 (by omega)
    have k1 := pickV_lt xs (p + 1 + 1 + 1) 6 (by omega)
    obtain ⟨N, hN⟩ : ∃ N, N = mwN xs p := ⟨_, rfl⟩
    have hN' : (pickV xs (p + 1 + 1 + 1) 6).toNat = N := by rw [hN, mwN]
    obtain ⟨q, hq⟩ : ∃ q, q = p + 1 + 1 + 1 + 1 + 2 * (N : Int) := ⟨_, rfl⟩
    have hq' := hq.symm
    obtain ⟨e, he⟩ : ∃ e, e = oneIf n := ⟨_, rfl⟩
    have be := oneIf_le n
    rw [← he] at be
    have he' : (if 0 < n then (1 : Int) else 0) = e := he.symm
    have bq : p ≤ q ∧ q < p + 30 := by omega
    have hB : mwBase xs p = ⟨pickV xs p 5, 1 + pickV xs (p + 1) 4, 1 + pickV xs (p + 1 + 1) 6, bytesV xs (p + 1 + 1 + 1 + 1) N, q⟩ := by rw [mwBase, ← hN, hq']
    have b3 := pickV_nonneg xs (q + e + 1) 2 (by omega)
    have b4 := pickV_lt xs (q + e + 1) 2 (by omega)
    have w1 : IntKind.i64.wrap (1 + pickV xs (p + 1) 4) = 1 + pickV xs (p + 1) 4 := wrap_id (by omega) (by omega)
    have w2 : IntKind.i64.wrap (1 + pickV xs (p + 1 + 1) 6) = 1 + pickV xs (p + 1 + 1) 6 := wrap_id (by omega) (by omega)
    have w3 : IntKind.i64.wrap (pickV xs (q + e + 1) 2 * 256) = pickV xs (q + e + 1) 2 * 256 := wrap_id (by omega) (by omega)
    have w4 : IntKind.i64.wrap (0 - pickV xs (q + e + 1) 2) = 0 - pickV xs (q + e + 1) 2 := wrap_id (by omega) (by omega)
    refine ⟨⟨by simp [likeBs, likeB], by simp [Blk.liveB, blkIds, AV.ids.idsL, AV.ids], by simp [AV.ids, AV.ids.idsL]⟩, _, rfl, fun w Z s vs h => h, ?_⟩
    clear hlive
    have hx : (∃ ys, rowsOfBytes xs = rowsOfBytes ys ∧ ys.length ≤ 2000) = True := eq_true ⟨xs, rfl, hl⟩
    simp (maxSteps := 3000000) only [Try.f135, rdm, g_pick, g_odd, g_bytes, hN', hq', he', w1, w2, w3, w4, bytesOf_rows, rowsOf_len, hx, tYs, evL, implies_true, oMin, oCopy, oBin, oUn, oLoadKid, oStoreTree, oField, oExtract, oNil, oSliceQ, oLoadRow, takeCells, TS.atRow, TS.ex, treeMode, AV.isOwn, TK.isSl, nilTk, nilsB, oLenQ, oLen, nodupB, treeOf, kidAbs, kidRows, TK.isCell, D.toL, oLoad, oStore, oMake, oIndexAddr, ↓reduceIte, reduceCtorEq, Nat.reduceBEq, Nat.reduceAdd, Nat.reduceMul, Nat.reduceLT, Nat.reduceSub, Nat.reduceLeDiff, Nat.reduceEqDiff, Nat.reduceBneDiff, Int.reduceToNat, decide_eq_true_eq, decide_eq_false_iff_not, beq_iff_eq, Int.toNat_natCast]
    clear w1 w2 w3 w4 hq' he' hN'
    (repeat (refine And.intro ?_ ?_; focus (((repeat' apply And.intro) <;> first | exact rowsOf_w _ | omega | (simp only [List.length_append, rowsOf_len, List.length_cons, List.length_nil, marks_len, List.length_take, List.length_drop, List.length_set]; omega) | exact ⟨_, rfl⟩ | (refine ⟨_, rfl, ?_⟩; omega) | (refine ⟨_, rfl, ?_⟩; simp only [List.length_append, rowsOf_len, List.length_cons, List.length_nil, marks_len, List.length_take, List.length_drop, List.length_set]; omega) | kernel_rfl | (simp; done)); done)))
    by_cases ho : (decide (0 < n) && pickV xs q n == n - 1) = true
    · rw [if_pos ho]
      (repeat (refine And.intro ?_ ?_; focus (((repeat' apply And.intro) <;> first | exact rowsOf_w _ | omega | (simp only [List.length_append, rowsOf_len, List.length_cons, List.length_nil, marks_len, List.length_take, List.length_drop, List.length_set]; omega) | exact ⟨_, rfl⟩ | (refine ⟨_, rfl, ?_⟩; omega) | (refine ⟨_, rfl, ?_⟩; simp only [List.length_append, rowsOf_len, List.length_cons, List.length_nil, marks_len, List.length_take, List.length_drop, List.length_set]; omega) | kernel_rfl | (simp; done)); done)))
      by_cases h0 : pickV xs (q + e) 3 = 0
      · rw [if_pos h0]
        (repeat (refine And.intro ?_ ?_; focus (((repeat' apply And.intro) <;> first | exact rowsOf_w _ | omega | (simp only [List.length_append, rowsOf_len, List.length_cons, List.length_nil, marks_len, List.length_take, List.length_drop, List.length_set]; omega) | exact ⟨_, rfl⟩ | (refine ⟨_, rfl, ?_⟩; omega) | (refine ⟨_, rfl, ?_⟩; simp only [List.length_append, rowsOf_len, List.length_cons, List.length_nil, marks_len, List.length_take, List.length_drop, List.length_set]; omega) | kernel_rfl | (simp; done)); done)))
        have hv : mwV xs p n = ⟨pickV xs p 5, pickV xs (q + e + 1) 2 * 256, 1 + pickV xs (p + 1 + 1) 6, bytesV xs (p + 1 + 1 + 1 + 1) N, q + e + 1 + 1⟩ := by rw [mwV, hB, if_pos ho, mwE, ← he, if_pos h0]
        rw [hv]
        exact ⟨[(0, some 0), (1, some _)], ⟨⟨⟨rfl, rfl, rfl⟩, trivial⟩, ⟨.inl rfl, rfl, rfl, rfl, .inl rfl, rfl, rfl, rfl, trivial⟩, by simp [rn, hpAt]⟩, by simp [keepIds, rn, List.range, List.range.loop]⟩
      · rw [if_neg h0]
        by_cases h1 : pickV xs (q + e) 3 = 1
        · rw [if_pos h1]
          (repeat (refine And.intro ?_ ?_; focus (((repeat' apply And.intro) <;> first | exact rowsOf_w _ | omega | (simp only [List.length_append, rowsOf_len, List.length_cons, List.length_nil, marks_len, List.length_take, List.length_drop, List.length_set]; omega) | exact ⟨_, rfl⟩ | (refine ⟨_, rfl, ?_⟩; omega) | (refine ⟨_, rfl, ?_⟩; simp only [List.length_append, rowsOf_len, List.length_cons, List.length_nil, marks_len, List.length_take, List.length_drop, List.length_set]; omega) | kernel_rfl | (simp; done)); done)))
          have hv : mwV xs p n = ⟨pickV xs p 5, 1 + pickV xs (p + 1) 4, 0 - pickV xs (q + e + 1) 2, bytesV xs (p + 1 + 1 + 1 + 1) N, q + e + 1 + 1⟩ := by rw [mwV, hB, if_pos ho, mwE, ← he, if_neg h0, if_pos h1]
          rw [hv]
          exact ⟨[(0, some 0), (1, some _)], ⟨⟨⟨rfl, rfl, rfl⟩, trivial⟩, ⟨.inl rfl, rfl, rfl, rfl, .inl rfl, rfl, rfl, rfl, trivial⟩, by simp [rn, hpAt]⟩, by simp [keepIds, rn, List.range, List.range.loop]⟩
        · rw [if_neg h1]
          (repeat (refine And.intro ?_ ?_; focus (((repeat' apply And.intro) <;> first | exact rowsOf_w _ | omega | (simp only [List.length_append, rowsOf_len, List.length_cons, List.length_nil, marks_len, List.length_take, List.length_drop, List.length_set]; omega) | exact ⟨_, rfl⟩ | (refine ⟨_, rfl, ?_⟩; omega) | (refine ⟨_, rfl, ?_⟩; simp only [List.length_append, rowsOf_len, List.length_cons, List.length_nil, marks_len, List.length_take, List.length_drop, List.length_set]; omega) | kernel_rfl | (simp; done)); done)))
          have hv : mwV xs p n = ⟨pickV xs p 5, 1 + pickV xs (p + 1) 4, 1 + pickV xs (p + 1 + 1) 6, List.replicate 41 0, q + e + 1⟩ := by rw [mwV, hB, if_pos ho, mwE, ← he, if_neg h0, if_neg h1]
          rw [hv]
          exact ⟨[(0, some 0), (1, some _)], ⟨⟨⟨rfl, rfl, rfl⟩, trivial⟩, ⟨.inl rfl, rfl, rfl, rfl, .inl rfl, rfl, rfl, rfl, trivial⟩, by simp [rn, hpAt]⟩, by simp [keepIds, rn, List.range, List.range.loop]⟩
    · rw [if_neg ho]
      (repeat (refine And.intro ?_ ?_; focus (((repeat' apply And.intro) <;> first | exact rowsOf_w _ | omega | (simp only [List.length_append, rowsOf_len, List.length_cons, List.length_nil, marks_len, List.length_take, List.length_drop, List.length_set]; omega) | exact ⟨_, rfl⟩ | (refine ⟨_, rfl, ?_⟩; omega) | (refine ⟨_, rfl, ?_⟩; simp only [List.length_append, rowsOf_len, List.length_cons, List.length_nil, marks_len, List.length_take, List.length_drop, List.length_set]; omega) | kernel_rfl | (simp; done)); done)))
      have hv : mwV xs p n = ⟨pickV xs p 5, 1 + pickV xs (p + 1) 4, 1 + pickV xs (p + 1 + 1) 6, bytesV xs (p + 1 + 1 + 1 + 1) N, q + e⟩ := by rw [mwV, hB, if_neg ho, ← he]
      rw [hv]
      exact ⟨[(0, some 0), (1, some _)], ⟨⟨⟨rfl, rfl, rfl⟩, trivial⟩, ⟨.inl rfl, rfl, rfl, rfl, .inl rfl, rfl, rfl, rfl, trivial⟩, by simp [rn, hpAt]⟩, by simp [keepIds, rn, List.range, List.range.loop]⟩
  · cases hg
def g_portListenS : PC := fun args => match args with
  | [.l _ rows, .v (.int .i64 x)] => some (∃ l, rows = poRows l ∧ poMid l, .tup [.own 0, .v (.bool (plB (posOf rows) x))], [.sl 60 2 (poRows (plV (posOf rows) x))])
  | _ => none
theorem specPortListenS_ok : OwnOk Try.prog 134 (ocOf g_portListenS) := specPortListen_ok.toSl fun args c r bs' h => by
  unfold g_portListenS at h
  split at h
  · cases h
    exact ⟨_, rfl, rfl, fun b hb => by rw [List.mem_singleton.1 hb]; rfl⟩
  · cases h
def g_portHearS : PC := fun args => match args with
  | [.l _ rows', .v (.int .i64 o), .agg [.v (.int .i64 f), .v (.int .i64 t), .v (.int .i64 p), .v (.int .i64 h), .v (.int .i64 i), .v (.int .i64 a), .v (.bool m), .v (.bool u), .l _ rows]] => some ((∃ l, rows' = poRows l ∧ poMid l) ∧ ∃ xs, rows = rowsOfBytes xs ∧ xs.length ≤ 1048576, .tup [.own 0, .v (.int .i64 (pHearN (posOf rows') o ⟨f, t, p, h, i, a, m, u, bytesOfRows rows⟩))], [.sl 60 2 (poRows (pHearV (posOf rows') o ⟨f, t, p, h, i, a, m, u, bytesOfRows rows⟩))])
  | _ => none
theorem specPortHearS_ok : OwnOk Try.prog 136 (ocOf g_portHearS) := specPortHear_ok.toSl fun args c r bs' h => by
  unfold g_portHearS at h
  split at h
  · cases h
    exact ⟨_, rfl, rfl, fun b hb => by rw [List.mem_singleton.1 hb]; rfl⟩
  · cases h
def klpA : List (FuncId × Abs) := [(58, ownAbs g_pick), (58, ownAbs g_pick), (115, ownAbs g_odd), (135, ownAbs g_mailO), (137, pureAbs g_mailBytes), (134, pureAbs g_portListen), (136, pureAbs g_portHear)]
theorem klpA_ok : ∀ p ∈ klpA, CallOk Try.prog p.1 p.2 := by
  intro p hp
  simp only [klpA, List.mem_cons, List.not_mem_nil, or_false] at hp
  rcases hp with rfl | rfl | rfl | rfl | rfl | rfl | rfl
  · exact pick_ok.call
  · exact pick_ok.call
  · exact odd_ok.call
  · exact l20MailO_ok.call
  · exact specMailBytes_ok.call
  · exact specPortListen_ok.call
  · exact specPortHear_ok.call
def klpB : List (FuncId × Abs) := [(58, ownAbs g_pick), (115, ownAbs g_odd), (135, ownAbs g_mail), (137, pureAbs g_mailBytes), (134, frzAbs g_portListenS), (136, frzAbs g_portHearS)]
theorem klpB_ok : ∀ p ∈ klpB, CallOk Try.prog p.1 p.2 := by
  intro p hp
  simp only [klpB, List.mem_cons, List.not_mem_nil, or_false] at hp
  rcases hp with rfl | rfl | rfl | rfl | rfl | rfl
  · exact pick_ok.call
  · exact odd_ok.call
  · exact l20Mail_ok.call
  · exact specMailBytes_ok.call
  · exact specPortListenS_ok.callF
  · exact specPortHearS_ok.callF
theorem mlV_len2 (m : Ml) (to : Int) : (mlV m to).length ≤ 45 := by
  cases h : (mlB m && inZ to 0 65535) with
  | true =>
    rw [mlV_len h]
    have hb := h
    rw [Bool.and_eq_true] at hb
    have := (mlB_iff.1 hb.1).2.2.2
    omega
  | false => rw [mlV, if_neg (by rw [h]; decide)]; simp
set_option maxHeartbeats 16000000 in
set_option maxRecDepth 100000 in
theorem l20PortsB_ok : OwnOk Try.prog 83 g_portsB := by
  refine OwnOk.of_vcL (G := klpB) klpB_ok mixed Try.func83 (by kernel_rfl) rfl ?_
  intro args B0 cnd r B1 bs hg hc hlive
  unfold g_portsB at hg
  split at hg
  · rename_i r o n T rows p
    cases hg
    obtain ⟨⟨rfl, rfl, rfl, ⟨xs, rfl, hl⟩, hp0, hp1, hn0, hn1⟩, hT⟩ := hc
    rw [bytesOf_rows] at hT ⊢
    have hbd := lpS_bd xs p (by omega)
    have a1 := pickV_nonneg xs p 6 (by omega)
    obtain ⟨a, ha⟩ : ∃ a, a = lpA xs p := ⟨_, rfl⟩
    have hpa : pickV xs p 6 = (a : Int) := by rw [ha, lpA]; omega
    obtain ⟨b, hb⟩ : ∃ b, b = lpB xs p := ⟨_, rfl⟩
    have b1 := pickV_nonneg xs (p + 1 + (a : Int)) 8 (by omega)
    have hpb : pickV xs (p + 1 + (a : Int)) 8 = (b : Int) := by rw [hb, lpB, ← ha]; omega
    have hS : lpS xs p = hrK xs (p + 1 + (a : Int) + 1) (lsL xs (p + 1) a) b := by rw [lpS, ← ha, ← hb]
    have ha5 : a ≤ 5 := by rw [ha]; exact hbd.2.2.2.1
    have hb7 : b ≤ 7 := by rw [hb]; exact hbd.2.2.2.2
    clear ha hb a1 b1
    refine ⟨⟨by simp [likeBs, likeB], rfl, fun b hb => by simp at hb; subst hb; exact ⟨_, _, rfl, rfl⟩, by simp [AV.ids, AV.ids.idsL]⟩, _, rfl, fun w Z s vs h => h, ?_⟩
    clear hlive
    have hx : (∃ ys, rowsOfBytes xs = rowsOfBytes ys ∧ ys.length ≤ 2000) = True := eq_true ⟨xs, rfl, hl⟩
    simp (maxSteps := 3000000) only [Try.f83, klpB, g_mail, g_portListenS, g_portHearS, ocOf, g_pick, g_odd, g_mailBytes, bytesOf_rows, rowsOf_len, posOf_rows, poRows_len, mRows_len, hpa, hx, D.toI, D.toL, ↓reduceIte, Bool.false_eq_true, doneL_ret, doneL_normal, tYs, evL, implies_true, oMin, oCopy, oBin, oUn, oLoadKid, oStoreTree, oField, oExtract, oNil, oSliceQ, oLoadRow, takeCells, TS.atRow, TS.ex, treeMode, AV.isOwn, TK.isSl, nilTk, nilsB, oLenQ, oLen, nodupB, treeOf, kidAbs, kidRows, TK.isCell, D.toL, oLoad, oStore, oMake, oIndexAddr, ↓reduceIte, reduceCtorEq, Nat.reduceBEq, Nat.reduceAdd, Nat.reduceMul, Nat.reduceLT, Nat.reduceSub, Nat.reduceLeDiff, Nat.reduceEqDiff, Nat.reduceBneDiff, Int.reduceToNat, decide_eq_true_eq, decide_eq_false_iff_not, beq_iff_eq, Int.toNat_natCast, loopK_normal, loopK_exit, loopK_ret]
    refine ⟨⟨by omega, by omega⟩, ?_⟩
    refine e_loop _ _ _ _ _ _ _ _ (fun k : Nat => [.ptr 0 0, .v (.int .i64 n), .any, .any, .any, .own 1, .v (.int .i64 ((a : Int) - (k : Int)))] ++ List.replicate (Try.f83.ntmps - 7) .any) (fun k => [(0, .var 148 [.l 1 (rowsOfBytes xs), .v (.int .i64 (p + 1 + (k : Int)))]), (1, .sl 60 2 (poRows (lsL xs (p + 1) k)))]) (fun k => k ≤ a) (fun k => a - k) 2 (fun k => by simp) ?_ fun k hk' => ?_
    · exact ⟨0, [(0, some 0), (1, some _)], Nat.zero_le _, ⟨⟨⟨rfl, rfl, rfl⟩, ⟨rfl, rfl, rfl⟩, trivial, trivial, trivial, ⟨rfl, rfl, rfl⟩, ⟨congrArg (fun z : Int => AV.v (Value.int .i64 z)) (by omega), rfl, rfl⟩, fitT_rep _ _ rfl⟩, ⟨.inl (congrArg (fun z : Int => Blk.var 148 [.l 1 (rowsOfBytes xs), .v (.int .i64 z)]) (by omega)), rfl, rfl, rfl, .inl rfl, rfl, rfl, rfl, trivial⟩, by simp [rn, hpAt]⟩, by simp [keepIds, rn]⟩
    have hk : k ≤ a := hk'
    have wn : IntKind.i64.wrap ((a : Int) - (k : Int) - 1) = (a : Int) - ((k + 1 : Nat) : Int) := by rw [wrap_id] <;> omega
    have hlo := lsL_ok xs (p + 1) k
    have hlm := poMid_ok hlo
    by_cases hka : k < a
    · have hg : ((a : Int) - (k : Int) > 0) = True := eq_true (by omega)
      have i0 := pickV_nonneg xs (p + 1 + (k : Int)) 6 (by omega)
      have i1 := pickV_lt xs (p + 1 + (k : Int)) 6 (by omega)
      have w1 : IntKind.i64.wrap (1 + pickV xs (p + 1 + (k : Int)) 6) = 1 + pickV xs (p + 1 + (k : Int)) 6 := wrap_id (by omega) (by omega)
      have hst : plV (lsL xs (p + 1) k) (1 + pickV xs (p + 1 + (k : Int)) 6) = lsL xs (p + 1) (k + 1) := rfl
      simp (maxSteps := 3000000) only [Try.f83, klpB, g_mail, g_portListenS, g_portHearS, ocOf, g_pick, g_odd, g_mailBytes, bytesOf_rows, rowsOf_len, posOf_rows, poRows_len, mRows_len, hg, wn, w1, hst, hx, D.toI, D.toL, ↓reduceIte, Bool.false_eq_true, doneL_ret, doneL_normal, tYs, evL, implies_true, oMin, oCopy, oBin, oUn, oLoadKid, oStoreTree, oField, oExtract, oNil, oSliceQ, oLoadRow, takeCells, TS.atRow, TS.ex, treeMode, AV.isOwn, TK.isSl, nilTk, nilsB, oLenQ, oLen, nodupB, treeOf, kidAbs, kidRows, TK.isCell, D.toL, oLoad, oStore, oMake, oIndexAddr, ↓reduceIte, reduceCtorEq, Nat.reduceBEq, Nat.reduceAdd, Nat.reduceMul, Nat.reduceLT, Nat.reduceSub, Nat.reduceLeDiff, Nat.reduceEqDiff, Nat.reduceBneDiff, Int.reduceToNat, decide_eq_true_eq, decide_eq_false_iff_not, beq_iff_eq, Int.toNat_natCast, loopK_normal, loopK_exit, loopK_ret]
      refine ⟨⟨by omega, by omega⟩, ⟨_, rfl, hlm⟩, ?_⟩
      exact ⟨k + 1, [(0, some 0), (1, some _)], by omega, by omega, ⟨⟨⟨rfl, rfl, rfl⟩, ⟨rfl, rfl, rfl⟩, trivial, trivial, trivial, ⟨rfl, rfl, rfl⟩, ⟨rfl, rfl, rfl⟩, fitT_rep _ _ rfl⟩, ⟨.inl (congrArg (fun z : Int => Blk.var 148 [.l 1 (rowsOfBytes xs), .v (.int .i64 z)]) (by omega)), rfl, rfl, rfl, .inl rfl, rfl, rfl, rfl, trivial⟩, by simp [rn, hpAt]⟩, by simp [keepIds, rn]⟩
    have hg : ((a : Int) - (k : Int) > 0) = False := eq_false (by omega)
    obtain rfl : k = a := by omega
    obtain ⟨L, hL⟩ : ∃ L, lsL xs (p + 1) k = L := ⟨_, rfl⟩
    rw [hL] at hlo hlm hS ⊢
    simp (maxSteps := 3000000) only [Try.f83, klpB, g_mail, g_portListenS, g_portHearS, ocOf, g_pick, g_odd, g_mailBytes, bytesOf_rows, rowsOf_len, posOf_rows, poRows_len, mRows_len, hg, hpb, hx, D.toI, D.toL, ↓reduceIte, Bool.false_eq_true, doneL_ret, doneL_normal, tYs, evL, implies_true, oMin, oCopy, oBin, oUn, oLoadKid, oStoreTree, oField, oExtract, oNil, oSliceQ, oLoadRow, takeCells, TS.atRow, TS.ex, treeMode, AV.isOwn, TK.isSl, nilTk, nilsB, oLenQ, oLen, nodupB, treeOf, kidAbs, kidRows, TK.isCell, D.toL, oLoad, oStore, oMake, oIndexAddr, ↓reduceIte, reduceCtorEq, Nat.reduceBEq, Nat.reduceAdd, Nat.reduceMul, Nat.reduceLT, Nat.reduceSub, Nat.reduceLeDiff, Nat.reduceEqDiff, Nat.reduceBneDiff, Int.reduceToNat, decide_eq_true_eq, decide_eq_false_iff_not, beq_iff_eq, Int.toNat_natCast, loopK_normal, loopK_exit, loopK_ret]
    refine ⟨⟨by omega, by omega⟩, ?_⟩
    obtain ⟨Q, hQ⟩ : ∃ Q, p + 1 + (k : Int) + 1 = Q := ⟨_, rfl⟩
    rw [hQ] at hS ⊢
    have hQb : 0 ≤ Q ∧ Q ≤ 1000010 := by omega
    refine e_loop _ _ _ _ _ _ _ _ (fun x : Nat × HrS => [.ptr 0 0, .v (.int .i64 n), .any, .any, .any, .own 1, .any, .v (.int .i64 ((b : Int) - (x.1 : Int)))] ++ List.replicate (Try.f83.ntmps - 8) .any) (fun x => [(0, .var 148 [.l 1 (rowsOfBytes xs), .v (.int .i64 (x.2.q))]), (1, .sl 60 2 (poRows (x.2.l)))]) (fun x => x.1 ≤ b ∧ x.2 = hrK xs Q L x.1) (fun x => b - x.1) 2 (fun x => by simp) ?_ fun x hk' => ?_
    · exact ⟨(0, ⟨Q, L⟩), [(0, some 0), (1, some _)], ⟨Nat.zero_le _, rfl⟩, ⟨⟨⟨rfl, rfl, rfl⟩, ⟨rfl, rfl, rfl⟩, trivial, trivial, trivial, ⟨rfl, rfl, rfl⟩, trivial, ⟨congrArg (fun z : Int => AV.v (Value.int .i64 z)) (by omega), rfl, rfl⟩, fitT_rep _ _ rfl⟩, ⟨.inl rfl, rfl, rfl, rfl, .inl rfl, rfl, rfl, rfl, trivial⟩, by simp [rn, hpAt]⟩, by simp [keepIds, rn]⟩
    obtain ⟨j, s⟩ := x
    obtain ⟨hj, hs⟩ := hk'
    dsimp only at hj hs
    have hso := hrK_ok xs Q hlo j
    have hsq := hrK_q xs Q L j
    rw [← hs] at hso hsq
    have hsm := poMid_ok hso
    have hsl4 := (posB_iff.1 hso).1
    have wn2 : IntKind.i64.wrap ((b : Int) - (j : Int) - 1) = (b : Int) - ((j + 1 : Nat) : Int) := by rw [wrap_id] <;> omega
    by_cases hjb : j < b
    · have hg2 : ((b : Int) - (j : Int) > 0) = True := eq_true (by omega)
      have hv := mwV_q xs s.q 0
      have hst : (⟨(mwV xs s.q 0).q, pHearV s.l 3 (mwP (mwV xs s.q 0))⟩ : HrS) = hrK xs Q L (j + 1) := by rw [hrK, ← hs]
      obtain ⟨V, hV⟩ : ∃ V, mwV xs s.q 0 = V := ⟨_, rfl⟩
      rw [hV] at hv hst
      have hml := mlV_len2 ⟨V.a, V.f, V.t, V.d⟩ 3
      have hE : (⟨V.a, 3, 2, 0, 0, 0, false, false, mlV ⟨V.a, V.f, V.t, V.d⟩ 3⟩ : Pk) = mwP V := rfl
      simp (maxSteps := 3000000) only [Try.f83, klpB, g_mail, g_portListenS, g_portHearS, ocOf, g_pick, g_odd, g_mailBytes, bytesOf_rows, rowsOf_len, posOf_rows, poRows_len, mRows_len, hg2, wn2, hV, hE, hx, D.toI, D.toL, ↓reduceIte, Bool.false_eq_true, doneL_ret, doneL_normal, tYs, evL, implies_true, oMin, oCopy, oBin, oUn, oLoadKid, oStoreTree, oField, oExtract, oNil, oSliceQ, oLoadRow, takeCells, TS.atRow, TS.ex, treeMode, AV.isOwn, TK.isSl, nilTk, nilsB, oLenQ, oLen, nodupB, treeOf, kidAbs, kidRows, TK.isCell, D.toL, oLoad, oStore, oMake, oIndexAddr, ↓reduceIte, reduceCtorEq, Nat.reduceBEq, Nat.reduceAdd, Nat.reduceMul, Nat.reduceLT, Nat.reduceSub, Nat.reduceLeDiff, Nat.reduceEqDiff, Nat.reduceBneDiff, Int.reduceToNat, decide_eq_true_eq, decide_eq_false_iff_not, beq_iff_eq, Int.toNat_natCast, loopK_normal, loopK_exit, loopK_ret]
      refine ⟨⟨by omega, by omega, by omega, by omega⟩, ⟨_, rfl, by omega⟩, ⟨⟨_, rfl, hsm⟩, _, rfl, by omega⟩, by kernel_rfl, ?_⟩
      exact ⟨(j + 1, ⟨V.q, pHearV s.l 3 (mwP V)⟩), [(0, some 0), (1, some _)], ⟨by dsimp only; omega, hst⟩, by dsimp only; omega, ⟨⟨⟨rfl, rfl, rfl⟩, ⟨rfl, rfl, rfl⟩, trivial, trivial, trivial, ⟨rfl, rfl, rfl⟩, trivial, ⟨rfl, rfl, rfl⟩, fitT_rep _ _ rfl⟩, ⟨.inl rfl, rfl, rfl, rfl, .inl rfl, rfl, rfl, rfl, trivial⟩, by simp [rn, hpAt]⟩, by simp [keepIds, rn]⟩
    have hg2 : ((b : Int) - (j : Int) > 0) = False := eq_false (by omega)
    obtain rfl : j = b := by omega
    have hSs : lpS xs p = s := hS.trans hs.symm
    obtain ⟨e, he⟩ : ∃ e, e = oneIf n := ⟨_, rfl⟩
    have he' : (if 0 < n then (1 : Int) else 0) = e := he.symm
    have heb := oneIf_le n
    rw [← he] at heb
    by_cases hl0 : 0 < s.l.length
    rotate_left
    · have c0 : ((s.l.length : Int) > 0) = False := eq_false (by omega)
      have hO : lpO xs p n = false := by rw [lpO, hSs, decide_eq_false hl0, Bool.false_and]
      have hR : lpR xs p n = s.q := by rw [lpR, hSs, if_neg hl0]
      have hv : lpL xs p n = s.l := by rw [lpL, hO, if_neg (by decide), hSs]
      have hv2 : lpQ xs p n = s.q := by rw [lpQ, hO, if_neg (by decide), hR]
      rw [hv, hv2]
      simp (maxSteps := 3000000) only [Try.f83, klpB, g_mail, g_portListenS, g_portHearS, ocOf, g_pick, g_odd, g_mailBytes, bytesOf_rows, rowsOf_len, posOf_rows, poRows_len, mRows_len, hg2, c0, hx, D.toI, D.toL, ↓reduceIte, Bool.false_eq_true, doneL_ret, doneL_normal, tYs, evL, implies_true, oMin, oCopy, oBin, oUn, oLoadKid, oStoreTree, oField, oExtract, oNil, oSliceQ, oLoadRow, takeCells, TS.atRow, TS.ex, treeMode, AV.isOwn, TK.isSl, nilTk, nilsB, oLenQ, oLen, nodupB, treeOf, kidAbs, kidRows, TK.isCell, D.toL, oLoad, oStore, oMake, oIndexAddr, ↓reduceIte, reduceCtorEq, Nat.reduceBEq, Nat.reduceAdd, Nat.reduceMul, Nat.reduceLT, Nat.reduceSub, Nat.reduceLeDiff, Nat.reduceEqDiff, Nat.reduceBneDiff, Int.reduceToNat, decide_eq_true_eq, decide_eq_false_iff_not, beq_iff_eq, Int.toNat_natCast, loopK_normal, loopK_exit, loopK_ret]
      exact ⟨_, rfl, rfl, rfl⟩
    have c0 : ((s.l.length : Int) > 0) = True := eq_true (by omega)
    have hR : lpR xs p n = s.q + e := by rw [lpR, hSs, if_pos hl0, ← he]
    by_cases ho : (decide (0 < n) && (pickV xs s.q n == n - 1)) = true
    rotate_left
    · have ho' : (decide (0 < n) && (pickV xs s.q n == n - 1)) = false := Bool.eq_false_iff.2 ho
      have hO : lpO xs p n = false := by rw [lpO, hSs, ho', Bool.and_false]
      have hv : lpL xs p n = s.l := by rw [lpL, hO, if_neg (by decide), hSs]
      have hv2 : lpQ xs p n = s.q + e := by rw [lpQ, hO, if_neg (by decide), hR]
      rw [hv, hv2]
      simp (maxSteps := 3000000) only [Try.f83, klpB, g_mail, g_portListenS, g_portHearS, ocOf, g_pick, g_odd, g_mailBytes, bytesOf_rows, rowsOf_len, posOf_rows, poRows_len, mRows_len, hg2, c0, ho', he', hx, D.toI, D.toL, ↓reduceIte, Bool.false_eq_true, doneL_ret, doneL_normal, tYs, evL, implies_true, oMin, oCopy, oBin, oUn, oLoadKid, oStoreTree, oField, oExtract, oNil, oSliceQ, oLoadRow, takeCells, TS.atRow, TS.ex, treeMode, AV.isOwn, TK.isSl, nilTk, nilsB, oLenQ, oLen, nodupB, treeOf, kidAbs, kidRows, TK.isCell, D.toL, oLoad, oStore, oMake, oIndexAddr, ↓reduceIte, reduceCtorEq, Nat.reduceBEq, Nat.reduceAdd, Nat.reduceMul, Nat.reduceLT, Nat.reduceSub, Nat.reduceLeDiff, Nat.reduceEqDiff, Nat.reduceBneDiff, Int.reduceToNat, decide_eq_true_eq, decide_eq_false_iff_not, beq_iff_eq, Int.toNat_natCast, loopK_normal, loopK_exit, loopK_ret]
      refine ⟨⟨by omega, by omega, by omega, by omega⟩, ?_⟩
      exact ⟨_, rfl, rfl, rfl⟩
    have hO : lpO xs p n = true := by rw [lpO, hSs, decide_eq_true hl0, ho]; rfl
    have hrow := poRows_get s.l 0 hl0
    have hpo : poH s.l = s.l[0] := by rw [poH, po_get hl0]
    by_cases h0 : pickV xs (s.q + e) 3 = 0
    · have n0 : (pickV xs (s.q + e) 3 = 0) = True := eq_true h0
      have hv : lpL xs p n = s.l ++ [poH s.l] := by rw [lpL, if_pos hO, hR, if_pos h0, hSs]
      have hv2 : lpQ xs p n = s.q + e + 1 := by rw [lpQ, if_pos hO, hR, if_pos h0]
      have e1 : poRows s.l ++ [[D.v (.int .i64 s.l[0].n), D.l 4 (mRows s.l[0].row)]] = poRows (s.l ++ [poH s.l]) := by
        rw [hpo, ← poRows_app]; rfl
      rw [hv, hv2]
      simp (maxSteps := 3000000) only [Try.f83, klpB, g_mail, g_portListenS, g_portHearS, ocOf, g_pick, g_odd, g_mailBytes, bytesOf_rows, rowsOf_len, posOf_rows, poRows_len, mRows_len, hg2, c0, ho, he', n0, hrow, e1, poRow, hx, D.toI, D.toL, ↓reduceIte, Bool.false_eq_true, doneL_ret, doneL_normal, tYs, evL, implies_true, oMin, oCopy, oBin, oUn, oLoadKid, oStoreTree, oField, oExtract, oNil, oSliceQ, oLoadRow, takeCells, TS.atRow, TS.ex, treeMode, AV.isOwn, TK.isSl, nilTk, nilsB, oLenQ, oLen, nodupB, treeOf, kidAbs, kidRows, TK.isCell, D.toL, oLoad, oStore, oMake, oIndexAddr, ↓reduceIte, reduceCtorEq, Nat.reduceBEq, Nat.reduceAdd, Nat.reduceMul, Nat.reduceLT, Nat.reduceSub, Nat.reduceLeDiff, Nat.reduceEqDiff, Nat.reduceBneDiff, Int.reduceToNat, decide_eq_true_eq, decide_eq_false_iff_not, beq_iff_eq, Int.toNat_natCast, loopK_normal, loopK_exit, loopK_ret]
      refine ⟨⟨by omega, by omega, by omega, by omega⟩, ⟨by omega, by omega⟩, by omega, hl0, ⟨by omega, by omega, by simp⟩, ?_⟩
      exact ⟨_, rfl, rfl, rfl⟩
    · have n0 : (pickV xs (s.q + e) 3 = 0) = False := eq_false h0
      by_cases h1 : pickV xs (s.q + e) 3 = 1
      · exact absurd ⟨hO, by rw [hR]; exact h1⟩ hT
      · have n1 : (pickV xs (s.q + e) 3 = 1) = False := eq_false h1
        have i0 := pickV_nonneg xs (s.q + e + 1) 2 (by omega)
        have i1 := pickV_lt xs (s.q + e + 1) 2 (by omega)
        have w1 : IntKind.i64.wrap (pickV xs (s.q + e + 1) 2 * 256) = pickV xs (s.q + e + 1) 2 * 256 := wrap_id (by omega) (by omega)
        have hv : lpL xs p n = s.l.set 0 ⟨pickV xs (s.q + e + 1) 2 * 256, (poH s.l).row⟩ := by rw [lpL, if_pos hO, hR, if_neg h0, if_neg h1, hSs]
        have hv2 : lpQ xs p n = s.q + e + 1 + 1 := by rw [lpQ, if_pos hO, hR, if_neg h0, if_neg h1]
        have e1 : (poRows s.l).set 0 [.v (.int .i64 (pickV xs (s.q + e + 1) 2 * 256)), .l 4 (mRows s.l[0].row)] = poRows (s.l.set 0 ⟨pickV xs (s.q + e + 1) 2 * 256, (poH s.l).row⟩) := by
          rw [hpo, ← poRows_set]
        rw [hv, hv2]
        simp (maxSteps := 3000000) only [Try.f83, klpB, g_mail, g_portListenS, g_portHearS, ocOf, g_pick, g_odd, g_mailBytes, bytesOf_rows, rowsOf_len, posOf_rows, poRows_len, mRows_len, hg2, c0, ho, he', n0, n1, hrow, w1, e1, poRow, hx, D.toI, D.toL, ↓reduceIte, Bool.false_eq_true, doneL_ret, doneL_normal, tYs, evL, implies_true, oMin, oCopy, oBin, oUn, oLoadKid, oStoreTree, oField, oExtract, oNil, oSliceQ, oLoadRow, takeCells, TS.atRow, TS.ex, treeMode, AV.isOwn, TK.isSl, nilTk, nilsB, oLenQ, oLen, nodupB, treeOf, kidAbs, kidRows, TK.isCell, D.toL, oLoad, oStore, oMake, oIndexAddr, ↓reduceIte, reduceCtorEq, Nat.reduceBEq, Nat.reduceAdd, Nat.reduceMul, Nat.reduceLT, Nat.reduceSub, Nat.reduceLeDiff, Nat.reduceEqDiff, Nat.reduceBneDiff, Int.reduceToNat, decide_eq_true_eq, decide_eq_false_iff_not, beq_iff_eq, Int.toNat_natCast, loopK_normal, loopK_exit, loopK_ret]
        refine ⟨⟨by omega, by omega, by omega, by omega⟩, ⟨by omega, by omega⟩, ⟨by omega, by omega⟩, by omega, hl0, ?_⟩
        exact ⟨_, rfl, rfl, rfl⟩
  · cases hg
set_option maxHeartbeats 16000000 in
set_option maxRecDepth 100000 in
theorem l20PortsA_ok : OwnOk Try.prog 83 g_portsA := by
  refine OwnOk.of_vcL (G := klpA) klpA_ok mixed Try.func83 (by kernel_rfl) rfl ?_
  intro args B0 cnd r B1 bs hg hc hlive
  unfold g_portsA at hg
  split at hg
  · rename_i r o n T rows p
    cases hg
    obtain ⟨⟨rfl, rfl, rfl, ⟨xs, rfl, hl⟩, hp0, hp1, hn0, hn1⟩, hT⟩ := hc
    rw [bytesOf_rows] at hT ⊢
    have hbd := lpS_bd xs p (by omega)
    have a1 := pickV_nonneg xs p 6 (by omega)
    obtain ⟨a, ha⟩ : ∃ a, a = lpA xs p := ⟨_, rfl⟩
    have hpa : pickV xs p 6 = (a : Int) := by rw [ha, lpA]; omega
    obtain ⟨b, hb⟩ : ∃ b, b = lpB xs p := ⟨_, rfl⟩
    have b1 := pickV_nonneg xs (p + 1 + (a : Int)) 8 (by omega)
    have hpb : pickV xs (p + 1 + (a : Int)) 8 = (b : Int) := by rw [hb, lpB, ← ha]; omega
    have hS : lpS xs p = hrK xs (p + 1 + (a : Int) + 1) (lsL xs (p + 1) a) b := by rw [lpS, ← ha, ← hb]
    have ha5 : a ≤ 5 := by rw [ha]; exact hbd.2.2.2.1
    have hb7 : b ≤ 7 := by rw [hb]; exact hbd.2.2.2.2
    clear ha hb a1 b1
    refine ⟨⟨by simp [likeBs, likeB], rfl, fun b hb => by simp at hb; subst hb; exact ⟨_, _, rfl, rfl⟩, by simp [AV.ids, AV.ids.idsL]⟩, _, rfl, fun w Z s vs h => h, ?_⟩
    clear hlive
    have hx : (∃ ys, rowsOfBytes xs = rowsOfBytes ys ∧ ys.length ≤ 2000) = True := eq_true ⟨xs, rfl, hl⟩
    simp (maxSteps := 3000000) only [Try.f83, klpA, g_mailO, g_portListen, g_portHear, ocOf, g_pick, g_odd, g_mailBytes, bytesOf_rows, rowsOf_len, posOf_rows, poRows_len, mRows_len, hpa, hx, D.toI, D.toL, ↓reduceIte, Bool.false_eq_true, doneL_ret, doneL_normal, tYs, evL, implies_true, oMin, oCopy, oBin, oUn, oLoadKid, oStoreTree, oField, oExtract, oNil, oSliceQ, oLoadRow, takeCells, TS.atRow, TS.ex, treeMode, AV.isOwn, TK.isSl, nilTk, nilsB, oLenQ, oLen, nodupB, treeOf, kidAbs, kidRows, TK.isCell, D.toL, oLoad, oStore, oMake, oIndexAddr, ↓reduceIte, reduceCtorEq, Nat.reduceBEq, Nat.reduceAdd, Nat.reduceMul, Nat.reduceLT, Nat.reduceSub, Nat.reduceLeDiff, Nat.reduceEqDiff, Nat.reduceBneDiff, Int.reduceToNat, decide_eq_true_eq, decide_eq_false_iff_not, beq_iff_eq, Int.toNat_natCast, loopK_normal, loopK_exit, loopK_ret]
    refine ⟨⟨by omega, by omega⟩, ?_⟩
    refine e_loop _ _ _ _ _ _ _ _ (fun k : Nat => [.ptr 0 0, .v (.int .i64 n), .any, .any, .any, .own 1, .v (.int .i64 ((a : Int) - (k : Int)))] ++ List.replicate (Try.f83.ntmps - 7) .any) (fun k => [(0, .var 148 [.l 1 (rowsOfBytes xs), .v (.int .i64 (p + 1 + (k : Int)))]), (1, .tr .whole 60 2 [.cell, .sl 53 4 [.cell, .cell, .cell, .sl 5 1 [.cell]]] (poRows (lsL xs (p + 1) k)))]) (fun k => k ≤ a) (fun k => a - k) 2 (fun k => by simp) ?_ fun k hk' => ?_
    · exact ⟨0, [(0, some 0), (1, some _)], Nat.zero_le _, ⟨⟨⟨rfl, rfl, rfl⟩, ⟨rfl, rfl, rfl⟩, trivial, trivial, trivial, ⟨rfl, rfl, rfl⟩, ⟨congrArg (fun z : Int => AV.v (Value.int .i64 z)) (by omega), rfl, rfl⟩, fitT_rep _ _ rfl⟩, ⟨.inl (congrArg (fun z : Int => Blk.var 148 [.l 1 (rowsOfBytes xs), .v (.int .i64 z)]) (by omega)), rfl, rfl, rfl, .inr (.inl ⟨rfl, rfl, rfl⟩), rfl, rfl, rfl, trivial⟩, by simp [rn, hpAt]⟩, by simp [keepIds, rn]⟩
    have hk : k ≤ a := hk'
    have wn : IntKind.i64.wrap ((a : Int) - (k : Int) - 1) = (a : Int) - ((k + 1 : Nat) : Int) := by rw [wrap_id] <;> omega
    have hlo := lsL_ok xs (p + 1) k
    have hlm := poMid_ok hlo
    by_cases hka : k < a
    · have hg : ((a : Int) - (k : Int) > 0) = True := eq_true (by omega)
      have i0 := pickV_nonneg xs (p + 1 + (k : Int)) 6 (by omega)
      have i1 := pickV_lt xs (p + 1 + (k : Int)) 6 (by omega)
      have w1 : IntKind.i64.wrap (1 + pickV xs (p + 1 + (k : Int)) 6) = 1 + pickV xs (p + 1 + (k : Int)) 6 := wrap_id (by omega) (by omega)
      have hst : plV (lsL xs (p + 1) k) (1 + pickV xs (p + 1 + (k : Int)) 6) = lsL xs (p + 1) (k + 1) := rfl
      simp (maxSteps := 3000000) only [Try.f83, klpA, g_mailO, g_portListen, g_portHear, ocOf, g_pick, g_odd, g_mailBytes, bytesOf_rows, rowsOf_len, posOf_rows, poRows_len, mRows_len, hg, wn, w1, hst, hx, D.toI, D.toL, ↓reduceIte, Bool.false_eq_true, doneL_ret, doneL_normal, tYs, evL, implies_true, oMin, oCopy, oBin, oUn, oLoadKid, oStoreTree, oField, oExtract, oNil, oSliceQ, oLoadRow, takeCells, TS.atRow, TS.ex, treeMode, AV.isOwn, TK.isSl, nilTk, nilsB, oLenQ, oLen, nodupB, treeOf, kidAbs, kidRows, TK.isCell, D.toL, oLoad, oStore, oMake, oIndexAddr, ↓reduceIte, reduceCtorEq, Nat.reduceBEq, Nat.reduceAdd, Nat.reduceMul, Nat.reduceLT, Nat.reduceSub, Nat.reduceLeDiff, Nat.reduceEqDiff, Nat.reduceBneDiff, Int.reduceToNat, decide_eq_true_eq, decide_eq_false_iff_not, beq_iff_eq, Int.toNat_natCast, loopK_normal, loopK_exit, loopK_ret]
      refine ⟨⟨by omega, by omega⟩, ⟨_, rfl, hlm⟩, ?_⟩
      exact ⟨k + 1, [(0, some 0), (1, some _)], by omega, by omega, ⟨⟨⟨rfl, rfl, rfl⟩, ⟨rfl, rfl, rfl⟩, trivial, trivial, trivial, ⟨rfl, rfl, rfl⟩, ⟨rfl, rfl, rfl⟩, fitT_rep _ _ rfl⟩, ⟨.inl (congrArg (fun z : Int => Blk.var 148 [.l 1 (rowsOfBytes xs), .v (.int .i64 z)]) (by omega)), rfl, rfl, rfl, .inl rfl, rfl, rfl, rfl, trivial⟩, by simp [rn, hpAt]⟩, by simp [keepIds, rn]⟩
    have hg : ((a : Int) - (k : Int) > 0) = False := eq_false (by omega)
    obtain rfl : k = a := by omega
    obtain ⟨L, hL⟩ : ∃ L, lsL xs (p + 1) k = L := ⟨_, rfl⟩
    rw [hL] at hlo hlm hS ⊢
    simp (maxSteps := 3000000) only [Try.f83, klpA, g_mailO, g_portListen, g_portHear, ocOf, g_pick, g_odd, g_mailBytes, bytesOf_rows, rowsOf_len, posOf_rows, poRows_len, mRows_len, hg, hpb, hx, D.toI, D.toL, ↓reduceIte, Bool.false_eq_true, doneL_ret, doneL_normal, tYs, evL, implies_true, oMin, oCopy, oBin, oUn, oLoadKid, oStoreTree, oField, oExtract, oNil, oSliceQ, oLoadRow, takeCells, TS.atRow, TS.ex, treeMode, AV.isOwn, TK.isSl, nilTk, nilsB, oLenQ, oLen, nodupB, treeOf, kidAbs, kidRows, TK.isCell, D.toL, oLoad, oStore, oMake, oIndexAddr, ↓reduceIte, reduceCtorEq, Nat.reduceBEq, Nat.reduceAdd, Nat.reduceMul, Nat.reduceLT, Nat.reduceSub, Nat.reduceLeDiff, Nat.reduceEqDiff, Nat.reduceBneDiff, Int.reduceToNat, decide_eq_true_eq, decide_eq_false_iff_not, beq_iff_eq, Int.toNat_natCast, loopK_normal, loopK_exit, loopK_ret]
    refine ⟨⟨by omega, by omega⟩, ?_⟩
    obtain ⟨Q, hQ⟩ : ∃ Q, p + 1 + (k : Int) + 1 = Q := ⟨_, rfl⟩
    rw [hQ] at hS ⊢
    have hQb : 0 ≤ Q ∧ Q ≤ 1000010 := by omega
    refine e_loop _ _ _ _ _ _ _ _ (fun x : Nat × HrS => [.ptr 0 0, .v (.int .i64 n), .any, .any, .any, .own 1, .any, .v (.int .i64 ((b : Int) - (x.1 : Int)))] ++ List.replicate (Try.f83.ntmps - 8) .any) (fun x => [(0, .var 148 [.l 1 (rowsOfBytes xs), .v (.int .i64 (x.2.q))]), (1, .tr .whole 60 2 [.cell, .sl 53 4 [.cell, .cell, .cell, .sl 5 1 [.cell]]] (poRows (x.2.l)))]) (fun x => x.1 ≤ b ∧ x.2 = hrK xs Q L x.1) (fun x => b - x.1) 2 (fun x => by simp) ?_ fun x hk' => ?_
    · exact ⟨(0, ⟨Q, L⟩), [(0, some 0), (1, some _)], ⟨Nat.zero_le _, rfl⟩, ⟨⟨⟨rfl, rfl, rfl⟩, ⟨rfl, rfl, rfl⟩, trivial, trivial, trivial, ⟨rfl, rfl, rfl⟩, trivial, ⟨congrArg (fun z : Int => AV.v (Value.int .i64 z)) (by omega), rfl, rfl⟩, fitT_rep _ _ rfl⟩, ⟨.inl rfl, rfl, rfl, rfl, .inl rfl, rfl, rfl, rfl, trivial⟩, by simp [rn, hpAt]⟩, by simp [keepIds, rn]⟩
    obtain ⟨j, s⟩ := x
    obtain ⟨hj, hs⟩ := hk'
    dsimp only at hj hs
    have hso := hrK_ok xs Q hlo j
    have hsq := hrK_q xs Q L j
    rw [← hs] at hso hsq
    have hsm := poMid_ok hso
    have hsl4 := (posB_iff.1 hso).1
    have wn2 : IntKind.i64.wrap ((b : Int) - (j : Int) - 1) = (b : Int) - ((j + 1 : Nat) : Int) := by rw [wrap_id] <;> omega
    by_cases hjb : j < b
    · have hg2 : ((b : Int) - (j : Int) > 0) = True := eq_true (by omega)
      have hv := mwV_q xs s.q 0
      have hst : (⟨(mwV xs s.q 0).q, pHearV s.l 3 (mwP (mwV xs s.q 0))⟩ : HrS) = hrK xs Q L (j + 1) := by rw [hrK, ← hs]
      obtain ⟨V, hV⟩ : ∃ V, mwV xs s.q 0 = V := ⟨_, rfl⟩
      rw [hV] at hv hst
      have hml := mlV_len2 ⟨V.a, V.f, V.t, V.d⟩ 3
      have hE : (⟨V.a, 3, 2, 0, 0, 0, false, false, mlV ⟨V.a, V.f, V.t, V.d⟩ 3⟩ : Pk) = mwP V := rfl
      simp (maxSteps := 3000000) only [Try.f83, klpA, g_mailO, g_portListen, g_portHear, ocOf, g_pick, g_odd, g_mailBytes, bytesOf_rows, rowsOf_len, posOf_rows, poRows_len, mRows_len, hg2, wn2, hV, hE, hx, D.toI, D.toL, ↓reduceIte, Bool.false_eq_true, doneL_ret, doneL_normal, tYs, evL, implies_true, oMin, oCopy, oBin, oUn, oLoadKid, oStoreTree, oField, oExtract, oNil, oSliceQ, oLoadRow, takeCells, TS.atRow, TS.ex, treeMode, AV.isOwn, TK.isSl, nilTk, nilsB, oLenQ, oLen, nodupB, treeOf, kidAbs, kidRows, TK.isCell, D.toL, oLoad, oStore, oMake, oIndexAddr, ↓reduceIte, reduceCtorEq, Nat.reduceBEq, Nat.reduceAdd, Nat.reduceMul, Nat.reduceLT, Nat.reduceSub, Nat.reduceLeDiff, Nat.reduceEqDiff, Nat.reduceBneDiff, Int.reduceToNat, decide_eq_true_eq, decide_eq_false_iff_not, beq_iff_eq, Int.toNat_natCast, loopK_normal, loopK_exit, loopK_ret]
      refine ⟨⟨by omega, by omega, by omega, by omega⟩, ⟨_, rfl, by omega⟩, ⟨⟨_, rfl, hsm⟩, _, rfl, by omega⟩, by kernel_rfl, ?_⟩
      exact ⟨(j + 1, ⟨V.q, pHearV s.l 3 (mwP V)⟩), [(0, some 0), (1, some _)], ⟨by dsimp only; omega, hst⟩, by dsimp only; omega, ⟨⟨⟨rfl, rfl, rfl⟩, ⟨rfl, rfl, rfl⟩, trivial, trivial, trivial, ⟨rfl, rfl, rfl⟩, trivial, ⟨rfl, rfl, rfl⟩, fitT_rep _ _ rfl⟩, ⟨.inl rfl, rfl, rfl, rfl, .inl rfl, rfl, rfl, rfl, trivial⟩, by simp [rn, hpAt]⟩, by simp [keepIds, rn]⟩
    have hg2 : ((b : Int) - (j : Int) > 0) = False := eq_false (by omega)
    obtain rfl : j = b := by omega
    have hSs : lpS xs p = s := hS.trans hs.symm
    obtain ⟨hO, h3⟩ := hT
    have hO2 := hO
    rw [lpO, hSs, Bool.and_eq_true, decide_eq_true_eq] at hO2
    obtain ⟨hl0, ho'⟩ := hO2
    have c0 : ((s.l.length : Int) > 0) = True := eq_true (by omega)
    obtain ⟨e, he⟩ : ∃ e, e = oneIf n := ⟨_, rfl⟩
    have he' : (if 0 < n then (1 : Int) else 0) = e := he.symm
    have heb := oneIf_le n
    rw [← he] at heb
    have hR : lpR xs p n = s.q + e := by rw [lpR, hSs, if_pos hl0, ← he]
    have hv : lpL xs p n = s.l.set 0 ⟨(poH s.l).n, (poH s.l).row ++ [mwM (mwV xs (s.q + e + 1) 2)]⟩ := by rw [lpL, if_pos hO, if_neg (by omega), if_pos h3, hSs, hR]
    have hv2 : lpQ xs p n = (mwV xs (s.q + e + 1) 2).q := by rw [lpQ, if_pos hO, if_neg (by omega), if_pos h3, hR]
    rw [hR] at h3
    have n0 : (pickV xs (s.q + e) 3 = 0) = False := eq_false (by omega)
    have n1 : (pickV xs (s.q + e) 3 = 1) = True := eq_true h3
    have hrow := poRows_get s.l 0 hl0
    have hm2 := mwV_q xs (s.q + e + 1) 2
    obtain ⟨V, hV⟩ : ∃ V, mwV xs (s.q + e + 1) 2 = V := ⟨_, rfl⟩
    rw [hV] at hv hv2 hm2
    have hpo : poH s.l = s.l[0] := by rw [poH, po_get hl0]
    have hxr := (hsm.2 _ (List.getElem_mem hl0)).1
    have e3 : mRows s.l[0].row ++ [[D.v (.int .i64 V.a), D.v (.int .i64 V.f), D.v (.int .i64 V.t), D.l 1 (rowsOfBytes V.d)]] = mRows (s.l[0].row ++ [mwM V]) := by
      rw [← mRows_app]; rfl
    have e4 : (poRows s.l).set 0 [.v (.int .i64 s.l[0].n), .l 4 (mRows (s.l[0].row ++ [mwM V]))] = poRows (s.l.set 0 ⟨(poH s.l).n, (poH s.l).row ++ [mwM V]⟩) := by
      rw [hpo, ← poRows_set]
    rw [hv, hv2]
    simp (maxSteps := 3000000) only [Try.f83, klpA, g_mailO, g_portListen, g_portHear, ocOf, g_pick, g_odd, g_mailBytes, bytesOf_rows, rowsOf_len, posOf_rows, poRows_len, mRows_len, hg2, c0, ho', he', n0, n1, hrow, hV, e3, e4, poRow, hx, D.toI, D.toL, ↓reduceIte, Bool.false_eq_true, doneL_ret, doneL_normal, tYs, evL, implies_true, oMin, oCopy, oBin, oUn, oLoadKid, oStoreTree, oField, oExtract, oNil, oSliceQ, oLoadRow, takeCells, TS.atRow, TS.ex, treeMode, AV.isOwn, TK.isSl, nilTk, nilsB, oLenQ, oLen, nodupB, treeOf, kidAbs, kidRows, TK.isCell, D.toL, oLoad, oStore, oMake, oIndexAddr, ↓reduceIte, reduceCtorEq, Nat.reduceBEq, Nat.reduceAdd, Nat.reduceMul, Nat.reduceLT, Nat.reduceSub, Nat.reduceLeDiff, Nat.reduceEqDiff, Nat.reduceBneDiff, Int.reduceToNat, decide_eq_true_eq, decide_eq_false_iff_not, beq_iff_eq, Int.toNat_natCast, loopK_normal, loopK_exit, loopK_ret]
    refine ⟨⟨by omega, by omega, by omega, by omega⟩, ⟨by omega, by omega⟩, by omega, hl0, ⟨by omega, by omega, by omega, by omega⟩, rowsOf_flat _, ⟨by omega, by omega⟩, by omega, hl0, by kernel_rfl, ?_⟩
    exact ⟨_, rfl, rfl, rfl⟩
  · cases hg
theorem l20Ports_ok : OwnOk Try.prog 83 g_ports := OwnOk.either (fun args B0 c r B1 bs hg => by
  unfold g_ports at hg
  split at hg
  · cases hg
    exact ⟨_, rfl, rfl⟩
  · cases hg) l20PortsA_ok l20PortsB_ok
end Go.Proofs.Ytegffkmakkccaaa
