import Derived.Test.YtegffkmakkccaaaXh
namespace Go.Proofs.Ytegffkmakkccaaa
open Go.RowKit
set_option linter.unusedSimpArgs false
set_option linter.unusedVariables false
structure HS where
  d : Bool
  w : Pk
  b : Bool
  F : List Pt
def hStep (al : Bool) (q : Pk) (s : HS) (x : Pt) : HS :=
  if (!al && of1 x q) = true then ⟨true, wholeV (putL x.ps x.u q) (putU x.ps x.u q), wholeB (putL x.ps x.u q) (putU x.ps x.u q), if ((putO x.ps x.u q).isSome && !wholeB (putL x.ps x.u q) (putU x.ps x.u q)) = true then s.F ++ [⟨putL x.ps x.u q, putU x.ps x.u q⟩] else s.F⟩
  else ⟨s.d, s.w, s.b, s.F ++ [x]⟩
def hRun (al : Bool) (q : Pk) (s : HS) (L : List Pt) : HS := L.foldl (hStep al q) s
def hs0 : HS := ⟨false, pk0, false, []⟩
theorem hRun_app (al : Bool) (q : Pk) (s : HS) (a b : List Pt) : hRun al q s (a ++ b) = hRun al q (hRun al q s a) b := by simp [hRun]
theorem liveP_take {l : List Pt} {k : Nat} (n : Int) (h : k < l.length) : liveP (l.take (k + 1)) n = liveP (l.take k) n ++ (if n < l[k].u then [l[k]] else []) := by
  rw [liveP, liveP, List.take_add_one, List.getElem?_eq_getElem h, List.filter_append]
  congr 1
  by_cases e : n < l[k].u <;> simp [e]
theorem hRun_al (q : Pk) : ∀ (L : List Pt) (s : HS), hRun true q s L = ⟨s.d, s.w, s.b, s.F ++ L⟩
  | [], s => by simp [hRun]
  | x :: r, s => by
    show hRun true q (hStep true q s x) r = _
    rw [hRun_al q r, hStep]
    simp
theorem hRun_no (q : Pk) : ∀ (L : List Pt) (s : HS), (∀ x ∈ L, of1 x q = false) → hRun false q s L = ⟨s.d, s.w, s.b, s.F ++ L⟩
  | [], s, _ => by simp [hRun]
  | x :: r, s, h => by
    show hRun false q (hStep false q s x) r = _
    rw [hRun_no q r _ fun y hy => h y (List.mem_cons_of_mem _ hy), hStep, h x (List.mem_cons_self ..)]
    simp
theorem findP_no {q : Pk} : ∀ {L : List Pt}, findP L q = L.length → ∀ x ∈ L, of1 x q = false
  | [], _, x, hx => by cases hx
  | y :: r, h, x, hx => by
    simp only [findP] at h
    split at h
    · simp at h
    · rename_i h1
      rcases List.mem_cons.1 hx with rfl | hx
      · exact Bool.eq_false_iff.2 h1
      · exact findP_no (by simpa using h) x hx
theorem outP_zero (x : Pt) (r : List Pt) : outP (x :: r) 0 = r := by simp [outP]
theorem outP_succ (x : Pt) (r : List Pt) (k : Nat) : outP (x :: r) (k + 1) = x :: outP r k := by simp [outP]
theorem hit_succ (x : Pt) (r : List Pt) (k : Nat) (q : Pk) : hitL (x :: r) (k + 1) q = x :: hitL r k q ∧ hitP (x :: r) (k + 1) q = hitP r k q ∧ hitB (x :: r) (k + 1) q = hitB r k q := by
  refine ⟨?_, rfl, rfl⟩
  unfold hitL
  rw [List.getD_cons_succ]
  cases putO (r.getD k pt0).ps (r.getD k pt0).u q with
  | none => exact outP_succ x r k
  | some r' =>
    simp only
    split
    · exact outP_succ x r k
    · rfl
theorem wholeB_nil (u : Int) : wholeB [] u = false := by simp [wholeB, partB, piecesB]
theorem hRun_hit (q : Pk) : ∀ (L : List Pt) (s : HS), L.Pairwise (fun x y => of1 x q = true → of1 y q = false) → findP L q ≠ L.length → hRun false q s L = ⟨true, hitP L (findP L q) q, hitB L (findP L q) q, s.F ++ hitL L (findP L q) q⟩
  | [], s, _, h => by simp [findP] at h
  | x :: r, s, hp, h => by
    rw [List.pairwise_cons] at hp
    show hRun false q (hStep false q s x) r = _
    simp only [findP] at h ⊢
    by_cases h1 : of1 x q = true
    · rw [if_pos h1, hRun_no q r _ fun y hy => hp.1 y hy h1]
      have hs : hStep false q s x = ⟨true, wholeV (putL x.ps x.u q) (putU x.ps x.u q), wholeB (putL x.ps x.u q) (putU x.ps x.u q), if ((putO x.ps x.u q).isSome && !wholeB (putL x.ps x.u q) (putU x.ps x.u q)) = true then s.F ++ [⟨putL x.ps x.u q, putU x.ps x.u q⟩] else s.F⟩ := by rw [hStep, h1]; rfl
      rw [hs]
      clear hs
      rcases hO : putO x.ps x.u q with _ | r'
      · have e1 : putL x.ps x.u q = [] := by rw [putL, hO]; rfl
        have e2 : putU x.ps x.u q = 0 := by rw [putU, hO]; rfl
        have e3 : hitL (x :: r) 0 q = r := by rw [hitL, List.getD_cons_zero, hO]; exact outP_zero x r
        have e4 : hitP (x :: r) 0 q = pk0 := by rw [hitP, List.getD_cons_zero, hO]
        have e5 : hitB (x :: r) 0 q = false := by rw [hitB, List.getD_cons_zero, hO]
        rw [e1, e2, e3, e4, e5, wholeV, wholeB_nil]
        simp
      · have e1 : putL x.ps x.u q = r' := by rw [putL, hO]; rfl
        have e2 : putU x.ps x.u q = x.u := by rw [putU, hO]; rfl
        have e3 : hitL (x :: r) 0 q = if wholeB r' x.u = true then r else ⟨r', x.u⟩ :: r := by
          rw [hitL, List.getD_cons_zero, hO]
          show (if _ then outP (x :: r) 0 else _) = _
          rw [outP_zero]; rfl
        have e4 : hitP (x :: r) 0 q = wholeV r' x.u := by rw [hitP, List.getD_cons_zero, hO]
        have e5 : hitB (x :: r) 0 q = wholeB r' x.u := by rw [hitB, List.getD_cons_zero, hO]
        rw [e1, e2, e3, e4, e5]
        cases hw : wholeB r' x.u <;> simp
    · rw [if_neg h1] at h ⊢
      rw [hRun_hit q r _ hp.2 (by simpa using h), hStep, Bool.eq_false_iff.2 h1]
      obtain ⟨e1, e2, e3⟩ := hit_succ x r (findP r q) q
      rw [e1, e2, e3]
      simp
theorem findP_lt {q : Pk} : ∀ {L : List Pt} {k : Nat}, k < findP L q → of1 (L.getD k pt0) q = false
  | [], k, h => by simp [findP] at h
  | x :: r, k, h => by
    simp only [findP] at h
    split at h
    · omega
    · rename_i h1
      cases k with
      | zero => exact Bool.eq_false_iff.2 h1
      | succ k => rw [List.getD_cons_succ]; exact findP_lt (by omega)
theorem of1_trans {x y : Pt} {q : Pk} (h1 : of1 x q = true) (h2 : of1 y q = true) : of1 x (y.ps.getD 0 pk0) = true := by
  rw [of1, same4_iff] at h1 h2 ⊢
  omega
theorem ptsB_pair {l : List Pt} (h : ptsB l = true) (q : Pk) : l.Pairwise (fun x y => of1 x q = true → of1 y q = false) := by
  rw [List.pairwise_iff_getElem]
  intro i j hi hj hij h1
  rw [Bool.eq_false_iff]
  intro h2
  simp only [ptsB, Bool.and_eq_true] at h
  have hs := ptsK_at h.2 hj
  rw [ptStep, pt_get hj, Bool.and_eq_true, decide_eq_true_eq] at hs
  have h3 := findP_lt (L := l.take j) (q := l[j].ps.getD 0 pk0) (k := i) (by rw [hs.2]; exact hij)
  rw [List.getD_eq_getElem?_getD, List.getElem?_take, if_pos hij, List.getElem?_eq_getElem hi] at h3
  rw [Option.getD_some, of1_trans h1 h2] at h3
  cases h3
theorem hRun_len (al : Bool) (q : Pk) : ∀ (L : List Pt) (s : HS), (hRun al q s L).F.length ≤ s.F.length + L.length
  | [], s => Nat.le_refl _
  | x :: r, s => by
    have := hRun_len al q r (hStep al q s x)
    show (hRun al q (hStep al q s x) r).F.length ≤ _
    have h2 : (hStep al q s x).F.length ≤ s.F.length + 1 := by
      rw [hStep]
      split
      · show (if _ then _ else _ : List Pt).length ≤ _
        split <;> simp
      · simp
    simp only [List.length_cons]
    omega
def g_partWholeT : PC := fun args => match args with
  | [.agg [.l _ rows, .v (.int .i64 u)]] => some (∃ ps, rows = pRows ps ∧ pMid ps, .tup [.agg [.v (.int .i64 (wholeV (psOf rows) u).f), .v (.int .i64 (wholeV (psOf rows) u).t), .v (.int .i64 (wholeV (psOf rows) u).p), .v (.int .i64 (wholeV (psOf rows) u).h), .v (.int .i64 (wholeV (psOf rows) u).i), .v (.int .i64 (wholeV (psOf rows) u).a), .v (.bool (wholeV (psOf rows) u).m), .v (.bool (wholeV (psOf rows) u).u), .own 0], .v (.bool (wholeB (psOf rows) u))], [.tr .whole 5 1 [.cell] (rowsOfBytes (wholeV (psOf rows) u).d)])
  | _ => none
theorem specPartWholeT_ok : PureOk Try.prog 67 g_partWholeT := specPartWhole_ok.toTree fun args c r bs' h => by
  unfold g_partWholeT at h
  split at h
  · cases h; exact ⟨_, rfl, rfl⟩
  · cases h
def g_sPartsHear : PC := fun args => match args with
  | [.l _ rows', .agg [.v (.int .i64 f), .v (.int .i64 t), .v (.int .i64 p), .v (.int .i64 h), .v (.int .i64 i), .v (.int .i64 a), .v (.bool m), .v (.bool u), .l _ rows], .v (.int .i64 n)] => some ((∃ l, rows' = ptRows l ∧ ptMid l) ∧ (∃ xs, rows = rowsOfBytes xs ∧ xs.length ≤ 1048576),
      .tup [(if phS (ptsOf rows') ⟨f, t, p, h, i, a, m, u, bytesOfRows rows⟩ n = true then .sub 0 1 4 else .own 0), .agg [.v (.int .i64 (phP (ptsOf rows') ⟨f, t, p, h, i, a, m, u, bytesOfRows rows⟩ n).f), .v (.int .i64 (phP (ptsOf rows') ⟨f, t, p, h, i, a, m, u, bytesOfRows rows⟩ n).t), .v (.int .i64 (phP (ptsOf rows') ⟨f, t, p, h, i, a, m, u, bytesOfRows rows⟩ n).p), .v (.int .i64 (phP (ptsOf rows') ⟨f, t, p, h, i, a, m, u, bytesOfRows rows⟩ n).h), .v (.int .i64 (phP (ptsOf rows') ⟨f, t, p, h, i, a, m, u, bytesOfRows rows⟩ n).i), .v (.int .i64 (phP (ptsOf rows') ⟨f, t, p, h, i, a, m, u, bytesOfRows rows⟩ n).a), .v (.bool (phP (ptsOf rows') ⟨f, t, p, h, i, a, m, u, bytesOfRows rows⟩ n).m), .v (.bool (phP (ptsOf rows') ⟨f, t, p, h, i, a, m, u, bytesOfRows rows⟩ n).u), .own 1], .v (.bool (phB (ptsOf rows') ⟨f, t, p, h, i, a, m, u, bytesOfRows rows⟩ n))],
      [.tr .whole 38 2 [.sl 29 9 [.cell, .cell, .cell, .cell, .cell, .cell, .cell, .cell, .sl 5 1 [.cell]], .cell] (ptRows (phF (ptsOf rows') ⟨f, t, p, h, i, a, m, u, bytesOfRows rows⟩ n)), .tr .whole 5 1 [.cell] (rowsOfBytes (phP (ptsOf rows') ⟨f, t, p, h, i, a, m, u, bytesOfRows rows⟩ n).d)])
  | _ => none
def sph : List (FuncId × Abs) := [(12, pureAbs g_partsOk), (64, pureAbs g_packetOk), (65, pureAbs g_l1In), (56, pureAbs g_ofOne), (66, pureAbs g_partPut), (67, pureAbs g_partWholeT), (68, pureAbs g_partCopied), (69, pureAbs g_packetCopied)]
theorem sph_ok : ∀ p ∈ sph, CallOk Try.prog p.1 p.2 := by
  intro p hp
  simp only [sph, List.mem_cons, List.not_mem_nil, or_false] at hp
  rcases hp with rfl | rfl | rfl | rfl | rfl | rfl | rfl | rfl
  · exact specPartsOk_ok.call
  · exact specPacketOk_ok.call
  · exact l1In_ok.call
  · exact l5Same_ok.call
  · exact specPartPut_ok.call
  · exact specPartWholeT_ok.call
  · exact l5Part_ok.call
  · exact l5Copy_ok.call
set_option maxHeartbeats 1000000 in
set_option maxRecDepth 100000 in
theorem specPartsHear_ok : PureOk Try.prog 16 g_sPartsHear := by
  refine PureOk.of_vc (G := sph) sph_ok mixed Try.func16 (by kernel_rfl) rfl ?_
  intro args cnd r bs hg hc
  unfold g_sPartsHear at hg
  split at hg
  · rename_i sz' rows' f t p h i a m u sz rows n
    cases hg
    obtain ⟨⟨l, rfl, hm⟩, xs, rfl, hl⟩ := hc
    rw [ptsOf_rows, bytesOf_rows]
    have hOk : phOk l ⟨f, t, p, h, i, a, m, u, xs⟩ n = (ptsB l && pkB f t p h i a m u xs.length && inZ n 0 999985) := rfl
    have no : phOk l ⟨f, t, p, h, i, a, m, u, xs⟩ n = false → phF l ⟨f, t, p, h, i, a, m, u, xs⟩ n = [] ∧ phP l ⟨f, t, p, h, i, a, m, u, xs⟩ n = pk0 ∧ phB l ⟨f, t, p, h, i, a, m, u, xs⟩ n = false ∧ phS l ⟨f, t, p, h, i, a, m, u, xs⟩ n = false := fun e => by
      simp [phF, phP, phB, phS, e]
    refine ⟨⟨by split <;> rfl, by simp [flatB], by split <;> simp [AV.ids, AV.ids.idsL]⟩, [.l 2 (ptRows l), .agg [.v (.int .i64 f), .v (.int .i64 t), .v (.int .i64 p), .v (.int .i64 h), .v (.int .i64 i), .v (.int .i64 a), .v (.bool m), .v (.bool u), .l 1 (rowsOfBytes xs)], .v (.int .i64 n)], rfl, fun w vs h => CvL.ok (.cons (.l _ _ _ (ptRows_w l)) (.cons (.cons (.refl _) (.cons (.refl _) (.cons (.refl _) (.cons (.refl _) (.cons (.refl _) (.cons (.refl _) (.cons (.refl _) (.cons (.refl _) (.cons (.l _ _ _ (rowsOf_w xs)) .nil))))))))) (.cons (.refl _) .nil))) h, ?_⟩
    by_cases h1 : ptsB l = true
    · by_cases h2 : pkB f t p h i a m u xs.length = true
      · by_cases h3 : inZ n 0 999985 = true
        · rw [h1, h2, h3] at hOk
          replace hOk : phOk l ⟨f, t, p, h, i, a, m, u, xs⟩ n = true := hOk
          have hn : 0 ≤ n ∧ n ≤ 999985 := by simpa [inZ] using h3
          obtain ⟨hl3, hall⟩ := ptsB_all h1
          have hal : alone ⟨f, t, p, h, i, a, m, u, xs⟩ = (decide (a = 0) && !m) := rfl
          have hal2 : (decide (a = 0) && !m) = alone ⟨f, t, p, h, i, a, m, u, xs⟩ := rfl
          by_cases ha : a = 0
          · cases m with
            | false =>
              subst ha
              simp (maxSteps := 3000000) only [Try.f16, sph, g_partsOk, g_packetOk, g_l1In, g_ofOne, g_partPut, g_partWholeT, g_partCopied, g_packetCopied, ptRows_len, ptsOf_rows, psOf_rows, bytesOf_rows, rowsOf_len, Int.toNat_natCast, h1, h2, h3, beq_self_eq_true, D.toI, dB, D.toB, D.toL, tYs, evL, implies_true, oMin, oCopy, oBin, oUn, oLoadKid, oStoreTree, oField, oExtract, oNil, oSliceQ, oLoadRow, takeCells, TS.atRow, TS.ex, treeMode, AV.isOwn, TK.isSl, nilTk, nilsB, oLenQ, oLen, nodupB, treeOf, kidAbs, kidRows, TK.isCell, D.toL, oLoad, oStore, oMake, oIndexAddr, ↓reduceIte, reduceCtorEq, Nat.reduceBEq, Nat.reduceAdd, Nat.reduceMul, Nat.reduceLT, Nat.reduceSub, Nat.reduceLeDiff, Nat.reduceEqDiff, Nat.reduceBneDiff, Int.reduceToNat, decide_eq_true_eq, decide_eq_false_iff_not, beq_iff_eq, Int.toNat_natCast, loopK_normal, loopK_exit, loopK_ret]
              refine ⟨⟨_, rfl, hm⟩, ?_⟩
              have al : alone ⟨f, t, p, h, i, 0, false, u, xs⟩ = true := rfl
              refine e_loop _ _ _ _ _ _ _ _ (fun x : Nat × HS => [.l 2 (ptRows l), .any, .v (.int .i64 n), .any, .ptr 0 0, .any, .any, .ptr 1 0, .any, .own 3, .v (.bool true), .v (.bool x.2.d), .ptr 2 0, .v (.bool x.2.b), .v (.int .i64 (x.1 : Int))] ++ List.replicate (Try.f16.ntmps - 15) .any) (fun x => [(0, .var 29 [.v (.int .i64 f), .v (.int .i64 t), .v (.int .i64 p), .v (.int .i64 h), .v (.int .i64 i), .v (.int .i64 0), .v (.bool false), .v (.bool u), .l 1 (rowsOfBytes xs)]), (1, .var 29 [.v (.int .i64 0), .v (.int .i64 0), .v (.int .i64 0), .v (.int .i64 0), .v (.int .i64 0), .v (.int .i64 0), .v (.bool false), .v (.bool false), .v nilS]), (2, .var 29 [.v (.int .i64 x.2.w.f), .v (.int .i64 x.2.w.t), .v (.int .i64 x.2.w.p), .v (.int .i64 x.2.w.h), .v (.int .i64 x.2.w.i), .v (.int .i64 x.2.w.a), .v (.bool x.2.w.m), .v (.bool x.2.w.u), .own 4]), (3, .tr .whole 38 2 [.sl 29 9 [.cell, .cell, .cell, .cell, .cell, .cell, .cell, .cell, .sl 5 1 [.cell]], .cell] (ptRows x.2.F)), (4, .tr .whole 5 1 [.cell] (rowsOfBytes x.2.w.d))]) (fun x => x.1 ≤ l.length ∧ x.2 = hRun true ⟨f, t, p, h, i, 0, false, u, xs⟩ hs0 (liveP (l.take x.1) n)) (fun x => l.length - x.1) 5 (fun x => by simp) ?_ fun x hk' => ?_
              · exact ⟨(0, hs0), [(0, some 0), (1, some _), (2, some _), (3, some _), (4, none)], ⟨Nat.zero_le _, rfl⟩, ⟨⟨⟨rfl, rfl, rfl⟩, trivial, ⟨rfl, rfl, rfl⟩, trivial, ⟨rfl, rfl, rfl⟩, trivial, trivial, ⟨rfl, rfl, rfl⟩, trivial, ⟨rfl, rfl, rfl⟩, ⟨rfl, rfl, rfl⟩, ⟨rfl, rfl, rfl⟩, ⟨rfl, rfl, rfl⟩, ⟨rfl, rfl, rfl⟩, ⟨rfl, rfl, rfl⟩, fitT_rep _ _ rfl⟩, ⟨.inl rfl, rfl, rfl, rfl, .inl rfl, rfl, rfl, rfl, .inl rfl, rfl, rfl, rfl, .inr (.inl ⟨rfl, rfl, rfl⟩), rfl, rfl, rfl, ⟨by omega, rfl, rfl⟩, rfl, rfl, rfl, trivial⟩, by simp [rn, hpAt]⟩, by simp [keepIds]⟩
              obtain ⟨k, st⟩ := x
              obtain ⟨hk1, hk2⟩ := hk'
              simp only at hk1 hk2
              have hF : st.F.length ≤ l.length := by
                have e1 := hRun_len true ⟨f, t, p, h, i, 0, false, u, xs⟩ (liveP (l.take k) n) hs0
                have e2 := liveP_len (l.take k) n
                rw [← hk2] at e1
                rw [List.length_take] at e2
                have : hs0.F.length = 0 := rfl
                omega
              have appd : ∀ (a : List Pt) y, ptRows a ++ [ptRow y] = ptRows (a ++ [y]) := fun a y => by rw [← ptRows_app]; rfl
              have w2 : IntKind.i64.wrap ((k : Int) + 1) = ((k + 1 : Nat) : Int) := by rw [wrap_id] <;> omega
              by_cases hk : k < l.length
              · have hrow := ptRows_get l k hk
                have hlt : ((k : Int) < (l.length : Int)) = True := eq_true (by omega)
                have h0 : (0 ≤ (k : Int)) = True := eq_true (by omega)
                have hx := hm.2 l[k] (List.getElem_mem hk)
                have hpb := hall l[k] (List.getElem_mem hk)
                have hne := (partB_all hpb).2.2.1
                have e1 := appd st.F l[k]
                rw [ptRow] at e1
                by_cases hu : n < l[k].u
                · have hu1 : (l[k].u ≤ n) = False := eq_false (by omega)
                  simp (maxSteps := 3000000) only [Try.f16, sph, g_partsOk, g_packetOk, g_l1In, g_ofOne, g_partPut, g_partWholeT, g_partCopied, g_packetCopied, ptRows_len, ptsOf_rows, psOf_rows, bytesOf_rows, rowsOf_len, Int.toNat_natCast, hrow, hlt, h0, hu1, e1, D.toI, dB, D.toB, D.toL, ptRow, tYs, evL, implies_true, oMin, oCopy, oBin, oUn, oLoadKid, oStoreTree, oField, oExtract, oNil, oSliceQ, oLoadRow, takeCells, TS.atRow, TS.ex, treeMode, AV.isOwn, TK.isSl, nilTk, nilsB, oLenQ, oLen, nodupB, treeOf, kidAbs, kidRows, TK.isCell, D.toL, oLoad, oStore, oMake, oIndexAddr, ↓reduceIte, reduceCtorEq, Nat.reduceBEq, Nat.reduceAdd, Nat.reduceMul, Nat.reduceLT, Nat.reduceSub, Nat.reduceLeDiff, Nat.reduceEqDiff, Nat.reduceBneDiff, Int.reduceToNat, decide_eq_true_eq, decide_eq_false_iff_not, beq_iff_eq, Int.toNat_natCast, loopK_normal, loopK_exit, loopK_ret, w2]
                  exact ⟨by kernel_rfl, ⟨_, rfl, hx⟩, ⟨by omega, by omega⟩, (k + 1, ⟨st.d, st.w, st.b, st.F ++ [l[k]]⟩), [(0, some 0), (1, some _), (2, some _), (3, some _), (4, some _)], ⟨by omega, by rw [liveP_take n hk, if_pos hu, hRun_app, ← hk2]; show _ = hStep true ⟨f, t, p, h, i, 0, false, u, xs⟩ st l[k]; rw [hStep, if_neg (by simp [])]⟩, by simp only; omega, ⟨⟨⟨rfl, rfl, rfl⟩, trivial, ⟨rfl, rfl, rfl⟩, trivial, ⟨rfl, rfl, rfl⟩, trivial, trivial, ⟨rfl, rfl, rfl⟩, trivial, ⟨rfl, rfl, rfl⟩, ⟨rfl, rfl, rfl⟩, ⟨rfl, rfl, rfl⟩, ⟨rfl, rfl, rfl⟩, ⟨rfl, rfl, rfl⟩, ⟨rfl, rfl, rfl⟩, fitT_rep _ _ rfl⟩, ⟨.inl rfl, rfl, rfl, rfl, .inl rfl, rfl, rfl, rfl, .inl rfl, rfl, rfl, rfl, .inl rfl, rfl, rfl, rfl, .inl rfl, rfl, rfl, rfl, trivial⟩, by simp [rn, hpAt]⟩, by simp [keepIds]⟩
                · have hu1 : (l[k].u ≤ n) = True := eq_true (by omega)
                  simp (maxSteps := 3000000) only [Try.f16, sph, g_partsOk, g_packetOk, g_l1In, g_ofOne, g_partPut, g_partWholeT, g_partCopied, g_packetCopied, ptRows_len, ptsOf_rows, psOf_rows, bytesOf_rows, rowsOf_len, Int.toNat_natCast, hrow, hlt, h0, hu1, D.toI, dB, D.toB, D.toL, ptRow, tYs, evL, implies_true, oMin, oCopy, oBin, oUn, oLoadKid, oStoreTree, oField, oExtract, oNil, oSliceQ, oLoadRow, takeCells, TS.atRow, TS.ex, treeMode, AV.isOwn, TK.isSl, nilTk, nilsB, oLenQ, oLen, nodupB, treeOf, kidAbs, kidRows, TK.isCell, D.toL, oLoad, oStore, oMake, oIndexAddr, ↓reduceIte, reduceCtorEq, Nat.reduceBEq, Nat.reduceAdd, Nat.reduceMul, Nat.reduceLT, Nat.reduceSub, Nat.reduceLeDiff, Nat.reduceEqDiff, Nat.reduceBneDiff, Int.reduceToNat, decide_eq_true_eq, decide_eq_false_iff_not, beq_iff_eq, Int.toNat_natCast, loopK_normal, loopK_exit, loopK_ret, w2]
                  exact ⟨(k + 1, st), [(0, some 0), (1, some _), (2, some _), (3, some _), (4, some _)], ⟨by omega, by rw [liveP_take n hk, if_neg hu, List.append_nil]; exact hk2⟩, by simp only; omega, ⟨⟨⟨rfl, rfl, rfl⟩, trivial, ⟨rfl, rfl, rfl⟩, trivial, ⟨rfl, rfl, rfl⟩, trivial, trivial, ⟨rfl, rfl, rfl⟩, trivial, ⟨rfl, rfl, rfl⟩, ⟨rfl, rfl, rfl⟩, ⟨rfl, rfl, rfl⟩, ⟨rfl, rfl, rfl⟩, ⟨rfl, rfl, rfl⟩, ⟨rfl, rfl, rfl⟩, fitT_rep _ _ rfl⟩, ⟨.inl rfl, rfl, rfl, rfl, .inl rfl, rfl, rfl, rfl, .inl rfl, rfl, rfl, rfl, .inl rfl, rfl, rfl, rfl, .inl rfl, rfl, rfl, rfl, trivial⟩, by simp [rn, hpAt]⟩, by simp [keepIds]⟩
              · have hlt : ((k : Int) < (l.length : Int)) = False := eq_false (by omega)
                obtain rfl : k = l.length := by omega
                rw [List.take_length] at hk2
                rw [hRun_al] at hk2
                replace hk2 : st = ⟨false, pk0, false, liveP l n⟩ := hk2
                subst hk2
                have e1 : phF l ⟨f, t, p, h, i, 0, false, u, xs⟩ n = liveP l n := by rw [phF, if_pos hOk, if_pos al]
                have e2 : phP l ⟨f, t, p, h, i, 0, false, u, xs⟩ n = ⟨f, t, p, h, i, 0, false, u, xs⟩ := by rw [phP, if_pos hOk, if_pos al]
                have e3 : phB l ⟨f, t, p, h, i, 0, false, u, xs⟩ n = true := by rw [phB, hOk, al]; rfl
                have e4 : phS l ⟨f, t, p, h, i, 0, false, u, xs⟩ n = false := by rw [phS, al]; simp
                simp (maxSteps := 3000000) only [Try.f16, sph, g_partsOk, g_packetOk, g_l1In, g_ofOne, g_partPut, g_partWholeT, g_partCopied, g_packetCopied, ptRows_len, ptsOf_rows, psOf_rows, bytesOf_rows, rowsOf_len, Int.toNat_natCast, hlt, D.toI, dB, D.toB, D.toL, tYs, evL, implies_true, oMin, oCopy, oBin, oUn, oLoadKid, oStoreTree, oField, oExtract, oNil, oSliceQ, oLoadRow, takeCells, TS.atRow, TS.ex, treeMode, AV.isOwn, TK.isSl, nilTk, nilsB, oLenQ, oLen, nodupB, treeOf, kidAbs, kidRows, TK.isCell, D.toL, oLoad, oStore, oMake, oIndexAddr, ↓reduceIte, reduceCtorEq, Nat.reduceBEq, Nat.reduceAdd, Nat.reduceMul, Nat.reduceLT, Nat.reduceSub, Nat.reduceLeDiff, Nat.reduceEqDiff, Nat.reduceBneDiff, Int.reduceToNat, decide_eq_true_eq, decide_eq_false_iff_not, beq_iff_eq, Int.toNat_natCast, loopK_normal, loopK_exit, loopK_ret]
                rw [e1, e2, e3, e4]
                exact ⟨⟨_, rfl, hl⟩, _, [(0, some _), (1, some _)], rfl, ⟨⟨⟨rfl, rfl, rfl⟩, trivial⟩, ⟨.inl rfl, rfl, rfl, rfl, .inl rfl, rfl, rfl, rfl, trivial⟩, by simp [rn, hpAt]⟩⟩
            | true =>
              subst ha
              simp (maxSteps := 3000000) only [Try.f16, sph, g_partsOk, g_packetOk, g_l1In, g_ofOne, g_partPut, g_partWholeT, g_partCopied, g_packetCopied, ptRows_len, ptsOf_rows, psOf_rows, bytesOf_rows, rowsOf_len, Int.toNat_natCast, h1, h2, h3, beq_self_eq_true, D.toI, dB, D.toB, D.toL, tYs, evL, implies_true, oMin, oCopy, oBin, oUn, oLoadKid, oStoreTree, oField, oExtract, oNil, oSliceQ, oLoadRow, takeCells, TS.atRow, TS.ex, treeMode, AV.isOwn, TK.isSl, nilTk, nilsB, oLenQ, oLen, nodupB, treeOf, kidAbs, kidRows, TK.isCell, D.toL, oLoad, oStore, oMake, oIndexAddr, ↓reduceIte, reduceCtorEq, Nat.reduceBEq, Nat.reduceAdd, Nat.reduceMul, Nat.reduceLT, Nat.reduceSub, Nat.reduceLeDiff, Nat.reduceEqDiff, Nat.reduceBneDiff, Int.reduceToNat, decide_eq_true_eq, decide_eq_false_iff_not, beq_iff_eq, Int.toNat_natCast, loopK_normal, loopK_exit, loopK_ret]
              refine ⟨⟨_, rfl, hm⟩, ?_⟩
              have al : alone ⟨f, t, p, h, i, 0, true, u, xs⟩ = false := rfl
              refine e_loop _ _ _ _ _ _ _ _ (fun x : Nat × HS => [.l 2 (ptRows l), .any, .v (.int .i64 n), .any, .ptr 0 0, .any, .any, .ptr 1 0, .any, .own 3, .v (.bool false), .v (.bool x.2.d), .ptr 2 0, .v (.bool x.2.b), .v (.int .i64 (x.1 : Int))] ++ List.replicate (Try.f16.ntmps - 15) .any) (fun x => [(0, .var 29 [.v (.int .i64 f), .v (.int .i64 t), .v (.int .i64 p), .v (.int .i64 h), .v (.int .i64 i), .v (.int .i64 0), .v (.bool true), .v (.bool u), .l 1 (rowsOfBytes xs)]), (1, .var 29 [.v (.int .i64 0), .v (.int .i64 0), .v (.int .i64 0), .v (.int .i64 0), .v (.int .i64 0), .v (.int .i64 0), .v (.bool false), .v (.bool false), .v nilS]), (2, .var 29 [.v (.int .i64 x.2.w.f), .v (.int .i64 x.2.w.t), .v (.int .i64 x.2.w.p), .v (.int .i64 x.2.w.h), .v (.int .i64 x.2.w.i), .v (.int .i64 x.2.w.a), .v (.bool x.2.w.m), .v (.bool x.2.w.u), .own 4]), (3, .tr .whole 38 2 [.sl 29 9 [.cell, .cell, .cell, .cell, .cell, .cell, .cell, .cell, .sl 5 1 [.cell]], .cell] (ptRows x.2.F)), (4, .tr .whole 5 1 [.cell] (rowsOfBytes x.2.w.d))]) (fun x => x.1 ≤ l.length ∧ x.2 = hRun false ⟨f, t, p, h, i, 0, true, u, xs⟩ hs0 (liveP (l.take x.1) n)) (fun x => l.length - x.1) 5 (fun x => by simp) ?_ fun x hk' => ?_
              · exact ⟨(0, hs0), [(0, some 0), (1, some _), (2, some _), (3, some _), (4, none)], ⟨Nat.zero_le _, rfl⟩, ⟨⟨⟨rfl, rfl, rfl⟩, trivial, ⟨rfl, rfl, rfl⟩, trivial, ⟨rfl, rfl, rfl⟩, trivial, trivial, ⟨rfl, rfl, rfl⟩, trivial, ⟨rfl, rfl, rfl⟩, ⟨rfl, rfl, rfl⟩, ⟨rfl, rfl, rfl⟩, ⟨rfl, rfl, rfl⟩, ⟨rfl, rfl, rfl⟩, ⟨rfl, rfl, rfl⟩, fitT_rep _ _ rfl⟩, ⟨.inl rfl, rfl, rfl, rfl, .inl rfl, rfl, rfl, rfl, .inl rfl, rfl, rfl, rfl, .inr (.inl ⟨rfl, rfl, rfl⟩), rfl, rfl, rfl, ⟨by omega, rfl, rfl⟩, rfl, rfl, rfl, trivial⟩, by simp [rn, hpAt]⟩, by simp [keepIds]⟩
              obtain ⟨k, st⟩ := x
              obtain ⟨hk1, hk2⟩ := hk'
              simp only at hk1 hk2
              have hF : st.F.length ≤ l.length := by
                have e1 := hRun_len false ⟨f, t, p, h, i, 0, true, u, xs⟩ (liveP (l.take k) n) hs0
                have e2 := liveP_len (l.take k) n
                rw [← hk2] at e1
                rw [List.length_take] at e2
                have : hs0.F.length = 0 := rfl
                omega
              have appd : ∀ (a : List Pt) y, ptRows a ++ [ptRow y] = ptRows (a ++ [y]) := fun a y => by rw [← ptRows_app]; rfl
              have w2 : IntKind.i64.wrap ((k : Int) + 1) = ((k + 1 : Nat) : Int) := by rw [wrap_id] <;> omega
              by_cases hk : k < l.length
              · have hrow := ptRows_get l k hk
                have hlt : ((k : Int) < (l.length : Int)) = True := eq_true (by omega)
                have h0 : (0 ≤ (k : Int)) = True := eq_true (by omega)
                have hx := hm.2 l[k] (List.getElem_mem hk)
                have hpb := hall l[k] (List.getElem_mem hk)
                have hne := (partB_all hpb).2.2.1
                have e1 := appd st.F l[k]
                rw [ptRow] at e1
                by_cases hu : n < l[k].u
                · have hu1 : (l[k].u ≤ n) = False := eq_false (by omega)
                  have hr0 := pRows_get l[k].ps 0 hne
                  have hl0 : ((0 : Int) < (l[k].ps.length : Int)) = True := eq_true (by omega)
                  have ho : of1 l[k] ⟨f, t, p, h, i, 0, true, u, xs⟩ = same4 l[k].ps[0] ⟨f, t, p, h, i, 0, true, u, xs⟩ := by rw [of1, pk_get hne]
                  by_cases hs4 : same4 l[k].ps[0] ⟨f, t, p, h, i, 0, true, u, xs⟩ = true
                  · have hpL : pMid (putL l[k].ps l[k].u ⟨f, t, p, h, i, 0, true, u, xs⟩) := by
                      rw [putL]
                      cases hO : putO l[k].ps l[k].u ⟨f, t, p, h, i, 0, true, u, xs⟩ with
                      | none => exact ⟨Nat.zero_le _, fun x hx => by cases hx⟩
                      | some r => exact (putO_mid hO hx hl).1
                    have e2 := appd st.F ⟨putL l[k].ps l[k].u ⟨f, t, p, h, i, 0, true, u, xs⟩, putU l[k].ps l[k].u ⟨f, t, p, h, i, 0, true, u, xs⟩⟩
                    rw [ptRow] at e2
                    simp (maxSteps := 3000000) only [Try.f16, sph, g_partsOk, g_packetOk, g_l1In, g_ofOne, g_partPut, g_partWholeT, g_partCopied, g_packetCopied, ptRows_len, ptsOf_rows, psOf_rows, bytesOf_rows, rowsOf_len, Int.toNat_natCast, pRows_len, hrow, hlt, h0, hu1, hr0, hl0, hs4, e2, pk_eta, pRow, Int.le_refl, D.toI, dB, D.toB, D.toL, ptRow, tYs, evL, implies_true, oMin, oCopy, oBin, oUn, oLoadKid, oStoreTree, oField, oExtract, oNil, oSliceQ, oLoadRow, takeCells, TS.atRow, TS.ex, treeMode, AV.isOwn, TK.isSl, nilTk, nilsB, oLenQ, oLen, nodupB, treeOf, kidAbs, kidRows, TK.isCell, D.toL, oLoad, oStore, oMake, oIndexAddr, ↓reduceIte, reduceCtorEq, Nat.reduceBEq, Nat.reduceAdd, Nat.reduceMul, Nat.reduceLT, Nat.reduceSub, Nat.reduceLeDiff, Nat.reduceEqDiff, Nat.reduceBneDiff, Int.reduceToNat, decide_eq_true_eq, decide_eq_false_iff_not, beq_iff_eq, Int.toNat_natCast, loopK_normal, loopK_exit, loopK_ret, w2]
                    refine ⟨by kernel_rfl, ⟨⟨_, rfl, hx⟩, _, rfl, hl⟩, ⟨_, rfl, hpL⟩, ?_⟩
                    by_cases g1 : (putO l[k].ps l[k].u ⟨f, t, p, h, i, 0, true, u, xs⟩).isSome = true
                    · rw [if_pos g1]
                      by_cases g2 : wholeB (putL l[k].ps l[k].u ⟨f, t, p, h, i, 0, true, u, xs⟩) (putU l[k].ps l[k].u ⟨f, t, p, h, i, 0, true, u, xs⟩) = true
                      · rw [if_neg (by simp [g2])]
                        exact ⟨(k + 1, ⟨true, wholeV (putL l[k].ps l[k].u ⟨f, t, p, h, i, 0, true, u, xs⟩) (putU l[k].ps l[k].u ⟨f, t, p, h, i, 0, true, u, xs⟩), wholeB (putL l[k].ps l[k].u ⟨f, t, p, h, i, 0, true, u, xs⟩) (putU l[k].ps l[k].u ⟨f, t, p, h, i, 0, true, u, xs⟩), st.F⟩), [(0, some 0), (1, some _), (2, some _), (3, some _), (4, some _)], ⟨by omega, by rw [liveP_take n hk, if_pos hu, hRun_app, ← hk2]; show _ = hStep false ⟨f, t, p, h, i, 0, true, u, xs⟩ st l[k]; rw [hStep, if_pos (by rw [ho, hs4]; rfl), if_neg (by simp [g2])]⟩, by simp only; omega, ⟨⟨⟨rfl, rfl, rfl⟩, trivial, ⟨rfl, rfl, rfl⟩, trivial, ⟨rfl, rfl, rfl⟩, trivial, trivial, ⟨rfl, rfl, rfl⟩, trivial, ⟨rfl, rfl, rfl⟩, ⟨rfl, rfl, rfl⟩, ⟨rfl, rfl, rfl⟩, ⟨rfl, rfl, rfl⟩, ⟨rfl, rfl, rfl⟩, ⟨rfl, rfl, rfl⟩, fitT_rep _ _ rfl⟩, ⟨.inl rfl, rfl, rfl, rfl, .inl rfl, rfl, rfl, rfl, .inl rfl, rfl, rfl, rfl, .inl rfl, rfl, rfl, rfl, .inl rfl, rfl, rfl, rfl, trivial⟩, by simp [rn, hpAt]⟩, by simp [keepIds]⟩
                      · rw [if_pos (by simp [g2])]
                        exact ⟨⟨by omega, by omega⟩, (k + 1, ⟨true, wholeV (putL l[k].ps l[k].u ⟨f, t, p, h, i, 0, true, u, xs⟩) (putU l[k].ps l[k].u ⟨f, t, p, h, i, 0, true, u, xs⟩), wholeB (putL l[k].ps l[k].u ⟨f, t, p, h, i, 0, true, u, xs⟩) (putU l[k].ps l[k].u ⟨f, t, p, h, i, 0, true, u, xs⟩), st.F ++ [⟨(putL l[k].ps l[k].u ⟨f, t, p, h, i, 0, true, u, xs⟩), (putU l[k].ps l[k].u ⟨f, t, p, h, i, 0, true, u, xs⟩)⟩]⟩), [(0, some 0), (1, some _), (2, some _), (3, some _), (4, some _)], ⟨by omega, by rw [liveP_take n hk, if_pos hu, hRun_app, ← hk2]; show _ = hStep false ⟨f, t, p, h, i, 0, true, u, xs⟩ st l[k]; rw [hStep, if_pos (by rw [ho, hs4]; rfl), if_pos (by simp [g1, g2])]⟩, by simp only; omega, ⟨⟨⟨rfl, rfl, rfl⟩, trivial, ⟨rfl, rfl, rfl⟩, trivial, ⟨rfl, rfl, rfl⟩, trivial, trivial, ⟨rfl, rfl, rfl⟩, trivial, ⟨rfl, rfl, rfl⟩, ⟨rfl, rfl, rfl⟩, ⟨rfl, rfl, rfl⟩, ⟨rfl, rfl, rfl⟩, ⟨rfl, rfl, rfl⟩, ⟨rfl, rfl, rfl⟩, fitT_rep _ _ rfl⟩, ⟨.inl rfl, rfl, rfl, rfl, .inl rfl, rfl, rfl, rfl, .inl rfl, rfl, rfl, rfl, .inl rfl, rfl, rfl, rfl, .inl rfl, rfl, rfl, rfl, trivial⟩, by simp [rn, hpAt]⟩, by simp [keepIds]⟩
                    · rw [if_neg g1]
                      exact ⟨(k + 1, ⟨true, wholeV (putL l[k].ps l[k].u ⟨f, t, p, h, i, 0, true, u, xs⟩) (putU l[k].ps l[k].u ⟨f, t, p, h, i, 0, true, u, xs⟩), wholeB (putL l[k].ps l[k].u ⟨f, t, p, h, i, 0, true, u, xs⟩) (putU l[k].ps l[k].u ⟨f, t, p, h, i, 0, true, u, xs⟩), st.F⟩), [(0, some 0), (1, some _), (2, some _), (3, some _), (4, some _)], ⟨by omega, by rw [liveP_take n hk, if_pos hu, hRun_app, ← hk2]; show _ = hStep false ⟨f, t, p, h, i, 0, true, u, xs⟩ st l[k]; rw [hStep, if_pos (by rw [ho, hs4]; rfl), if_neg (by simp [g1])]⟩, by simp only; omega, ⟨⟨⟨rfl, rfl, rfl⟩, trivial, ⟨rfl, rfl, rfl⟩, trivial, ⟨rfl, rfl, rfl⟩, trivial, trivial, ⟨rfl, rfl, rfl⟩, trivial, ⟨rfl, rfl, rfl⟩, ⟨rfl, rfl, rfl⟩, ⟨rfl, rfl, rfl⟩, ⟨rfl, rfl, rfl⟩, ⟨rfl, rfl, rfl⟩, ⟨rfl, rfl, rfl⟩, fitT_rep _ _ rfl⟩, ⟨.inl rfl, rfl, rfl, rfl, .inl rfl, rfl, rfl, rfl, .inl rfl, rfl, rfl, rfl, .inl rfl, rfl, rfl, rfl, .inl rfl, rfl, rfl, rfl, trivial⟩, by simp [rn, hpAt]⟩, by simp [keepIds]⟩
                  · have hs4 := Bool.eq_false_iff.2 hs4
                    simp (maxSteps := 3000000) only [Try.f16, sph, g_partsOk, g_packetOk, g_l1In, g_ofOne, g_partPut, g_partWholeT, g_partCopied, g_packetCopied, ptRows_len, ptsOf_rows, psOf_rows, bytesOf_rows, rowsOf_len, Int.toNat_natCast, pRows_len, hrow, hlt, h0, hu1, hr0, hl0, hs4, pk_eta, pRow, e1, Int.le_refl, D.toI, dB, D.toB, D.toL, ptRow, tYs, evL, implies_true, oMin, oCopy, oBin, oUn, oLoadKid, oStoreTree, oField, oExtract, oNil, oSliceQ, oLoadRow, takeCells, TS.atRow, TS.ex, treeMode, AV.isOwn, TK.isSl, nilTk, nilsB, oLenQ, oLen, nodupB, treeOf, kidAbs, kidRows, TK.isCell, D.toL, oLoad, oStore, oMake, oIndexAddr, ↓reduceIte, reduceCtorEq, Nat.reduceBEq, Nat.reduceAdd, Nat.reduceMul, Nat.reduceLT, Nat.reduceSub, Nat.reduceLeDiff, Nat.reduceEqDiff, Nat.reduceBneDiff, Int.reduceToNat, decide_eq_true_eq, decide_eq_false_iff_not, beq_iff_eq, Int.toNat_natCast, loopK_normal, loopK_exit, loopK_ret, w2]
                    exact ⟨by kernel_rfl, ⟨_, rfl, hx⟩, ⟨by omega, by omega⟩, (k + 1, ⟨st.d, st.w, st.b, st.F ++ [l[k]]⟩), [(0, some 0), (1, some _), (2, some _), (3, some _), (4, some _)], ⟨by omega, by rw [liveP_take n hk, if_pos hu, hRun_app, ← hk2]; show _ = hStep false ⟨f, t, p, h, i, 0, true, u, xs⟩ st l[k]; rw [hStep, if_neg (by simp [ho, hs4])]⟩, by simp only; omega, ⟨⟨⟨rfl, rfl, rfl⟩, trivial, ⟨rfl, rfl, rfl⟩, trivial, ⟨rfl, rfl, rfl⟩, trivial, trivial, ⟨rfl, rfl, rfl⟩, trivial, ⟨rfl, rfl, rfl⟩, ⟨rfl, rfl, rfl⟩, ⟨rfl, rfl, rfl⟩, ⟨rfl, rfl, rfl⟩, ⟨rfl, rfl, rfl⟩, ⟨rfl, rfl, rfl⟩, fitT_rep _ _ rfl⟩, ⟨.inl rfl, rfl, rfl, rfl, .inl rfl, rfl, rfl, rfl, .inl rfl, rfl, rfl, rfl, .inl rfl, rfl, rfl, rfl, .inl rfl, rfl, rfl, rfl, trivial⟩, by simp [rn, hpAt]⟩, by simp [keepIds]⟩
                · have hu1 : (l[k].u ≤ n) = True := eq_true (by omega)
                  simp (maxSteps := 3000000) only [Try.f16, sph, g_partsOk, g_packetOk, g_l1In, g_ofOne, g_partPut, g_partWholeT, g_partCopied, g_packetCopied, ptRows_len, ptsOf_rows, psOf_rows, bytesOf_rows, rowsOf_len, Int.toNat_natCast, hrow, hlt, h0, hu1, D.toI, dB, D.toB, D.toL, ptRow, tYs, evL, implies_true, oMin, oCopy, oBin, oUn, oLoadKid, oStoreTree, oField, oExtract, oNil, oSliceQ, oLoadRow, takeCells, TS.atRow, TS.ex, treeMode, AV.isOwn, TK.isSl, nilTk, nilsB, oLenQ, oLen, nodupB, treeOf, kidAbs, kidRows, TK.isCell, D.toL, oLoad, oStore, oMake, oIndexAddr, ↓reduceIte, reduceCtorEq, Nat.reduceBEq, Nat.reduceAdd, Nat.reduceMul, Nat.reduceLT, Nat.reduceSub, Nat.reduceLeDiff, Nat.reduceEqDiff, Nat.reduceBneDiff, Int.reduceToNat, decide_eq_true_eq, decide_eq_false_iff_not, beq_iff_eq, Int.toNat_natCast, loopK_normal, loopK_exit, loopK_ret, w2]
                  exact ⟨(k + 1, st), [(0, some 0), (1, some _), (2, some _), (3, some _), (4, some _)], ⟨by omega, by rw [liveP_take n hk, if_neg hu, List.append_nil]; exact hk2⟩, by simp only; omega, ⟨⟨⟨rfl, rfl, rfl⟩, trivial, ⟨rfl, rfl, rfl⟩, trivial, ⟨rfl, rfl, rfl⟩, trivial, trivial, ⟨rfl, rfl, rfl⟩, trivial, ⟨rfl, rfl, rfl⟩, ⟨rfl, rfl, rfl⟩, ⟨rfl, rfl, rfl⟩, ⟨rfl, rfl, rfl⟩, ⟨rfl, rfl, rfl⟩, ⟨rfl, rfl, rfl⟩, fitT_rep _ _ rfl⟩, ⟨.inl rfl, rfl, rfl, rfl, .inl rfl, rfl, rfl, rfl, .inl rfl, rfl, rfl, rfl, .inl rfl, rfl, rfl, rfl, .inl rfl, rfl, rfl, rfl, trivial⟩, by simp [rn, hpAt]⟩, by simp [keepIds]⟩
              · have hlt : ((k : Int) < (l.length : Int)) = False := eq_false (by omega)
                obtain rfl : k = l.length := by omega
                rw [List.take_length] at hk2
                by_cases fd : findP (liveP l n) ⟨f, t, p, h, i, 0, true, u, xs⟩ = (liveP l n).length
                · rw [hRun_no _ _ _ (findP_no fd)] at hk2
                  replace hk2 : st = ⟨false, pk0, false, liveP l n⟩ := hk2
                  subst hk2
                  have e1 : phF l ⟨f, t, p, h, i, 0, true, u, xs⟩ n = withF (liveP l n) ⟨f, t, p, h, i, 0, true, u, xs⟩ n := by rw [phF, if_pos hOk, if_neg (by simp [al]), if_pos fd]
                  have e2 : phP l ⟨f, t, p, h, i, 0, true, u, xs⟩ n = pk0 := by rw [phP, if_pos hOk, if_neg (by simp [al]), if_pos fd]
                  have e3 : phB l ⟨f, t, p, h, i, 0, true, u, xs⟩ n = false := by rw [phB, hOk, al, decide_eq_true fd]; rfl
                  have e4 : phS l ⟨f, t, p, h, i, 0, true, u, xs⟩ n = !decide ((liveP l n).length ≤ 2) := by rw [phS, hOk, al, decide_eq_true fd]; simp
                  have w15 : IntKind.i64.wrap (n + 15) = n + 15 := by rw [wrap_id] <;> omega
                  have hlv := liveP_len l n
                  have e5 := appd (liveP l n) ⟨[⟨f, t, p, h, i, 0, true, u, xs⟩], n + 15⟩
                  replace e5 : ptRows (liveP l n) ++ [[D.l 9 [[D.v (.int .i64 f), D.v (.int .i64 t), D.v (.int .i64 p), D.v (.int .i64 h), D.v (.int .i64 i), D.v (.int .i64 0), D.v (.bool true), D.v (.bool u), D.l 1 (rowsOfBytes xs)]], D.v (.int .i64 (n + 15))]] = ptRows (withF (liveP l n) ⟨f, t, p, h, i, 0, true, u, xs⟩ n) := e5
                  have e6 : (withF (liveP l n) ⟨f, t, p, h, i, 0, true, u, xs⟩ n).length = (liveP l n).length + 1 := by simp [withF]
                  simp (maxSteps := 3000000) only [Try.f16, sph, g_partsOk, g_packetOk, g_l1In, g_ofOne, g_partPut, g_partWholeT, g_partCopied, g_packetCopied, ptRows_len, ptsOf_rows, psOf_rows, bytesOf_rows, rowsOf_len, Int.toNat_natCast, hlt, w15, e5, e6, D.toI, dB, D.toB, D.toL, tYs, evL, implies_true, oMin, oCopy, oBin, oUn, oLoadKid, oStoreTree, oField, oExtract, oNil, oSliceQ, oLoadRow, takeCells, TS.atRow, TS.ex, treeMode, AV.isOwn, TK.isSl, nilTk, nilsB, oLenQ, oLen, nodupB, treeOf, kidAbs, kidRows, TK.isCell, D.toL, oLoad, oStore, oMake, oIndexAddr, ↓reduceIte, reduceCtorEq, Nat.reduceBEq, Nat.reduceAdd, Nat.reduceMul, Nat.reduceLT, Nat.reduceSub, Nat.reduceLeDiff, Nat.reduceEqDiff, Nat.reduceBneDiff, Int.reduceToNat, decide_eq_true_eq, decide_eq_false_iff_not, beq_iff_eq, Int.toNat_natCast, loopK_normal, loopK_exit, loopK_ret]
                  rw [e1, e2, e3, e4]
                  refine ⟨⟨_, rfl, hl⟩, ⟨by omega, by omega⟩, ?_⟩
                  by_cases le : (liveP l n).length ≤ 2
                  · rw [if_neg (by omega), decide_eq_true le]
                    exact ⟨by kernel_rfl, _, [(0, some _), (1, some _)], rfl, ⟨⟨⟨rfl, rfl, rfl⟩, trivial⟩, ⟨.inl rfl, rfl, rfl, rfl, .inl rfl, rfl, rfl, rfl, trivial⟩, by simp [rn, hpAt]⟩⟩
                  · have l3 : (liveP l n).length = 3 := by omega
                    rw [if_pos (by omega), decide_eq_false le, l3]
                    exact ⟨by omega, by kernel_rfl, _, [(0, some _), (1, some _)], rfl, ⟨⟨⟨rfl, rfl, rfl⟩, trivial⟩, ⟨.inl rfl, rfl, rfl, rfl, .inl rfl, rfl, rfl, rfl, trivial⟩, by simp [rn, hpAt]⟩⟩
                · rw [hRun_hit _ (liveP l n) _ ((ptsB_pair h1 ⟨f, t, p, h, i, 0, true, u, xs⟩).filter _) fd] at hk2
                  replace hk2 : st = ⟨true, hitP (liveP l n) (findP (liveP l n) ⟨f, t, p, h, i, 0, true, u, xs⟩) ⟨f, t, p, h, i, 0, true, u, xs⟩, hitB (liveP l n) (findP (liveP l n) ⟨f, t, p, h, i, 0, true, u, xs⟩) ⟨f, t, p, h, i, 0, true, u, xs⟩, hitL (liveP l n) (findP (liveP l n) ⟨f, t, p, h, i, 0, true, u, xs⟩) ⟨f, t, p, h, i, 0, true, u, xs⟩⟩ := hk2
                  have hFl : ((hitL (liveP l n) (findP (liveP l n) ⟨f, t, p, h, i, 0, true, u, xs⟩) ⟨f, t, p, h, i, 0, true, u, xs⟩).length : Int) ≤ 3 := by
                    rw [hk2] at hF
                    have : (hitL (liveP l n) (findP (liveP l n) ⟨f, t, p, h, i, 0, true, u, xs⟩) ⟨f, t, p, h, i, 0, true, u, xs⟩).length ≤ l.length := hF
                    omega
                  have hgt : (((hitL (liveP l n) (findP (liveP l n) ⟨f, t, p, h, i, 0, true, u, xs⟩) ⟨f, t, p, h, i, 0, true, u, xs⟩).length : Int) > 3) = False := eq_false (by omega)
                  subst hk2
                  have e1 : phF l ⟨f, t, p, h, i, 0, true, u, xs⟩ n = hitL (liveP l n) (findP (liveP l n) ⟨f, t, p, h, i, 0, true, u, xs⟩) ⟨f, t, p, h, i, 0, true, u, xs⟩ := by rw [phF, if_pos hOk, if_neg (by simp [al]), if_neg fd]
                  have e2 : phP l ⟨f, t, p, h, i, 0, true, u, xs⟩ n = hitP (liveP l n) (findP (liveP l n) ⟨f, t, p, h, i, 0, true, u, xs⟩) ⟨f, t, p, h, i, 0, true, u, xs⟩ := by rw [phP, if_pos hOk, if_neg (by simp [al]), if_neg fd]
                  have e3 : phB l ⟨f, t, p, h, i, 0, true, u, xs⟩ n = hitB (liveP l n) (findP (liveP l n) ⟨f, t, p, h, i, 0, true, u, xs⟩) ⟨f, t, p, h, i, 0, true, u, xs⟩ := by rw [phB, hOk, al, decide_eq_false fd]; rfl
                  have e4 : phS l ⟨f, t, p, h, i, 0, true, u, xs⟩ n = false := by rw [phS, decide_eq_false fd]; simp
                  simp (maxSteps := 3000000) only [Try.f16, sph, g_partsOk, g_packetOk, g_l1In, g_ofOne, g_partPut, g_partWholeT, g_partCopied, g_packetCopied, ptRows_len, ptsOf_rows, psOf_rows, bytesOf_rows, rowsOf_len, Int.toNat_natCast, hlt, hgt, D.toI, dB, D.toB, D.toL, tYs, evL, implies_true, oMin, oCopy, oBin, oUn, oLoadKid, oStoreTree, oField, oExtract, oNil, oSliceQ, oLoadRow, takeCells, TS.atRow, TS.ex, treeMode, AV.isOwn, TK.isSl, nilTk, nilsB, oLenQ, oLen, nodupB, treeOf, kidAbs, kidRows, TK.isCell, D.toL, oLoad, oStore, oMake, oIndexAddr, ↓reduceIte, reduceCtorEq, Nat.reduceBEq, Nat.reduceAdd, Nat.reduceMul, Nat.reduceLT, Nat.reduceSub, Nat.reduceLeDiff, Nat.reduceEqDiff, Nat.reduceBneDiff, Int.reduceToNat, decide_eq_true_eq, decide_eq_false_iff_not, beq_iff_eq, Int.toNat_natCast, loopK_normal, loopK_exit, loopK_ret]
                  rw [e1, e2, e3, e4]
                  exact ⟨by kernel_rfl, _, [(0, some _), (1, some _)], rfl, ⟨⟨⟨rfl, rfl, rfl⟩, trivial⟩, ⟨.inl rfl, rfl, rfl, rfl, .inl rfl, rfl, rfl, rfl, trivial⟩, by simp [rn, hpAt]⟩⟩
          · have ha' : (a == 0) = false := by simpa using ha
            simp (maxSteps := 3000000) only [Try.f16, sph, g_partsOk, g_packetOk, g_l1In, g_ofOne, g_partPut, g_partWholeT, g_partCopied, g_packetCopied, ptRows_len, ptsOf_rows, psOf_rows, bytesOf_rows, rowsOf_len, Int.toNat_natCast, h1, h2, h3, ha', D.toI, dB, D.toB, D.toL, tYs, evL, implies_true, oMin, oCopy, oBin, oUn, oLoadKid, oStoreTree, oField, oExtract, oNil, oSliceQ, oLoadRow, takeCells, TS.atRow, TS.ex, treeMode, AV.isOwn, TK.isSl, nilTk, nilsB, oLenQ, oLen, nodupB, treeOf, kidAbs, kidRows, TK.isCell, D.toL, oLoad, oStore, oMake, oIndexAddr, ↓reduceIte, reduceCtorEq, Nat.reduceBEq, Nat.reduceAdd, Nat.reduceMul, Nat.reduceLT, Nat.reduceSub, Nat.reduceLeDiff, Nat.reduceEqDiff, Nat.reduceBneDiff, Int.reduceToNat, decide_eq_true_eq, decide_eq_false_iff_not, beq_iff_eq, Int.toNat_natCast, loopK_normal, loopK_exit, loopK_ret]
            refine ⟨⟨_, rfl, hm⟩, ?_⟩
            have al : alone ⟨f, t, p, h, i, a, m, u, xs⟩ = false := by rw [hal, decide_eq_false ha]; rfl
            refine e_loop _ _ _ _ _ _ _ _ (fun x : Nat × HS => [.l 2 (ptRows l), .any, .v (.int .i64 n), .any, .ptr 0 0, .any, .any, .ptr 1 0, .any, .own 3, .v (.bool false), .v (.bool x.2.d), .ptr 2 0, .v (.bool x.2.b), .v (.int .i64 (x.1 : Int))] ++ List.replicate (Try.f16.ntmps - 15) .any) (fun x => [(0, .var 29 [.v (.int .i64 f), .v (.int .i64 t), .v (.int .i64 p), .v (.int .i64 h), .v (.int .i64 i), .v (.int .i64 a), .v (.bool m), .v (.bool u), .l 1 (rowsOfBytes xs)]), (1, .var 29 [.v (.int .i64 0), .v (.int .i64 0), .v (.int .i64 0), .v (.int .i64 0), .v (.int .i64 0), .v (.int .i64 0), .v (.bool false), .v (.bool false), .v nilS]), (2, .var 29 [.v (.int .i64 x.2.w.f), .v (.int .i64 x.2.w.t), .v (.int .i64 x.2.w.p), .v (.int .i64 x.2.w.h), .v (.int .i64 x.2.w.i), .v (.int .i64 x.2.w.a), .v (.bool x.2.w.m), .v (.bool x.2.w.u), .own 4]), (3, .tr .whole 38 2 [.sl 29 9 [.cell, .cell, .cell, .cell, .cell, .cell, .cell, .cell, .sl 5 1 [.cell]], .cell] (ptRows x.2.F)), (4, .tr .whole 5 1 [.cell] (rowsOfBytes x.2.w.d))]) (fun x => x.1 ≤ l.length ∧ x.2 = hRun false ⟨f, t, p, h, i, a, m, u, xs⟩ hs0 (liveP (l.take x.1) n)) (fun x => l.length - x.1) 5 (fun x => by simp) ?_ fun x hk' => ?_
            · exact ⟨(0, hs0), [(0, some 0), (1, some _), (2, some _), (3, some _), (4, none)], ⟨Nat.zero_le _, rfl⟩, ⟨⟨⟨rfl, rfl, rfl⟩, trivial, ⟨rfl, rfl, rfl⟩, trivial, ⟨rfl, rfl, rfl⟩, trivial, trivial, ⟨rfl, rfl, rfl⟩, trivial, ⟨rfl, rfl, rfl⟩, ⟨rfl, rfl, rfl⟩, ⟨rfl, rfl, rfl⟩, ⟨rfl, rfl, rfl⟩, ⟨rfl, rfl, rfl⟩, ⟨rfl, rfl, rfl⟩, fitT_rep _ _ rfl⟩, ⟨.inl rfl, rfl, rfl, rfl, .inl rfl, rfl, rfl, rfl, .inl rfl, rfl, rfl, rfl, .inr (.inl ⟨rfl, rfl, rfl⟩), rfl, rfl, rfl, ⟨by omega, rfl, rfl⟩, rfl, rfl, rfl, trivial⟩, by simp [rn, hpAt]⟩, by simp [keepIds]⟩
            obtain ⟨k, st⟩ := x
            obtain ⟨hk1, hk2⟩ := hk'
            simp only at hk1 hk2
            have hF : st.F.length ≤ l.length := by
              have e1 := hRun_len false ⟨f, t, p, h, i, a, m, u, xs⟩ (liveP (l.take k) n) hs0
              have e2 := liveP_len (l.take k) n
              rw [← hk2] at e1
              rw [List.length_take] at e2
              have : hs0.F.length = 0 := rfl
              omega
            have appd : ∀ (a : List Pt) y, ptRows a ++ [ptRow y] = ptRows (a ++ [y]) := fun a y => by rw [← ptRows_app]; rfl
            have w2 : IntKind.i64.wrap ((k : Int) + 1) = ((k + 1 : Nat) : Int) := by rw [wrap_id] <;> omega
            by_cases hk : k < l.length
            · have hrow := ptRows_get l k hk
              have hlt : ((k : Int) < (l.length : Int)) = True := eq_true (by omega)
              have h0 : (0 ≤ (k : Int)) = True := eq_true (by omega)
              have hx := hm.2 l[k] (List.getElem_mem hk)
              have hpb := hall l[k] (List.getElem_mem hk)
              have hne := (partB_all hpb).2.2.1
              have e1 := appd st.F l[k]
              rw [ptRow] at e1
              by_cases hu : n < l[k].u
              · have hu1 : (l[k].u ≤ n) = False := eq_false (by omega)
                have hr0 := pRows_get l[k].ps 0 hne
                have hl0 : ((0 : Int) < (l[k].ps.length : Int)) = True := eq_true (by omega)
                have ho : of1 l[k] ⟨f, t, p, h, i, a, m, u, xs⟩ = same4 l[k].ps[0] ⟨f, t, p, h, i, a, m, u, xs⟩ := by rw [of1, pk_get hne]
                by_cases hs4 : same4 l[k].ps[0] ⟨f, t, p, h, i, a, m, u, xs⟩ = true
                · have hpL : pMid (putL l[k].ps l[k].u ⟨f, t, p, h, i, a, m, u, xs⟩) := by
                    rw [putL]
                    cases hO : putO l[k].ps l[k].u ⟨f, t, p, h, i, a, m, u, xs⟩ with
                    | none => exact ⟨Nat.zero_le _, fun x hx => by cases hx⟩
                    | some r => exact (putO_mid hO hx hl).1
                  have e2 := appd st.F ⟨putL l[k].ps l[k].u ⟨f, t, p, h, i, a, m, u, xs⟩, putU l[k].ps l[k].u ⟨f, t, p, h, i, a, m, u, xs⟩⟩
                  rw [ptRow] at e2
                  simp (maxSteps := 3000000) only [Try.f16, sph, g_partsOk, g_packetOk, g_l1In, g_ofOne, g_partPut, g_partWholeT, g_partCopied, g_packetCopied, ptRows_len, ptsOf_rows, psOf_rows, bytesOf_rows, rowsOf_len, Int.toNat_natCast, pRows_len, hrow, hlt, h0, hu1, hr0, hl0, hs4, e2, pk_eta, pRow, Int.le_refl, D.toI, dB, D.toB, D.toL, ptRow, tYs, evL, implies_true, oMin, oCopy, oBin, oUn, oLoadKid, oStoreTree, oField, oExtract, oNil, oSliceQ, oLoadRow, takeCells, TS.atRow, TS.ex, treeMode, AV.isOwn, TK.isSl, nilTk, nilsB, oLenQ, oLen, nodupB, treeOf, kidAbs, kidRows, TK.isCell, D.toL, oLoad, oStore, oMake, oIndexAddr, ↓reduceIte, reduceCtorEq, Nat.reduceBEq, Nat.reduceAdd, Nat.reduceMul, Nat.reduceLT, Nat.reduceSub, Nat.reduceLeDiff, Nat.reduceEqDiff, Nat.reduceBneDiff, Int.reduceToNat, decide_eq_true_eq, decide_eq_false_iff_not, beq_iff_eq, Int.toNat_natCast, loopK_normal, loopK_exit, loopK_ret, w2]
                  refine ⟨by kernel_rfl, ⟨⟨_, rfl, hx⟩, _, rfl, hl⟩, ⟨_, rfl, hpL⟩, ?_⟩
                  by_cases g1 : (putO l[k].ps l[k].u ⟨f, t, p, h, i, a, m, u, xs⟩).isSome = true
                  · rw [if_pos g1]
                    by_cases g2 : wholeB (putL l[k].ps l[k].u ⟨f, t, p, h, i, a, m, u, xs⟩) (putU l[k].ps l[k].u ⟨f, t, p, h, i, a, m, u, xs⟩) = true
                    · rw [if_neg (by simp [g2])]
                      exact ⟨(k + 1, ⟨true, wholeV (putL l[k].ps l[k].u ⟨f, t, p, h, i, a, m, u, xs⟩) (putU l[k].ps l[k].u ⟨f, t, p, h, i, a, m, u, xs⟩), wholeB (putL l[k].ps l[k].u ⟨f, t, p, h, i, a, m, u, xs⟩) (putU l[k].ps l[k].u ⟨f, t, p, h, i, a, m, u, xs⟩), st.F⟩), [(0, some 0), (1, some _), (2, some _), (3, some _), (4, some _)], ⟨by omega, by rw [liveP_take n hk, if_pos hu, hRun_app, ← hk2]; show _ = hStep false ⟨f, t, p, h, i, a, m, u, xs⟩ st l[k]; rw [hStep, if_pos (by rw [ho, hs4]; rfl), if_neg (by simp [g2])]⟩, by simp only; omega, ⟨⟨⟨rfl, rfl, rfl⟩, trivial, ⟨rfl, rfl, rfl⟩, trivial, ⟨rfl, rfl, rfl⟩, trivial, trivial, ⟨rfl, rfl, rfl⟩, trivial, ⟨rfl, rfl, rfl⟩, ⟨rfl, rfl, rfl⟩, ⟨rfl, rfl, rfl⟩, ⟨rfl, rfl, rfl⟩, ⟨rfl, rfl, rfl⟩, ⟨rfl, rfl, rfl⟩, fitT_rep _ _ rfl⟩, ⟨.inl rfl, rfl, rfl, rfl, .inl rfl, rfl, rfl, rfl, .inl rfl, rfl, rfl, rfl, .inl rfl, rfl, rfl, rfl, .inl rfl, rfl, rfl, rfl, trivial⟩, by simp [rn, hpAt]⟩, by simp [keepIds]⟩
                    · rw [if_pos (by simp [g2])]
                      exact ⟨⟨by omega, by omega⟩, (k + 1, ⟨true, wholeV (putL l[k].ps l[k].u ⟨f, t, p, h, i, a, m, u, xs⟩) (putU l[k].ps l[k].u ⟨f, t, p, h, i, a, m, u, xs⟩), wholeB (putL l[k].ps l[k].u ⟨f, t, p, h, i, a, m, u, xs⟩) (putU l[k].ps l[k].u ⟨f, t, p, h, i, a, m, u, xs⟩), st.F ++ [⟨(putL l[k].ps l[k].u ⟨f, t, p, h, i, a, m, u, xs⟩), (putU l[k].ps l[k].u ⟨f, t, p, h, i, a, m, u, xs⟩)⟩]⟩), [(0, some 0), (1, some _), (2, some _), (3, some _), (4, some _)], ⟨by omega, by rw [liveP_take n hk, if_pos hu, hRun_app, ← hk2]; show _ = hStep false ⟨f, t, p, h, i, a, m, u, xs⟩ st l[k]; rw [hStep, if_pos (by rw [ho, hs4]; rfl), if_pos (by simp [g1, g2])]⟩, by simp only; omega, ⟨⟨⟨rfl, rfl, rfl⟩, trivial, ⟨rfl, rfl, rfl⟩, trivial, ⟨rfl, rfl, rfl⟩, trivial, trivial, ⟨rfl, rfl, rfl⟩, trivial, ⟨rfl, rfl, rfl⟩, ⟨rfl, rfl, rfl⟩, ⟨rfl, rfl, rfl⟩, ⟨rfl, rfl, rfl⟩, ⟨rfl, rfl, rfl⟩, ⟨rfl, rfl, rfl⟩, fitT_rep _ _ rfl⟩, ⟨.inl rfl, rfl, rfl, rfl, .inl rfl, rfl, rfl, rfl, .inl rfl, rfl, rfl, rfl, .inl rfl, rfl, rfl, rfl, .inl rfl, rfl, rfl, rfl, trivial⟩, by simp [rn, hpAt]⟩, by simp [keepIds]⟩
                  · rw [if_neg g1]
                    exact ⟨(k + 1, ⟨true, wholeV (putL l[k].ps l[k].u ⟨f, t, p, h, i, a, m, u, xs⟩) (putU l[k].ps l[k].u ⟨f, t, p, h, i, a, m, u, xs⟩), wholeB (putL l[k].ps l[k].u ⟨f, t, p, h, i, a, m, u, xs⟩) (putU l[k].ps l[k].u ⟨f, t, p, h, i, a, m, u, xs⟩), st.F⟩), [(0, some 0), (1, some _), (2, some _), (3, some _), (4, some _)], ⟨by omega, by rw [liveP_take n hk, if_pos hu, hRun_app, ← hk2]; show _ = hStep false ⟨f, t, p, h, i, a, m, u, xs⟩ st l[k]; rw [hStep, if_pos (by rw [ho, hs4]; rfl), if_neg (by simp [g1])]⟩, by simp only; omega, ⟨⟨⟨rfl, rfl, rfl⟩, trivial, ⟨rfl, rfl, rfl⟩, trivial, ⟨rfl, rfl, rfl⟩, trivial, trivial, ⟨rfl, rfl, rfl⟩, trivial, ⟨rfl, rfl, rfl⟩, ⟨rfl, rfl, rfl⟩, ⟨rfl, rfl, rfl⟩, ⟨rfl, rfl, rfl⟩, ⟨rfl, rfl, rfl⟩, ⟨rfl, rfl, rfl⟩, fitT_rep _ _ rfl⟩, ⟨.inl rfl, rfl, rfl, rfl, .inl rfl, rfl, rfl, rfl, .inl rfl, rfl, rfl, rfl, .inl rfl, rfl, rfl, rfl, .inl rfl, rfl, rfl, rfl, trivial⟩, by simp [rn, hpAt]⟩, by simp [keepIds]⟩
                · have hs4 := Bool.eq_false_iff.2 hs4
                  simp (maxSteps := 3000000) only [Try.f16, sph, g_partsOk, g_packetOk, g_l1In, g_ofOne, g_partPut, g_partWholeT, g_partCopied, g_packetCopied, ptRows_len, ptsOf_rows, psOf_rows, bytesOf_rows, rowsOf_len, Int.toNat_natCast, pRows_len, hrow, hlt, h0, hu1, hr0, hl0, hs4, pk_eta, pRow, e1, Int.le_refl, D.toI, dB, D.toB, D.toL, ptRow, tYs, evL, implies_true, oMin, oCopy, oBin, oUn, oLoadKid, oStoreTree, oField, oExtract, oNil, oSliceQ, oLoadRow, takeCells, TS.atRow, TS.ex, treeMode, AV.isOwn, TK.isSl, nilTk, nilsB, oLenQ, oLen, nodupB, treeOf, kidAbs, kidRows, TK.isCell, D.toL, oLoad, oStore, oMake, oIndexAddr, ↓reduceIte, reduceCtorEq, Nat.reduceBEq, Nat.reduceAdd, Nat.reduceMul, Nat.reduceLT, Nat.reduceSub, Nat.reduceLeDiff, Nat.reduceEqDiff, Nat.reduceBneDiff, Int.reduceToNat, decide_eq_true_eq, decide_eq_false_iff_not, beq_iff_eq, Int.toNat_natCast, loopK_normal, loopK_exit, loopK_ret, w2]
                  exact ⟨by kernel_rfl, ⟨_, rfl, hx⟩, ⟨by omega, by omega⟩, (k + 1, ⟨st.d, st.w, st.b, st.F ++ [l[k]]⟩), [(0, some 0), (1, some _), (2, some _), (3, some _), (4, some _)], ⟨by omega, by rw [liveP_take n hk, if_pos hu, hRun_app, ← hk2]; show _ = hStep false ⟨f, t, p, h, i, a, m, u, xs⟩ st l[k]; rw [hStep, if_neg (by simp [ho, hs4])]⟩, by simp only; omega, ⟨⟨⟨rfl, rfl, rfl⟩, trivial, ⟨rfl, rfl, rfl⟩, trivial, ⟨rfl, rfl, rfl⟩, trivial, trivial, ⟨rfl, rfl, rfl⟩, trivial, ⟨rfl, rfl, rfl⟩, ⟨rfl, rfl, rfl⟩, ⟨rfl, rfl, rfl⟩, ⟨rfl, rfl, rfl⟩, ⟨rfl, rfl, rfl⟩, ⟨rfl, rfl, rfl⟩, fitT_rep _ _ rfl⟩, ⟨.inl rfl, rfl, rfl, rfl, .inl rfl, rfl, rfl, rfl, .inl rfl, rfl, rfl, rfl, .inl rfl, rfl, rfl, rfl, .inl rfl, rfl, rfl, rfl, trivial⟩, by simp [rn, hpAt]⟩, by simp [keepIds]⟩
              · have hu1 : (l[k].u ≤ n) = True := eq_true (by omega)
                simp (maxSteps := 3000000) only [Try.f16, sph, g_partsOk, g_packetOk, g_l1In, g_ofOne, g_partPut, g_partWholeT, g_partCopied, g_packetCopied, ptRows_len, ptsOf_rows, psOf_rows, bytesOf_rows, rowsOf_len, Int.toNat_natCast, hrow, hlt, h0, hu1, D.toI, dB, D.toB, D.toL, ptRow, tYs, evL, implies_true, oMin, oCopy, oBin, oUn, oLoadKid, oStoreTree, oField, oExtract, oNil, oSliceQ, oLoadRow, takeCells, TS.atRow, TS.ex, treeMode, AV.isOwn, TK.isSl, nilTk, nilsB, oLenQ, oLen, nodupB, treeOf, kidAbs, kidRows, TK.isCell, D.toL, oLoad, oStore, oMake, oIndexAddr, ↓reduceIte, reduceCtorEq, Nat.reduceBEq, Nat.reduceAdd, Nat.reduceMul, Nat.reduceLT, Nat.reduceSub, Nat.reduceLeDiff, Nat.reduceEqDiff, Nat.reduceBneDiff, Int.reduceToNat, decide_eq_true_eq, decide_eq_false_iff_not, beq_iff_eq, Int.toNat_natCast, loopK_normal, loopK_exit, loopK_ret, w2]
                exact ⟨(k + 1, st), [(0, some 0), (1, some _), (2, some _), (3, some _), (4, some _)], ⟨by omega, by rw [liveP_take n hk, if_neg hu, List.append_nil]; exact hk2⟩, by simp only; omega, ⟨⟨⟨rfl, rfl, rfl⟩, trivial, ⟨rfl, rfl, rfl⟩, trivial, ⟨rfl, rfl, rfl⟩, trivial, trivial, ⟨rfl, rfl, rfl⟩, trivial, ⟨rfl, rfl, rfl⟩, ⟨rfl, rfl, rfl⟩, ⟨rfl, rfl, rfl⟩, ⟨rfl, rfl, rfl⟩, ⟨rfl, rfl, rfl⟩, ⟨rfl, rfl, rfl⟩, fitT_rep _ _ rfl⟩, ⟨.inl rfl, rfl, rfl, rfl, .inl rfl, rfl, rfl, rfl, .inl rfl, rfl, rfl, rfl, .inl rfl, rfl, rfl, rfl, .inl rfl, rfl, rfl, rfl, trivial⟩, by simp [rn, hpAt]⟩, by simp [keepIds]⟩
            · have hlt : ((k : Int) < (l.length : Int)) = False := eq_false (by omega)
              obtain rfl : k = l.length := by omega
              rw [List.take_length] at hk2
              by_cases fd : findP (liveP l n) ⟨f, t, p, h, i, a, m, u, xs⟩ = (liveP l n).length
              · rw [hRun_no _ _ _ (findP_no fd)] at hk2
                replace hk2 : st = ⟨false, pk0, false, liveP l n⟩ := hk2
                subst hk2
                have e1 : phF l ⟨f, t, p, h, i, a, m, u, xs⟩ n = withF (liveP l n) ⟨f, t, p, h, i, a, m, u, xs⟩ n := by rw [phF, if_pos hOk, if_neg (by simp [al]), if_pos fd]
                have e2 : phP l ⟨f, t, p, h, i, a, m, u, xs⟩ n = pk0 := by rw [phP, if_pos hOk, if_neg (by simp [al]), if_pos fd]
                have e3 : phB l ⟨f, t, p, h, i, a, m, u, xs⟩ n = false := by rw [phB, hOk, al, decide_eq_true fd]; rfl
                have e4 : phS l ⟨f, t, p, h, i, a, m, u, xs⟩ n = !decide ((liveP l n).length ≤ 2) := by rw [phS, hOk, al, decide_eq_true fd]; simp
                have w15 : IntKind.i64.wrap (n + 15) = n + 15 := by rw [wrap_id] <;> omega
                have hlv := liveP_len l n
                have e5 := appd (liveP l n) ⟨[⟨f, t, p, h, i, a, m, u, xs⟩], n + 15⟩
                replace e5 : ptRows (liveP l n) ++ [[D.l 9 [[D.v (.int .i64 f), D.v (.int .i64 t), D.v (.int .i64 p), D.v (.int .i64 h), D.v (.int .i64 i), D.v (.int .i64 a), D.v (.bool m), D.v (.bool u), D.l 1 (rowsOfBytes xs)]], D.v (.int .i64 (n + 15))]] = ptRows (withF (liveP l n) ⟨f, t, p, h, i, a, m, u, xs⟩ n) := e5
                have e6 : (withF (liveP l n) ⟨f, t, p, h, i, a, m, u, xs⟩ n).length = (liveP l n).length + 1 := by simp [withF]
                simp (maxSteps := 3000000) only [Try.f16, sph, g_partsOk, g_packetOk, g_l1In, g_ofOne, g_partPut, g_partWholeT, g_partCopied, g_packetCopied, ptRows_len, ptsOf_rows, psOf_rows, bytesOf_rows, rowsOf_len, Int.toNat_natCast, hlt, w15, e5, e6, D.toI, dB, D.toB, D.toL, tYs, evL, implies_true, oMin, oCopy, oBin, oUn, oLoadKid, oStoreTree, oField, oExtract, oNil, oSliceQ, oLoadRow, takeCells, TS.atRow, TS.ex, treeMode, AV.isOwn, TK.isSl, nilTk, nilsB, oLenQ, oLen, nodupB, treeOf, kidAbs, kidRows, TK.isCell, D.toL, oLoad, oStore, oMake, oIndexAddr, ↓reduceIte, reduceCtorEq, Nat.reduceBEq, Nat.reduceAdd, Nat.reduceMul, Nat.reduceLT, Nat.reduceSub, Nat.reduceLeDiff, Nat.reduceEqDiff, Nat.reduceBneDiff, Int.reduceToNat, decide_eq_true_eq, decide_eq_false_iff_not, beq_iff_eq, Int.toNat_natCast, loopK_normal, loopK_exit, loopK_ret]
                rw [e1, e2, e3, e4]
                refine ⟨⟨_, rfl, hl⟩, ⟨by omega, by omega⟩, ?_⟩
                by_cases le : (liveP l n).length ≤ 2
                · rw [if_neg (by omega), decide_eq_true le]
                  exact ⟨by kernel_rfl, _, [(0, some _), (1, some _)], rfl, ⟨⟨⟨rfl, rfl, rfl⟩, trivial⟩, ⟨.inl rfl, rfl, rfl, rfl, .inl rfl, rfl, rfl, rfl, trivial⟩, by simp [rn, hpAt]⟩⟩
                · have l3 : (liveP l n).length = 3 := by omega
                  rw [if_pos (by omega), decide_eq_false le, l3]
                  exact ⟨by omega, by kernel_rfl, _, [(0, some _), (1, some _)], rfl, ⟨⟨⟨rfl, rfl, rfl⟩, trivial⟩, ⟨.inl rfl, rfl, rfl, rfl, .inl rfl, rfl, rfl, rfl, trivial⟩, by simp [rn, hpAt]⟩⟩
              · rw [hRun_hit _ (liveP l n) _ ((ptsB_pair h1 ⟨f, t, p, h, i, a, m, u, xs⟩).filter _) fd] at hk2
                replace hk2 : st = ⟨true, hitP (liveP l n) (findP (liveP l n) ⟨f, t, p, h, i, a, m, u, xs⟩) ⟨f, t, p, h, i, a, m, u, xs⟩, hitB (liveP l n) (findP (liveP l n) ⟨f, t, p, h, i, a, m, u, xs⟩) ⟨f, t, p, h, i, a, m, u, xs⟩, hitL (liveP l n) (findP (liveP l n) ⟨f, t, p, h, i, a, m, u, xs⟩) ⟨f, t, p, h, i, a, m, u, xs⟩⟩ := hk2
                have hFl : ((hitL (liveP l n) (findP (liveP l n) ⟨f, t, p, h, i, a, m, u, xs⟩) ⟨f, t, p, h, i, a, m, u, xs⟩).length : Int) ≤ 3 := by
                  rw [hk2] at hF
                  have : (hitL (liveP l n) (findP (liveP l n) ⟨f, t, p, h, i, a, m, u, xs⟩) ⟨f, t, p, h, i, a, m, u, xs⟩).length ≤ l.length := hF
                  omega
                have hgt : (((hitL (liveP l n) (findP (liveP l n) ⟨f, t, p, h, i, a, m, u, xs⟩) ⟨f, t, p, h, i, a, m, u, xs⟩).length : Int) > 3) = False := eq_false (by omega)
                subst hk2
                have e1 : phF l ⟨f, t, p, h, i, a, m, u, xs⟩ n = hitL (liveP l n) (findP (liveP l n) ⟨f, t, p, h, i, a, m, u, xs⟩) ⟨f, t, p, h, i, a, m, u, xs⟩ := by rw [phF, if_pos hOk, if_neg (by simp [al]), if_neg fd]
                have e2 : phP l ⟨f, t, p, h, i, a, m, u, xs⟩ n = hitP (liveP l n) (findP (liveP l n) ⟨f, t, p, h, i, a, m, u, xs⟩) ⟨f, t, p, h, i, a, m, u, xs⟩ := by rw [phP, if_pos hOk, if_neg (by simp [al]), if_neg fd]
                have e3 : phB l ⟨f, t, p, h, i, a, m, u, xs⟩ n = hitB (liveP l n) (findP (liveP l n) ⟨f, t, p, h, i, a, m, u, xs⟩) ⟨f, t, p, h, i, a, m, u, xs⟩ := by rw [phB, hOk, al, decide_eq_false fd]; rfl
                have e4 : phS l ⟨f, t, p, h, i, a, m, u, xs⟩ n = false := by rw [phS, decide_eq_false fd]; simp
                simp (maxSteps := 3000000) only [Try.f16, sph, g_partsOk, g_packetOk, g_l1In, g_ofOne, g_partPut, g_partWholeT, g_partCopied, g_packetCopied, ptRows_len, ptsOf_rows, psOf_rows, bytesOf_rows, rowsOf_len, Int.toNat_natCast, hlt, hgt, D.toI, dB, D.toB, D.toL, tYs, evL, implies_true, oMin, oCopy, oBin, oUn, oLoadKid, oStoreTree, oField, oExtract, oNil, oSliceQ, oLoadRow, takeCells, TS.atRow, TS.ex, treeMode, AV.isOwn, TK.isSl, nilTk, nilsB, oLenQ, oLen, nodupB, treeOf, kidAbs, kidRows, TK.isCell, D.toL, oLoad, oStore, oMake, oIndexAddr, ↓reduceIte, reduceCtorEq, Nat.reduceBEq, Nat.reduceAdd, Nat.reduceMul, Nat.reduceLT, Nat.reduceSub, Nat.reduceLeDiff, Nat.reduceEqDiff, Nat.reduceBneDiff, Int.reduceToNat, decide_eq_true_eq, decide_eq_false_iff_not, beq_iff_eq, Int.toNat_natCast, loopK_normal, loopK_exit, loopK_ret]
                rw [e1, e2, e3, e4]
                exact ⟨by kernel_rfl, _, [(0, some _), (1, some _)], rfl, ⟨⟨⟨rfl, rfl, rfl⟩, trivial⟩, ⟨.inl rfl, rfl, rfl, rfl, .inl rfl, rfl, rfl, rfl, trivial⟩, by simp [rn, hpAt]⟩⟩
        · obtain ⟨e1, e2, e3, e4⟩ := no (by rw [hOk, Bool.eq_false_iff.2 h3]; simp)
          simp (maxSteps := 3000000) only [Try.f16, sph, g_partsOk, g_packetOk, g_l1In, g_ofOne, g_partPut, g_partWholeT, g_partCopied, g_packetCopied, ptRows_len, ptsOf_rows, psOf_rows, bytesOf_rows, rowsOf_len, Int.toNat_natCast, h1, h2, Bool.eq_false_iff.2 h3, e1, e2, e3, e4, D.toI, dB, D.toB, D.toL, tYs, evL, implies_true, oMin, oCopy, oBin, oUn, oLoadKid, oStoreTree, oField, oExtract, oNil, oSliceQ, oLoadRow, takeCells, TS.atRow, TS.ex, treeMode, AV.isOwn, TK.isSl, nilTk, nilsB, oLenQ, oLen, nodupB, treeOf, kidAbs, kidRows, TK.isCell, D.toL, oLoad, oStore, oMake, oIndexAddr, ↓reduceIte, reduceCtorEq, Nat.reduceBEq, Nat.reduceAdd, Nat.reduceMul, Nat.reduceLT, Nat.reduceSub, Nat.reduceLeDiff, Nat.reduceEqDiff, Nat.reduceBneDiff, Int.reduceToNat, decide_eq_true_eq, decide_eq_false_iff_not, beq_iff_eq, Int.toNat_natCast, loopK_normal, loopK_exit, loopK_ret]
          exact ⟨⟨_, rfl, hm⟩, _, [(0, some _), (1, none)], rfl, ⟨⟨⟨rfl, rfl, rfl⟩, trivial⟩, ⟨.inr (.inl ⟨rfl, rfl, rfl⟩), rfl, rfl, rfl, ⟨by omega, rfl, rfl⟩, rfl, rfl, rfl, trivial⟩, by simp [rn, hpAt]⟩⟩
      · obtain ⟨e1, e2, e3, e4⟩ := no (by rw [hOk, Bool.eq_false_iff.2 h2]; simp)
        simp (maxSteps := 3000000) only [Try.f16, sph, g_partsOk, g_packetOk, g_l1In, g_ofOne, g_partPut, g_partWholeT, g_partCopied, g_packetCopied, ptRows_len, ptsOf_rows, psOf_rows, bytesOf_rows, rowsOf_len, Int.toNat_natCast, h1, Bool.eq_false_iff.2 h2, e1, e2, e3, e4, D.toI, dB, D.toB, D.toL, tYs, evL, implies_true, oMin, oCopy, oBin, oUn, oLoadKid, oStoreTree, oField, oExtract, oNil, oSliceQ, oLoadRow, takeCells, TS.atRow, TS.ex, treeMode, AV.isOwn, TK.isSl, nilTk, nilsB, oLenQ, oLen, nodupB, treeOf, kidAbs, kidRows, TK.isCell, D.toL, oLoad, oStore, oMake, oIndexAddr, ↓reduceIte, reduceCtorEq, Nat.reduceBEq, Nat.reduceAdd, Nat.reduceMul, Nat.reduceLT, Nat.reduceSub, Nat.reduceLeDiff, Nat.reduceEqDiff, Nat.reduceBneDiff, Int.reduceToNat, decide_eq_true_eq, decide_eq_false_iff_not, beq_iff_eq, Int.toNat_natCast, loopK_normal, loopK_exit, loopK_ret]
        exact ⟨⟨_, rfl, hm⟩, _, [(0, some _), (1, none)], rfl, ⟨⟨⟨rfl, rfl, rfl⟩, trivial⟩, ⟨.inr (.inl ⟨rfl, rfl, rfl⟩), rfl, rfl, rfl, ⟨by omega, rfl, rfl⟩, rfl, rfl, rfl, trivial⟩, by simp [rn, hpAt]⟩⟩
    · obtain ⟨e1, e2, e3, e4⟩ := no (by rw [hOk, Bool.eq_false_iff.2 h1]; rfl)
      simp (maxSteps := 3000000) only [Try.f16, sph, g_partsOk, g_packetOk, g_l1In, g_ofOne, g_partPut, g_partWholeT, g_partCopied, g_packetCopied, ptRows_len, ptsOf_rows, psOf_rows, bytesOf_rows, rowsOf_len, Int.toNat_natCast, Bool.eq_false_iff.2 h1, e1, e2, e3, e4, D.toI, dB, D.toB, D.toL, tYs, evL, implies_true, oMin, oCopy, oBin, oUn, oLoadKid, oStoreTree, oField, oExtract, oNil, oSliceQ, oLoadRow, takeCells, TS.atRow, TS.ex, treeMode, AV.isOwn, TK.isSl, nilTk, nilsB, oLenQ, oLen, nodupB, treeOf, kidAbs, kidRows, TK.isCell, D.toL, oLoad, oStore, oMake, oIndexAddr, ↓reduceIte, reduceCtorEq, Nat.reduceBEq, Nat.reduceAdd, Nat.reduceMul, Nat.reduceLT, Nat.reduceSub, Nat.reduceLeDiff, Nat.reduceEqDiff, Nat.reduceBneDiff, Int.reduceToNat, decide_eq_true_eq, decide_eq_false_iff_not, beq_iff_eq, Int.toNat_natCast, loopK_normal, loopK_exit, loopK_ret]
      exact ⟨⟨_, rfl, hm⟩, _, [(0, some _), (1, none)], rfl, ⟨⟨⟨rfl, rfl, rfl⟩, trivial⟩, ⟨.inr (.inl ⟨rfl, rfl, rfl⟩), rfl, rfl, rfl, ⟨by omega, rfl, rfl⟩, rfl, rfl, rfl, trivial⟩, by simp [rn, hpAt]⟩⟩
  · cases hg
end Go.Proofs.Ytegffkmakkccaaa
