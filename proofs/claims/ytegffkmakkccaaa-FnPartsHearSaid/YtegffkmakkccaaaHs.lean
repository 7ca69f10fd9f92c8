import Derived.Test.YtegffkmakkccaaaHc
import Derived.Test.YtegffkmakkccaaaXr
import Derived.Test.YtegffkmakkccaaaR8
set_option linter.unusedVariables false
set_option linter.unusedSimpArgs false
namespace Go.Proofs.Ytegffkmakkccaaa
open Go.RowKit
set_option linter.unusedSimpArgs false
def g_hearS : PC := fun args => match args with
  | [.l _ rows', .agg [.v (.int .i64 f), .v (.int .i64 t), .v (.int .i64 p), .v (.int .i64 h), .v (.int .i64 i), .v (.int .i64 a), .v (.bool m), .v (.bool u), .l _ rows], .v (.int .i64 n)] => some ((∃ l, rows' = ptRows l ∧ ptMid l) ∧ (∃ xs, rows = rowsOfBytes xs ∧ xs.length ≤ 1048576),
      .tup [(if phS (ptsOf rows') ⟨f, t, p, h, i, a, m, u, bytesOfRows rows⟩ n = true then .sub 0 1 4 else .own 0), .agg [.v (.int .i64 (phP (ptsOf rows') ⟨f, t, p, h, i, a, m, u, bytesOfRows rows⟩ n).f), .v (.int .i64 (phP (ptsOf rows') ⟨f, t, p, h, i, a, m, u, bytesOfRows rows⟩ n).t), .v (.int .i64 (phP (ptsOf rows') ⟨f, t, p, h, i, a, m, u, bytesOfRows rows⟩ n).p), .v (.int .i64 (phP (ptsOf rows') ⟨f, t, p, h, i, a, m, u, bytesOfRows rows⟩ n).h), .v (.int .i64 (phP (ptsOf rows') ⟨f, t, p, h, i, a, m, u, bytesOfRows rows⟩ n).i), .v (.int .i64 (phP (ptsOf rows') ⟨f, t, p, h, i, a, m, u, bytesOfRows rows⟩ n).a), .v (.bool (phP (ptsOf rows') ⟨f, t, p, h, i, a, m, u, bytesOfRows rows⟩ n).m), .v (.bool (phP (ptsOf rows') ⟨f, t, p, h, i, a, m, u, bytesOfRows rows⟩ n).u), .own 1], .v (.bool (phB (ptsOf rows') ⟨f, t, p, h, i, a, m, u, bytesOfRows rows⟩ n))],
      [.sl 38 2 (ptRows (phF (ptsOf rows') ⟨f, t, p, h, i, a, m, u, bytesOfRows rows⟩ n)), .sl 5 1 (rowsOfBytes (phP (ptsOf rows') ⟨f, t, p, h, i, a, m, u, bytesOfRows rows⟩ n).d)])
  | _ => none
theorem specPartsHearS_ok : OwnOk Try.prog 16 (ocOf g_hearS) := specPartsHear_ok.toSl fun args c r bs' h => by
  unfold g_hearS at h
  split at h
  · cases h
    exact ⟨_, rfl, rfl, fun b hb => by
      rcases List.mem_cons.1 hb with rfl | hb
      · rfl
      · rw [List.mem_singleton.1 hb]; rfl⟩
  · cases h
structure PLs where
  q : Int
  B : List Pt
  w : Bool
def plL (s : PLs) : List Pt := if s.w = true then s.B.drop 1 else s.B
def plX (xs : List UInt8) (C : List Pk) (q : Int) : Pk := if pickV xs (q + 1) 3 = 0 then pvK (pktV xs (q + 1 + 1) 0) else C.getD (pickV xs q C.length).toNat pk0
def plQ (xs : List UInt8) (q : Int) : Int := if pickV xs (q + 1) 3 = 0 then (pktV xs (q + 1 + 1) 0).q else q + 1 + 1
def plStep (xs : List UInt8) (C : List Pk) (s : PLs) : PLs := ⟨plQ xs s.q + 1, phF (plL s) (plX xs C s.q) (pickV xs (plQ xs s.q) 12), phS (plL s) (plX xs C s.q) (pickV xs (plQ xs s.q) 12)⟩
def plK (xs : List UInt8) (C : List Pk) (q : Int) : Nat → PLs
  | 0 => ⟨q, [], false⟩
  | k + 1 => plStep xs C (plK xs C q k)
def plGood (s : PLs) : Prop := s.B.length ≤ 4 ∧ (∀ x ∈ s.B, ptGood x) ∧ (s.w = true → s.B.length = 4)
theorem plGood.mid {s : PLs} (h : plGood s) : ptMid (plL s) ∧ (plL s).length ≤ 4 := by
  obtain ⟨h1, h2, h3⟩ := h
  rw [plL]
  split
  · exact ⟨⟨by rw [List.length_drop]; omega, fun x hx => (h2 x (List.mem_of_mem_drop hx)).1⟩, by rw [List.length_drop]; omega⟩
  · exact ⟨⟨by omega, fun x hx => (h2 x hx).1⟩, h1⟩
theorem plX_len (xs : List UInt8) {C : List Pk} (hC : ∀ y ∈ C, y.d.length ≤ 48) (q : Int) : (plX xs C q).d.length ≤ 100 := by
  rw [plX]
  split
  · have := pktV_q xs (q + 1 + 1) 0
    show (pktV xs (q + 1 + 1) 0).d.length ≤ 100
    omega
  · by_cases h : (pickV xs q C.length).toNat < C.length
    · rw [pk_get h]
      have := hC _ (List.getElem_mem h)
      omega
    · rw [List.getD_eq_getElem?_getD, List.getElem?_eq_none (by omega)]; simp [pk0]
theorem plK_good (xs : List UInt8) {C : List Pk} (hC : ∀ y ∈ C, y.d.length ≤ 48) (q : Int) : ∀ k, plGood (plK xs C q k)
  | 0 => ⟨Nat.zero_le _, fun x hx => (by cases hx), fun h => (by cases h)⟩
  | k + 1 => by
    have ih := (plK_good xs hC q k).mid
    have hl := plX_len xs hC (plK xs C q k).q
    have hb := phF_bd (pickV xs (plQ xs (plK xs C q k).q) 12) ih.1 (q := plX xs C (plK xs C q k).q) (by omega)
    exact ⟨hb.1, hb.2, fun h => phS_len h⟩
theorem plK_q (xs : List UInt8) (C : List Pk) (q : Int) : ∀ k : Nat, q ≤ (plK xs C q k).q ∧ (plK xs C q k).q ≤ q + 90 * (k : Int)
  | 0 => by rw [plK]; dsimp only; omega
  | k + 1 => by
    have ih := plK_q xs C q k
    have h := pktV_q xs ((plK xs C q k).q + 1 + 1) 0
    rw [plK]
    show q ≤ plQ xs (plK xs C q k).q + 1 ∧ plQ xs (plK xs C q k).q + 1 ≤ _
    unfold plQ
    split <;> omega
def plN (xs : List UInt8) (p : Int) : Nat := (pickV xs ((lnV xs p).q + 1) 7).toNat
def plS (xs : List UInt8) (p : Int) : PLs := plK xs (dcC xs p) ((lnV xs p).q + 1 + 1) (plN xs p)
def plO (xs : List UInt8) (p n : Int) : Bool := decide (0 < n) && (pickV xs (plS xs p).q n == n - 1)
def plD (xs : List UInt8) (p n : Int) : PtW := dpV xs ((plS xs p).q + oneIf n) 1
def plLs (xs : List UInt8) (p n : Int) : List Pt := if plO xs p n = true then plL (plS xs p) ++ plL (plS xs p) ++ [⟨(plD xs p n).ps, (plD xs p n).u⟩] else plL (plS xs p)
def plR (xs : List UInt8) (p n : Int) : Int := if plO xs p n = true then (plD xs p n).q else (plS xs p).q + oneIf n
def plP (xs : List UInt8) (p n : Int) : PkV := if pickV xs (plR xs p n) 4 = 0 then pktV xs (plR xs p n + 1) 6 else let y := (dcC xs p).getD (pickV xs (plR xs p n + 1) (dcC xs p).length).toNat pk0; ⟨y.f, y.t, y.p, y.h, y.i, y.a, y.m, y.u, y.d, plR xs p n + 1 + 1⟩
def plCell : Bool → AV
  | true => .sub 1 1 4
  | false => .own 1
def g_lparts : OC := fun args B0 => match args, B0 with
  | [.ptr r o, .v (.int .i64 n)], [.var T [.l 1 rows, .v (.int .i64 p)]] => some (T = 148 ∧ r = 0 ∧ o = 0 ∧ (∃ xs, rows = rowsOfBytes xs ∧ xs.length ≤ 2000) ∧ 0 ≤ p ∧ p < 1000000 ∧ 0 ≤ n ∧ n ≤ 1000000, .tup [.l 2 (ptRows (plLs (bytesOfRows rows) p n)), .agg [.v (.int .i64 (plP (bytesOfRows rows) p n).f), .v (.int .i64 (plP (bytesOfRows rows) p n).t), .v (.int .i64 (plP (bytesOfRows rows) p n).pr), .v (.int .i64 (plP (bytesOfRows rows) p n).h), .v (.int .i64 (plP (bytesOfRows rows) p n).i), .v (.int .i64 (plP (bytesOfRows rows) p n).a), .v (.bool (plP (bytesOfRows rows) p n).m), .v (.bool (plP (bytesOfRows rows) p n).u), .l 1 (rowsOfBytes (plP (bytesOfRows rows) p n).d)]], [.var T [.l 1 rows, .v (.int .i64 (plP (bytesOfRows rows) p n).q)]], [])
  | _, _ => none
def klp : List (FuncId × Abs) := [(112, ownAbs g_long), (58, ownAbs g_pick), (115, ownAbs g_odd), (114, ownAbs g_packet), (113, ownAbs (ocOf g_sPacketCut)), (16, frzAbs g_hearS), (116, ownAbs g_part)]
theorem klp_ok : ∀ p ∈ klp, CallOk Try.prog p.1 p.2 := by
  intro p hp
  simp only [klp, List.mem_cons, List.not_mem_nil, or_false] at hp
  rcases hp with rfl | rfl | rfl | rfl | rfl | rfl | rfl
  · exact long_ok.call
  · exact pick_ok.call
  · exact odd_ok.call
  · exact packet_ok.call
  · exact specPacketCut_ok.call
  · exact specPartsHearS_ok.callF
  · exact l20Part_ok.call
set_option maxHeartbeats 8000000 in
set_option maxRecDepth 100000 in
theorem l20Parts_ok : OwnOk Try.prog 51 g_lparts := by
  refine OwnOk.of_vcL (G := klp) klp_ok mixed Try.func51 (by kernel_rfl) rfl ?_
  intro args B0 cnd r B1 bs hg hc hlive
  unfold g_lparts at hg
  split at hg
  · rename_i r o n T rows p
    cases hg
    obtain ⟨rfl, rfl, rfl, ⟨xs, rfl, hl⟩, hp0, hp1, hn0, hn1⟩ := hc
    rw [bytesOf_rows]
    have hlq := lnV_q xs p (by omega)
    have hcb := dcC_bd xs p (by omega)
    have hcc := dcB xs p (by omega)
    obtain ⟨N, hN⟩ : ∃ N : Nat, pickV xs ((lnV xs p).q + 1) 7 = (N : Int) := ⟨plN xs p, by have := pickV_nonneg xs ((lnV xs p).q + 1) 7 (by omega); rw [plN]; omega⟩
    have hN7 : N ≤ 6 := by have := pickV_lt xs ((lnV xs p).q + 1) 7 (by omega); omega
    have hS : plS xs p = plK xs (dcC xs p) ((lnV xs p).q + 1 + 1) N := by rw [plS, plN, hN, Int.toNat_natCast]
    have l0 := pickV_nonneg xs (lnV xs p).q 6 (by omega)
    have l1 := pickV_lt xs (lnV xs p).q 6 (by omega)
    have wl : IntKind.i64.wrap (1 + pickV xs (lnV xs p).q 6) = 1 + pickV xs (lnV xs p).q 6 := wrap_id (by omega) (by omega)
    have hC0 : dcC xs p = cutL (pvK (lnV xs p)) (1 + pickV xs (lnV xs p).q 6) := rfl
    obtain ⟨C, hC⟩ : ∃ C, dcC xs p = C := ⟨_, rfl⟩
    rw [hC] at hC0 hcb
    have hC' : cutL ⟨(lnV xs p).f, (lnV xs p).t, (lnV xs p).pr, (lnV xs p).h, (lnV xs p).i, (lnV xs p).a, (lnV xs p).m, (lnV xs p).u, (lnV xs p).d⟩ (1 + pickV xs (lnV xs p).q 6) = C := hC0.symm
    have hgood := plK_good xs hcb.2 ((lnV xs p).q + 1 + 1)
    have hqk := plK_q xs C ((lnV xs p).q + 1 + 1)
    rw [hC] at hS
    refine ⟨⟨by simp [likeBs, likeB], rfl, fun b hb => by simp at hb; subst hb; exact ⟨_, _, rfl, rfl⟩, by simp [AV.ids, AV.ids.idsL]⟩, _, rfl, fun w Z s vs h => h, ?_⟩
    clear hlive
    have hx : (∃ ys, rowsOfBytes xs = rowsOfBytes ys ∧ ys.length ≤ 2000) = True := eq_true ⟨xs, rfl, hl⟩
    simp (maxSteps := 3000000) only [Try.f51, klp, ocOf, g_long, g_pick, g_odd, g_packet, g_sPacketCut, g_hearS, g_part, bytesOf_rows, rowsOf_len, ptsOf_rows, pRows_len, ptRows_len, hN, wl, hC', hx, D.toI, dB, D.toB, D.toL, ↓reduceIte, Bool.false_eq_true, doneL_ret, doneL_normal, tYs, evL, implies_true, oMin, oCopy, oBin, oUn, oLoadKid, oStoreTree, oField, oExtract, oNil, oSliceQ, oLoadRow, takeCells, TS.atRow, TS.ex, treeMode, AV.isOwn, TK.isSl, nilTk, nilsB, oLenQ, oLen, nodupB, treeOf, kidAbs, kidRows, TK.isCell, D.toL, oLoad, oStore, oMake, oIndexAddr, ↓reduceIte, reduceCtorEq, Nat.reduceBEq, Nat.reduceAdd, Nat.reduceMul, Nat.reduceLT, Nat.reduceSub, Nat.reduceLeDiff, Nat.reduceEqDiff, Nat.reduceBneDiff, Int.reduceToNat, decide_eq_true_eq, decide_eq_false_iff_not, beq_iff_eq, Int.toNat_natCast, loopK_normal, loopK_exit, loopK_ret]
    have hV0 := (pk_okR (lnV_ok xs p (by omega)))
    obtain ⟨q, hq⟩ : ∃ q, q = (lnV xs p).q + 1 + 1 := ⟨_, rfl⟩
    have hq' := hq.symm
    rw [hq'] at hS hgood hqk
    refine ⟨⟨by omega, by omega⟩, ⟨by omega, by omega⟩, ⟨_, rfl, by omega⟩, by kernel_rfl, ⟨by omega, by omega⟩, ?_⟩
    rw [hq']
    refine e_loop _ _ _ _ _ _ _ _ (fun x : Nat × PLs => [.ptr 0 0, .v (.int .i64 n), .any, .any, .any, .ptr 2 0, plCell x.2.w, .any, .l 9 (pRows C), .any, .v (.int .i64 ((N : Int) - (x.1 : Int)))] ++ List.replicate (Try.f51.ntmps - 11) .any) (fun x => [(0, .var 148 [.l 1 (rowsOfBytes xs), .v (.int .i64 x.2.q)]), (1, .sl 38 2 (ptRows x.2.B)), (2, .var 29 [.v (.int .i64 0), .v (.int .i64 0), .v (.int .i64 0), .v (.int .i64 0), .v (.int .i64 0), .v (.int .i64 0), .v (.bool false), .v (.bool false), .v (.slice none 0 0)])]) (fun x => x.1 ≤ N ∧ x.2 = plK xs C q x.1) (fun x => N - x.1) 3 (fun x => by simp) ?_ fun x hk' => ?_
    · exact ⟨(0, ⟨q, [], false⟩), [(0, some 0), (1, some _), (2, some _)], ⟨Nat.zero_le _, rfl⟩, ⟨⟨⟨rfl, rfl, rfl⟩, ⟨rfl, rfl, rfl⟩, trivial, trivial, trivial, ⟨rfl, rfl, rfl⟩, ⟨rfl, rfl, rfl⟩, trivial, ⟨rfl, rfl, rfl⟩, trivial, ⟨congrArg (fun z : Int => AV.v (Value.int .i64 z)) (by omega), rfl, rfl⟩, fitT_rep _ _ rfl⟩, ⟨.inl rfl, rfl, rfl, rfl, .inl rfl, rfl, rfl, rfl, .inl rfl, rfl, rfl, rfl, trivial⟩, by simp [rn, hpAt]⟩, by simp [keepIds, rn]⟩
    obtain ⟨k, s⟩ := x
    obtain ⟨hk1, hs⟩ := hk'
    dsimp only at hk1 hs
    have hg := hgood k
    have hsq := hqk k
    rw [← hs] at hg hsq
    obtain ⟨hm, hm4⟩ := hg.mid
    have wn : IntKind.i64.wrap ((N : Int) - (k : Int) - 1) = (N : Int) - ((k + 1 : Nat) : Int) := by rw [wrap_id] <;> omega
    by_cases hk : k < N
    · have hg1 : ((N : Int) - (k : Int) > 0) = True := eq_true (by omega)
      have i0 := pickV_nonneg xs s.q (C.length : Int) (by omega)
      have i1 := pickV_lt xs s.q (C.length : Int) (by omega)
      obtain ⟨I, hI⟩ : ∃ I : Nat, pickV xs s.q (C.length : Int) = (I : Int) := ⟨(pickV xs s.q (C.length : Int)).toNat, by omega⟩
      have hIl : I < C.length := by omega
      have hrow := pRows_get C I hIl
      have hi2 : (0 ≤ (I : Int)) = True := eq_true (by omega)
      have hi3 : ((I : Int) < (C.length : Int)) = True := eq_true (by omega)
      have hyl := hcb.2 _ (List.getElem_mem hIl)
      have hst : ∀ x u b, plX xs C s.q = x → plQ xs s.q = u → phS (plL s) x (pickV xs u 12) = b → (⟨u + 1, phF (plL s) x (pickV xs u 12), b⟩ : PLs) = plK xs C q (k + 1) := fun x u b h1 h2 h3 => by
        rw [plK, ← hs, plStep, h1, h2, h3]
      by_cases h3 : pickV xs (s.q + 1) 3 = 0
      · have c3 : (pickV xs (s.q + 1) 3 = 0) = True := eq_true h3
        have hV := pktV_q xs (s.q + 1 + 1) 0
        have hX : plX xs C s.q = pvK (pktV xs (s.q + 1 + 1) 0) := if_pos h3
        have hQ : plQ xs s.q = (pktV xs (s.q + 1 + 1) 0).q := if_pos h3
        have hst' := fun b => hst _ _ b hX hQ
        obtain ⟨V, hVV⟩ : ∃ V, pktV xs (s.q + 1 + 1) 0 = V := ⟨_, rfl⟩
        rw [hVV] at hV hst'
        have hE : (⟨V.f, V.t, V.pr, V.h, V.i, V.a, V.m, V.u, V.d⟩ : Pk) = pvK V := rfl
        obtain ⟨n0, hn0⟩ : ∃ n0, pickV xs (V.q) 12 = n0 := ⟨_, rfl⟩
        rw [hn0] at hst'
        cases hp : phS (plL s) (pvK V) n0
        · have hst2 := hst' _ hp
          obtain ⟨sq, B, w⟩ := s
          cases w
          · have hL : plL ⟨sq, B, false⟩ = B := rfl
            rw [hL] at hp hst2 hm hm4
            dsimp only at hsq
            simp (maxSteps := 3000000) only [Try.f51, klp, ocOf, g_long, g_pick, g_odd, g_packet, g_sPacketCut, g_hearS, g_part, bytesOf_rows, rowsOf_len, ptsOf_rows, pRows_len, ptRows_len, hg1, hI, hrow, hi2, hi3, c3, hE, hn0, hp, wn, pRow, plCell, hVV, hx, D.toI, dB, D.toB, D.toL, ↓reduceIte, Bool.false_eq_true, doneL_ret, doneL_normal, tYs, evL, implies_true, oMin, oCopy, oBin, oUn, oLoadKid, oStoreTree, oField, oExtract, oNil, oSliceQ, oLoadRow, takeCells, TS.atRow, TS.ex, treeMode, AV.isOwn, TK.isSl, nilTk, nilsB, oLenQ, oLen, nodupB, treeOf, kidAbs, kidRows, TK.isCell, D.toL, oLoad, oStore, oMake, oIndexAddr, ↓reduceIte, reduceCtorEq, Nat.reduceBEq, Nat.reduceAdd, Nat.reduceMul, Nat.reduceLT, Nat.reduceSub, Nat.reduceLeDiff, Nat.reduceEqDiff, Nat.reduceBneDiff, Int.reduceToNat, decide_eq_true_eq, decide_eq_false_iff_not, beq_iff_eq, Int.toNat_natCast, loopK_normal, loopK_exit, loopK_ret]
            dsimp only at hV
            refine ⟨⟨by omega, by omega⟩, ⟨by omega, by omega⟩, ⟨by omega, by omega, by omega, by omega⟩, ⟨by omega, by omega⟩, ⟨⟨_, rfl, hm⟩, _, rfl, by omega⟩, by kernel_rfl, ?_⟩
            exact ⟨(k + 1, ⟨V.q + 1, _, false⟩), [(0, some 0), (1, some _), (2, some _)], ⟨by dsimp only; omega, hst2⟩, by dsimp only; omega, ⟨⟨⟨rfl, rfl, rfl⟩, ⟨rfl, rfl, rfl⟩, trivial, trivial, trivial, ⟨rfl, rfl, rfl⟩, ⟨rfl, rfl, rfl⟩, trivial, ⟨rfl, rfl, rfl⟩, trivial, ⟨rfl, rfl, rfl⟩, fitT_rep _ _ rfl⟩, ⟨.inl rfl, rfl, rfl, rfl, .inl rfl, rfl, rfl, rfl, .inl rfl, rfl, rfl, rfl, trivial⟩, by simp [rn, hpAt]⟩, by simp [keepIds, rn]⟩
          · have hL : plL ⟨sq, B, true⟩ = B.drop 1 := rfl
            rw [hL] at hp hst2 hm hm4
            have hB4 : B.length = 4 := hg.2.2 rfl
            have hsub : ((ptRows B).take 4).drop 1 = ptRows (B.drop 1) := by rw [List.take_of_length_le (by rw [ptRows_len]; omega)]; simp [ptRows]
            dsimp only at hsq
            simp (maxSteps := 3000000) only [Try.f51, klp, ocOf, g_long, g_pick, g_odd, g_packet, g_sPacketCut, g_hearS, g_part, bytesOf_rows, rowsOf_len, ptsOf_rows, pRows_len, ptRows_len, hg1, hI, hrow, hi2, hi3, c3, hE, hn0, hp, wn, pRow, plCell, hsub, hVV, hx, D.toI, dB, D.toB, D.toL, ↓reduceIte, Bool.false_eq_true, doneL_ret, doneL_normal, tYs, evL, implies_true, oMin, oCopy, oBin, oUn, oLoadKid, oStoreTree, oField, oExtract, oNil, oSliceQ, oLoadRow, takeCells, TS.atRow, TS.ex, treeMode, AV.isOwn, TK.isSl, nilTk, nilsB, oLenQ, oLen, nodupB, treeOf, kidAbs, kidRows, TK.isCell, D.toL, oLoad, oStore, oMake, oIndexAddr, ↓reduceIte, reduceCtorEq, Nat.reduceBEq, Nat.reduceAdd, Nat.reduceMul, Nat.reduceLT, Nat.reduceSub, Nat.reduceLeDiff, Nat.reduceEqDiff, Nat.reduceBneDiff, Int.reduceToNat, decide_eq_true_eq, decide_eq_false_iff_not, beq_iff_eq, Int.toNat_natCast, loopK_normal, loopK_exit, loopK_ret]
            dsimp only at hV
            refine ⟨⟨by omega, by omega⟩, ⟨by omega, by omega⟩, ⟨by omega, by omega, by omega, by omega⟩, ⟨by omega, by omega⟩, ⟨⟨_, rfl, hm⟩, _, rfl, by omega⟩, by kernel_rfl, ?_⟩
            exact ⟨(k + 1, ⟨V.q + 1, _, false⟩), [(0, some 0), (1, some _), (2, some _)], ⟨by dsimp only; omega, hst2⟩, by dsimp only; omega, ⟨⟨⟨rfl, rfl, rfl⟩, ⟨rfl, rfl, rfl⟩, trivial, trivial, trivial, ⟨rfl, rfl, rfl⟩, ⟨rfl, rfl, rfl⟩, trivial, ⟨rfl, rfl, rfl⟩, trivial, ⟨rfl, rfl, rfl⟩, fitT_rep _ _ rfl⟩, ⟨.inl rfl, rfl, rfl, rfl, .inl rfl, rfl, rfl, rfl, .inl rfl, rfl, rfl, rfl, trivial⟩, by simp [rn, hpAt]⟩, by simp [keepIds, rn]⟩
        · have hst2 := hst' _ hp
          obtain ⟨sq, B, w⟩ := s
          cases w
          · have hL : plL ⟨sq, B, false⟩ = B := rfl
            rw [hL] at hp hst2 hm hm4
            dsimp only at hsq
            simp (maxSteps := 3000000) only [Try.f51, klp, ocOf, g_long, g_pick, g_odd, g_packet, g_sPacketCut, g_hearS, g_part, bytesOf_rows, rowsOf_len, ptsOf_rows, pRows_len, ptRows_len, hg1, hI, hrow, hi2, hi3, c3, hE, hn0, hp, wn, pRow, plCell, hVV, hx, D.toI, dB, D.toB, D.toL, ↓reduceIte, Bool.false_eq_true, doneL_ret, doneL_normal, tYs, evL, implies_true, oMin, oCopy, oBin, oUn, oLoadKid, oStoreTree, oField, oExtract, oNil, oSliceQ, oLoadRow, takeCells, TS.atRow, TS.ex, treeMode, AV.isOwn, TK.isSl, nilTk, nilsB, oLenQ, oLen, nodupB, treeOf, kidAbs, kidRows, TK.isCell, D.toL, oLoad, oStore, oMake, oIndexAddr, ↓reduceIte, reduceCtorEq, Nat.reduceBEq, Nat.reduceAdd, Nat.reduceMul, Nat.reduceLT, Nat.reduceSub, Nat.reduceLeDiff, Nat.reduceEqDiff, Nat.reduceBneDiff, Int.reduceToNat, decide_eq_true_eq, decide_eq_false_iff_not, beq_iff_eq, Int.toNat_natCast, loopK_normal, loopK_exit, loopK_ret]
            dsimp only at hV
            refine ⟨⟨by omega, by omega⟩, ⟨by omega, by omega⟩, ⟨by omega, by omega, by omega, by omega⟩, ⟨by omega, by omega⟩, ⟨⟨_, rfl, hm⟩, _, rfl, by omega⟩, by kernel_rfl, ?_⟩
            exact ⟨(k + 1, ⟨V.q + 1, _, true⟩), [(0, some 0), (1, some _), (2, some _)], ⟨by dsimp only; omega, hst2⟩, by dsimp only; omega, ⟨⟨⟨rfl, rfl, rfl⟩, ⟨rfl, rfl, rfl⟩, trivial, trivial, trivial, ⟨rfl, rfl, rfl⟩, ⟨rfl, rfl, rfl⟩, trivial, ⟨rfl, rfl, rfl⟩, trivial, ⟨rfl, rfl, rfl⟩, fitT_rep _ _ rfl⟩, ⟨.inl rfl, rfl, rfl, rfl, .inl rfl, rfl, rfl, rfl, .inl rfl, rfl, rfl, rfl, trivial⟩, by simp [rn, hpAt]⟩, by simp [keepIds, rn]⟩
          · have hL : plL ⟨sq, B, true⟩ = B.drop 1 := rfl
            rw [hL] at hp hst2 hm hm4
            have hB4 : B.length = 4 := hg.2.2 rfl
            have hsub : ((ptRows B).take 4).drop 1 = ptRows (B.drop 1) := by rw [List.take_of_length_le (by rw [ptRows_len]; omega)]; simp [ptRows]
            dsimp only at hsq
            simp (maxSteps := 3000000) only [Try.f51, klp, ocOf, g_long, g_pick, g_odd, g_packet, g_sPacketCut, g_hearS, g_part, bytesOf_rows, rowsOf_len, ptsOf_rows, pRows_len, ptRows_len, hg1, hI, hrow, hi2, hi3, c3, hE, hn0, hp, wn, pRow, plCell, hsub, hVV, hx, D.toI, dB, D.toB, D.toL, ↓reduceIte, Bool.false_eq_true, doneL_ret, doneL_normal, tYs, evL, implies_true, oMin, oCopy, oBin, oUn, oLoadKid, oStoreTree, oField, oExtract, oNil, oSliceQ, oLoadRow, takeCells, TS.atRow, TS.ex, treeMode, AV.isOwn, TK.isSl, nilTk, nilsB, oLenQ, oLen, nodupB, treeOf, kidAbs, kidRows, TK.isCell, D.toL, oLoad, oStore, oMake, oIndexAddr, ↓reduceIte, reduceCtorEq, Nat.reduceBEq, Nat.reduceAdd, Nat.reduceMul, Nat.reduceLT, Nat.reduceSub, Nat.reduceLeDiff, Nat.reduceEqDiff, Nat.reduceBneDiff, Int.reduceToNat, decide_eq_true_eq, decide_eq_false_iff_not, beq_iff_eq, Int.toNat_natCast, loopK_normal, loopK_exit, loopK_ret]
            dsimp only at hV
            refine ⟨⟨by omega, by omega⟩, ⟨by omega, by omega⟩, ⟨by omega, by omega, by omega, by omega⟩, ⟨by omega, by omega⟩, ⟨⟨_, rfl, hm⟩, _, rfl, by omega⟩, by kernel_rfl, ?_⟩
            exact ⟨(k + 1, ⟨V.q + 1, _, true⟩), [(0, some 0), (1, some _), (2, some _)], ⟨by dsimp only; omega, hst2⟩, by dsimp only; omega, ⟨⟨⟨rfl, rfl, rfl⟩, ⟨rfl, rfl, rfl⟩, trivial, trivial, trivial, ⟨rfl, rfl, rfl⟩, ⟨rfl, rfl, rfl⟩, trivial, ⟨rfl, rfl, rfl⟩, trivial, ⟨rfl, rfl, rfl⟩, fitT_rep _ _ rfl⟩, ⟨.inl rfl, rfl, rfl, rfl, .inl rfl, rfl, rfl, rfl, .inl rfl, rfl, rfl, rfl, trivial⟩, by simp [rn, hpAt]⟩, by simp [keepIds, rn]⟩
      · have c3 : (pickV xs (s.q + 1) 3 = 0) = False := eq_false h3
        have hX : plX xs C s.q = C[I] := by rw [plX, if_neg h3, hI, Int.toNat_natCast, pk_get hIl]
        have hQ : plQ xs s.q = s.q + 1 + 1 := if_neg h3
        have hst' := fun b => hst _ _ b hX hQ
        have hE : (⟨C[I].f, C[I].t, C[I].p, C[I].h, C[I].i, C[I].a, C[I].m, C[I].u, C[I].d⟩ : Pk) = C[I] := rfl
        obtain ⟨n0, hn0⟩ : ∃ n0, pickV xs (s.q + 1 + 1) 12 = n0 := ⟨_, rfl⟩
        rw [hn0] at hst'
        cases hp : phS (plL s) (C[I]) n0
        · have hst2 := hst' _ hp
          obtain ⟨sq, B, w⟩ := s
          cases w
          · have hL : plL ⟨sq, B, false⟩ = B := rfl
            rw [hL] at hp hst2 hm hm4
            dsimp only at hsq
            simp (maxSteps := 3000000) only [Try.f51, klp, ocOf, g_long, g_pick, g_odd, g_packet, g_sPacketCut, g_hearS, g_part, bytesOf_rows, rowsOf_len, ptsOf_rows, pRows_len, ptRows_len, hg1, hI, hrow, hi2, hi3, c3, hE, hn0, hp, wn, pRow, plCell, c3, hx, D.toI, dB, D.toB, D.toL, ↓reduceIte, Bool.false_eq_true, doneL_ret, doneL_normal, tYs, evL, implies_true, oMin, oCopy, oBin, oUn, oLoadKid, oStoreTree, oField, oExtract, oNil, oSliceQ, oLoadRow, takeCells, TS.atRow, TS.ex, treeMode, AV.isOwn, TK.isSl, nilTk, nilsB, oLenQ, oLen, nodupB, treeOf, kidAbs, kidRows, TK.isCell, D.toL, oLoad, oStore, oMake, oIndexAddr, ↓reduceIte, reduceCtorEq, Nat.reduceBEq, Nat.reduceAdd, Nat.reduceMul, Nat.reduceLT, Nat.reduceSub, Nat.reduceLeDiff, Nat.reduceEqDiff, Nat.reduceBneDiff, Int.reduceToNat, decide_eq_true_eq, decide_eq_false_iff_not, beq_iff_eq, Int.toNat_natCast, loopK_normal, loopK_exit, loopK_ret]
            refine ⟨⟨by omega, by omega⟩, ⟨by omega, by omega⟩, ⟨by omega, by omega⟩, ⟨⟨_, rfl, hm⟩, _, rfl, by omega⟩, by kernel_rfl, ?_⟩
            exact ⟨(k + 1, ⟨sq + 1 + 1 + 1, _, false⟩), [(0, some 0), (1, some _), (2, some _)], ⟨by dsimp only; omega, hst2⟩, by dsimp only; omega, ⟨⟨⟨rfl, rfl, rfl⟩, ⟨rfl, rfl, rfl⟩, trivial, trivial, trivial, ⟨rfl, rfl, rfl⟩, ⟨rfl, rfl, rfl⟩, trivial, ⟨rfl, rfl, rfl⟩, trivial, ⟨rfl, rfl, rfl⟩, fitT_rep _ _ rfl⟩, ⟨.inl rfl, rfl, rfl, rfl, .inl rfl, rfl, rfl, rfl, .inl rfl, rfl, rfl, rfl, trivial⟩, by simp [rn, hpAt]⟩, by simp [keepIds, rn]⟩
          · have hL : plL ⟨sq, B, true⟩ = B.drop 1 := rfl
            rw [hL] at hp hst2 hm hm4
            have hB4 : B.length = 4 := hg.2.2 rfl
            have hsub : ((ptRows B).take 4).drop 1 = ptRows (B.drop 1) := by rw [List.take_of_length_le (by rw [ptRows_len]; omega)]; simp [ptRows]
            dsimp only at hsq
            simp (maxSteps := 3000000) only [Try.f51, klp, ocOf, g_long, g_pick, g_odd, g_packet, g_sPacketCut, g_hearS, g_part, bytesOf_rows, rowsOf_len, ptsOf_rows, pRows_len, ptRows_len, hg1, hI, hrow, hi2, hi3, c3, hE, hn0, hp, wn, pRow, plCell, hsub, c3, hx, D.toI, dB, D.toB, D.toL, ↓reduceIte, Bool.false_eq_true, doneL_ret, doneL_normal, tYs, evL, implies_true, oMin, oCopy, oBin, oUn, oLoadKid, oStoreTree, oField, oExtract, oNil, oSliceQ, oLoadRow, takeCells, TS.atRow, TS.ex, treeMode, AV.isOwn, TK.isSl, nilTk, nilsB, oLenQ, oLen, nodupB, treeOf, kidAbs, kidRows, TK.isCell, D.toL, oLoad, oStore, oMake, oIndexAddr, ↓reduceIte, reduceCtorEq, Nat.reduceBEq, Nat.reduceAdd, Nat.reduceMul, Nat.reduceLT, Nat.reduceSub, Nat.reduceLeDiff, Nat.reduceEqDiff, Nat.reduceBneDiff, Int.reduceToNat, decide_eq_true_eq, decide_eq_false_iff_not, beq_iff_eq, Int.toNat_natCast, loopK_normal, loopK_exit, loopK_ret]
            refine ⟨⟨by omega, by omega⟩, ⟨by omega, by omega⟩, ⟨by omega, by omega⟩, ⟨⟨_, rfl, hm⟩, _, rfl, by omega⟩, by kernel_rfl, ?_⟩
            exact ⟨(k + 1, ⟨sq + 1 + 1 + 1, _, false⟩), [(0, some 0), (1, some _), (2, some _)], ⟨by dsimp only; omega, hst2⟩, by dsimp only; omega, ⟨⟨⟨rfl, rfl, rfl⟩, ⟨rfl, rfl, rfl⟩, trivial, trivial, trivial, ⟨rfl, rfl, rfl⟩, ⟨rfl, rfl, rfl⟩, trivial, ⟨rfl, rfl, rfl⟩, trivial, ⟨rfl, rfl, rfl⟩, fitT_rep _ _ rfl⟩, ⟨.inl rfl, rfl, rfl, rfl, .inl rfl, rfl, rfl, rfl, .inl rfl, rfl, rfl, rfl, trivial⟩, by simp [rn, hpAt]⟩, by simp [keepIds, rn]⟩
        · have hst2 := hst' _ hp
          obtain ⟨sq, B, w⟩ := s
          cases w
          · have hL : plL ⟨sq, B, false⟩ = B := rfl
            rw [hL] at hp hst2 hm hm4
            dsimp only at hsq
            simp (maxSteps := 3000000) only [Try.f51, klp, ocOf, g_long, g_pick, g_odd, g_packet, g_sPacketCut, g_hearS, g_part, bytesOf_rows, rowsOf_len, ptsOf_rows, pRows_len, ptRows_len, hg1, hI, hrow, hi2, hi3, c3, hE, hn0, hp, wn, pRow, plCell, c3, hx, D.toI, dB, D.toB, D.toL, ↓reduceIte, Bool.false_eq_true, doneL_ret, doneL_normal, tYs, evL, implies_true, oMin, oCopy, oBin, oUn, oLoadKid, oStoreTree, oField, oExtract, oNil, oSliceQ, oLoadRow, takeCells, TS.atRow, TS.ex, treeMode, AV.isOwn, TK.isSl, nilTk, nilsB, oLenQ, oLen, nodupB, treeOf, kidAbs, kidRows, TK.isCell, D.toL, oLoad, oStore, oMake, oIndexAddr, ↓reduceIte, reduceCtorEq, Nat.reduceBEq, Nat.reduceAdd, Nat.reduceMul, Nat.reduceLT, Nat.reduceSub, Nat.reduceLeDiff, Nat.reduceEqDiff, Nat.reduceBneDiff, Int.reduceToNat, decide_eq_true_eq, decide_eq_false_iff_not, beq_iff_eq, Int.toNat_natCast, loopK_normal, loopK_exit, loopK_ret]
            refine ⟨⟨by omega, by omega⟩, ⟨by omega, by omega⟩, ⟨by omega, by omega⟩, ⟨⟨_, rfl, hm⟩, _, rfl, by omega⟩, by kernel_rfl, ?_⟩
            exact ⟨(k + 1, ⟨sq + 1 + 1 + 1, _, true⟩), [(0, some 0), (1, some _), (2, some _)], ⟨by dsimp only; omega, hst2⟩, by dsimp only; omega, ⟨⟨⟨rfl, rfl, rfl⟩, ⟨rfl, rfl, rfl⟩, trivial, trivial, trivial, ⟨rfl, rfl, rfl⟩, ⟨rfl, rfl, rfl⟩, trivial, ⟨rfl, rfl, rfl⟩, trivial, ⟨rfl, rfl, rfl⟩, fitT_rep _ _ rfl⟩, ⟨.inl rfl, rfl, rfl, rfl, .inl rfl, rfl, rfl, rfl, .inl rfl, rfl, rfl, rfl, trivial⟩, by simp [rn, hpAt]⟩, by simp [keepIds, rn]⟩
          · have hL : plL ⟨sq, B, true⟩ = B.drop 1 := rfl
            rw [hL] at hp hst2 hm hm4
            have hB4 : B.length = 4 := hg.2.2 rfl
            have hsub : ((ptRows B).take 4).drop 1 = ptRows (B.drop 1) := by rw [List.take_of_length_le (by rw [ptRows_len]; omega)]; simp [ptRows]
            dsimp only at hsq
            simp (maxSteps := 3000000) only [Try.f51, klp, ocOf, g_long, g_pick, g_odd, g_packet, g_sPacketCut, g_hearS, g_part, bytesOf_rows, rowsOf_len, ptsOf_rows, pRows_len, ptRows_len, hg1, hI, hrow, hi2, hi3, c3, hE, hn0, hp, wn, pRow, plCell, hsub, c3, hx, D.toI, dB, D.toB, D.toL, ↓reduceIte, Bool.false_eq_true, doneL_ret, doneL_normal, tYs, evL, implies_true, oMin, oCopy, oBin, oUn, oLoadKid, oStoreTree, oField, oExtract, oNil, oSliceQ, oLoadRow, takeCells, TS.atRow, TS.ex, treeMode, AV.isOwn, TK.isSl, nilTk, nilsB, oLenQ, oLen, nodupB, treeOf, kidAbs, kidRows, TK.isCell, D.toL, oLoad, oStore, oMake, oIndexAddr, ↓reduceIte, reduceCtorEq, Nat.reduceBEq, Nat.reduceAdd, Nat.reduceMul, Nat.reduceLT, Nat.reduceSub, Nat.reduceLeDiff, Nat.reduceEqDiff, Nat.reduceBneDiff, Int.reduceToNat, decide_eq_true_eq, decide_eq_false_iff_not, beq_iff_eq, Int.toNat_natCast, loopK_normal, loopK_exit, loopK_ret]
            refine ⟨⟨by omega, by omega⟩, ⟨by omega, by omega⟩, ⟨by omega, by omega⟩, ⟨⟨_, rfl, hm⟩, _, rfl, by omega⟩, by kernel_rfl, ?_⟩
            exact ⟨(k + 1, ⟨sq + 1 + 1 + 1, _, true⟩), [(0, some 0), (1, some _), (2, some _)], ⟨by dsimp only; omega, hst2⟩, by dsimp only; omega, ⟨⟨⟨rfl, rfl, rfl⟩, ⟨rfl, rfl, rfl⟩, trivial, trivial, trivial, ⟨rfl, rfl, rfl⟩, ⟨rfl, rfl, rfl⟩, trivial, ⟨rfl, rfl, rfl⟩, trivial, ⟨rfl, rfl, rfl⟩, fitT_rep _ _ rfl⟩, ⟨.inl rfl, rfl, rfl, rfl, .inl rfl, rfl, rfl, rfl, .inl rfl, rfl, rfl, rfl, trivial⟩, by simp [rn, hpAt]⟩, by simp [keepIds, rn]⟩
    · have hg1 : ((N : Int) - (k : Int) > 0) = False := eq_false (by omega)
      obtain rfl : k = N := by omega
      have hSs : plS xs p = s := hS.trans hs.symm
      obtain ⟨e, he⟩ : ∃ e, e = oneIf n := ⟨_, rfl⟩
      have he' : (if 0 < n then (1 : Int) else 0) = e := he.symm
      have heb := oneIf_le n
      rw [← he] at heb
      obtain ⟨sq, B, w⟩ := s
      dsimp only at hsq
      have hD := dpV_bd xs (sq + e) 1 (by omega)
      have hDs : plD xs p n = dpV xs (sq + e) 1 := by rw [plD, hSs, he]
      obtain ⟨E5, hDD⟩ : ∃ E5, dpV xs (sq + e) 1 = E5 := ⟨_, rfl⟩
      rw [hDD] at hD hDs
      have hOs : plO xs p n = (decide (0 < n) && (pickV xs sq n == n - 1)) := by rw [plO, hSs]
      cases w
      · have hL : plL ⟨sq, B, false⟩ = B := rfl
        rw [hL] at hm hm4
        have ecat : ptRows (B) ++ ptRows (B) = ptRows (B ++ B) := by simp [ptRows]
        have ecat2 : ptRows (B ++ B) ++ [[D.l 9 (pRows E5.ps), D.v (.int .i64 E5.u)]] = ptRows (B ++ B ++ [⟨E5.ps, E5.u⟩]) := by simp [ptRows, ptRow]
        by_cases ho : (decide (0 < n) && (pickV xs sq n == n - 1)) = true
        · have ho' : (decide (0 < n) && (pickV xs sq n == n - 1)) = true := ho
          have hR : plR xs p n = E5.q := by rw [plR, hOs, ho', hDs]; rfl
          have hLs : plLs xs p n = B ++ B ++ [⟨E5.ps, E5.u⟩] := by rw [plLs, hOs, ho', hDs, hSs]; rfl
          rw [hLs]
          by_cases h4 : pickV xs (E5.q) 4 = 0
          · have c4 : (pickV xs (E5.q) 4 = 0) = True := eq_true h4
            have hP : plP xs p n = pktV xs (E5.q + 1) 6 := by rw [plP, hR, if_pos h4]
            rw [hP]
            simp (maxSteps := 3000000) only [Try.f51, klp, ocOf, g_long, g_pick, g_odd, g_packet, g_sPacketCut, g_hearS, g_part, bytesOf_rows, rowsOf_len, ptsOf_rows, pRows_len, ptRows_len, hg1, he', plCell, hDD, ho', c4, ecat, ecat2, hx, D.toI, dB, D.toB, D.toL, ↓reduceIte, Bool.false_eq_true, doneL_ret, doneL_normal, tYs, evL, implies_true, oMin, oCopy, oBin, oUn, oLoadKid, oStoreTree, oField, oExtract, oNil, oSliceQ, oLoadRow, takeCells, TS.atRow, TS.ex, treeMode, AV.isOwn, TK.isSl, nilTk, nilsB, oLenQ, oLen, nodupB, treeOf, kidAbs, kidRows, TK.isCell, D.toL, oLoad, oStore, oMake, oIndexAddr, ↓reduceIte, reduceCtorEq, Nat.reduceBEq, Nat.reduceAdd, Nat.reduceMul, Nat.reduceLT, Nat.reduceSub, Nat.reduceLeDiff, Nat.reduceEqDiff, Nat.reduceBneDiff, Int.reduceToNat, decide_eq_true_eq, decide_eq_false_iff_not, beq_iff_eq, Int.toNat_natCast, loopK_normal, loopK_exit, loopK_ret]
            repeat' first
              | refine And.intro (by omega) ?_
              | refine And.intro ⟨by omega, by omega⟩ ?_
              | refine And.intro ⟨by omega, by omega, by omega⟩ ?_
              | refine And.intro ⟨by omega, by omega, by omega, by omega⟩ ?_
              | refine And.intro ⟨by omega, by omega, ptRows_w _⟩ ?_
              | refine And.intro ⟨by rw [ptRows_len] <;> omega, by rw [ptRows_len] <;> omega, by simp⟩ ?_
              | refine And.intro ⟨by simp only [List.length_append]; omega, by simp only [List.length_append]; omega, by simp⟩ ?_
              | refine And.intro (ptRows_w _) ?_
              | refine And.intro ⟨by omega, ptRows_w _⟩ ?_
              | refine And.intro (by kernel_rfl) ?_
            exact ⟨_, rfl, rfl, rfl⟩
          · have c4 : (pickV xs (E5.q) 4 = 0) = False := eq_false h4
            have i0 := pickV_nonneg xs (E5.q + 1) (C.length : Int) (by omega)
            have i1 := pickV_lt xs (E5.q + 1) (C.length : Int) (by omega)
            obtain ⟨J, hJ⟩ : ∃ J : Nat, pickV xs (E5.q + 1) (C.length : Int) = (J : Int) := ⟨(pickV xs (E5.q + 1) (C.length : Int)).toNat, by omega⟩
            have hJl : J < C.length := by omega
            have hrow := pRows_get C J hJl
            have hj2 : (0 ≤ (J : Int)) = True := eq_true (by omega)
            have hj3 : ((J : Int) < (C.length : Int)) = True := eq_true (by omega)
            have hP : plP xs p n = ⟨C[J].f, C[J].t, C[J].p, C[J].h, C[J].i, C[J].a, C[J].m, C[J].u, C[J].d, E5.q + 1 + 1⟩ := by rw [plP, hR, if_neg h4, hC, hJ, Int.toNat_natCast, pk_get hJl]
            rw [hP]
            simp (maxSteps := 3000000) only [Try.f51, klp, ocOf, g_long, g_pick, g_odd, g_packet, g_sPacketCut, g_hearS, g_part, bytesOf_rows, rowsOf_len, ptsOf_rows, pRows_len, ptRows_len, hg1, he', plCell, hDD, ho', c4, hJ, hrow, hj2, hj3, pRow, ecat, ecat2, hx, D.toI, dB, D.toB, D.toL, ↓reduceIte, Bool.false_eq_true, doneL_ret, doneL_normal, tYs, evL, implies_true, oMin, oCopy, oBin, oUn, oLoadKid, oStoreTree, oField, oExtract, oNil, oSliceQ, oLoadRow, takeCells, TS.atRow, TS.ex, treeMode, AV.isOwn, TK.isSl, nilTk, nilsB, oLenQ, oLen, nodupB, treeOf, kidAbs, kidRows, TK.isCell, D.toL, oLoad, oStore, oMake, oIndexAddr, ↓reduceIte, reduceCtorEq, Nat.reduceBEq, Nat.reduceAdd, Nat.reduceMul, Nat.reduceLT, Nat.reduceSub, Nat.reduceLeDiff, Nat.reduceEqDiff, Nat.reduceBneDiff, Int.reduceToNat, decide_eq_true_eq, decide_eq_false_iff_not, beq_iff_eq, Int.toNat_natCast, loopK_normal, loopK_exit, loopK_ret]
            repeat' first
              | refine And.intro (by omega) ?_
              | refine And.intro ⟨by omega, by omega⟩ ?_
              | refine And.intro ⟨by omega, by omega, by omega⟩ ?_
              | refine And.intro ⟨by omega, by omega, by omega, by omega⟩ ?_
              | refine And.intro ⟨by omega, by omega, ptRows_w _⟩ ?_
              | refine And.intro ⟨by rw [ptRows_len] <;> omega, by rw [ptRows_len] <;> omega, by simp⟩ ?_
              | refine And.intro ⟨by simp only [List.length_append]; omega, by simp only [List.length_append]; omega, by simp⟩ ?_
              | refine And.intro (ptRows_w _) ?_
              | refine And.intro ⟨by omega, ptRows_w _⟩ ?_
              | refine And.intro (by kernel_rfl) ?_
            exact ⟨_, rfl, rfl, rfl⟩
        · have ho' : (decide (0 < n) && (pickV xs sq n == n - 1)) = false := Bool.eq_false_iff.2 ho
          have hR : plR xs p n = sq + e := by rw [plR, hOs, ho', hSs, he]; rfl
          have hLs : plLs xs p n = B := by rw [plLs, hOs, ho', hSs]; rfl
          rw [hLs]
          by_cases h4 : pickV xs (sq + e) 4 = 0
          · have c4 : (pickV xs (sq + e) 4 = 0) = True := eq_true h4
            have hP : plP xs p n = pktV xs (sq + e + 1) 6 := by rw [plP, hR, if_pos h4]
            rw [hP]
            simp (maxSteps := 3000000) only [Try.f51, klp, ocOf, g_long, g_pick, g_odd, g_packet, g_sPacketCut, g_hearS, g_part, bytesOf_rows, rowsOf_len, ptsOf_rows, pRows_len, ptRows_len, hg1, he', plCell, hDD, ho', c4, ecat, ecat2, hx, D.toI, dB, D.toB, D.toL, ↓reduceIte, Bool.false_eq_true, doneL_ret, doneL_normal, tYs, evL, implies_true, oMin, oCopy, oBin, oUn, oLoadKid, oStoreTree, oField, oExtract, oNil, oSliceQ, oLoadRow, takeCells, TS.atRow, TS.ex, treeMode, AV.isOwn, TK.isSl, nilTk, nilsB, oLenQ, oLen, nodupB, treeOf, kidAbs, kidRows, TK.isCell, D.toL, oLoad, oStore, oMake, oIndexAddr, ↓reduceIte, reduceCtorEq, Nat.reduceBEq, Nat.reduceAdd, Nat.reduceMul, Nat.reduceLT, Nat.reduceSub, Nat.reduceLeDiff, Nat.reduceEqDiff, Nat.reduceBneDiff, Int.reduceToNat, decide_eq_true_eq, decide_eq_false_iff_not, beq_iff_eq, Int.toNat_natCast, loopK_normal, loopK_exit, loopK_ret]
            repeat' first
              | refine And.intro (by omega) ?_
              | refine And.intro ⟨by omega, by omega⟩ ?_
              | refine And.intro ⟨by omega, by omega, by omega⟩ ?_
              | refine And.intro ⟨by omega, by omega, by omega, by omega⟩ ?_
              | refine And.intro ⟨by omega, by omega, ptRows_w _⟩ ?_
              | refine And.intro ⟨by rw [ptRows_len] <;> omega, by rw [ptRows_len] <;> omega, by simp⟩ ?_
              | refine And.intro ⟨by simp only [List.length_append]; omega, by simp only [List.length_append]; omega, by simp⟩ ?_
              | refine And.intro (ptRows_w _) ?_
              | refine And.intro ⟨by omega, ptRows_w _⟩ ?_
              | refine And.intro (by kernel_rfl) ?_
            exact ⟨_, rfl, rfl, rfl⟩
          · have c4 : (pickV xs (sq + e) 4 = 0) = False := eq_false h4
            have i0 := pickV_nonneg xs (sq + e + 1) (C.length : Int) (by omega)
            have i1 := pickV_lt xs (sq + e + 1) (C.length : Int) (by omega)
            obtain ⟨J, hJ⟩ : ∃ J : Nat, pickV xs (sq + e + 1) (C.length : Int) = (J : Int) := ⟨(pickV xs (sq + e + 1) (C.length : Int)).toNat, by omega⟩
            have hJl : J < C.length := by omega
            have hrow := pRows_get C J hJl
            have hj2 : (0 ≤ (J : Int)) = True := eq_true (by omega)
            have hj3 : ((J : Int) < (C.length : Int)) = True := eq_true (by omega)
            have hP : plP xs p n = ⟨C[J].f, C[J].t, C[J].p, C[J].h, C[J].i, C[J].a, C[J].m, C[J].u, C[J].d, sq + e + 1 + 1⟩ := by rw [plP, hR, if_neg h4, hC, hJ, Int.toNat_natCast, pk_get hJl]
            rw [hP]
            simp (maxSteps := 3000000) only [Try.f51, klp, ocOf, g_long, g_pick, g_odd, g_packet, g_sPacketCut, g_hearS, g_part, bytesOf_rows, rowsOf_len, ptsOf_rows, pRows_len, ptRows_len, hg1, he', plCell, hDD, ho', c4, hJ, hrow, hj2, hj3, pRow, ecat, ecat2, hx, D.toI, dB, D.toB, D.toL, ↓reduceIte, Bool.false_eq_true, doneL_ret, doneL_normal, tYs, evL, implies_true, oMin, oCopy, oBin, oUn, oLoadKid, oStoreTree, oField, oExtract, oNil, oSliceQ, oLoadRow, takeCells, TS.atRow, TS.ex, treeMode, AV.isOwn, TK.isSl, nilTk, nilsB, oLenQ, oLen, nodupB, treeOf, kidAbs, kidRows, TK.isCell, D.toL, oLoad, oStore, oMake, oIndexAddr, ↓reduceIte, reduceCtorEq, Nat.reduceBEq, Nat.reduceAdd, Nat.reduceMul, Nat.reduceLT, Nat.reduceSub, Nat.reduceLeDiff, Nat.reduceEqDiff, Nat.reduceBneDiff, Int.reduceToNat, decide_eq_true_eq, decide_eq_false_iff_not, beq_iff_eq, Int.toNat_natCast, loopK_normal, loopK_exit, loopK_ret]
            repeat' first
              | refine And.intro (by omega) ?_
              | refine And.intro ⟨by omega, by omega⟩ ?_
              | refine And.intro ⟨by omega, by omega, by omega⟩ ?_
              | refine And.intro ⟨by omega, by omega, by omega, by omega⟩ ?_
              | refine And.intro ⟨by omega, by omega, ptRows_w _⟩ ?_
              | refine And.intro ⟨by rw [ptRows_len] <;> omega, by rw [ptRows_len] <;> omega, by simp⟩ ?_
              | refine And.intro ⟨by simp only [List.length_append]; omega, by simp only [List.length_append]; omega, by simp⟩ ?_
              | refine And.intro (ptRows_w _) ?_
              | refine And.intro ⟨by omega, ptRows_w _⟩ ?_
              | refine And.intro (by kernel_rfl) ?_
            exact ⟨_, rfl, rfl, rfl⟩
      · have hL : plL ⟨sq, B, true⟩ = B.drop 1 := rfl
        rw [hL] at hm hm4
        have hB4 : B.length = 4 := hg.2.2 rfl
        have hsub : ((ptRows B).take 4).drop 1 = ptRows (B.drop 1) := by rw [List.take_of_length_le (by rw [ptRows_len]; omega)]; simp [ptRows]
        have hdr : List.drop 1 (ptRows B) = ptRows (B.drop 1) := by simp [ptRows]
        have hB3 : (B.drop 1).length = 3 := by rw [List.length_drop]; omega
        have ecat : ptRows (B.drop 1) ++ ptRows (B.drop 1) = ptRows (B.drop 1 ++ B.drop 1) := by simp [ptRows]
        have ecat2 : ptRows (B.drop 1 ++ B.drop 1) ++ [[D.l 9 (pRows E5.ps), D.v (.int .i64 E5.u)]] = ptRows (B.drop 1 ++ B.drop 1 ++ [⟨E5.ps, E5.u⟩]) := by simp [ptRows, ptRow]
        by_cases ho : (decide (0 < n) && (pickV xs sq n == n - 1)) = true
        · have ho' : (decide (0 < n) && (pickV xs sq n == n - 1)) = true := ho
          have hR : plR xs p n = E5.q := by rw [plR, hOs, ho', hDs]; rfl
          have hLs : plLs xs p n = B.drop 1 ++ B.drop 1 ++ [⟨E5.ps, E5.u⟩] := by rw [plLs, hOs, ho', hDs, hSs]; rfl
          rw [hLs]
          by_cases h4 : pickV xs (E5.q) 4 = 0
          · have c4 : (pickV xs (E5.q) 4 = 0) = True := eq_true h4
            have hP : plP xs p n = pktV xs (E5.q + 1) 6 := by rw [plP, hR, if_pos h4]
            rw [hP]
            simp (maxSteps := 3000000) only [Try.f51, klp, ocOf, g_long, g_pick, g_odd, g_packet, g_sPacketCut, g_hearS, g_part, bytesOf_rows, rowsOf_len, ptsOf_rows, pRows_len, ptRows_len, hg1, he', plCell, hDD, ho', c4, ecat, ecat2, hsub, hB4, hdr, hB3, hx, D.toI, dB, D.toB, D.toL, ↓reduceIte, Bool.false_eq_true, doneL_ret, doneL_normal, tYs, evL, implies_true, oMin, oCopy, oBin, oUn, oLoadKid, oStoreTree, oField, oExtract, oNil, oSliceQ, oLoadRow, takeCells, TS.atRow, TS.ex, treeMode, AV.isOwn, TK.isSl, nilTk, nilsB, oLenQ, oLen, nodupB, treeOf, kidAbs, kidRows, TK.isCell, D.toL, oLoad, oStore, oMake, oIndexAddr, ↓reduceIte, reduceCtorEq, Nat.reduceBEq, Nat.reduceAdd, Nat.reduceMul, Nat.reduceLT, Nat.reduceSub, Nat.reduceLeDiff, Nat.reduceEqDiff, Nat.reduceBneDiff, Int.reduceToNat, decide_eq_true_eq, decide_eq_false_iff_not, beq_iff_eq, Int.toNat_natCast, loopK_normal, loopK_exit, loopK_ret]
            repeat' first
              | refine And.intro (by omega) ?_
              | refine And.intro ⟨by omega, by omega⟩ ?_
              | refine And.intro ⟨by omega, by omega, by omega⟩ ?_
              | refine And.intro ⟨by omega, by omega, by omega, by omega⟩ ?_
              | refine And.intro ⟨by omega, by omega, ptRows_w _⟩ ?_
              | refine And.intro ⟨by rw [ptRows_len] <;> omega, by rw [ptRows_len] <;> omega, by simp⟩ ?_
              | refine And.intro ⟨by simp only [List.length_append]; omega, by simp only [List.length_append]; omega, by simp⟩ ?_
              | refine And.intro (ptRows_w _) ?_
              | refine And.intro ⟨by omega, ptRows_w _⟩ ?_
              | refine And.intro (by kernel_rfl) ?_
            exact ⟨_, rfl, rfl, rfl⟩
          · have c4 : (pickV xs (E5.q) 4 = 0) = False := eq_false h4
            have i0 := pickV_nonneg xs (E5.q + 1) (C.length : Int) (by omega)
            have i1 := pickV_lt xs (E5.q + 1) (C.length : Int) (by omega)
            obtain ⟨J, hJ⟩ : ∃ J : Nat, pickV xs (E5.q + 1) (C.length : Int) = (J : Int) := ⟨(pickV xs (E5.q + 1) (C.length : Int)).toNat, by omega⟩
            have hJl : J < C.length := by omega
            have hrow := pRows_get C J hJl
            have hj2 : (0 ≤ (J : Int)) = True := eq_true (by omega)
            have hj3 : ((J : Int) < (C.length : Int)) = True := eq_true (by omega)
            have hP : plP xs p n = ⟨C[J].f, C[J].t, C[J].p, C[J].h, C[J].i, C[J].a, C[J].m, C[J].u, C[J].d, E5.q + 1 + 1⟩ := by rw [plP, hR, if_neg h4, hC, hJ, Int.toNat_natCast, pk_get hJl]
            rw [hP]
            simp (maxSteps := 3000000) only [Try.f51, klp, ocOf, g_long, g_pick, g_odd, g_packet, g_sPacketCut, g_hearS, g_part, bytesOf_rows, rowsOf_len, ptsOf_rows, pRows_len, ptRows_len, hg1, he', plCell, hDD, ho', c4, hJ, hrow, hj2, hj3, pRow, ecat, ecat2, hsub, hB4, hdr, hB3, hx, D.toI, dB, D.toB, D.toL, ↓reduceIte, Bool.false_eq_true, doneL_ret, doneL_normal, tYs, evL, implies_true, oMin, oCopy, oBin, oUn, oLoadKid, oStoreTree, oField, oExtract, oNil, oSliceQ, oLoadRow, takeCells, TS.atRow, TS.ex, treeMode, AV.isOwn, TK.isSl, nilTk, nilsB, oLenQ, oLen, nodupB, treeOf, kidAbs, kidRows, TK.isCell, D.toL, oLoad, oStore, oMake, oIndexAddr, ↓reduceIte, reduceCtorEq, Nat.reduceBEq, Nat.reduceAdd, Nat.reduceMul, Nat.reduceLT, Nat.reduceSub, Nat.reduceLeDiff, Nat.reduceEqDiff, Nat.reduceBneDiff, Int.reduceToNat, decide_eq_true_eq, decide_eq_false_iff_not, beq_iff_eq, Int.toNat_natCast, loopK_normal, loopK_exit, loopK_ret]
            repeat' first
              | refine And.intro (by omega) ?_
              | refine And.intro ⟨by omega, by omega⟩ ?_
              | refine And.intro ⟨by omega, by omega, by omega⟩ ?_
              | refine And.intro ⟨by omega, by omega, by omega, by omega⟩ ?_
              | refine And.intro ⟨by omega, by omega, ptRows_w _⟩ ?_
              | refine And.intro ⟨by rw [ptRows_len] <;> omega, by rw [ptRows_len] <;> omega, by simp⟩ ?_
              | refine And.intro ⟨by simp only [List.length_append]; omega, by simp only [List.length_append]; omega, by simp⟩ ?_
              | refine And.intro (ptRows_w _) ?_
              | refine And.intro ⟨by omega, ptRows_w _⟩ ?_
              | refine And.intro (by kernel_rfl) ?_
            exact ⟨_, rfl, rfl, rfl⟩
        · have ho' : (decide (0 < n) && (pickV xs sq n == n - 1)) = false := Bool.eq_false_iff.2 ho
          have hR : plR xs p n = sq + e := by rw [plR, hOs, ho', hSs, he]; rfl
          have hLs : plLs xs p n = B.drop 1 := by rw [plLs, hOs, ho', hSs]; rfl
          rw [hLs]
          by_cases h4 : pickV xs (sq + e) 4 = 0
          · have c4 : (pickV xs (sq + e) 4 = 0) = True := eq_true h4
            have hP : plP xs p n = pktV xs (sq + e + 1) 6 := by rw [plP, hR, if_pos h4]
            rw [hP]
            simp (maxSteps := 3000000) only [Try.f51, klp, ocOf, g_long, g_pick, g_odd, g_packet, g_sPacketCut, g_hearS, g_part, bytesOf_rows, rowsOf_len, ptsOf_rows, pRows_len, ptRows_len, hg1, he', plCell, hDD, ho', c4, ecat, ecat2, hsub, hB4, hdr, hB3, hx, D.toI, dB, D.toB, D.toL, ↓reduceIte, Bool.false_eq_true, doneL_ret, doneL_normal, tYs, evL, implies_true, oMin, oCopy, oBin, oUn, oLoadKid, oStoreTree, oField, oExtract, oNil, oSliceQ, oLoadRow, takeCells, TS.atRow, TS.ex, treeMode, AV.isOwn, TK.isSl, nilTk, nilsB, oLenQ, oLen, nodupB, treeOf, kidAbs, kidRows, TK.isCell, D.toL, oLoad, oStore, oMake, oIndexAddr, ↓reduceIte, reduceCtorEq, Nat.reduceBEq, Nat.reduceAdd, Nat.reduceMul, Nat.reduceLT, Nat.reduceSub, Nat.reduceLeDiff, Nat.reduceEqDiff, Nat.reduceBneDiff, Int.reduceToNat, decide_eq_true_eq, decide_eq_false_iff_not, beq_iff_eq, Int.toNat_natCast, loopK_normal, loopK_exit, loopK_ret]
            repeat' first
              | refine And.intro (by omega) ?_
              | refine And.intro ⟨by omega, by omega⟩ ?_
              | refine And.intro ⟨by omega, by omega, by omega⟩ ?_
              | refine And.intro ⟨by omega, by omega, by omega, by omega⟩ ?_
              | refine And.intro ⟨by omega, by omega, ptRows_w _⟩ ?_
              | refine And.intro ⟨by rw [ptRows_len] <;> omega, by rw [ptRows_len] <;> omega, by simp⟩ ?_
              | refine And.intro ⟨by simp only [List.length_append]; omega, by simp only [List.length_append]; omega, by simp⟩ ?_
              | refine And.intro (ptRows_w _) ?_
              | refine And.intro ⟨by omega, ptRows_w _⟩ ?_
              | refine And.intro (by kernel_rfl) ?_
            exact ⟨_, rfl, congrArg (fun z => AV.tup [AV.l 2 z, _]) hsub, rfl⟩
          · have c4 : (pickV xs (sq + e) 4 = 0) = False := eq_false h4
            have i0 := pickV_nonneg xs (sq + e + 1) (C.length : Int) (by omega)
            have i1 := pickV_lt xs (sq + e + 1) (C.length : Int) (by omega)
            obtain ⟨J, hJ⟩ : ∃ J : Nat, pickV xs (sq + e + 1) (C.length : Int) = (J : Int) := ⟨(pickV xs (sq + e + 1) (C.length : Int)).toNat, by omega⟩
            have hJl : J < C.length := by omega
            have hrow := pRows_get C J hJl
            have hj2 : (0 ≤ (J : Int)) = True := eq_true (by omega)
            have hj3 : ((J : Int) < (C.length : Int)) = True := eq_true (by omega)
            have hP : plP xs p n = ⟨C[J].f, C[J].t, C[J].p, C[J].h, C[J].i, C[J].a, C[J].m, C[J].u, C[J].d, sq + e + 1 + 1⟩ := by rw [plP, hR, if_neg h4, hC, hJ, Int.toNat_natCast, pk_get hJl]
            rw [hP]
            simp (maxSteps := 3000000) only [Try.f51, klp, ocOf, g_long, g_pick, g_odd, g_packet, g_sPacketCut, g_hearS, g_part, bytesOf_rows, rowsOf_len, ptsOf_rows, pRows_len, ptRows_len, hg1, he', plCell, hDD, ho', c4, hJ, hrow, hj2, hj3, pRow, ecat, ecat2, hsub, hB4, hdr, hB3, hx, D.toI, dB, D.toB, D.toL, ↓reduceIte, Bool.false_eq_true, doneL_ret, doneL_normal, tYs, evL, implies_true, oMin, oCopy, oBin, oUn, oLoadKid, oStoreTree, oField, oExtract, oNil, oSliceQ, oLoadRow, takeCells, TS.atRow, TS.ex, treeMode, AV.isOwn, TK.isSl, nilTk, nilsB, oLenQ, oLen, nodupB, treeOf, kidAbs, kidRows, TK.isCell, D.toL, oLoad, oStore, oMake, oIndexAddr, ↓reduceIte, reduceCtorEq, Nat.reduceBEq, Nat.reduceAdd, Nat.reduceMul, Nat.reduceLT, Nat.reduceSub, Nat.reduceLeDiff, Nat.reduceEqDiff, Nat.reduceBneDiff, Int.reduceToNat, decide_eq_true_eq, decide_eq_false_iff_not, beq_iff_eq, Int.toNat_natCast, loopK_normal, loopK_exit, loopK_ret]
            repeat' first
              | refine And.intro (by omega) ?_
              | refine And.intro ⟨by omega, by omega⟩ ?_
              | refine And.intro ⟨by omega, by omega, by omega⟩ ?_
              | refine And.intro ⟨by omega, by omega, by omega, by omega⟩ ?_
              | refine And.intro ⟨by omega, by omega, ptRows_w _⟩ ?_
              | refine And.intro ⟨by rw [ptRows_len] <;> omega, by rw [ptRows_len] <;> omega, by simp⟩ ?_
              | refine And.intro ⟨by simp only [List.length_append]; omega, by simp only [List.length_append]; omega, by simp⟩ ?_
              | refine And.intro (ptRows_w _) ?_
              | refine And.intro ⟨by omega, ptRows_w _⟩ ?_
              | refine And.intro (by kernel_rfl) ?_
            exact ⟨_, rfl, congrArg (fun z => AV.tup [AV.l 2 z, _]) hsub, rfl⟩
  · cases hg
end Go.Proofs.Ytegffkmakkccaaa
