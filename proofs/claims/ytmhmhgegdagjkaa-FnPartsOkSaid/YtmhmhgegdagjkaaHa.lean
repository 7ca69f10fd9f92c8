import Derived.Test.YtmhmhgegdagjkaaXi
import Derived.Test.YtmhmhgegdagjkaaXk
import Derived.Test.YtmhmhgegdagjkaaVg
import Derived.Test.YtmhmhgegdagjkaaVa
import Derived.Test.YtmhmhgegdagjkaaNum
namespace Go.Proofs.Ytmhmhgegdagjkaa
open Go.RowKit
set_option linter.unusedSimpArgs false
set_option linter.unusedVariables false
def lnN (xs : List UInt8) (p : Int) : Nat := (2 + pickV xs (pktV xs p 0).q 20).toNat
def lnV (xs : List UInt8) (p : Int) : PkV := { pktV xs p 0 with a := 0, m := false, u := false, d := bytesV xs ((pktV xs p 0).q + 1) (lnN xs p), q := (pktV xs p 0).q + 1 + 2 * (lnN xs p : Int) }
theorem lnN_bd (xs : List UInt8) (p : Int) (hp : p < 100000000000) : 2 ≤ lnN xs p ∧ lnN xs p ≤ 21 := by
  have h := pktV_q xs p 0
  have h1 := pickV_nonneg xs (pktV xs p 0).q 20 (by omega)
  have h2 := pickV_lt xs (pktV xs p 0).q 20 (by omega)
  unfold lnN; omega
theorem lnV_q (xs : List UInt8) (p : Int) (hp : p < 100000000000) : p ≤ (lnV xs p).q ∧ (lnV xs p).q < p + 100 ∧ (2 ≤ (lnV xs p).d.length ∧ (lnV xs p).d.length ≤ 21) := by
  have h := pktV_q xs p 0
  have h2 := lnN_bd xs p hp
  unfold lnV
  dsimp only
  rw [bytesV_len]
  omega
def pvK (v : PkV) : Pk := ⟨v.f, v.t, v.pr, v.h, v.i, v.a, v.m, v.u, v.d⟩
theorem lnV_ok (xs : List UInt8) (p : Int) (hp : p < 100000000000) : (pvK (lnV xs p)).ok = true := by
  have h := pvB_zero xs p hp
  have h2 := lnN_bd xs p hp
  rw [pvB, pkB, Bool.and_eq_true] at h
  have h3 := h.1
  rw [pkR, decide_eq_true_eq] at h3
  rw [Pk.ok, pkB, Bool.and_eq_true]
  refine ⟨?_, rfl⟩
  rw [pkR, decide_eq_true_eq]
  show ((0 ≤ (pktV xs p 0).f ∧ (pktV xs p 0).f ≤ 65535) ∧ 0 ≤ (pktV xs p 0).t ∧ (pktV xs p 0).t ≤ 65535) ∧ (0 ≤ (pktV xs p 0).pr ∧ (pktV xs p 0).pr ≤ 255) ∧ (0 ≤ (pktV xs p 0).h ∧ (pktV xs p 0).h ≤ 255) ∧ (0 ≤ (pktV xs p 0).i ∧ (pktV xs p 0).i ≤ 255) ∧ ((0 : Int) ≤ 0 ∧ (0 : Int) ≤ 255) ∧ (bytesV xs ((pktV xs p 0).q + 1) (lnN xs p)).length ≤ 48
  rw [bytesV_len]
  omega
def g_long : OC := fun args B0 => match args, B0 with
  | [.ptr r o], [.var T [.l 1 rows, .v (.int .i64 p)]] => some (T = 107 ∧ r = 0 ∧ o = 0 ∧ (∃ xs, rows = rowsOfBytes xs ∧ xs.length ≤ 2000) ∧ 0 ≤ p ∧ p < 10000000000, .agg [.v (.int .i64 (lnV (bytesOfRows rows) p).f), .v (.int .i64 (lnV (bytesOfRows rows) p).t), .v (.int .i64 (lnV (bytesOfRows rows) p).pr), .v (.int .i64 (lnV (bytesOfRows rows) p).h), .v (.int .i64 (lnV (bytesOfRows rows) p).i), .v (.int .i64 (lnV (bytesOfRows rows) p).a), .v (.bool (lnV (bytesOfRows rows) p).m), .v (.bool (lnV (bytesOfRows rows) p).u), .l 1 (rowsOfBytes (lnV (bytesOfRows rows) p).d)], [.var T [.l 1 rows, .v (.int .i64 (lnV (bytesOfRows rows) p).q)]], [])
  | _, _ => none
def hln : List (FuncId × Abs) := [(93, ownAbs g_packet), (33, ownAbs g_pick), (34, ownAbs g_bytes)]
theorem hln_ok : ∀ p ∈ hln, CallOk Try.prog p.1 p.2 := by
  intro p hp
  simp only [hln, List.mem_cons, List.not_mem_nil, or_false] at hp
  rcases hp with rfl | rfl | rfl
  · exact packet_ok.call
  · exact pick_ok.call
  · exact bytes_ok.call
set_option maxRecDepth 100000 in
theorem long_ok : OwnOk Try.prog 96 g_long := by
  refine OwnOk.of_vcL (G := hln) hln_ok mixed Try.func96 (by kernel_rfl) rfl ?_
  intro args B0 cnd r B1 bs hg hc hlive
  unfold g_long at hg
  split at hg
  · rename_i r o T rows p
    cases hg
    obtain ⟨rfl, rfl, rfl, ⟨xs, rfl, hl⟩, hp0, hp1⟩ := hc
    rw [bytesOf_rows]
    have hb := pktV_q xs p 0
    have hn := lnN_bd xs p (by omega)
    obtain ⟨V, hV⟩ : ∃ V, V = pktV xs p 0 := ⟨_, rfl⟩
    have hV' := hV.symm
    rw [hV'] at hb
    have h1 := pickV_nonneg xs V.q 20 (by omega)
    have h2 := pickV_lt xs V.q 20 (by omega)
    have w1 : IntKind.i64.wrap (2 + pickV xs V.q 20) = 2 + pickV xs V.q 20 := wrap_id (by omega) (by omega)
    obtain ⟨N, hN⟩ : ∃ N, N = lnN xs p := ⟨_, rfl⟩
    have hN' : (2 + pickV xs V.q 20).toNat = N := by rw [hN, lnN, hV']
    rw [← hN] at hn
    have hv : lnV xs p = { V with a := 0, m := false, u := false, d := bytesV xs (V.q + 1) N, q := V.q + 1 + 2 * (N : Int) } := by rw [lnV, hV', ← hN]
    rw [hv]
    refine ⟨⟨by simp [likeBs, likeB], rfl, fun b hb => by simp at hb; subst hb; exact ⟨_, _, rfl, rfl⟩, by simp [AV.ids, AV.ids.idsL]⟩, _, rfl, fun w Z s vs h => h, ?_⟩
    clear hlive
    have hx : (∃ ys, rowsOfBytes xs = rowsOfBytes ys ∧ ys.length ≤ 2000) = True := eq_true ⟨xs, rfl, hl⟩
    simp (maxSteps := 3000000) only [Try.f96, hln, g_packet, g_pick, g_bytes, hV', w1, hN', bytesOf_rows, rowsOf_len, hx, doneL_ret, doneL_normal, tYs, evL, implies_true, oMin, oCopy, oBin, oUn, oLoadKid, oStoreTree, oField, oExtract, oNil, oSliceQ, oLen, nodupB, treeOf, kidAbs, kidRows, TK.isCell, D.toL, oLoad, oStore, oMake, oIndexAddr, ↓reduceIte, reduceCtorEq, Nat.reduceBEq, Nat.reduceAdd, Nat.reduceMul, Nat.reduceLT, Nat.reduceSub, Nat.reduceLeDiff, Nat.reduceEqDiff, Nat.reduceBneDiff, Int.reduceToNat, decide_eq_true_eq, decide_eq_false_iff_not, beq_iff_eq, Int.toNat_natCast]
    clear hV' w1 hv hN'
    (repeat (refine And.intro ?_ ?_; focus (((repeat' apply And.intro) <;> first | exact rowsOf_w _ | omega | (simp only [List.length_append, rowsOf_len, List.length_cons, List.length_nil, marks_len, List.length_take, List.length_drop, List.length_set]; omega) | exact ⟨_, rfl⟩ | (refine ⟨_, rfl, ?_⟩; omega) | (refine ⟨_, rfl, ?_⟩; simp only [List.length_append, rowsOf_len, List.length_cons, List.length_nil, marks_len, List.length_take, List.length_drop, List.length_set]; omega) | kernel_rfl | (simp; done)); done)))
    exact ⟨_, rfl, rfl, rfl⟩
  · cases hg
end Go.Proofs.Ytmhmhgegdagjkaa
