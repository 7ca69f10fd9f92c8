import Derived.Test.YtegffkmakkccaaaKe
import Derived.Test.YtegffkmakkccaaaHa
set_option linter.unusedVariables false
set_option linter.unusedSimpArgs false
namespace Go.Proofs.Ytegffkmakkccaaa
open Go.RowKit
set_option linter.unusedSimpArgs false
theorem fwD_gone {s : St} {p : Pk} (h : (stB s && p.ok) = false) : fwV s p = dn0 := if_neg (by rw [h]; decide)
theorem fwD_yes {s : St} {p : Pk} (h1 : stB s = true) (h2 : p.ok = true) : fwV s p = fwD s p := if_pos (by rw [h1, h2]; rfl)
theorem stB_of {s : St} (h : stB s = true) : rsB s.rs = true := by
  rw [stB, Bool.and_eq_true] at h; exact h.2
theorem ok_h {p : Pk} (h : p.ok = true) : (0 ≤ p.h ∧ p.h ≤ 255) ∧ p.d.length ≤ 48 := by
  rw [Pk.ok, pkB, Bool.and_eq_true, pkR, decide_eq_true_eq] at h
  omega
theorem fit_route {s : St} {x : Int} {r : RE} (h1 : stB s = true) (h : lastFit s.rs x = some r) : 1 ≤ r.m ∧ r.m ≤ 48 := (rOk_mem ((rsB_iff.1 (stB_of h1)).2.1 r (lastFit_mem h).1)).2.2.2.2.2.2
def g_noteAboutT : PC := fun args => match args with
  | [.agg [.v (.int .i64 f), .v (.int .i64 t), .v (.int .i64 p), .v (.int .i64 h), .v (.int .i64 i), .v (.int .i64 a), .v (.bool m), .v (.bool u), .l _ rows], .v (.int .i64 o), .v (.int .i64 k), .v (.int .i64 n)] => some (∃ xs, rows = rowsOfBytes xs ∧ xs.length ≤ 1048576, .tup [.agg [.v (.int .i64 (if naOk f t p h i a m u (bytesOfRows rows) o k n = true then o else 0)), .v (.int .i64 (if naOk f t p h i a m u (bytesOfRows rows) o k n = true then f else 0)), .v (.int .i64 (if naOk f t p h i a m u (bytesOfRows rows) o k n = true then 1 else 0)), .v (.int .i64 (if naOk f t p h i a m u (bytesOfRows rows) o k n = true then 64 else 0)), .v (.int .i64 (if naOk f t p h i a m u (bytesOfRows rows) o k n = true then i else 0)), .v (.int .i64 0), .v (.bool false), .v (.bool false), .own 0], .v (.bool (naOk f t p h i a m u (bytesOfRows rows) o k n))], [.tr .whole 5 1 [.cell] (rowsOfBytes (if naOk f t p h i a m u (bytesOfRows rows) o k n = true then naD f t p h i a m u (bytesOfRows rows) k n else []))])
  | _ => none
theorem implNoteAboutT_ok : PureOk Try.prog 165 g_noteAboutT := implNoteAbout_ok.toTree fun args c r bs' h => by
  unfold g_noteAboutT at h
  split at h
  · cases h; exact ⟨_, rfl, rfl⟩
  · cases h
def g_say : PC := fun args => match args with
  | [.agg [.v (.int .i64 b), .l _ rr], .agg [.v (.int .i64 f), .v (.int .i64 t), .v (.int .i64 p), .v (.int .i64 h), .v (.int .i64 i), .v (.int .i64 a), .v (.bool m), .v (.bool u), .l _ rows], .v (.int .i64 k), .v (.int .i64 n)] => some ((∃ l, rr = rtRows l ∧ l.length ≤ 1048576) ∧ ∃ xs, rows = rowsOfBytes xs ∧ xs.length ≤ 1048576, .agg [.v (.int .i64 (sayD ⟨b, rtsOf rr⟩ ⟨f, t, p, h, i, a, m, u, bytesOfRows rows⟩ k n).k), .v (.int .i64 (sayD ⟨b, rtsOf rr⟩ ⟨f, t, p, h, i, a, m, u, bytesOfRows rows⟩ k n).v), .own 0], [.tr .whole 29 9 [.cell, .cell, .cell, .cell, .cell, .cell, .cell, .cell, .sl 5 1 [.cell]] (pRows (sayD ⟨b, rtsOf rr⟩ ⟨f, t, p, h, i, a, m, u, bytesOfRows rows⟩ k n).ps)])
  | _ => none
def g_on : PC := fun args => match args with
  | [.agg [.v (.int .i64 ra), .v (.int .i64 rb), .v (.int .i64 rv), .v (.int .i64 rm)], .agg [.v (.int .i64 f), .v (.int .i64 t), .v (.int .i64 p), .v (.int .i64 h), .v (.int .i64 i), .v (.int .i64 a), .v (.bool m), .v (.bool u), .l _ rows]] => some ((1 ≤ h ∧ h ≤ 1000) ∧ ∃ xs, rows = rowsOfBytes xs ∧ xs.length ≤ 1048576, .agg [.v (.int .i64 (onD ⟨f, t, p, h, i, a, m, u, bytesOfRows rows⟩ ⟨ra, rb, rv, rm⟩).k), .v (.int .i64 (onD ⟨f, t, p, h, i, a, m, u, bytesOfRows rows⟩ ⟨ra, rb, rv, rm⟩).v), .own 0], [.tr .whole 29 9 [.cell, .cell, .cell, .cell, .cell, .cell, .cell, .cell, .sl 5 1 [.cell]] (pRows (onD ⟨f, t, p, h, i, a, m, u, bytesOfRows rows⟩ ⟨ra, rb, rv, rm⟩).ps)])
  | _ => none
def g_fwd : PC := fun args => match args with
  | [.agg [.v (.int .i64 b), .l _ rr], .agg [.v (.int .i64 f), .v (.int .i64 t), .v (.int .i64 p), .v (.int .i64 h), .v (.int .i64 i), .v (.int .i64 a), .v (.bool m), .v (.bool u), .l _ rows]] => some ((∃ l, rr = rtRows l ∧ l.length ≤ 1048576) ∧ ∃ xs, rows = rowsOfBytes xs ∧ xs.length ≤ 1048576, .agg [.v (.int .i64 (fwV ⟨b, rtsOf rr⟩ ⟨f, t, p, h, i, a, m, u, bytesOfRows rows⟩).k), .v (.int .i64 (fwV ⟨b, rtsOf rr⟩ ⟨f, t, p, h, i, a, m, u, bytesOfRows rows⟩).v), .own 0], [.tr .whole 29 9 [.cell, .cell, .cell, .cell, .cell, .cell, .cell, .cell, .sl 5 1 [.cell]] (pRows (fwV ⟨b, rtsOf rr⟩ ⟨f, t, p, h, i, a, m, u, bytesOfRows rows⟩).ps)])
  | _ => none
def fw1 : List (FuncId × Abs) := [(165, pureAbs g_noteAboutT)]
theorem fw1_ok : ∀ p ∈ fw1, CallOk Try.prog p.1 p.2 := by
  intro p hp
  simp only [fw1, List.mem_cons, List.not_mem_nil, or_false] at hp
  rcases hp with rfl
  · exact implNoteAboutT_ok.call
set_option maxHeartbeats 2000000 in
set_option maxRecDepth 100000 in
theorem doneNote_ok : PureOk Try.prog 147 g_say := by
  refine PureOk.of_vc (G := fw1) fw1_ok mixed Try.func147 (by kernel_rfl) rfl ?_
  intro args cnd r bs hg hc
  unfold g_say at hg
  split at hg
  · rename_i b z rr f t p h i a m u sz rows k n
    cases hg
    obtain ⟨⟨l, rfl, hll⟩, xs, rfl, hxl⟩ := hc
    rw [rtsOf_rows, bytesOf_rows]
    refine ⟨⟨rfl, by simp [flatB], by simp [AV.ids, AV.ids.idsL]⟩, [.agg [.v (.int .i64 b), .l 4 (rtRows l)], .agg [.v (.int .i64 f), .v (.int .i64 t), .v (.int .i64 p), .v (.int .i64 h), .v (.int .i64 i), .v (.int .i64 a), .v (.bool m), .v (.bool u), (.l 1 (rowsOfBytes xs))], .v (.int .i64 k), .v (.int .i64 n)], rfl, fun w vs h => CvL.ok (.cons (.cons (.refl _) (.cons (.l _ _ _ (rtRows_w l)) .nil)) (.cons (.cons (.refl _) (.cons (.refl _) (.cons (.refl _) (.cons (.refl _) (.cons (.refl _) (.cons (.refl _) (.cons (.refl _) (.cons (.refl _) (.cons (.l _ _ _ (rowsOf_w xs)) .nil))))))))) (.cons (.refl _) (.cons (.refl _) .nil)))) h, ?_⟩
    cases hb : naOk f t p h i a m u xs b k n with
    | false =>
      have e : sayD ⟨b, l⟩ ⟨f, t, p, h, i, a, m, u, xs⟩ k n = dn0 := if_neg (by rw [sayB, hb]; decide)
      rw [e, dn0]
      simp (maxSteps := 3000000) only [Try.f147, fw1, g_noteAboutT, bytesOf_rows, rowsOf_len, hb, rowsOf_nil, pRows, pRow, ↓reduceIte, Bool.false_eq_true, tYs, evL, implies_true, oMin, oCopy, oBin, oUn, oLoadKid, oStoreTree, oField, oExtract, oNil, oSliceQ, oLoadRow, takeCells, TS.atRow, TS.ex, treeMode, AV.isOwn, TK.isSl, nilTk, nilsB, oLenQ, oLen, nodupB, treeOf, kidAbs, kidRows, TK.isCell, D.toL, oLoad, oStore, oMake, oIndexAddr, ↓reduceIte, reduceCtorEq, Nat.reduceBEq, Nat.reduceAdd, Nat.reduceMul, Nat.reduceLT, Nat.reduceSub, Nat.reduceLeDiff, Nat.reduceEqDiff, Nat.reduceBneDiff, Int.reduceToNat, decide_eq_true_eq, decide_eq_false_iff_not, beq_iff_eq, Int.toNat_natCast]
      refine ⟨⟨xs, rfl, hxl⟩, ?_⟩
      exact ⟨_, [(0, none)], rfl, ⟨⟨⟨rfl, rfl, rfl⟩, trivial⟩, ⟨⟨by omega, rfl, rfl⟩, rfl, rfl, rfl, trivial⟩, by simp [rn, hpAt]⟩⟩
    | true =>
      have e : sayD ⟨b, l⟩ ⟨f, t, p, h, i, a, m, u, xs⟩ k n = ⟨3, 0, [sayP ⟨b, l⟩ ⟨f, t, p, h, i, a, m, u, xs⟩ k n]⟩ := if_pos (by rw [sayB, hb])
      rw [e, sayP]
      simp (maxSteps := 3000000) only [Try.f147, fw1, g_noteAboutT, bytesOf_rows, rowsOf_len, hb, rowsOf_nil, pRows, pRow, ↓reduceIte, Bool.false_eq_true, tYs, evL, implies_true, oMin, oCopy, oBin, oUn, oLoadKid, oStoreTree, oField, oExtract, oNil, oSliceQ, oLoadRow, takeCells, TS.atRow, TS.ex, treeMode, AV.isOwn, TK.isSl, nilTk, nilsB, oLenQ, oLen, nodupB, treeOf, kidAbs, kidRows, TK.isCell, D.toL, oLoad, oStore, oMake, oIndexAddr, ↓reduceIte, reduceCtorEq, Nat.reduceBEq, Nat.reduceAdd, Nat.reduceMul, Nat.reduceLT, Nat.reduceSub, Nat.reduceLeDiff, Nat.reduceEqDiff, Nat.reduceBneDiff, Int.reduceToNat, decide_eq_true_eq, decide_eq_false_iff_not, beq_iff_eq, Int.toNat_natCast]
      refine ⟨⟨xs, rfl, hxl⟩, ?_⟩
      exact ⟨_, [(0, some _)], rfl, ⟨⟨⟨rfl, rfl, rfl⟩, trivial⟩, ⟨.inl rfl, rfl, rfl, rfl, trivial⟩, by simp [rn, hpAt]⟩⟩
  · cases hg
def fw3 : List (FuncId × Abs) := [(166, pureAbs g_packetCut)]
theorem fw3_ok : ∀ p ∈ fw3, CallOk Try.prog p.1 p.2 := by
  intro p hp
  simp only [fw3, List.mem_cons, List.not_mem_nil, or_false] at hp
  rcases hp with rfl
  · exact implPacketCut_ok.call
set_option maxHeartbeats 2000000 in
set_option maxRecDepth 100000 in
theorem doneOn_ok : PureOk Try.prog 148 g_on := by
  refine PureOk.of_vc (G := fw3) fw3_ok mixed Try.func148 (by kernel_rfl) rfl ?_
  intro args cnd r bs hg hc
  unfold g_on at hg
  split at hg
  · rename_i ra rb rv rm f t p h i a m u sz rows
    cases hg
    obtain ⟨hh, xs, rfl, hxl⟩ := hc
    rw [bytesOf_rows]
    have w1 : IntKind.i64.wrap (h - 1) = h - 1 := wrap_id (by omega) (by omega)
    refine ⟨⟨rfl, by simp [flatB], by simp [AV.ids, AV.ids.idsL]⟩, [.agg [.v (.int .i64 ra), .v (.int .i64 rb), .v (.int .i64 rv), .v (.int .i64 rm)], .agg [.v (.int .i64 f), .v (.int .i64 t), .v (.int .i64 p), .v (.int .i64 h), .v (.int .i64 i), .v (.int .i64 a), .v (.bool m), .v (.bool u), (.l 1 (rowsOfBytes xs))]], rfl, fun w vs h => CvL.ok (.cons (.refl _) (.cons (.cons (.refl _) (.cons (.refl _) (.cons (.refl _) (.cons (.refl _) (.cons (.refl _) (.cons (.refl _) (.cons (.refl _) (.cons (.refl _) (.cons (.l _ _ _ (rowsOf_w xs)) .nil))))))))) .nil)) h, ?_⟩
    cases hb : cutB ⟨f, t, p, h - 1, i, a, m, u, xs⟩ rm with
    | false =>
      have e : onD ⟨f, t, p, h, i, a, m, u, xs⟩ ⟨ra, rb, rv, rm⟩ = dn0 := if_neg (by rw [show lessH ⟨f, t, p, h, i, a, m, u, xs⟩ = ⟨f, t, p, h - 1, i, a, m, u, xs⟩ from rfl, hb]; decide)
      rw [e, dn0]
      simp (maxSteps := 3000000) only [Try.f148, fw3, g_packetCut, bytesOf_rows, rowsOf_len, w1, hb, ↓reduceIte, Bool.false_eq_true, tYs, evL, implies_true, oMin, oCopy, oBin, oUn, oLoadKid, oStoreTree, oField, oExtract, oNil, oSliceQ, oLoadRow, takeCells, TS.atRow, TS.ex, treeMode, AV.isOwn, TK.isSl, nilTk, nilsB, oLenQ, oLen, nodupB, treeOf, kidAbs, kidRows, TK.isCell, D.toL, oLoad, oStore, oMake, oIndexAddr, ↓reduceIte, reduceCtorEq, Nat.reduceBEq, Nat.reduceAdd, Nat.reduceMul, Nat.reduceLT, Nat.reduceSub, Nat.reduceLeDiff, Nat.reduceEqDiff, Nat.reduceBneDiff, Int.reduceToNat, decide_eq_true_eq, decide_eq_false_iff_not, beq_iff_eq, Int.toNat_natCast]
      refine ⟨⟨xs, rfl, hxl⟩, ?_⟩
      exact ⟨_, [(0, none)], rfl, ⟨⟨⟨rfl, rfl, rfl⟩, trivial⟩, ⟨⟨by omega, rfl, rfl⟩, rfl, rfl, rfl, trivial⟩, by simp [rn, hpAt]⟩⟩
    | true =>
      have e : onD ⟨f, t, p, h, i, a, m, u, xs⟩ ⟨ra, rb, rv, rm⟩ = ⟨2, rv, cutL ⟨f, t, p, h - 1, i, a, m, u, xs⟩ rm⟩ := if_pos hb
      rw [e]
      simp (maxSteps := 3000000) only [Try.f148, fw3, g_packetCut, bytesOf_rows, rowsOf_len, w1, hb, ↓reduceIte, Bool.false_eq_true, tYs, evL, implies_true, oMin, oCopy, oBin, oUn, oLoadKid, oStoreTree, oField, oExtract, oNil, oSliceQ, oLoadRow, takeCells, TS.atRow, TS.ex, treeMode, AV.isOwn, TK.isSl, nilTk, nilsB, oLenQ, oLen, nodupB, treeOf, kidAbs, kidRows, TK.isCell, D.toL, oLoad, oStore, oMake, oIndexAddr, ↓reduceIte, reduceCtorEq, Nat.reduceBEq, Nat.reduceAdd, Nat.reduceMul, Nat.reduceLT, Nat.reduceSub, Nat.reduceLeDiff, Nat.reduceEqDiff, Nat.reduceBneDiff, Int.reduceToNat, decide_eq_true_eq, decide_eq_false_iff_not, beq_iff_eq, Int.toNat_natCast]
      refine ⟨⟨xs, rfl, hxl⟩, ?_⟩
      exact ⟨_, [(0, some _)], rfl, ⟨⟨⟨rfl, rfl, rfl⟩, trivial⟩, ⟨.inl rfl, rfl, rfl, rfl, trivial⟩, by simp [rn, hpAt]⟩⟩
  · cases hg
def fw4 : List (FuncId × Abs) := [(93, pureAbs g_stOk), (19, pureAbs g_packetOk), (61, pureAbs g_packetCopied), (147, pureAbs g_say), (148, pureAbs g_on), (146, pureAbs g_routeTo)]
theorem fw4_ok : ∀ p ∈ fw4, CallOk Try.prog p.1 p.2 := by
  intro p hp
  simp only [fw4, List.mem_cons, List.not_mem_nil, or_false] at hp
  rcases hp with rfl | rfl | rfl | rfl | rfl | rfl
  · exact implStationOk_ok.call
  · exact implPacketOk_ok.call
  · exact packetCopied_ok.call
  · exact doneNote_ok.call
  · exact doneOn_ok.call
  · exact implRouteTo_ok.call
set_option maxHeartbeats 8000000 in
set_option maxRecDepth 100000 in
theorem implForward_ok : PureOk Try.prog 99 g_fwd := by
  refine PureOk.of_vc (G := fw4) fw4_ok mixed Try.func99 (by kernel_rfl) rfl ?_
  intro args cnd r bs hg hc
  unfold g_fwd at hg
  split at hg
  · rename_i b z rr f t p h i a m u sz rows
    cases hg
    obtain ⟨⟨l, rfl, hll⟩, xs, rfl, hxl⟩ := hc
    rw [rtsOf_rows, bytesOf_rows]
    refine ⟨⟨rfl, by simp [flatB], by simp [AV.ids, AV.ids.idsL]⟩, [.agg [.v (.int .i64 b), .l 4 (rtRows l)], .agg [.v (.int .i64 f), .v (.int .i64 t), .v (.int .i64 p), .v (.int .i64 h), .v (.int .i64 i), .v (.int .i64 a), .v (.bool m), .v (.bool u), (.l 1 (rowsOfBytes xs))]], rfl, fun w vs h => CvL.ok (.cons (.cons (.refl _) (.cons (.l _ _ _ (rtRows_w l)) .nil)) (.cons (.cons (.refl _) (.cons (.refl _) (.cons (.refl _) (.cons (.refl _) (.cons (.refl _) (.cons (.refl _) (.cons (.refl _) (.cons (.refl _) (.cons (.l _ _ _ (rowsOf_w xs)) .nil))))))))) .nil)) h, ?_⟩
    cases h0 : stB ⟨b, l⟩ with
    | false =>
      rw [fwD_gone (s := ⟨b, l⟩) (p := ⟨f, t, p, h, i, a, m, u, xs⟩) (by rw [h0]; rfl)]
      simp (maxSteps := 3000000) only [Try.f99, fw4, g_stOk, g_packetOk, g_packetCopied, g_say, g_on, g_routeTo, rtsOf_rows, bytesOf_rows, rowsOf_len, rtRows_len, pRows, pRow, h0, dn0, ↓reduceIte, Bool.false_eq_true, tYs, evL, implies_true, oMin, oCopy, oBin, oUn, oLoadKid, oStoreTree, oField, oExtract, oNil, oSliceQ, oLoadRow, takeCells, TS.atRow, TS.ex, treeMode, AV.isOwn, TK.isSl, nilTk, nilsB, oLenQ, oLen, nodupB, treeOf, kidAbs, kidRows, TK.isCell, D.toL, oLoad, oStore, oMake, oIndexAddr, ↓reduceIte, reduceCtorEq, Nat.reduceBEq, Nat.reduceAdd, Nat.reduceMul, Nat.reduceLT, Nat.reduceSub, Nat.reduceLeDiff, Nat.reduceEqDiff, Nat.reduceBneDiff, Int.reduceToNat, decide_eq_true_eq, decide_eq_false_iff_not, beq_iff_eq, Int.toNat_natCast]
      refine ⟨⟨l, rfl, by omega⟩, ?_⟩
      exact ⟨_, [(0, none)], rfl, ⟨⟨⟨rfl, rfl, rfl⟩, trivial⟩, ⟨⟨by omega, rfl, rfl⟩, rfl, rfl, rfl, trivial⟩, by simp [rn, hpAt]⟩⟩
    | true =>
      cases h1 : pkB f t p h i a m u xs.length with
      | false =>
        rw [fwD_gone (s := ⟨b, l⟩) (p := ⟨f, t, p, h, i, a, m, u, xs⟩) (by rw [h0, Pk.ok, h1]; rfl)]
        simp (maxSteps := 3000000) only [Try.f99, fw4, g_stOk, g_packetOk, g_packetCopied, g_say, g_on, g_routeTo, rtsOf_rows, bytesOf_rows, rowsOf_len, rtRows_len, pRows, pRow, h0, h1, dn0, ↓reduceIte, Bool.false_eq_true, tYs, evL, implies_true, oMin, oCopy, oBin, oUn, oLoadKid, oStoreTree, oField, oExtract, oNil, oSliceQ, oLoadRow, takeCells, TS.atRow, TS.ex, treeMode, AV.isOwn, TK.isSl, nilTk, nilsB, oLenQ, oLen, nodupB, treeOf, kidAbs, kidRows, TK.isCell, D.toL, oLoad, oStore, oMake, oIndexAddr, ↓reduceIte, reduceCtorEq, Nat.reduceBEq, Nat.reduceAdd, Nat.reduceMul, Nat.reduceLT, Nat.reduceSub, Nat.reduceLeDiff, Nat.reduceEqDiff, Nat.reduceBneDiff, Int.reduceToNat, decide_eq_true_eq, decide_eq_false_iff_not, beq_iff_eq, Int.toNat_natCast]
        refine ⟨⟨l, rfl, by omega⟩, ?_⟩
        exact ⟨_, [(0, none)], rfl, ⟨⟨⟨rfl, rfl, rfl⟩, trivial⟩, ⟨⟨by omega, rfl, rfl⟩, rfl, rfl, rfl, trivial⟩, by simp [rn, hpAt]⟩⟩
      | true =>
        have hok : Pk.ok ⟨f, t, p, h, i, a, m, u, xs⟩ = true := h1
        have hbd : (0 ≤ h ∧ h ≤ 255) ∧ xs.length ≤ 48 := ok_h hok
        rw [fwD_yes (s := ⟨b, l⟩) h0 hok]
        by_cases ht : t = b
        · have ht1 : (t = b) = True := eq_true ht
          have ht2 : (t == b) = true := by simp [ht]
          have e : fwD ⟨b, l⟩ ⟨f, t, p, h, i, a, m, u, xs⟩ = ⟨1, 0, [⟨f, t, p, h, i, a, m, u, xs⟩]⟩ := by rw [fwD, if_pos ht]
          rw [e]
          simp (maxSteps := 3000000) only [Try.f99, fw4, g_stOk, g_packetOk, g_packetCopied, g_say, g_on, g_routeTo, rtsOf_rows, bytesOf_rows, rowsOf_len, rtRows_len, pRows, pRow, h0, h1, ht1, ht2, ↓reduceIte, Bool.false_eq_true, tYs, evL, implies_true, oMin, oCopy, oBin, oUn, oLoadKid, oStoreTree, oField, oExtract, oNil, oSliceQ, oLoadRow, takeCells, TS.atRow, TS.ex, treeMode, AV.isOwn, TK.isSl, nilTk, nilsB, oLenQ, oLen, nodupB, treeOf, kidAbs, kidRows, TK.isCell, D.toL, oLoad, oStore, oMake, oIndexAddr, ↓reduceIte, reduceCtorEq, Nat.reduceBEq, Nat.reduceAdd, Nat.reduceMul, Nat.reduceLT, Nat.reduceSub, Nat.reduceLeDiff, Nat.reduceEqDiff, Nat.reduceBneDiff, Int.reduceToNat, decide_eq_true_eq, decide_eq_false_iff_not, beq_iff_eq, Int.toNat_natCast]
          refine ⟨⟨l, rfl, by omega⟩, ?_⟩
          refine ⟨⟨xs, rfl, hxl⟩, ?_⟩
          exact ⟨_, [(0, some _)], rfl, ⟨⟨⟨rfl, rfl, rfl⟩, trivial⟩, ⟨.inl rfl, rfl, rfl, rfl, trivial⟩, by simp [rn, hpAt]⟩⟩
        · have ht1 : (t = b) = False := eq_false ht
          have ht2 : (t == b) = false := by simp [ht]
          by_cases hh : h < 2
          · have hh1 : (h < 2) = True := eq_true hh
            have e : fwD ⟨b, l⟩ ⟨f, t, p, h, i, a, m, u, xs⟩ = sayD ⟨b, l⟩ ⟨f, t, p, h, i, a, m, u, xs⟩ 4 0 := by rw [fwD, if_neg ht, if_pos hh]
            rw [e]
            simp (maxSteps := 3000000) only [Try.f99, fw4, g_stOk, g_packetOk, g_packetCopied, g_say, g_on, g_routeTo, rtsOf_rows, bytesOf_rows, rowsOf_len, rtRows_len, pRows, pRow, h0, h1, ht1, ht2, hh1, ↓reduceIte, Bool.false_eq_true, tYs, evL, implies_true, oMin, oCopy, oBin, oUn, oLoadKid, oStoreTree, oField, oExtract, oNil, oSliceQ, oLoadRow, takeCells, TS.atRow, TS.ex, treeMode, AV.isOwn, TK.isSl, nilTk, nilsB, oLenQ, oLen, nodupB, treeOf, kidAbs, kidRows, TK.isCell, D.toL, oLoad, oStore, oMake, oIndexAddr, ↓reduceIte, reduceCtorEq, Nat.reduceBEq, Nat.reduceAdd, Nat.reduceMul, Nat.reduceLT, Nat.reduceSub, Nat.reduceLeDiff, Nat.reduceEqDiff, Nat.reduceBneDiff, Int.reduceToNat, decide_eq_true_eq, decide_eq_false_iff_not, beq_iff_eq, Int.toNat_natCast]
            refine ⟨⟨l, rfl, by omega⟩, ⟨⟨l, rfl, hll⟩, xs, rfl, hxl⟩, ?_⟩
            exact ⟨_, [(0, some _)], rfl, ⟨⟨⟨rfl, rfl, rfl⟩, trivial⟩, ⟨.inl rfl, rfl, rfl, rfl, trivial⟩, by simp [rn, hpAt]⟩⟩
          · have hh1 : (h < 2) = False := eq_false hh
            obtain hl | ⟨r, hl⟩ : lastFit l t = none ∨ ∃ r, lastFit l t = some r := by cases lastFit l t <;> simp
            · have hv : toV l t = (rt0, false) := toV_none (stB_of h0) hl
              have e : fwD ⟨b, l⟩ ⟨f, t, p, h, i, a, m, u, xs⟩ = sayD ⟨b, l⟩ ⟨f, t, p, h, i, a, m, u, xs⟩ 3 0 := by rw [fwD, if_neg ht, if_neg hh, hl]
              rw [e]
              simp (maxSteps := 3000000) only [Try.f99, fw4, g_stOk, g_packetOk, g_packetCopied, g_say, g_on, g_routeTo, rtsOf_rows, bytesOf_rows, rowsOf_len, rtRows_len, pRows, pRow, h0, h1, ht1, ht2, hh1, hv, ↓reduceIte, Bool.false_eq_true, tYs, evL, implies_true, oMin, oCopy, oBin, oUn, oLoadKid, oStoreTree, oField, oExtract, oNil, oSliceQ, oLoadRow, takeCells, TS.atRow, TS.ex, treeMode, AV.isOwn, TK.isSl, nilTk, nilsB, oLenQ, oLen, nodupB, treeOf, kidAbs, kidRows, TK.isCell, D.toL, oLoad, oStore, oMake, oIndexAddr, ↓reduceIte, reduceCtorEq, Nat.reduceBEq, Nat.reduceAdd, Nat.reduceMul, Nat.reduceLT, Nat.reduceSub, Nat.reduceLeDiff, Nat.reduceEqDiff, Nat.reduceBneDiff, Int.reduceToNat, decide_eq_true_eq, decide_eq_false_iff_not, beq_iff_eq, Int.toNat_natCast]
              refine ⟨⟨l, rfl, by omega⟩, ⟨l, rfl, by omega⟩, ⟨⟨l, rfl, hll⟩, xs, rfl, hxl⟩, ?_⟩
              exact ⟨_, [(0, some _)], rfl, ⟨⟨⟨rfl, rfl, rfl⟩, trivial⟩, ⟨.inl rfl, rfl, rfl, rfl, trivial⟩, by simp [rn, hpAt]⟩⟩
            · have hv : toV l t = (r, true) := toV_yes (stB_of h0) hl
              have e0 : fwD ⟨b, l⟩ ⟨f, t, p, h, i, a, m, u, xs⟩ = wayD ⟨b, l⟩ ⟨f, t, p, h, i, a, m, u, xs⟩ r := by rw [fwD, if_neg ht, if_neg hh, hl]
              have hr := fit_route (s := ⟨b, l⟩) h0 hl
              rw [e0]
              by_cases hm : r.m < (xs.length : Int)
              · have hm1 : ((xs.length : Int) > r.m) = True := eq_true hm
                cases u with
                | true =>
                  have e : wayD ⟨b, l⟩ ⟨f, t, p, h, i, a, m, true, xs⟩ r = sayD ⟨b, l⟩ ⟨f, t, p, h, i, a, m, true, xs⟩ 6 r.m := if_pos (by rw [decide_eq_true hm]; rfl)
                  rw [e]
                  simp (maxSteps := 3000000) only [Try.f99, fw4, g_stOk, g_packetOk, g_packetCopied, g_say, g_on, g_routeTo, rtsOf_rows, bytesOf_rows, rowsOf_len, rtRows_len, pRows, pRow, h0, h1, ht1, ht2, hh1, hv, hm1, ↓reduceIte, Bool.false_eq_true, tYs, evL, implies_true, oMin, oCopy, oBin, oUn, oLoadKid, oStoreTree, oField, oExtract, oNil, oSliceQ, oLoadRow, takeCells, TS.atRow, TS.ex, treeMode, AV.isOwn, TK.isSl, nilTk, nilsB, oLenQ, oLen, nodupB, treeOf, kidAbs, kidRows, TK.isCell, D.toL, oLoad, oStore, oMake, oIndexAddr, ↓reduceIte, reduceCtorEq, Nat.reduceBEq, Nat.reduceAdd, Nat.reduceMul, Nat.reduceLT, Nat.reduceSub, Nat.reduceLeDiff, Nat.reduceEqDiff, Nat.reduceBneDiff, Int.reduceToNat, decide_eq_true_eq, decide_eq_false_iff_not, beq_iff_eq, Int.toNat_natCast]
                  refine ⟨⟨l, rfl, by omega⟩, ⟨l, rfl, by omega⟩, ⟨⟨l, rfl, hll⟩, xs, rfl, hxl⟩, ?_⟩
                  exact ⟨_, [(0, some _)], rfl, ⟨⟨⟨rfl, rfl, rfl⟩, trivial⟩, ⟨.inl rfl, rfl, rfl, rfl, trivial⟩, by simp [rn, hpAt]⟩⟩
                | false =>
                  have e : wayD ⟨b, l⟩ ⟨f, t, p, h, i, a, m, false, xs⟩ r = onD ⟨f, t, p, h, i, a, m, false, xs⟩ r := if_neg (by rw [Bool.and_false]; decide)
                  rw [e]
                  simp (maxSteps := 3000000) only [Try.f99, fw4, g_stOk, g_packetOk, g_packetCopied, g_say, g_on, g_routeTo, rtsOf_rows, bytesOf_rows, rowsOf_len, rtRows_len, pRows, pRow, h0, h1, ht1, ht2, hh1, hv, hm1, ↓reduceIte, Bool.false_eq_true, tYs, evL, implies_true, oMin, oCopy, oBin, oUn, oLoadKid, oStoreTree, oField, oExtract, oNil, oSliceQ, oLoadRow, takeCells, TS.atRow, TS.ex, treeMode, AV.isOwn, TK.isSl, nilTk, nilsB, oLenQ, oLen, nodupB, treeOf, kidAbs, kidRows, TK.isCell, D.toL, oLoad, oStore, oMake, oIndexAddr, ↓reduceIte, reduceCtorEq, Nat.reduceBEq, Nat.reduceAdd, Nat.reduceMul, Nat.reduceLT, Nat.reduceSub, Nat.reduceLeDiff, Nat.reduceEqDiff, Nat.reduceBneDiff, Int.reduceToNat, decide_eq_true_eq, decide_eq_false_iff_not, beq_iff_eq, Int.toNat_natCast]
                  refine ⟨⟨l, rfl, by omega⟩, ⟨l, rfl, by omega⟩, ⟨by omega, xs, rfl, hxl⟩, ?_⟩
                  exact ⟨_, [(0, some _)], rfl, ⟨⟨⟨rfl, rfl, rfl⟩, trivial⟩, ⟨.inl rfl, rfl, rfl, rfl, trivial⟩, by simp [rn, hpAt]⟩⟩
              · have hm1 : ((xs.length : Int) > r.m) = False := eq_false (by omega)
                have e : wayD ⟨b, l⟩ ⟨f, t, p, h, i, a, m, u, xs⟩ r = onD ⟨f, t, p, h, i, a, m, u, xs⟩ r := if_neg (by rw [decide_eq_false hm, Bool.false_and]; decide)
                rw [e]
                cases u with
                | true =>
                  simp (maxSteps := 3000000) only [Try.f99, fw4, g_stOk, g_packetOk, g_packetCopied, g_say, g_on, g_routeTo, rtsOf_rows, bytesOf_rows, rowsOf_len, rtRows_len, pRows, pRow, h0, h1, ht1, ht2, hh1, hv, hm1, ↓reduceIte, Bool.false_eq_true, tYs, evL, implies_true, oMin, oCopy, oBin, oUn, oLoadKid, oStoreTree, oField, oExtract, oNil, oSliceQ, oLoadRow, takeCells, TS.atRow, TS.ex, treeMode, AV.isOwn, TK.isSl, nilTk, nilsB, oLenQ, oLen, nodupB, treeOf, kidAbs, kidRows, TK.isCell, D.toL, oLoad, oStore, oMake, oIndexAddr, ↓reduceIte, reduceCtorEq, Nat.reduceBEq, Nat.reduceAdd, Nat.reduceMul, Nat.reduceLT, Nat.reduceSub, Nat.reduceLeDiff, Nat.reduceEqDiff, Nat.reduceBneDiff, Int.reduceToNat, decide_eq_true_eq, decide_eq_false_iff_not, beq_iff_eq, Int.toNat_natCast]
                  refine ⟨⟨l, rfl, by omega⟩, ⟨l, rfl, by omega⟩, ⟨by omega, xs, rfl, hxl⟩, ?_⟩
                  exact ⟨_, [(0, some _)], rfl, ⟨⟨⟨rfl, rfl, rfl⟩, trivial⟩, ⟨.inl rfl, rfl, rfl, rfl, trivial⟩, by simp [rn, hpAt]⟩⟩
                | false =>
                  simp (maxSteps := 3000000) only [Try.f99, fw4, g_stOk, g_packetOk, g_packetCopied, g_say, g_on, g_routeTo, rtsOf_rows, bytesOf_rows, rowsOf_len, rtRows_len, pRows, pRow, h0, h1, ht1, ht2, hh1, hv, hm1, ↓reduceIte, Bool.false_eq_true, tYs, evL, implies_true, oMin, oCopy, oBin, oUn, oLoadKid, oStoreTree, oField, oExtract, oNil, oSliceQ, oLoadRow, takeCells, TS.atRow, TS.ex, treeMode, AV.isOwn, TK.isSl, nilTk, nilsB, oLenQ, oLen, nodupB, treeOf, kidAbs, kidRows, TK.isCell, D.toL, oLoad, oStore, oMake, oIndexAddr, ↓reduceIte, reduceCtorEq, Nat.reduceBEq, Nat.reduceAdd, Nat.reduceMul, Nat.reduceLT, Nat.reduceSub, Nat.reduceLeDiff, Nat.reduceEqDiff, Nat.reduceBneDiff, Int.reduceToNat, decide_eq_true_eq, decide_eq_false_iff_not, beq_iff_eq, Int.toNat_natCast]
                  refine ⟨⟨l, rfl, by omega⟩, ⟨l, rfl, by omega⟩, ⟨by omega, xs, rfl, hxl⟩, ?_⟩
                  exact ⟨_, [(0, some _)], rfl, ⟨⟨⟨rfl, rfl, rfl⟩, trivial⟩, ⟨.inl rfl, rfl, rfl, rfl, trivial⟩, by simp [rn, hpAt]⟩⟩
  · cases hg
end Go.Proofs.Ytegffkmakkccaaa
