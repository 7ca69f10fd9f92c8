import Derived.Test.YtegffkmakkccaaaVb
set_option linter.unusedVariables false
set_option linter.unusedSimpArgs false
namespace Go.Proofs.Ytegffkmakkccaaa
open Go.RowKit
set_option linter.unusedSimpArgs false
def noteB (k n : Int) (l : Nat) : Bool := decide ((1 ≤ k ∧ k ≤ 6) ∧ (0 ≤ n ∧ n ≤ 65535) ∧ l ≤ 20)
def ntV (k n : Int) (xs : List UInt8) : List UInt8 := if noteB k n xs.length = true then toU8 k :: (bytesOf n 2 ++ toU8 (xs.length : Int) :: xs) else []
def nfHead (xs : List UInt8) : Bool := decide (4 ≤ xs.length ∧ (xs.getD 3 0).toNat + 4 = xs.length)
def nfB (xs : List UInt8) : Bool := noteB ((xs.getD 0 0).toNat : Int) (numAt xs 1 2) (xs.drop 4).length
def nfOk (xs : List UInt8) : Bool := nfHead xs && nfB xs
def nfK (xs : List UInt8) : Int := if nfOk xs = true then ((xs.getD 0 0).toNat : Int) else 0
def nfN (xs : List UInt8) : Int := if nfOk xs = true then numAt xs 1 2 else 0
def nfD (xs : List UInt8) : List UInt8 := if nfOk xs = true then xs.drop 4 else []
theorem noteB_of {k n : Int} {l : Nat} (h : noteB k n l = true) : (1 ≤ k ∧ k ≤ 6) ∧ (0 ≤ n ∧ n ≤ 65535) ∧ l ≤ 20 := of_decide_eq_true h
theorem nt_rows (k n : Int) (xs : List UInt8) (h : noteB k n xs.length = true) : rowsOfBytes (ntV k n xs) = [D.v (.int .u8 (IntKind.u8.wrap k))] :: (rowsOfBytes (bytesOf n 2) ++ [D.v (.int .u8 (IntKind.u8.wrap (xs.length : Int)))] :: rowsOfBytes xs) := by
  rw [ntV, if_pos h, ← toU8_val, ← toU8_val]
  simp [rowsOfBytes]
theorem nf_pos {xs : List UInt8} (h : nfOk xs = true) : nfK xs = ((xs.getD 0 0).toNat : Int) ∧ nfN xs = numAt xs 1 2 ∧ nfD xs = xs.drop 4 := by
  refine ⟨?_, ?_, ?_⟩
  · rw [nfK, if_pos h]
  · rw [nfN, if_pos h]
  · rw [nfD, if_pos h]
theorem nf_neg {xs : List UInt8} (h : nfOk xs = false) : nfK xs = 0 ∧ nfN xs = 0 ∧ nfD xs = [] := by
  refine ⟨?_, ?_, ?_⟩
  · rw [nfK, if_neg (by rw [h]; decide)]
  · rw [nfN, if_neg (by rw [h]; decide)]
  · rw [nfD, if_neg (by rw [h]; decide)]
def g_noteOk : PC := fun args => match args with
  | [.agg [.v (.int .i64 k), .v (.int .i64 n), .l _ rows]] => some (True, .v (.bool (noteB k n rows.length)), [])
  | _ => none
def g_noteBytes : PC := fun args => match args with
  | [.agg [.v (.int .i64 k), .v (.int .i64 n), .l _ rows]] => some (∃ xs, rows = rowsOfBytes xs, .own 0, [.sl 5 1 (rowsOfBytes (ntV k n (bytesOfRows rows)))])
  | _ => none
def g_noteFrom : PC := fun args => match args with
  | [.l _ rows] => some (∃ xs, rows = rowsOfBytes xs ∧ xs.length ≤ 1048576, .tup [.agg [.v (.int .i64 (nfK (bytesOfRows rows))), .v (.int .i64 (nfN (bytesOfRows rows))), .own 0], .v (.bool (nfOk (bytesOfRows rows)))], [.sl 5 1 (rowsOfBytes (nfD (bytesOfRows rows)))])
  | _ => none
def nt1 : List (FuncId × Abs) := [(133, pureAbs g_isPair)]
theorem nt1_ok : ∀ p ∈ nt1, CallOk Try.prog p.1 p.2 := by
  intro p hp
  simp only [nt1, List.mem_cons, List.not_mem_nil, or_false] at hp
  rcases hp with rfl
  · exact isPair_ok.call
set_option maxRecDepth 100000 in
theorem implNoteOk_ok : PureOk Try.prog 81 g_noteOk := by
  refine PureOk.of_vc (G := nt1) nt1_ok mixed Try.func81 (by kernel_rfl) rfl ?_
  intro args cnd r bs hg hc
  unfold g_noteOk at hg
  split at hg
  · rename_i k n sz rows
    cases hg
    refine ⟨⟨rfl, by simp, by simp [AV.ids, AV.ids.idsL]⟩, _, rfl, fun w vs h => h, ?_⟩
    simp (maxSteps := 3000000) only [Try.f81, nt1, g_isPair, tYs, evL, implies_true, oMin, oCopy, oBin, oUn, oLoadKid, oStoreTree, oField, oExtract, oNil, oSliceQ, oLoadRow, takeCells, TS.atRow, TS.ex, treeMode, AV.isOwn, TK.isSl, nilTk, nilsB, oLenQ, oLen, nodupB, treeOf, kidAbs, kidRows, TK.isCell, D.toL, oLoad, oStore, oMake, oIndexAddr, ↓reduceIte, reduceCtorEq, Nat.reduceBEq, Nat.reduceAdd, Nat.reduceMul, Nat.reduceLT, Nat.reduceSub, Nat.reduceLeDiff, Nat.reduceEqDiff, Nat.reduceBneDiff, Int.reduceToNat, decide_eq_true_eq, decide_eq_false_iff_not, beq_iff_eq, Int.toNat_natCast]
    repeat' split
    all_goals (refine ⟨_, [], rfl, ⟨⟨⟨?_, rfl, rfl⟩, trivial⟩, by simp [hpAt, fitH], by simp [hpAt]⟩⟩; refine congrArg (fun b => AV.v (Value.bool b)) ?_; first | rfl | (rw [Bool.eq_iff_iff]; simp only [noteB, decide_eq_true_eq, inZ, Bool.and_eq_true, Bool.or_eq_true, bne_iff_ne, Bool.false_eq_true, beq_eq_false_iff_ne, beq_iff_eq, ne_eq, decide_eq_false_iff_not, Bool.not_eq_eq_eq_not, Bool.not_true, Bool.not_false, false_iff, iff_false, true_iff, iff_true] at *; omega))
  · cases hg
def nt3 : List (FuncId × Abs) := [(81, pureAbs g_noteOk), (57, pureAbs g_bytesOf)]
theorem nt3_ok : ∀ p ∈ nt3, CallOk Try.prog p.1 p.2 := by
  intro p hp
  simp only [nt3, List.mem_cons, List.not_mem_nil, or_false] at hp
  rcases hp with rfl | rfl
  · exact implNoteOk_ok.call
  · exact implBytesOf_ok.call
set_option maxHeartbeats 1000000 in
set_option maxRecDepth 100000 in
theorem implNoteBytes_ok : PureOk Try.prog 129 g_noteBytes := by
  refine PureOk.of_vc (G := nt3) nt3_ok mixed Try.func129 (by kernel_rfl) rfl ?_
  intro args cnd r bs hg hc
  unfold g_noteBytes at hg
  split at hg
  · rename_i k n sz rows
    cases hg
    obtain ⟨xs, rfl⟩ := hc
    rw [bytesOf_rows]
    have h2 := bytesOf_len n 2
    have w1 : noteB k n xs.length = true → IntKind.i64.wrap (4 + (xs.length : Int)) = 4 + (xs.length : Int) := fun h => by
      have := noteB_of h
      exact wrap_id (by omega) (by omega)
    refine ⟨⟨rfl, by simpa [flatB] using rowsOf_flat (ntV k n xs), by simp [AV.ids, AV.ids.idsL]⟩, [.agg [.v (.int .i64 k), .v (.int .i64 n), .l 1 (rowsOfBytes xs)]], rfl, fun w vs h => CvL.ok (.cons (.cons (.refl _) (.cons (.refl _) (.cons (.l _ _ _ (rowsOf_w xs)) .nil))) .nil) h, ?_⟩
    simp (maxSteps := 3000000) only [Try.f129, nt3, g_noteOk, g_bytesOf, bytesOf_rows, rowsOf_len, tYs, evL, implies_true, oMin, oCopy, oBin, oUn, oLoadKid, oStoreTree, oField, oExtract, oNil, oSliceQ, oLoadRow, takeCells, TS.atRow, TS.ex, treeMode, AV.isOwn, TK.isSl, nilTk, nilsB, oLenQ, oLen, nodupB, treeOf, kidAbs, kidRows, TK.isCell, D.toL, oLoad, oStore, oMake, oIndexAddr, ↓reduceIte, reduceCtorEq, Nat.reduceBEq, Nat.reduceAdd, Nat.reduceMul, Nat.reduceLT, Nat.reduceSub, Nat.reduceLeDiff, Nat.reduceEqDiff, Nat.reduceBneDiff, Int.reduceToNat, decide_eq_true_eq, decide_eq_false_iff_not, beq_iff_eq, Int.toNat_natCast]
    obtain ⟨b, hb⟩ : ∃ b, noteB k n xs.length = b := ⟨_, rfl⟩
    rw [hb]
    cases b
    · have e : ntV k n xs = [] := by rw [ntV, if_neg (by rw [hb]; decide)]
      rw [e]
      (repeat (refine And.intro ?_ ?_; focus (((repeat' apply And.intro) <;> first | exact rowsOf_w _ | omega | (simp only [List.length_append, rowsOf_len, List.length_cons, List.length_nil, marks_len, List.length_take, List.length_drop, List.length_set]; omega) | exact ⟨_, rfl⟩ | (refine ⟨_, rfl, ?_⟩; omega) | (refine ⟨_, rfl, ?_⟩; simp only [List.length_append, rowsOf_len, List.length_cons, List.length_nil, marks_len, List.length_take, List.length_drop, List.length_set]; omega) | kernel_rfl | (simp; done)); done)))
      exact ⟨_, [(0, none)], rfl, ⟨⟨⟨rfl, rfl, rfl⟩, trivial⟩, ⟨⟨by omega, rfl⟩, rfl, rfl, rfl, trivial⟩, by simp [rn, hpAt]⟩⟩
    · have hr := nt_rows k n xs hb
      have w := w1 hb
      have hk := noteB_of hb
      rw [hr]
      simp only [Bool.not_true, Bool.false_eq_true, ↓reduceIte, w]
      (repeat (refine And.intro ?_ ?_; focus (((repeat' apply And.intro) <;> first | exact rowsOf_w _ | omega | (simp only [List.length_append, rowsOf_len, List.length_cons, List.length_nil, marks_len, List.length_take, List.length_drop, List.length_set]; omega) | exact ⟨_, rfl⟩ | (refine ⟨_, rfl, ?_⟩; omega) | (refine ⟨_, rfl, ?_⟩; simp only [List.length_append, rowsOf_len, List.length_cons, List.length_nil, marks_len, List.length_take, List.length_drop, List.length_set]; omega) | kernel_rfl | (simp; done)); done)))
      exact ⟨_, [(0, some _)], rfl, ⟨⟨⟨rfl, rfl, rfl⟩, trivial⟩, ⟨.inl rfl, rfl, rfl, rfl, trivial⟩, by simp [rn, hpAt]⟩⟩
  · cases hg
def nt5 : List (FuncId × Abs) := [(81, pureAbs g_noteOk), (79, pureAbs g_numberAt), (80, pureAbs g_bytesCopied)]
theorem nt5_ok : ∀ p ∈ nt5, CallOk Try.prog p.1 p.2 := by
  intro p hp
  simp only [nt5, List.mem_cons, List.not_mem_nil, or_false] at hp
  rcases hp with rfl | rfl | rfl
  · exact implNoteOk_ok.call
  · exact implNumberAt_ok.call
  · exact bytesCopied_ok.call
set_option maxHeartbeats 1000000 in
set_option maxRecDepth 100000 in
theorem implNoteFrom_ok : PureOk Try.prog 23 g_noteFrom := by
  refine PureOk.of_vc (G := nt5) nt5_ok mixed Try.func23 (by kernel_rfl) rfl ?_
  intro args cnd r bs hg hc
  unfold g_noteFrom at hg
  split at hg
  · rename_i sz rows
    cases hg
    obtain ⟨xs, rfl, hl⟩ := hc
    rw [bytesOf_rows]
    have b0 := (xs.getD 0 0).toNat_lt
    have b3 := (xs.getD 3 0).toNat_lt
    have v0 : IntKind.i64.wrap ((xs.getD 0 0).toNat : Int) = ((xs.getD 0 0).toNat : Int) := wrap_id (by omega) (by omega)
    have v3 : IntKind.i64.wrap ((xs.getD 3 0).toNat : Int) = ((xs.getD 3 0).toNat : Int) := wrap_id (by omega) (by omega)
    have wl : IntKind.i64.wrap ((xs.length : Int) - 4) = (xs.length : Int) - 4 := wrap_id (by omega) (by omega)
    have hnb : noteB ((xs.getD 0 0).toNat : Int) (numAt xs 1 2) (xs.drop 4).length = nfB xs := rfl
    refine ⟨⟨rfl, by simpa [flatB] using rowsOf_flat (nfD xs), by simp [AV.ids, AV.ids.idsL]⟩, [.l 1 (rowsOfBytes xs)], rfl, fun w vs h => CvL.ok (.cons (.l _ _ _ (rowsOf_w xs)) .nil) h, ?_⟩
    simp (maxSteps := 3000000) only [Try.f23, nt5, g_noteOk, g_numberAt, bytesOf_rows, rowsOf_len, rowsOf_take, rowsOf_drop, row_toI, row_nil, row_head, v0, v3, wl, g_bytesCopied, tYs, evL, implies_true, oMin, oCopy, oBin, oUn, oLoadKid, oStoreTree, oField, oExtract, oNil, oSliceQ, oLoadRow, takeCells, TS.atRow, TS.ex, treeMode, AV.isOwn, TK.isSl, nilTk, nilsB, oLenQ, oLen, nodupB, treeOf, kidAbs, kidRows, TK.isCell, D.toL, oLoad, oStore, oMake, oIndexAddr, ↓reduceIte, reduceCtorEq, Nat.reduceBEq, Nat.reduceAdd, Nat.reduceMul, Nat.reduceLT, Nat.reduceSub, Nat.reduceLeDiff, Nat.reduceEqDiff, Nat.reduceBneDiff, Int.reduceToNat, decide_eq_true_eq, decide_eq_false_iff_not, beq_iff_eq, Int.toNat_natCast]
    simp only [List.take_length, hnb]
    by_cases h4 : ¬ (xs.length : Int) < 4
    · rw [if_pos h4]
      (repeat (refine And.intro ?_ ?_; focus (((repeat' apply And.intro) <;> first | exact rowsOf_w _ | omega | (simp only [List.length_append, rowsOf_len, List.length_cons, List.length_nil, marks_len, List.length_take, List.length_drop, List.length_set]; omega) | exact ⟨_, rfl⟩ | (refine ⟨_, rfl, ?_⟩; omega) | (refine ⟨_, rfl, ?_⟩; simp only [List.length_append, rowsOf_len, List.length_cons, List.length_nil, marks_len, List.length_take, List.length_drop, List.length_set]; omega) | kernel_rfl | (simp; done)); done)))
      by_cases h3 : (((xs.getD 3 0).toNat : Int) != (xs.length : Int) - 4) = true
      · rw [if_pos h3]
        simp only [bne_iff_ne, ne_eq] at h3
        have e : nfOk xs = false := by rw [nfOk]; rw [show nfHead xs = false from decide_eq_false (by omega), Bool.false_and]
        obtain ⟨n1, n2, n3⟩ := nf_neg e
        rw [e, n1, n2, n3, rowsOf_nil]
        exact ⟨_, [(0, none)], rfl, ⟨⟨⟨rfl, rfl, rfl⟩, trivial⟩, ⟨⟨by omega, rfl⟩, rfl, rfl, rfl, trivial⟩, by simp [rn, hpAt]⟩⟩
      · rw [if_neg h3]
        simp only [bne_iff_ne, ne_eq, Decidable.not_not] at h3
        (repeat (refine And.intro ?_ ?_; focus (((repeat' apply And.intro) <;> first | exact rowsOf_w _ | omega | (simp only [List.length_append, rowsOf_len, List.length_cons, List.length_nil, marks_len, List.length_take, List.length_drop, List.length_set]; omega) | exact ⟨_, rfl⟩ | (refine ⟨_, rfl, ?_⟩; omega) | (refine ⟨_, rfl, ?_⟩; simp only [List.length_append, rowsOf_len, List.length_cons, List.length_nil, marks_len, List.length_take, List.length_drop, List.length_set]; omega) | kernel_rfl | (simp; done)); done)))
        rcases hb : nfB xs with _ | _
        · rw [if_pos (by decide)]
          have e : nfOk xs = false := by rw [nfOk]; rw [hb, Bool.and_false]
          obtain ⟨n1, n2, n3⟩ := nf_neg e
          rw [e, n1, n2, n3, rowsOf_nil]
          exact ⟨_, [(0, none)], rfl, ⟨⟨⟨rfl, rfl, rfl⟩, trivial⟩, ⟨⟨by omega, rfl⟩, rfl, rfl, rfl, trivial⟩, by simp [rn, hpAt]⟩⟩
        · rw [if_neg (by decide)]
          have e : nfOk xs = true := by rw [nfOk, hb, Bool.and_true, nfHead, decide_eq_true_eq]; omega
          obtain ⟨n1, n2, n3⟩ := nf_pos e
          rw [e, n1, n2, n3]
          exact ⟨_, [(0, some _)], rfl, ⟨⟨⟨rfl, rfl, rfl⟩, trivial⟩, ⟨.inl rfl, rfl, rfl, rfl, trivial⟩, by simp [rn, hpAt]⟩⟩
    · rw [if_neg h4]
      have e : nfOk xs = false := by rw [nfOk]; rw [show nfHead xs = false from decide_eq_false (by omega), Bool.false_and]
      obtain ⟨n1, n2, n3⟩ := nf_neg e
      rw [e, n1, n2, n3, rowsOf_nil]
      exact ⟨_, [(0, none)], rfl, ⟨⟨⟨rfl, rfl, rfl⟩, trivial⟩, ⟨⟨by omega, rfl⟩, rfl, rfl, rfl, trivial⟩, by simp [rn, hpAt]⟩⟩
  · cases hg
end Go.Proofs.Ytegffkmakkccaaa
