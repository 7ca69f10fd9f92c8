import Derived.Test.YtegffkmakkccaaaVa
set_option linter.unusedVariables false
set_option linter.unusedSimpArgs false
namespace Go.Proofs.Ytegffkmakkccaaa
open Go.RowKit
set_option linter.unusedSimpArgs false
def pkH (f t p h i a : Int) (m u : Bool) (n : Nat) : List UInt8 := bytesOf f 2 ++ (bytesOf t 2 ++ [toU8 p, toU8 h, toU8 i, toU8 a, toU8 (pkK m u), toU8 n])
def pkV (f t p h i a : Int) (m u : Bool) (xs : List UInt8) : List UInt8 :=
  if pkB f t p h i a m u xs.length = true then pkH f t p h i a m u xs.length ++ (bytesOf (sumOf (pkH f t p h i a m u xs.length)) 2 ++ xs) else []
theorem pkK_wrap (m u : Bool) : IntKind.u8.wrap (pkK m u) = pkK m u := by cases m <;> cases u <;> kernel_rfl
theorem pkH_len (f t p h i a : Int) (m u : Bool) (n : Nat) : (pkH f t p h i a m u n).length ≤ 14 := by
  have h1 := bytesOf_len f 2
  have h2 := bytesOf_len t 2
  simp only [pkH, List.length_append, List.length_cons, List.length_nil]
  omega
theorem pkH_rows (f t p h i a : Int) (m u : Bool) (n : Nat) : rowsOfBytes (bytesOf f 2) ++ (rowsOfBytes (bytesOf t 2) ++ [[D.v (Value.int IntKind.u8 (IntKind.u8.wrap p))], [D.v (Value.int IntKind.u8 (IntKind.u8.wrap h))], [D.v (Value.int IntKind.u8 (IntKind.u8.wrap i))], [D.v (Value.int IntKind.u8 (IntKind.u8.wrap a))], [D.v (Value.int IntKind.u8 (pkK m u))], [D.v (Value.int IntKind.u8 (IntKind.u8.wrap (n : Int)))]]) = rowsOfBytes (pkH f t p h i a m u n) := by
  rw [pkH, ← rowsOf_app, ← rowsOf_app]
  simp [rowsOfBytes, toU8_val, pkK_wrap]
theorem pkR_of {f t p h i a : Int} {m u : Bool} {n : Nat} (h0 : pkB f t p h i a m u n = true) : (((0 ≤ f ∧ f ≤ 65535) ∧ (0 ≤ t ∧ t ≤ 65535)) ∧ (0 ≤ p ∧ p ≤ 255) ∧ (0 ≤ h ∧ h ≤ 255) ∧ (0 ≤ i ∧ i ≤ 255) ∧ (0 ≤ a ∧ a ≤ 255) ∧ n ≤ 48) := by
  rw [pkB, Bool.and_eq_true, pkR, decide_eq_true_eq] at h0
  exact h0.1
def g_l4Head : PC := fun args => match args with
  | [.agg [.v (.int .i64 f), .v (.int .i64 t), .v (.int .i64 p), .v (.int .i64 h), .v (.int .i64 i), .v (.int .i64 a), .v (.bool m), .v (.bool u), .l _ rows]] => some (pkB f t p h i a m u rows.length = true ∧ ∃ xs, rows = rowsOfBytes xs, .own 0, [.sl 5 1 (rowsOfBytes (pkH f t p h i a m u rows.length))])
  | _ => none
def g_packetBytes : PC := fun args => match args with
  | [.agg [.v (.int .i64 f), .v (.int .i64 t), .v (.int .i64 p), .v (.int .i64 h), .v (.int .i64 i), .v (.int .i64 a), .v (.bool m), .v (.bool u), .l _ rows]] => some (∃ xs, rows = rowsOfBytes xs, .own 0, [.sl 5 1 (rowsOfBytes (pkV f t p h i a m u (bytesOfRows rows)))])
  | _ => none
def pk5 : List (FuncId × Abs) := [(19, pureAbs g_packetOk), (57, pureAbs g_bytesOf), (175, pureAbs g_sumOf), (174, pureAbs g_pkKi)]
theorem pk5_ok : ∀ p ∈ pk5, CallOk Try.prog p.1 p.2 := by
  intro p hp
  simp only [pk5, List.mem_cons, List.not_mem_nil, or_false] at hp
  rcases hp with rfl | rfl | rfl | rfl
  · exact implPacketOk_ok.call
  · exact implBytesOf_ok.call
  · exact implSumOf_ok.call
  · exact packetMarks_ok.call
set_option maxRecDepth 100000 in
theorem implPacketBytes_ok : PureOk Try.prog 171 g_packetBytes := by
  refine PureOk.of_vc (G := pk5) pk5_ok mixed Try.func171 (by kernel_rfl) rfl ?_
  intro args cnd r bs hg hc
  unfold g_packetBytes at hg
  split at hg
  · rename_i f t p h i a m u sz rows
    cases hg
    obtain ⟨xs, rfl⟩ := hc
    rw [bytesOf_rows]
    obtain ⟨H, hH⟩ : ∃ H, H = pkH f t p h i a m u xs.length := ⟨_, rfl⟩
    have hh := pkH_rows f t p h i a m u xs.length
    rw [← hH] at hh
    refine ⟨⟨rfl, by simpa [flatB] using rowsOf_flat (pkV f t p h i a m u xs), by simp [AV.ids]⟩, [.agg [.v (.int .i64 f), .v (.int .i64 t), .v (.int .i64 p), .v (.int .i64 h), .v (.int .i64 i), .v (.int .i64 a), .v (.bool m), .v (.bool u), .l 1 (rowsOfBytes xs)]], rfl, fun w vs h => CvL.ok (.cons (.cons (.refl _) (.cons (.refl _) (.cons (.refl _) (.cons (.refl _) (.cons (.refl _) (.cons (.refl _) (.cons (.refl _) (.cons (.refl _) (.cons (.l _ _ _ (rowsOf_w xs)) .nil))))))))) .nil) h, ?_⟩
    simp (maxSteps := 3000000) only [Try.f171, pk5, g_packetOk, g_bytesOf, g_sumOf, g_pkKi, g_l4Head, bytesOf_rows, rowsOf_len, hh, ← hH, tYs, evL, implies_true, oMin, oCopy, oBin, oUn, oLoadKid, oStoreTree, oField, oExtract, oNil, oSliceQ, oLoadRow, takeCells, TS.atRow, TS.ex, treeMode, AV.isOwn, TK.isSl, nilTk, nilsB, oLenQ, oLen, nodupB, treeOf, kidAbs, kidRows, TK.isCell, D.toL, oLoad, oStore, oMake, oIndexAddr, ↓reduceIte, reduceCtorEq, Nat.reduceBEq, Nat.reduceAdd, Nat.reduceMul, Nat.reduceLT, Nat.reduceSub, Nat.reduceLeDiff, Nat.reduceEqDiff, Nat.reduceBneDiff, Int.reduceToNat, decide_eq_true_eq, decide_eq_false_iff_not, beq_iff_eq, Int.toNat_natCast]
    have h3 := bytesOf_len f 2
    have h4 := bytesOf_len t 2
    have h5 := bytesOf_len (sumOf H) 2
    have h6 := pkH_len f t p h i a m u xs.length
    have h7 := (sumOf_bd H).2
    rw [← hH] at h6
    by_cases hok : pkB f t p h i a m u xs.length = true
    · have hk := pkR_of hok
      rw [if_neg (by simp [hok])]
      have w1 : IntKind.i64.wrap (12 + (xs.length : Int)) = 12 + (xs.length : Int) := wrap_id (by omega) (by omega)
      rw [w1]
      (repeat (refine And.intro ?_ ?_; focus (((repeat' apply And.intro) <;> first | exact rowsOf_w _ | omega | (simp only [List.length_append, rowsOf_len, List.length_cons, List.length_nil, marks_len, List.length_take, List.length_drop, List.length_set]; omega) | exact ⟨_, rfl⟩ | (refine ⟨_, rfl, ?_⟩; omega) | (refine ⟨_, rfl, ?_⟩; simp only [List.length_append, rowsOf_len, List.length_cons, List.length_nil, marks_len, List.length_take, List.length_drop, List.length_set]; omega) | kernel_rfl | (simp; done)); done)))
      refine ⟨_, [(0, some 928)], rfl, ?_⟩
      rw [pkV, if_pos hok, ← hH, ← rowsOf_app, ← rowsOf_app]
      clear h3 h4 h5 h6 h7 hh hH hk hok w1
      (refine ⟨?_, ?_, ?_⟩ <;> simp [packA, hpAt, fitT, fit1, fitH, fitB, trE, emptyB, rn, lk, AV.ren, AV.ren.renL, Blk.ren, blkIds, blkPids, AV.ids, AV.ids.idsL, AV.pids, AV.pids.pidsL, Blk.there])
    · rw [if_pos (by simp [hok])]
      rw [pkV, if_neg hok, rowsOf_nil]
      refine ⟨_, [(0, none)], rfl, ?_⟩
      (refine ⟨?_, ?_, ?_⟩ <;> simp [packA, hpAt, fitT, fit1, fitH, fitB, trE, emptyB, rn, lk, AV.ren, AV.ren.renL, Blk.ren, blkIds, blkPids, AV.ids, AV.ids.idsL, AV.pids, AV.pids.pidsL, Blk.there])
      rfl
  · cases hg
end Go.Proofs.Ytegffkmakkccaaa
