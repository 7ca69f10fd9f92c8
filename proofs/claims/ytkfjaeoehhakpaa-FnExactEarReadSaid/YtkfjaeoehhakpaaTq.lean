import Derived.Test.YtkfjaeoehhakpaaTc
import Derived.Test.YtkfjaeoehhakpaaR6
set_option linter.unusedVariables false
set_option linter.unusedSimpArgs false
namespace Go.Proofs.Ytkfjaeoehhakpaa
open Go.RowKit
set_option linter.unusedSimpArgs false
theorem szLeft_eq {l : Int} {n : Nat} (hl : 0 ≤ l ∧ l ≤ 1048576) (hn : n ≤ 9223372036854775807) : szLeft l n = if IntKind.i64.wrap (l - (n : Int)) < 0 then -1 else IntKind.i64.wrap (l - (n : Int)) := by
  have w : IntKind.i64.wrap (l - (n : Int)) = l - (n : Int) := wrap_id (by omega) (by omega)
  rw [w]; rfl
theorem szLeft_bd {l : Int} {n : Nat} (hl : 0 ≤ l ∧ l ≤ 1048576) : -1 ≤ szLeft l n ∧ szLeft l n ≤ 1048576 ∧ (0 ≤ szLeft l n → n ≤ 1048576) := by
  unfold szLeft; split <;> omega
def g_szS : PC := fun args => match args with
  | [.l _ rows, .v (.int .i64 l)] => some ((0 ≤ l ∧ l ≤ 1048576) ∧ rows.length ≤ 9223372036854775807 ∧ ∃ sz, ∀ r ∈ rows, r.length = sz, .v (.int .i64 (szLeft l rows.length)), [])
  | _ => none
set_option maxRecDepth 100000 in
theorem szByteS_ok : PureOk Try.prog 30 g_szS := by
  refine PureOk.of_vc (G := []) (by simp) mixed Try.func30 (by kernel_rfl) rfl ?_
  intro args cnd r bs hg hc
  unfold g_szS at hg
  split at hg
  · rename_i sz rows l
    cases hg
    obtain ⟨hl, hn, s, hs⟩ := hc
    refine ⟨⟨rfl, by simp, by simp [AV.ids, AV.ids.idsL]⟩, [.l sz rows, .v (.int .i64 l)], rfl, fun w vs h => h, ?_⟩
    simp (maxSteps := 3000000) only [Try.f30, tYs, evL, implies_true, oMin, x_min3, oMin3, x_max, oMax, oCopy, oBin, oUn, oLoadKid, oStoreTree, oField, oExtract, oNil, oSliceQ, oSliceE, x_appendZ, oAppendZ, oSliceEnd, endMode, oLoadRow, takeCells, TS.atRow, TS.ex, treeMode, AV.isOwn, TK.isSl, nilTk, nilsB, oLenQ, oLen, nodupB, treeOf, kidAbs, kidRows, TK.isCell, D.toL, oLoad, oStore, oMake, oIndexAddr, ↓reduceIte, reduceCtorEq, Nat.reduceBEq, Nat.reduceAdd, Nat.reduceMul, Nat.reduceLT, Nat.reduceSub, Nat.reduceLeDiff, Nat.reduceEqDiff, Nat.reduceBneDiff, Int.reduceToNat, decide_eq_true_eq, decide_eq_false_iff_not, beq_iff_eq, Int.toNat_natCast]
    rw [szLeft_eq hl hn]
    split
    · exact ⟨_, [], rfl, by (refine ⟨?_, ?_, ?_⟩ <;> simp [packA, hpAt, fitT, fit1, fitH, fitB, trE, emptyB, rn, lk, AV.ren, AV.ren.renL, Blk.ren, blkIds, blkPids, AV.ids, AV.ids.idsL, AV.pids, AV.pids.pidsL, Blk.there])⟩
    · exact ⟨_, [], rfl, by (refine ⟨?_, ?_, ?_⟩ <;> simp [packA, hpAt, fitT, fit1, fitH, fitB, trE, emptyB, rn, lk, AV.ren, AV.ren.renL, Blk.ren, blkIds, blkPids, AV.ids, AV.ids.idsL, AV.pids, AV.pids.pidsL, Blk.there])⟩
  · cases hg
theorem map_of {α β : Type} (F : α → β) (p : α → Prop) : ∀ l : List β, (∀ b ∈ l, ∃ a, b = F a ∧ p a) → ∃ xa : List α, l = xa.map F ∧ ∀ a ∈ xa, p a
  | [], _ => ⟨[], rfl, fun a h => by cases h⟩
  | b :: l, h => by
    obtain ⟨a, ha, hp⟩ := h b (by simp)
    obtain ⟨xa, h1, h2⟩ := map_of F p l fun c hc => h c (by simp [hc])
    exact ⟨a :: xa, by rw [ha, h1]; rfl, fun c hc => by
      rcases List.mem_cons.1 hc with rfl | hc
      · exact hp
      · exact h2 c hc⟩
theorem wt_row {row : List KD} {d : D} (h : WT (.sl row) d) : ∃ rows, d = .l row.length rows ∧ rows.length ≤ maxLen ∧ ∀ r ∈ rows, r.length = row.length ∧ ∀ (j : Nat) k x, row[j]? = some k → r[j]? = some x → WT k x := by
  cases h with
  | sl row rows hn hl h =>
    refine ⟨rows, rfl, hn, fun r hr => ⟨hl r hr, fun j k x h1 h2 => ?_⟩⟩
    obtain ⟨i, hi, rfl⟩ := List.getElem_of_mem hr
    exact h i j k x h1 (by unfold rowAt; rw [List.getElem?_eq_getElem hi]; exact h2)
theorem wt_int {k : IntKind} {d : D} (h : WT (.int k) d) : ∃ n, d = .v (.int k n) ∧ (Lit.int k n).wf = true := by
  cases h with
  | int k n h => exact ⟨n, rfl, h⟩
theorem wt_bytes {d : D} (h : WT (.sl [.int .u8]) d) : ∃ xs : List UInt8, d = .l 1 (rowsOfBytes xs) ∧ xs.length ≤ maxLen := by
  obtain ⟨rows, rfl, hn, hr⟩ := wt_row h
  obtain ⟨xs, h1, _⟩ := map_of (fun x : UInt8 => [D.v (.int .u8 (x.toNat : Int))]) (fun _ => True) rows fun r hm => by
    obtain ⟨h1, h2⟩ := hr r hm
    match r, h1 with
    | [x], _ =>
      obtain ⟨n, rfl, hw⟩ := wt_int (h2 0 _ x rfl rfl)
      have hb : 0 ≤ n ∧ n ≤ 255 := by simpa [Lit.wf, IntKind.min, IntKind.max, IntKind.signed, IntKind.bits] using hw
      exact ⟨UInt8.ofNat n.toNat, by rw [UInt8.toNat_ofNat']; congr 3; omega, trivial⟩
  refine ⟨xs, by rw [h1]; rfl, ?_⟩
  rw [h1, List.length_map] at hn
  exact hn
theorem avr_rep {w : World} {Z : Nat → Prop} {L : Nat → Blk} {s : Nat → Value} {x u : Value} (h : Rep w Z (.v x) u) : AVR w Z L s (.v x) u := by
  cases h
  exact .v _
end Go.Proofs.Ytkfjaeoehhakpaa
