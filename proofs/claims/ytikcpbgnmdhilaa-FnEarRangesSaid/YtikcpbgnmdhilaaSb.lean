import Derived.Test.YtikcpbgnmdhilaaR5
import Derived.Test.YtikcpbgnmdhilaaTy
namespace Go.Proofs.Ytikcpbgnmdhilaa
open Go.RowKit
set_option linter.unusedSimpArgs false
theorem mixed : Try.prog.follows .mixedOrders = true := by kernel_rfl
theorem wrap_id {x : Int} (h1 : -9223372036854775808 ≤ x) (h2 : x ≤ 9223372036854775807) : IntKind.i64.wrap x = x := by
  rw [IntKind.wrap_i64]
  omega
theorem row_beyond (xs : List UInt8) (k : Nat) (h : xs.length ≤ k) : (rowsOfBytes xs).getD k [] = [] := by
  rw [List.getD, List.getElem?_eq_none (by rw [rowsOf_len]; omega)]; rfl
theorem row_toI (xs : List UInt8) (k : Nat) : (((rowsOfBytes xs).getD k []).headD (D.v undef)).toI = ((xs.getD k 0).toNat : Int) := by
  by_cases h : k < xs.length
  · rw [rowsOf_get _ _ h]; rfl
  · rw [row_beyond _ _ (by omega), List.getD, List.getElem?_eq_none (by omega)]; rfl
theorem row_nil (xs : List UInt8) (k : Nat) : ((rowsOfBytes xs).getD k [] = []) = (xs.length ≤ k) := by
  refine propext ⟨fun h => Nat.le_of_not_lt fun hk => ?_, row_beyond xs k⟩
  rw [rowsOf_get _ _ hk] at h; cases h
theorem row_head (xs : List UInt8) (k : Nat) (n : Int) : (((rowsOfBytes xs).getD k []).headD (D.v undef) = D.v (.int .u8 n)) = (k < xs.length ∧ ((xs.getD k 0).toNat : Int) = n) := by
  refine propext ⟨fun h => ?_, fun ⟨h, e⟩ => by rw [rowsOf_get _ _ h, e]; rfl⟩
  by_cases hk : k < xs.length
  · rw [rowsOf_get _ _ hk] at h
    simp at h
    exact ⟨hk, h⟩
  · rw [row_beyond _ _ (by omega)] at h
    cases h
theorem xorNN (X : Nat) (h : X < 9223372036854775808) : 0 ≤ bits .xor .i64 (X : Int) ((X / 64 : Nat) : Int) := by
  have hx : X ^^^ (X / 64) < 2 ^ 63 := Nat.xor_lt_two_pow (by omega) (by omega)
  have e1 : (BitVec.ofInt 64 (X : Int)).toNat = X := by rw [BitVec.ofInt_natCast, BitVec.toNat_ofNat]; exact Nat.mod_eq_of_lt (by omega)
  have e2 : (BitVec.ofInt 64 ((X / 64 : Nat) : Int)).toNat = X / 64 := by rw [BitVec.ofInt_natCast, BitVec.toNat_ofNat]; exact Nat.mod_eq_of_lt (by omega)
  show 0 ≤ IntKind.i64.wrap ((BitVec.ofInt 64 (X : Int) ^^^ BitVec.ofInt 64 ((X / 64 : Nat) : Int)).toNat : Int)
  rw [BitVec.toNat_xor, e1, e2, IntKind.wrap_i64]
  omega
def pickX (xs : List UInt8) (m : Nat) : Nat := (xs.getD (m % xs.length) 0).toNat * 131 + (xs.getD ((m * 7 + 3) % xs.length) 0).toNat * 1117 + m * 29 + m / xs.length * 53
def pickV (xs : List UInt8) (p n : Int) : Int :=
  if n < 1 ∨ xs.length = 0 then 0
  else if p < xs.length then ((xs.getD p.toNat 0).toNat : Int).tmod n
  else (bits .xor .i64 (pickX xs p.toNat : Int) ((pickX xs p.toNat / 64 : Nat) : Int)).tmod n
theorem pickX_lt (xs : List UInt8) (m : Nat) (h : m < 1099511627776) : pickX xs m < 922337203685477580 := by
  have h1 := (xs.getD (m % xs.length) 0).toNat_lt
  have h2 := (xs.getD ((m * 7 + 3) % xs.length) 0).toNat_lt
  have h3 : m / xs.length ≤ m := Nat.div_le_self _ _
  unfold pickX
  omega
theorem pickV_nonneg (xs : List UInt8) (p n : Int) (h : p < 1099511627776) : 0 ≤ pickV xs p n := by
  unfold pickV
  split
  · omega
  · split
    · exact Int.tmod_nonneg _ (by omega)
    · exact Int.tmod_nonneg _ (xorNN _ (by have := pickX_lt xs p.toNat (by omega); omega))
theorem pickV_lt (xs : List UInt8) (p n : Int) (hn : 1 ≤ n) : pickV xs p n < n := by
  unfold pickV
  split
  · omega
  · split <;> exact Int.tmod_lt_of_pos _ (by omega)
def g_pick : OC := fun args B0 => match args, B0 with
  | [.ptr r o, .v (.int .i64 n)], [.var T [.l 1 rows, .v (.int .i64 p)]] => some (T = 67 ∧ r = 0 ∧ o = 0 ∧ (∃ xs, rows = rowsOfBytes xs ∧ xs.length ≤ 2000) ∧ 0 ≤ p ∧ p < 1099511627776, .v (.int .i64 (pickV (bytesOfRows rows) p n)), [.var T [.l 1 rows, .v (.int .i64 (p + 1))]], [])
  | _, _ => none
set_option maxRecDepth 100000 in
theorem pick_ok : OwnOk Try.prog 40 g_pick := by
  refine OwnOk.of_vc (G := []) (by simp) mixed Try.func40 (by kernel_rfl) rfl ?_
  intro args B0 cnd r B1 bs hg hc hlive
  unfold g_pick at hg
  split at hg
  · rename_i r o n T rows p
    cases hg
    obtain ⟨rfl, rfl, rfl, ⟨xs, rfl, hl⟩, hp0, hp1⟩ := hc
    rw [bytesOf_rows]
    refine ⟨⟨by simp [likeBs, likeB], by simp [Blk.liveB, blkIds, AV.ids.idsL, AV.ids], by simp [AV.ids]⟩, _, rfl, fun w Z s vs h => h, ?_⟩
    clear hlive
    obtain ⟨m, rfl⟩ := Int.eq_ofNat_of_zero_le hp0
    have e1 : IntKind.i64.wrap ((m : Int) + 1) = (m : Int) + 1 := wrap_id (by omega) (by omega)
    have e2 : IntKind.i64.wrap ((m : Int) + 1 - 1) = (m : Int) := by rw [wrap_id] <;> omega
    obtain ⟨l, hl'⟩ : ∃ l, l = xs.length := ⟨_, rfl⟩
    obtain ⟨i1, hi1⟩ : ∃ i1, i1 = m % l := ⟨_, rfl⟩
    obtain ⟨i2, hi2⟩ : ∃ i2, i2 = (m * 7 + 3) % l := ⟨_, rfl⟩
    obtain ⟨q, hq⟩ : ∃ q, q = m / l := ⟨_, rfl⟩
    have lq : q ≤ m := by rw [hq]; exact Nat.div_le_self _ _
    obtain ⟨u, hu⟩ : ∃ u, u = (xs.getD i1 0).toNat := ⟨_, rfl⟩
    obtain ⟨v, hv⟩ : ∃ v, v = (xs.getD i2 0).toNat := ⟨_, rfl⟩
    obtain ⟨b, hb⟩ : ∃ b, b = (xs.getD m 0).toNat := ⟨_, rfl⟩
    have bu : u < 256 := by rw [hu]; exact UInt8.toNat_lt _
    have bv : v < 256 := by rw [hv]; exact UInt8.toNat_lt _
    have bb : b < 256 := by rw [hb]; exact UInt8.toNat_lt _
    have z1 : (m : Int).tmod (l : Int) = (i1 : Int) := by rw [hi1]; rfl
    have z2 : ((m : Int) * 7 + 3).tmod (l : Int) = (i2 : Int) := by rw [hi2]; rfl
    have z3 : (m : Int).tdiv (l : Int) = (q : Int) := by rw [hq]; rfl
    have y0 : IntKind.i64.wrap (u : Int) = (u : Int) := wrap_id (by omega) (by omega)
    have y1 : IntKind.i64.wrap (v : Int) = (v : Int) := wrap_id (by omega) (by omega)
    have y1' : IntKind.i64.wrap (b : Int) = (b : Int) := wrap_id (by omega) (by omega)
    have y2 : IntKind.i64.wrap ((u : Int) * 131) = ((u * 131 : Nat) : Int) := wrap_id (by omega) (by omega)
    have y3 : IntKind.i64.wrap ((v : Int) * 1117) = ((v * 1117 : Nat) : Int) := wrap_id (by omega) (by omega)
    have y4 : IntKind.i64.wrap ((m : Int) * 7) = (m : Int) * 7 := wrap_id (by omega) (by omega)
    have y5 : IntKind.i64.wrap ((m : Int) * 7 + 3) = (m : Int) * 7 + 3 := wrap_id (by omega) (by omega)
    have y6 : IntKind.i64.wrap (((u * 131 : Nat) : Int) + ((v * 1117 : Nat) : Int)) = ((u * 131 + v * 1117 : Nat) : Int) := by rw [wrap_id] <;> omega
    have y7 : IntKind.i64.wrap ((m : Int) * 29) = ((m * 29 : Nat) : Int) := by rw [wrap_id] <;> omega
    have y8 : IntKind.i64.wrap (((u * 131 + v * 1117 : Nat) : Int) + ((m * 29 : Nat) : Int)) = ((u * 131 + v * 1117 + m * 29 : Nat) : Int) := by rw [wrap_id] <;> omega
    have y9 : IntKind.i64.wrap (q : Int) = (q : Int) := wrap_id (by omega) (by omega)
    have y10 : IntKind.i64.wrap ((q : Int) * 53) = ((q * 53 : Nat) : Int) := by rw [wrap_id] <;> omega
    have y11 : IntKind.i64.wrap (((u * 131 + v * 1117 + m * 29 : Nat) : Int) + ((q * 53 : Nat) : Int)) = ((u * 131 + v * 1117 + m * 29 + q * 53 : Nat) : Int) := by rw [wrap_id] <;> omega
    have y12 : (((u * 131 + v * 1117 + m * 29 + q * 53 : Nat) : Int)).tdiv 64 = (((u * 131 + v * 1117 + m * 29 + q * 53) / 64 : Nat) : Int) := rfl
    have y13 : IntKind.i64.wrap (((u * 131 + v * 1117 + m * 29 + q * 53) / 64 : Nat) : Int) = (((u * 131 + v * 1117 + m * 29 + q * 53) / 64 : Nat) : Int) := wrap_id (by omega) (by omega)
    have ep : pickV xs (m : Int) n = if n < 1 ∨ l = 0 then 0 else if (m : Int) < (l : Int) then (b : Int).tmod n else (bits .xor .i64 ((u * 131 + v * 1117 + m * 29 + q * 53 : Nat) : Int) (((u * 131 + v * 1117 + m * 29 + q * 53) / 64 : Nat) : Int)).tmod n := by
      simp only [pickV, pickX, Int.toNat_natCast, ← hl', ← hi1, ← hi2, ← hq, ← hu, ← hv, ← hb]
    have li1 : 0 < l → i1 < l := fun h => by rw [hi1]; exact Nat.mod_lt _ h
    have li2 : 0 < l → i2 < l := fun h => by rw [hi2]; exact Nat.mod_lt _ h
    simp (maxSteps := 3000000) only [Try.f40, tYs, evL, implies_true, oMin, x_min3, oMin3, x_max, oMax, oCopy, oBin, oUn, oLoadKid, oStoreTree, oField, oExtract, oNil, oSliceQ, oSliceE, x_appendZ, oAppendZ, oSliceEnd, endMode, oLoadRow, takeCells, TS.atRow, TS.ex, treeMode, AV.isOwn, TK.isSl, nilTk, nilsB, oLenQ, oLen, nodupB, treeOf, kidAbs, kidRows, TK.isCell, D.toL, oLoad, oStore, oMake, oIndexAddr, ↓reduceIte, reduceCtorEq, Nat.reduceBEq, Nat.reduceAdd, Nat.reduceMul, Nat.reduceLT, Nat.reduceSub, Nat.reduceLeDiff, Nat.reduceEqDiff, Nat.reduceBneDiff, Int.reduceToNat, e1, e2, rowsOf_len, row_toI, row_nil, row_head, decide_eq_true_eq, decide_eq_false_iff_not, beq_iff_eq, Int.toNat_natCast, ← hl', z1, z2, z3, ← hu, ← hv, ← hb, y0, y1, y1', y2, y3, y4, y5, y6, y7, y8, y9, y10, y11, y12, y13]
    rw [ep]
    by_cases h1 : n < 1
    · rw [if_neg (by omega), if_pos (.inl h1)]
      exact ⟨[], by (refine ⟨?_, ?_, ?_⟩ <;> simp [fitT, fit1, fitH, fitB, trE, emptyB, rn, lk, AV.ren, AV.ren.renL, Blk.ren, blkIds, blkPids, AV.ids, AV.ids.idsL, AV.pids, AV.pids.pidsL, Blk.there]), by simp [keepIds, rn, List.range, List.range.loop]⟩
    · rw [if_pos h1]
      by_cases h2 : (l : Int) = 0
      · rw [if_pos h2]
        rw [if_pos (.inr (by omega))]
        exact ⟨[], by (refine ⟨?_, ?_, ?_⟩ <;> simp [fitT, fit1, fitH, fitB, trE, emptyB, rn, lk, AV.ren, AV.ren.renL, Blk.ren, blkIds, blkPids, AV.ids, AV.ids.idsL, AV.pids, AV.pids.pidsL, Blk.there]), by simp [keepIds, rn, List.range, List.range.loop]⟩
      · rw [if_neg h2]
        have := li1 (by omega)
        have := li2 (by omega)
        have hnot : ¬ (n < 1 ∨ l = 0) := by omega
        rw [if_neg hnot]
        by_cases h3 : (m : Int) < (l : Int)
        · rw [if_pos h3, if_pos h3]
          refine ⟨by omega, by omega, by omega, [], by (refine ⟨?_, ?_, ?_⟩ <;> simp [fitT, fit1, fitH, fitB, trE, emptyB, rn, lk, AV.ren, AV.ren.renL, Blk.ren, blkIds, blkPids, AV.ids, AV.ids.idsL, AV.pids, AV.pids.pidsL, Blk.there]), by simp [keepIds, rn, List.range, List.range.loop]⟩
        · rw [if_neg h3, if_neg h3]
          refine ⟨by omega, by omega, by omega, by omega, by omega, by omega, by omega, by kernel_rfl, by omega, by omega, [], by (refine ⟨?_, ?_, ?_⟩ <;> simp [fitT, fit1, fitH, fitB, trE, emptyB, rn, lk, AV.ren, AV.ren.renL, Blk.ren, blkIds, blkPids, AV.ids, AV.ids.idsL, AV.pids, AV.pids.pidsL, Blk.there]), by simp [keepIds, rn, List.range, List.range.loop]⟩
  · cases hg
end Go.Proofs.Ytikcpbgnmdhilaa
namespace Go.Proofs.Ytikcpbgnmdhilaa
open Go.RowKit
set_option linter.unusedSimpArgs false
def loopK {α : Type} (S0 : List Nat) (T : α → List AV) (H : α → HP) (φ : α → Prop) (μ : α → Nat) (x : α) (K : Post) : Post := fun e tm' hp' n' => match e with | .normal => ∃ y p, φ y ∧ μ y < μ x ∧ Fits tm' hp' (T y) (H y) p ∧ keepIds S0 (H y) p = true | e => K e tm' hp' n'
section
variable (P : Program) (G : List (FuncId × Abs)) (S0 : List Nat) (K : Post) (tm : List AV) (hp : HP) (n : Nat) (a : Code)
theorem e_loop {α : Type} (T : α → List AV) (H : α → HP) (φ : α → Prop) (μ : α → Nat) (n1 : Nat) (h1 : ∀ x, ((H x).all fun p => decide (p.1 < n1)) = true) (h2 : ∃ x p, φ x ∧ Fits tm hp (T x) (H x) p ∧ keepIds S0 (H x) p = true)
    (h3 : ∀ x, φ x → vc P G S0 a (loopK S0 T H φ μ x K) (T x) (H x) n1) : vc P G S0 (.loop a) K tm hp n := by
  rw [vc]
  exact ⟨α, T, H, φ, μ, n1, h1, h2, h3⟩
variable {α : Type} (T : α → List AV) (H : α → HP) (φ : α → Prop) (μ : α → Nat) (x : α)
theorem loopK_normal : loopK S0 T H φ μ x K .normal tm hp n = ∃ y p, φ y ∧ μ y < μ x ∧ Fits tm hp (T y) (H y) p ∧ keepIds S0 (H y) p = true := rfl
theorem loopK_ret : loopK S0 T H φ μ x K .ret tm hp n = K .ret tm hp n := rfl
theorem loopK_exit (id : Nat) : loopK S0 T H φ μ x K (.exit id) tm hp n = K (.exit id) tm hp n := rfl
end
def g_odd : OC := fun args B0 => match args, B0 with
  | [.ptr r o, .v (.int .i64 n)], [.var T [.l 1 rows, .v (.int .i64 p)]] => some (T = 67 ∧ r = 0 ∧ o = 0 ∧ (∃ xs, rows = rowsOfBytes xs ∧ xs.length ≤ 2000) ∧ 0 ≤ p ∧ p < 1099511627776 ∧ -1000000 ≤ n ∧ n ≤ 1000000,
      .v (.bool (decide (0 < n) && (pickV (bytesOfRows rows) p n == n - 1))), [.var T [.l 1 rows, .v (.int .i64 (p + if 0 < n then 1 else 0))]], [])
  | _, _ => none
def picks : List (FuncId × Abs) := [(40, ownAbs g_pick)]
theorem picks_ok : ∀ p ∈ picks, CallOk Try.prog p.1 p.2 := by
  intro p hp
  simp only [picks, List.mem_singleton] at hp
  subst hp
  exact pick_ok.call
set_option maxRecDepth 100000 in
theorem odd_ok : OwnOk Try.prog 47 g_odd := by
  refine OwnOk.of_vc (G := picks) picks_ok mixed Try.func47 (by kernel_rfl) rfl ?_
  intro args B0 cnd r B1 bs hg hc hlive
  unfold g_odd at hg
  split at hg
  · rename_i r o n T rows p
    cases hg
    obtain ⟨rfl, rfl, rfl, ⟨xs, rfl, hl⟩, hp0, hp1, hn, hn'⟩ := hc
    rw [bytesOf_rows]
    refine ⟨⟨by simp [likeBs, likeB], by simp [Blk.liveB, blkIds, AV.ids.idsL, AV.ids], by simp [AV.ids]⟩, _, rfl, fun w Z s vs h => h, ?_⟩
    clear hlive
    have wn : IntKind.i64.wrap (n - 1) = n - 1 := wrap_id (by omega) (by omega)
    simp (maxSteps := 3000000) only [Try.f47, picks, g_pick, bytesOf_rows, tYs, evL, implies_true, oMin, x_min3, oMin3, x_max, oMax, oCopy, oBin, oUn, oLoadKid, oStoreTree, oField, oExtract, oNil, oSliceQ, oSliceE, x_appendZ, oAppendZ, oSliceEnd, endMode, oLoadRow, takeCells, TS.atRow, TS.ex, treeMode, AV.isOwn, TK.isSl, nilTk, nilsB, oLenQ, oLen, nodupB, treeOf, kidAbs, kidRows, TK.isCell, D.toL, oLoad, oStore, oMake, oIndexAddr, ↓reduceIte, reduceCtorEq, Nat.reduceBEq, Nat.reduceAdd, Nat.reduceMul, Nat.reduceLT, Nat.reduceSub, Nat.reduceLeDiff, Nat.reduceEqDiff, Nat.reduceBneDiff, Int.reduceToNat, rowsOf_len, row_toI, row_nil, row_head, decide_eq_true_eq, decide_eq_false_iff_not, beq_iff_eq, Int.toNat_natCast]
    by_cases h : 0 < n
    · rw [if_pos h]
      simp only [h, if_true, decide_true, Bool.true_and]
      rw [wn]
      exact ⟨⟨⟨xs, rfl, hl⟩, hp0, hp1⟩, [], by (refine ⟨?_, ?_, ?_⟩ <;> simp [fitT, fit1, fitH, fitB, trE, emptyB, rn, lk, AV.ren, AV.ren.renL, Blk.ren, blkIds, blkPids, AV.ids, AV.ids.idsL, AV.pids, AV.pids.pidsL, Blk.there]), by simp [keepIds, rn, List.range, List.range.loop]⟩
    · rw [if_neg h]
      simp only [h, if_false, decide_false, Bool.false_and, Int.add_zero]
      exact ⟨[], by (refine ⟨?_, ?_, ?_⟩ <;> simp [fitT, fit1, fitH, fitB, trE, emptyB, rn, lk, AV.ren, AV.ren.renL, Blk.ren, blkIds, blkPids, AV.ids, AV.ids.idsL, AV.pids, AV.pids.pidsL, Blk.there]), by simp [keepIds, rn, List.range, List.range.loop]⟩
  · cases hg
def toU8 (v : Int) : UInt8 := UInt8.ofNat (IntKind.u8.wrap v).toNat
theorem toU8_val (v : Int) : ((toU8 v).toNat : Int) = IntKind.u8.wrap v := by
  rw [toU8, IntKind.wrap_u8, UInt8.toNat_ofNat']
  omega
def byteV (xs : List UInt8) (p : Int) : UInt8 := if pickV xs p 3 = 0 then toU8 (pickV xs (p + 1) 256) else toU8 (IntKind.i64.wrap (pickV xs (p + 1) 3 + 97))
def bytesV (xs : List UInt8) (p : Int) (k : Nat) : List UInt8 := (List.range k).map fun i : Nat => byteV xs (p + 2 * (i : Int))
theorem bytesV_len (xs : List UInt8) (p : Int) (k : Nat) : (bytesV xs p k).length = k := by simp [bytesV]
theorem bytesV_zero (xs : List UInt8) (p : Int) : bytesV xs p 0 = [] := rfl
theorem bytesV_rows (xs : List UInt8) (p : Int) (k : Nat) : rowsOfBytes (bytesV xs p (k + 1)) = rowsOfBytes (bytesV xs p k) ++ [[.v (.int .u8 ((byteV xs (p + 2 * (k : Int))).toNat : Int))]] := by
  simp [bytesV, List.range_succ, rowsOfBytes]
def g_bytes : OC := fun args B0 => match args, B0 with
  | [.ptr r o, .v (.int .i64 n)], [.var T [.l 1 rows, .v (.int .i64 p)]] => some (T = 67 ∧ r = 0 ∧ o = 0 ∧ (∃ xs, rows = rowsOfBytes xs ∧ xs.length ≤ 2000) ∧ 0 ≤ p ∧ p < 1000000000000 ∧ -1000000 ≤ n ∧ n ≤ 1000000,
      .own 1, [.var T [.l 1 rows, .v (.int .i64 (p + 2 * n.toNat))]], [.sl 5 1 (rowsOfBytes (bytesV (bytesOfRows rows) p n.toNat))])
  | _, _ => none
set_option maxRecDepth 100000 in
theorem bytes_ok : OwnOk Try.prog 41 g_bytes := by
  refine OwnOk.of_vc (G := picks) picks_ok mixed Try.func41 (by kernel_rfl) rfl ?_
  intro args B0 cnd r B1 bs hg hc hlive
  unfold g_bytes at hg
  split at hg
  · rename_i r o n T rows p
    cases hg
    obtain ⟨rfl, rfl, rfl, ⟨xs, rfl, hl⟩, hp0, hp1, hn0, hn1⟩ := hc
    rw [bytesOf_rows]
    refine ⟨⟨by simp [likeBs, likeB], by simp [Blk.liveB, blkIds, AV.ids.idsL, AV.ids], by simp [AV.ids]⟩, _, rfl, fun w Z s vs h => h, ?_⟩
    clear hlive
    simp (maxSteps := 3000000) only [Try.f41, picks, g_pick, bytesOf_rows, tYs, evL, implies_true, oMin, x_min3, oMin3, x_max, oMax, oCopy, oBin, oUn, oLoadKid, oStoreTree, oField, oExtract, oNil, oSliceQ, oSliceE, x_appendZ, oAppendZ, oSliceEnd, endMode, oLoadRow, takeCells, TS.atRow, TS.ex, treeMode, AV.isOwn, TK.isSl, nilTk, nilsB, oLenQ, oLen, nodupB, treeOf, kidAbs, kidRows, TK.isCell, D.toL, oLoad, oStore, oMake, oIndexAddr, ↓reduceIte, reduceCtorEq, Nat.reduceBEq, Nat.reduceAdd, Nat.reduceMul, Nat.reduceLT, Nat.reduceSub, Nat.reduceLeDiff, Nat.reduceEqDiff, Nat.reduceBneDiff, Int.reduceToNat, rowsOf_len, row_toI, row_nil, row_head, decide_eq_true_eq, decide_eq_false_iff_not, beq_iff_eq, Int.toNat_natCast]
    refine e_loop _ _ _ _ _ _ _ _ (fun k : Nat => [.ptr 0 0, .v (.int .i64 (n - k)), .any, .any, .any, .own 1] ++ List.replicate 22 .any) (fun k => [(0, .var 67 [.l 1 (rowsOfBytes xs), .v (.int .i64 (p + 2 * (k : Int)))]), (1, .sl 5 1 (rowsOfBytes (bytesV xs p k)))]) (fun k => k ≤ n.toNat) (fun k => n.toNat - k) 2 (fun k => by simp) ⟨0, ?_⟩ fun k hk => ?_
    · rw [bytesV_zero, rowsOf_nil]
      exact ⟨[(1, some 17)], by omega, by (refine ⟨?_, ?_, ?_⟩ <;> simp [fitT, fit1, fitH, fitB, trE, emptyB, rn, lk, AV.ren, AV.ren.renL, Blk.ren, blkIds, blkPids, AV.ids, AV.ids.idsL, AV.pids, AV.pids.pidsL, Blk.there]), by simp [keepIds, rn, List.range, List.range.loop]⟩
    · have wn : IntKind.i64.wrap (n - (k : Int) - 1) = n - ((k + 1 : Nat) : Int) := by rw [wrap_id] <;> omega
      have ep : p + 2 * (k : Int) + 1 + 1 = p + 2 * ((k + 1 : Nat) : Int) := by omega
      simp (maxSteps := 3000000) only [picks, g_pick, bytesOf_rows, tYs, evL, implies_true, oMin, x_min3, oMin3, x_max, oMax, oCopy, oBin, oUn, oLoadKid, oStoreTree, oField, oExtract, oNil, oSliceQ, oSliceE, x_appendZ, oAppendZ, oSliceEnd, endMode, oLoadRow, takeCells, TS.atRow, TS.ex, treeMode, AV.isOwn, TK.isSl, nilTk, nilsB, oLenQ, oLen, nodupB, treeOf, kidAbs, kidRows, TK.isCell, D.toL, oLoad, oStore, oMake, oIndexAddr, ↓reduceIte, reduceCtorEq, Nat.reduceBEq, Nat.reduceAdd, Nat.reduceMul, Nat.reduceLT, Nat.reduceSub, Nat.reduceLeDiff, Nat.reduceEqDiff, Nat.reduceBneDiff, Int.reduceToNat, rowsOf_len, row_toI, row_nil, row_head, decide_eq_true_eq, decide_eq_false_iff_not, beq_iff_eq, Int.toNat_natCast, loopK_normal, loopK_exit, loopK_ret, wn, ep, bytesV_len]
      by_cases h : 0 < n - (k : Int)
      · rw [if_pos h]
        refine ⟨⟨⟨xs, rfl, hl⟩, by omega, by omega⟩, ?_⟩
        by_cases h3 : pickV xs (p + 2 * (k : Int)) 3 = 0
        · rw [if_pos h3]
          refine ⟨⟨⟨xs, rfl, hl⟩, by omega, by omega⟩, ⟨by omega, by omega, by simp⟩, k + 1, [(1, some 162)], by omega, by omega, ?_, by simp [keepIds, rn, List.range, List.range.loop]⟩
          have e : IntKind.u8.wrap (pickV xs (p + 2 * (k : Int) + 1) 256) = ((byteV xs (p + 2 * (k : Int))).toNat : Int) := by rw [byteV, if_pos h3, toU8_val]
          rw [e, bytesV_rows]
          (refine ⟨?_, ?_, ?_⟩ <;> simp [fitT, fit1, fitH, fitB, trE, emptyB, rn, lk, AV.ren, AV.ren.renL, Blk.ren, blkIds, blkPids, AV.ids, AV.ids.idsL, AV.pids, AV.pids.pidsL, Blk.there])
        · rw [if_neg h3]
          refine ⟨⟨⟨xs, rfl, hl⟩, by omega, by omega⟩, ⟨by omega, by omega, by simp⟩, k + 1, [(1, some 178)], by omega, by omega, ?_, by simp [keepIds, rn, List.range, List.range.loop]⟩
          have e : IntKind.u8.wrap (IntKind.i64.wrap (pickV xs (p + 2 * (k : Int) + 1) 3 + 97)) = ((byteV xs (p + 2 * (k : Int))).toNat : Int) := by rw [byteV, if_neg h3, toU8_val]
          rw [e, bytesV_rows]
          (refine ⟨?_, ?_, ?_⟩ <;> simp [fitT, fit1, fitH, fitB, trE, emptyB, rn, lk, AV.ren, AV.ren.renL, Blk.ren, blkIds, blkPids, AV.ids, AV.ids.idsL, AV.pids, AV.pids.pidsL, Blk.there])
      · rw [if_neg h]
        obtain rfl : k = n.toNat := by omega
        exact ⟨[], by (refine ⟨?_, ?_, ?_⟩ <;> simp [fitT, fit1, fitH, fitB, trE, emptyB, rn, lk, AV.ren, AV.ren.renL, Blk.ren, blkIds, blkPids, AV.ids, AV.ids.idsL, AV.pids, AV.pids.pidsL, Blk.there]), by simp [keepIds, rn, List.range, List.range.loop]⟩
  · cases hg
end Go.Proofs.Ytikcpbgnmdhilaa
namespace Go.Proofs.Ytikcpbgnmdhilaa
open Go.RowKit
set_option linter.unusedSimpArgs false
def g_open : OC := fun args B0 => match args, B0 with
  | [.l _ rows], [] => some (∃ xs, rows = rowsOfBytes xs, .ptr 0 0, [], [.var 67 [.l 1 (rowsOfBytes ((bytesOfRows rows).take 2000)), .v (.int .i64 0)]])
  | _, _ => none
set_option maxRecDepth 100000 in
theorem open_ok : OwnOk Try.prog 32 g_open := by
  refine OwnOk.of_vc (G := []) (by simp) mixed Try.func32 (by kernel_rfl) rfl ?_
  intro args B0 cnd r B1 bs hg hc hlive
  unfold g_open at hg
  split at hg
  · rename_i sz rows
    cases hg
    obtain ⟨xs, rfl⟩ := hc
    rw [bytesOf_rows]
    refine ⟨⟨trivial, by simp [Blk.liveB, blkIds, AV.ids.idsL, AV.ids], by simp [AV.ids]⟩, [.l 1 (rowsOfBytes xs)], rfl, fun w Z s vs h => CvL.ok (.cons (.l _ _ _ (rowsOf_w xs)) .nil) h, ?_⟩
    simp (maxSteps := 3000000) only [Try.f32, bytesOf_rows, tYs, evL, implies_true, oMin, x_min3, oMin3, x_max, oMax, oCopy, oBin, oUn, oLoadKid, oStoreTree, oField, oExtract, oNil, oSliceQ, oSliceE, x_appendZ, oAppendZ, oSliceEnd, endMode, oLoadRow, takeCells, TS.atRow, TS.ex, treeMode, AV.isOwn, TK.isSl, nilTk, nilsB, oLenQ, oLen, nodupB, treeOf, kidAbs, kidRows, TK.isCell, D.toL, oLoad, oStore, oMake, oIndexAddr, ↓reduceIte, reduceCtorEq, Nat.reduceBEq, Nat.reduceAdd, Nat.reduceMul, Nat.reduceLT, Nat.reduceSub, Nat.reduceLeDiff, Nat.reduceEqDiff, Nat.reduceBneDiff, Int.reduceToNat, rowsOf_len, row_toI, row_nil, row_head, decide_eq_true_eq, decide_eq_false_iff_not, beq_iff_eq, Int.toNat_natCast]
    by_cases h : (xs.length : Int) > 2000
    · rw [if_pos h, rowsOf_take]
      exact ⟨by omega, [(0, some 144)], by (refine ⟨?_, ?_, ?_⟩ <;> simp [fitT, fit1, fitH, fitB, trE, emptyB, rn, lk, AV.ren, AV.ren.renL, Blk.ren, blkIds, blkPids, AV.ids, AV.ids.idsL, AV.pids, AV.pids.pidsL, Blk.there]), by simp [keepIds, rn, List.range, List.range.loop]⟩
    · rw [if_neg h, List.take_of_length_le (by omega)]
      exact ⟨[(0, some 96)], by (refine ⟨?_, ?_, ?_⟩ <;> simp [fitT, fit1, fitH, fitB, trE, emptyB, rn, lk, AV.ren, AV.ren.renL, Blk.ren, blkIds, blkPids, AV.ids, AV.ids.idsL, AV.pids, AV.pids.pidsL, Blk.there]), by simp [keepIds, rn, List.range, List.range.loop]⟩
  · cases hg
structure FrameV where
  to : Int
  frm : Int
  kind : Int
  data : List UInt8
  p : Int
def oneIf (n : Int) : Int := if 0 < n then 1 else 0
theorem oneIf_le (n : Int) : 0 ≤ oneIf n ∧ oneIf n ≤ 1 := by unfold oneIf; split <;> omega
end Go.Proofs.Ytikcpbgnmdhilaa
