import Derived.Test.YtikcpbgnmdhilaaIf
import Derived.Test.YtikcpbgnmdhilaaJe
set_option linter.unusedVariables false
set_option linter.unusedSimpArgs false
namespace Go.Proofs.Ytikcpbgnmdhilaa
open Go.RowKit
set_option linter.unusedSimpArgs false
def stV (a : Int) : UInt8 := toU8 (97 + (a * 7 + a / 5) % 26)
def heardV (a : Int) (n : Nat) : List UInt8 := (List.range n).map fun k : Nat => stV (a + (k : Int))
theorem heardV_len (a : Int) (n : Nat) : (heardV a n).length = n := by simp [heardV]
theorem heardV_at (a : Int) (n : Nat) (j : Nat) (b : UInt8) (h : (heardV a n)[j]? = some b) : b = stV (a + (j : Int)) := by
  rw [heardV, List.getElem?_map] at h
  obtain ⟨k, hk, rfl⟩ := Option.map_eq_some_iff.1 h
  rw [List.getElem?_range (by
    have := (List.getElem?_eq_some_iff.1 hk).1
    simpa using this)] at hk
  cases hk; rfl
theorem heardV_next (a : Int) (k : Nat) : heardV a (k + 1) = heardV a k ++ [stV (a + (k : Int))] := by
  rw [heardV, heardV, List.range_succ, List.map_append]; rfl
def g_stream : PC := fun args => match args with
  | [.v (.int .i64 a)] => some (0 ≤ a ∧ a ≤ 1000000000, .v (.int .u8 ((stV a).toNat : Int)), [])
  | _ => none
def g_heardS : PC := fun args => match args with
  | [.v (.int .i64 a), .v (.int .i64 n)] => some (0 ≤ a ∧ a ≤ 100000000 ∧ n ≤ 100000000, .own 0, [.sl 5 1 (rowsOfBytes (heardV a n.toNat))])
  | _ => none
set_option maxRecDepth 100000 in
theorem l20Stream_ok : PureOk Try.prog 49 g_stream := by
  refine PureOk.of_vc (G := []) (by simp) mixed Try.func49 (by kernel_rfl) rfl ?_
  intro args cnd r bs hg hc
  unfold g_stream at hg
  split at hg
  · rename_i a
    cases hg
    obtain ⟨h0, h1⟩ := hc
    have w1 : IntKind.i64.wrap (a * 7) = a * 7 := wrap_id (by omega) (by omega)
    have t1 : a.tdiv 5 = a / 5 := Int.tdiv_eq_ediv_of_nonneg h0
    have w2 : IntKind.i64.wrap (a / 5) = a / 5 := wrap_id (by omega) (by omega)
    have w3 : IntKind.i64.wrap (a * 7 + a / 5) = a * 7 + a / 5 := wrap_id (by omega) (by omega)
    have t2 : (a * 7 + a / 5).tmod 26 = (a * 7 + a / 5) % 26 := Int.tmod_eq_emod_of_nonneg (by omega)
    have w4 : IntKind.i64.wrap ((a * 7 + a / 5) % 26) = (a * 7 + a / 5) % 26 := wrap_id (by omega) (by omega)
    have w5 : IntKind.i64.wrap (97 + (a * 7 + a / 5) % 26) = 97 + (a * 7 + a / 5) % 26 := wrap_id (by omega) (by omega)
    have w6 : IntKind.u8.wrap (97 + (a * 7 + a / 5) % 26) = ((stV a).toNat : Int) := (toU8_val _).symm
    refine ⟨⟨rfl, by simp, by simp [AV.ids, AV.ids.idsL]⟩, _, rfl, fun w vs h => h, ?_⟩
    simp (maxSteps := 3000000) only [Try.f49, w1, w2, w3, w4, w5, w6, t1, t2, tYs, evL, implies_true, oMin, x_min3, oMin3, x_max, oMax, oCopy, oBin, oUn, oLoadKid, oStoreTree, oField, oExtract, oNil, oSliceQ, oSliceE, x_appendZ, oAppendZ, oSliceEnd, endMode, oLoadRow, takeCells, TS.atRow, TS.ex, treeMode, AV.isOwn, TK.isSl, nilTk, nilsB, oLenQ, oLen, nodupB, treeOf, kidAbs, kidRows, TK.isCell, D.toL, oLoad, oStore, oMake, oIndexAddr, ↓reduceIte, reduceCtorEq, Nat.reduceBEq, Nat.reduceAdd, Nat.reduceMul, Nat.reduceLT, Nat.reduceSub, Nat.reduceLeDiff, Nat.reduceEqDiff, Nat.reduceBneDiff, Int.reduceToNat, decide_eq_true_eq, decide_eq_false_iff_not, beq_iff_eq, Int.toNat_natCast]
    repeat' refine And.intro (by decide) ?_
    exact ⟨_, [], rfl, ⟨⟨⟨rfl, rfl, rfl⟩, trivial⟩, trivial, by simp [rn, hpAt]⟩⟩
  · cases hg
def hd12 : List (FuncId × Abs) := [(49, pureAbs g_stream)]
theorem hd12_ok : ∀ p ∈ hd12, CallOk Try.prog p.1 p.2 := by
  intro p hp
  simp only [hd12, List.mem_cons, List.not_mem_nil, or_false] at hp
  rcases hp with rfl
  · exact l20Stream_ok.call
set_option maxHeartbeats 1000000 in
set_option maxRecDepth 100000 in
theorem l20Heard_ok : PureOk Try.prog 42 g_heardS := by
  refine PureOk.of_vc (G := hd12) hd12_ok mixed Try.func42 (by kernel_rfl) rfl ?_
  intro args cnd r bs hg hc
  unfold g_heardS at hg
  split at hg
  · rename_i a n
    cases hg
    obtain ⟨h0, h1, h2⟩ := hc
    refine ⟨⟨rfl, by simpa [flatB] using rowsOf_flat (heardV a n.toNat), by simp [AV.ids, AV.ids.idsL]⟩, [.v (.int .i64 a), .v (.int .i64 n)], rfl, fun w vs h => h, ?_⟩
    simp (maxSteps := 3000000) only [Try.f42, hd12, g_stream, rowsOf_len, Bool.not_true, tYs, evL, implies_true, oMin, x_min3, oMin3, x_max, oMax, oCopy, oBin, oUn, oLoadKid, oStoreTree, oField, oExtract, oNil, oSliceQ, oSliceE, x_appendZ, oAppendZ, oSliceEnd, endMode, oLoadRow, takeCells, TS.atRow, TS.ex, treeMode, AV.isOwn, TK.isSl, nilTk, nilsB, oLenQ, oLen, nodupB, treeOf, kidAbs, kidRows, TK.isCell, D.toL, oLoad, oStore, oMake, oIndexAddr, ↓reduceIte, reduceCtorEq, Nat.reduceBEq, Nat.reduceAdd, Nat.reduceMul, Nat.reduceLT, Nat.reduceSub, Nat.reduceLeDiff, Nat.reduceEqDiff, Nat.reduceBneDiff, Int.reduceToNat, decide_eq_true_eq, decide_eq_false_iff_not, beq_iff_eq, Int.toNat_natCast, loopK_normal, loopK_exit, loopK_ret]
    refine e_loop _ _ _ _ _ _ _ _ (fun k : Nat => [.v (.int .i64 a), .v (.int .i64 n), .any, .any, .any, .own 0, .v (.int .i64 (k : Int))] ++ List.replicate (Try.f42.ntmps - 7) .any) (fun k => [(0, .sl 5 1 (rowsOfBytes (heardV a k)))]) (fun k => k ≤ n.toNat) (fun k => n.toNat - k) 1 (fun k => by simp) ?_ fun k hk' => ?_
    · exact ⟨0, [(0, some _)], Nat.zero_le _, ⟨⟨⟨rfl, rfl, rfl⟩, ⟨rfl, rfl, rfl⟩, trivial, trivial, trivial, ⟨rfl, rfl, rfl⟩, ⟨rfl, rfl, rfl⟩, fitT_rep _ _ rfl⟩, ⟨.inl rfl, rfl, rfl, rfl, trivial⟩, by simp [rn, hpAt]⟩, by simp [keepIds]⟩
    have hk1 : k ≤ n.toNat := hk'
    have w2 : IntKind.i64.wrap ((k : Int) + 1) = ((k + 1 : Nat) : Int) := by rw [wrap_id] <;> omega
    have w3 : IntKind.i64.wrap (a + (k : Int)) = a + (k : Int) := wrap_id (by omega) (by omega)
    have hl := heardV_len a k
    by_cases hk : (k : Int) < n
    · have hlt : ((k : Int) < n) = True := eq_true hk
      have hnx : rowsOfBytes (heardV a k) ++ [[.v (.int .u8 ((stV (a + (k : Int))).toNat : Int))]] = rowsOfBytes (heardV a (k + 1)) := by
        rw [heardV_next]; simp [rowsOfBytes]
      simp (maxSteps := 3000000) only [Try.f42, hd12, g_stream, rowsOf_len, hlt, w2, w3, hnx, tYs, evL, implies_true, oMin, x_min3, oMin3, x_max, oMax, oCopy, oBin, oUn, oLoadKid, oStoreTree, oField, oExtract, oNil, oSliceQ, oSliceE, x_appendZ, oAppendZ, oSliceEnd, endMode, oLoadRow, takeCells, TS.atRow, TS.ex, treeMode, AV.isOwn, TK.isSl, nilTk, nilsB, oLenQ, oLen, nodupB, treeOf, kidAbs, kidRows, TK.isCell, D.toL, oLoad, oStore, oMake, oIndexAddr, ↓reduceIte, reduceCtorEq, Nat.reduceBEq, Nat.reduceAdd, Nat.reduceMul, Nat.reduceLT, Nat.reduceSub, Nat.reduceLeDiff, Nat.reduceEqDiff, Nat.reduceBneDiff, Int.reduceToNat, decide_eq_true_eq, decide_eq_false_iff_not, beq_iff_eq, Int.toNat_natCast, loopK_normal, loopK_exit, loopK_ret]
      clear hnx
      (repeat (refine And.intro ?_ ?_; focus (((repeat' apply And.intro) <;> first | omega | exact rowsOf_w _ | exact erRows_w _ | exact ⟨_, rfl⟩ | (refine ⟨_, rfl, ?_⟩; first | omega | (simp only [List.length_append, rowsOf_len, erRows_len, List.length_cons, List.length_nil, marks_len, List.length_take, List.length_drop, List.length_set, List.length_map, List.length_range]; omega)) | (simp only [List.length_append, rowsOf_len, erRows_len, List.length_cons, List.length_nil, marks_len, List.length_take, List.length_drop, List.length_set, List.length_map, List.length_range]; omega) | kernel_rfl | (simp; done)); done)))
      exact ⟨k + 1, [(0, some _)], by omega, by omega, ⟨⟨⟨rfl, rfl, rfl⟩, ⟨rfl, rfl, rfl⟩, trivial, trivial, trivial, ⟨rfl, rfl, rfl⟩, ⟨rfl, rfl, rfl⟩, fitT_rep _ _ rfl⟩, ⟨.inl rfl, rfl, rfl, rfl, trivial⟩, by simp [rn, hpAt]⟩, by simp [keepIds, rn]⟩
    · have hlt : ((k : Int) < n) = False := eq_false hk
      obtain rfl : k = n.toNat := by omega
      simp (maxSteps := 3000000) only [Try.f42, hd12, g_stream, rowsOf_len, hlt, tYs, evL, implies_true, oMin, x_min3, oMin3, x_max, oMax, oCopy, oBin, oUn, oLoadKid, oStoreTree, oField, oExtract, oNil, oSliceQ, oSliceE, x_appendZ, oAppendZ, oSliceEnd, endMode, oLoadRow, takeCells, TS.atRow, TS.ex, treeMode, AV.isOwn, TK.isSl, nilTk, nilsB, oLenQ, oLen, nodupB, treeOf, kidAbs, kidRows, TK.isCell, D.toL, oLoad, oStore, oMake, oIndexAddr, ↓reduceIte, reduceCtorEq, Nat.reduceBEq, Nat.reduceAdd, Nat.reduceMul, Nat.reduceLT, Nat.reduceSub, Nat.reduceLeDiff, Nat.reduceEqDiff, Nat.reduceBneDiff, Int.reduceToNat, decide_eq_true_eq, decide_eq_false_iff_not, beq_iff_eq, Int.toNat_natCast, loopK_normal, loopK_exit, loopK_ret]
      exact ⟨_, [(0, some _)], rfl, ⟨⟨⟨rfl, rfl, rfl⟩, trivial⟩, ⟨.inl rfl, rfl, rfl, rfl, trivial⟩, by simp [rn, hpAt]⟩⟩
  · cases hg
structure ES where
  q : Int
  e : Ea
def esA (xs : List UInt8) (s : ES) : Int := s.e.n + pickV xs s.q 14 - 4
def esD (xs : List UInt8) (s : ES) : List UInt8 := heardV (esA xs s) (pickV xs (s.q + 1) 5).toNat
def esH (xs : List UInt8) (s : ES) : Ea := hrV s.e (esA xs s) (esD xs s)
def esN (xs : List UInt8) (s : ES) : ES :=
  if pickV xs (s.q + 1 + 1) 4 = 0 then ⟨s.q + 1 + 1 + 1 + 1, rdV12 (esH xs s) (pickV xs (s.q + 1 + 1 + 1) 5)⟩
  else ⟨s.q + 1 + 1 + 1, esH xs s⟩
def esR (xs : List UInt8) (s : ES) : Nat → ES
  | 0 => s
  | k + 1 => esN xs (esR xs s k)
def esB (xs : List UInt8) (p : Int) : ES := ⟨p + 1 + 1 + 1, ⟨100 + pickV xs p 3 * 40, 4 + pickV xs (p + 1) 20, [], []⟩⟩
def esK (xs : List UInt8) (p : Int) : Nat := (pickV xs (p + 1 + 1) 6).toNat
def esL (xs : List UInt8) (p : Int) : ES := esR xs (esB xs p) (esK xs p)
def esG (s : ES) (k : Nat) : Prop := eaB s.e = true ∧ (100 ≤ s.e.n ∧ s.e.n ≤ 180 + 32 * (k : Int))
theorem esH_ok {xs : List UInt8} {s : ES} {k : Nat} (h : esG s k) (hk : k ≤ 10) (hq : s.q < 100000000) : hrO s.e (esA xs s) (esD xs s) = true ∧ eaB (esH xs s) = true ∧ s.e.n ≤ (esH xs s).n ∧ (esH xs s).n ≤ s.e.n + 32 ∧ (0 ≤ esA xs s ∧ esA xs s ≤ 1000) := by
  obtain ⟨h1, h2, h3⟩ := h
  have a1 := pickV_nonneg xs s.q 14 (by omega)
  have a2 := pickV_lt xs s.q 14 (by omega)
  have hA : 0 ≤ esA xs s ∧ esA xs s ≤ 1000 := by unfold esA; omega
  have hm := hrM_le h1 (esA xs s) (esD xs s)
  have hF : eaF s.e ≤ 32 := by
    obtain ⟨_, b, _⟩ := eaB_iff.1 h1
    unfold eaF; omega
  have hO : hrO s.e (esA xs s) (esD xs s) = true := by
    rw [hrO, h1, inZ_iff.2 (by omega), decide_eq_true (by omega)]; rfl
  have hV : esH xs s = hrE s.e (esA xs s) (esD xs s) := if_pos hO
  refine ⟨hO, by rw [hV]; exact (hr_ok hO).1, ?_, ?_, hA⟩
  · rw [hV]; show s.e.n ≤ s.e.n + (hrM s.e (esA xs s) (esD xs s) : Int); omega
  · rw [hV]; show s.e.n + (hrM s.e (esA xs s) (esD xs s) : Int) ≤ _; omega
theorem esN_ok {xs : List UInt8} {s : ES} {k : Nat} (h : esG s k) (hk : k ≤ 10) (hq : s.q < 100000000) : esG (esN xs s) (k + 1) ∧ s.q ≤ (esN xs s).q ∧ (esN xs s).q ≤ s.q + 4 := by
  obtain ⟨k1, k2, k3, k4, _⟩ := esH_ok (xs := xs) h hk hq
  have c1 := pickV_nonneg xs (s.q + 1 + 1 + 1) 5 (by omega)
  obtain ⟨h1, h2, h3⟩ := h
  unfold esN
  split
  · have hr : rdO (esH xs s) (pickV xs (s.q + 1 + 1 + 1) 5) = true := by rw [rdO, k2, decide_eq_true c1]; rfl
    have e : rdV12 (esH xs s) (pickV xs (s.q + 1 + 1 + 1) 5) = rdE (esH xs s) (pickV xs (s.q + 1 + 1 + 1) 5) := if_pos hr
    refine ⟨⟨by dsimp only; rw [e]; exact (rd_ok hr).1, ?_⟩, by dsimp only; omega, by dsimp only; omega⟩
    dsimp only
    rw [e]
    show 100 ≤ (esH xs s).n ∧ (esH xs s).n ≤ _
    omega
  · exact ⟨⟨k2, by dsimp only; omega⟩, by dsimp only; omega, by dsimp only; omega⟩
theorem esR_ok {xs : List UInt8} {s : ES} (h : esG s 0) (hq : s.q < 1000000) : ∀ k, k ≤ 10 → esG (esR xs s k) k ∧ s.q ≤ (esR xs s k).q ∧ (esR xs s k).q ≤ s.q + 4 * (k : Int)
  | 0, _ => ⟨h, by show s.q ≤ s.q; omega, by show s.q ≤ s.q + 4 * ((0 : Nat) : Int); omega⟩
  | k + 1, hk => by
    obtain ⟨i1, i2, i3⟩ := esR_ok (xs := xs) h hq k (by omega)
    obtain ⟨j1, j2, j3⟩ := esN_ok (xs := xs) i1 (by omega) (by omega)
    exact ⟨j1, by show s.q ≤ (esN xs (esR xs s k)).q; omega, by show (esN xs (esR xs s k)).q ≤ _; omega⟩
theorem esB_ok (xs : List UInt8) (p : Int) (hp : p < 1000000) : esG (esB xs p) 0 := by
  have a1 := pickV_nonneg xs p 3 (by omega)
  have a2 := pickV_lt xs p 3 (by omega)
  have a3 := pickV_nonneg xs (p + 1) 20 (by omega)
  have a4 := pickV_lt xs (p + 1) 20 (by omega)
  have e1 : (esB xs p).e.n = 100 + pickV xs p 3 * 40 := rfl
  have e2 : (esB xs p).e.room = 4 + pickV xs (p + 1) 20 := rfl
  refine ⟨eaB_iff.2 ⟨by omega, by omega, by rw [e2]; show ((([] : List UInt8).length : Nat) : Int) ≤ _; simp only [List.length_nil]; omega, (fun x hx => nomatch hx), List.Pairwise.nil⟩, by omega, by omega⟩
theorem esK_le (xs : List UInt8) (p : Int) : esK xs p ≤ 5 := by
  have := pickV_lt xs (p + 1 + 1) 6 (by omega)
  unfold esK; omega
theorem esL_ok (xs : List UInt8) (p : Int) (hp : p < 900000) : (eaB (esL xs p).e = true ∧ 100 ≤ (esL xs p).e.n ∧ (esL xs p).e.n ≤ 400) ∧ p + 3 ≤ (esL xs p).q ∧ (esL xs p).q ≤ p + 23 := by
  have hk := esK_le xs p
  obtain ⟨⟨h1, h2⟩, h3, h4⟩ := esR_ok (xs := xs) (esB_ok xs p (by omega)) (by show p + 1 + 1 + 1 < 1000000; omega) (esK xs p) (by omega)
  have e : (esB xs p).q = p + 1 + 1 + 1 := rfl
  rw [e] at h3 h4
  exact ⟨⟨h1, by show 100 ≤ (esR xs (esB xs p) (esK xs p)).e.n; omega, by show (esR xs (esB xs p) (esK xs p)).e.n ≤ 400; omega⟩, by show _ ≤ (esR xs (esB xs p) (esK xs p)).q; omega, by show (esR xs (esB xs p) (esK xs p)).q ≤ _; omega⟩
def esF (xs : List UInt8) (e : Ea) (x : Int) : Int × Ea :=
  if pickV xs x 4 = 0 then (x + 1 + 1, { e with room := pickV xs (x + 1) 2 * 33 })
  else if pickV xs x 4 = 1 then (x + 1, { e with n := -1 })
  else if pickV xs x 4 = 2 then (x + 1 + 1, { e with fr := e.fr ++ [⟨e.n + pickV xs (x + 1) 40 - 3, 0⟩] })
  else (x + 1, { e with g := e.g ++ List.replicate 20 0 })
def esV (xs : List UInt8) (p n : Int) : Int × Ea :=
  if (decide (0 < n) && pickV xs (esL xs p).q n == n - 1) = true then esF xs (esL xs p).e ((esL xs p).q + oneIf n) else ((esL xs p).q + oneIf n, (esL xs p).e)
end Go.Proofs.Ytikcpbgnmdhilaa
