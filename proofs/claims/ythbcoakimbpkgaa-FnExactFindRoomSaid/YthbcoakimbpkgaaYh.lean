import Derived.Test.YthbcoakimbpkgaaYc
namespace Go.Proofs.Ythbcoakimbpkgaa
open Go.RowKit
set_option linter.unusedSimpArgs false
set_option linter.unusedVariables false
def lss : List (FuncId × Abs) := [(65, pureAbs g_routesOk), (115, pureAbs g_routeFits)]
theorem putV_len {l : List RE} (r : RE) : (putV l r).length ≤ 8 := by
  rw [putV]
  split
  · rename_i h
    simp only [putB, Bool.and_eq_true, decide_eq_true_eq] at h
    exact h.2
  · exact Nat.zero_le _
end Go.Proofs.Ythbcoakimbpkgaa
namespace Go.Proofs.Ythbcoakimbpkgaa
open Go.RowKit
set_option linter.unusedSimpArgs false
set_option linter.unusedVariables false
def rdp : List (FuncId × Abs) := [(69, ownAbs g_pick), (104, ownAbs g_odd)]
theorem rdp_ok : ∀ p ∈ rdp, CallOk Try.prog p.1 p.2 := by
  intro p hp
  simp only [rdp, List.mem_cons, List.not_mem_nil, or_false] at hp
  rcases hp with rfl | rfl
  · exact pick_ok.call
  · exact odd_ok.call
theorem lit_get (L : List Int) (k : Nat) (h : k < L.length) : (L.map fun x => [D.v (.int .i64 x)]).getD k [] = [D.v (.int .i64 (L.getD k 0))] := by
  simp [List.getD, h]
theorem getD_all (P : Int → Prop) (h0 : P 0) : ∀ (L : List Int) (k : Nat), (∀ x ∈ L, P x) → P (L.getD k 0)
  | [], k, _ => by simpa using h0
  | x :: L, 0, h => by simpa using h x (List.mem_cons_self ..)
  | x :: L, k + 1, h => by simpa using getD_all P h0 L k fun y hy => h y (List.mem_cons_of_mem _ hy)
def bitsV (xs : List UInt8) (p : Int) : Int := [0, 4, 8, 8, 12, 16, pickV xs p 17].getD (pickV xs (p + 1) 7).toNat 0
def addrV (xs : List UInt8) (p : Int) : Int := [0, 4096, 4352, 4353, 4096 + pickV xs p 512, 65535].getD (pickV xs (p + 1) 6).toNat 0
theorem bitsV_bd (xs : List UInt8) (p : Int) (h : p < 100000000000) : 0 ≤ bitsV xs p ∧ bitsV xs p ≤ 16 := by
  have a1 := pickV_nonneg xs p 17 (by omega)
  have a2 := pickV_lt xs p 17 (by omega)
  refine getD_all (fun x => 0 ≤ x ∧ x ≤ 16) (by omega) _ _ fun x hx => ?_
  simp only [List.mem_cons, List.not_mem_nil, or_false] at hx
  omega
theorem addrV_bd (xs : List UInt8) (p : Int) (h : p < 100000000000) : 0 ≤ addrV xs p ∧ addrV xs p ≤ 65535 := by
  have a1 := pickV_nonneg xs p 512 (by omega)
  have a2 := pickV_lt xs p 512 (by omega)
  refine getD_all (fun x => 0 ≤ x ∧ x ≤ 65535) (by omega) _ _ fun x hx => ?_
  simp only [List.mem_cons, List.not_mem_nil, or_false] at hx
  omega
structure RouteD where
  e : RE
  p : Int
def route0 (xs : List UInt8) (p : Int) : RE := ⟨addrV xs (p + 1 + 1) - (addrV xs (p + 1 + 1)).tmod (span (bitsV xs p)), bitsV xs p, pickV xs (p + 1 + 1 + 1 + 1) 3, 4 + pickV xs (p + 1 + 1 + 1 + 1 + 1) 3 * 6⟩
def oddB (xs : List UInt8) (p n : Int) : Bool := decide (0 < n) && (pickV xs p n == n - 1)
def routeV (xs : List UInt8) (p n : Int) : RouteD :=
  if oddB xs (p + 1 + 1 + 1 + 1 + 1 + 1) n = true then
    if pickV xs (p + 1 + 1 + 1 + 1 + 1 + 1 + oneIf n) 3 = 0 then ⟨{ route0 xs p with b := 17 - pickV xs (p + 1 + 1 + 1 + 1 + 1 + 1 + oneIf n + 1) 2 * 18 }, p + 1 + 1 + 1 + 1 + 1 + 1 + oneIf n + 1 + 1⟩
    else if pickV xs (p + 1 + 1 + 1 + 1 + 1 + 1 + oneIf n) 3 = 1 then ⟨{ route0 xs p with m := pickV xs (p + 1 + 1 + 1 + 1 + 1 + 1 + oneIf n + 1) 2 * 49 }, p + 1 + 1 + 1 + 1 + 1 + 1 + oneIf n + 1 + 1⟩
    else ⟨{ route0 xs p with a := (route0 xs p).a + 1 }, p + 1 + 1 + 1 + 1 + 1 + 1 + oneIf n + 1⟩
  else ⟨route0 xs p, p + 1 + 1 + 1 + 1 + 1 + 1 + oneIf n⟩
theorem routeV_p (xs : List UInt8) (p n : Int) : p ≤ (routeV xs p n).p ∧ (routeV xs p n).p < p + 10 := by
  have := oneIf_le n
  unfold routeV
  split
  · split
    · dsimp only; omega
    · split <;> (dsimp only; omega)
  · dsimp only; omega
def g_route : OC := fun args B0 => match args, B0 with
  | [.ptr r o, .v (.int .i64 n)], [.var T [.l 1 rows, .v (.int .i64 p)]] => some (T = 125 ∧ r = 0 ∧ o = 0 ∧ (∃ xs, rows = rowsOfBytes xs ∧ xs.length ≤ 2000) ∧ 0 ≤ p ∧ p < 90000000000 ∧ 0 ≤ n ∧ n ≤ 1000000,
      .agg [.v (.int .i64 (routeV (bytesOfRows rows) p n).e.a), .v (.int .i64 (routeV (bytesOfRows rows) p n).e.b), .v (.int .i64 (routeV (bytesOfRows rows) p n).e.v), .v (.int .i64 (routeV (bytesOfRows rows) p n).e.m)], [.var T [.l 1 rows, .v (.int .i64 (routeV (bytesOfRows rows) p n).p)]], [])
  | _, _ => none
set_option maxHeartbeats 2000000 in
set_option maxRecDepth 100000 in
theorem route_ok : OwnOk Try.prog 103 g_route := by
  refine OwnOk.of_vc (G := rdp) rdp_ok mixed Try.func103 (by kernel_rfl) rfl ?_
  intro args B0 cnd r B1 bs hg hc hlive
  unfold g_route at hg
  split at hg
  · rename_i r o n T rows p
    cases hg
    obtain ⟨rfl, rfl, rfl, ⟨xs, rfl, hl⟩, hp0, hp1, hn0, hn1⟩ := hc
    rw [bytesOf_rows]
    refine ⟨⟨by simp [likeBs, likeB], by simp [Blk.liveB, blkIds, AV.ids.idsL, AV.ids], by simp [AV.ids, AV.ids.idsL]⟩, _, rfl, fun w Z s vs h => h, ?_⟩
    clear hlive
    have hx : (∃ ys, rowsOfBytes xs = rowsOfBytes ys ∧ ys.length ≤ 2000) = True := eq_true ⟨xs, rfl, hl⟩
    obtain ⟨e, he⟩ : ∃ e, e = oneIf n := ⟨_, rfl⟩
    have be := oneIf_le n
    rw [← he] at be
    have he' : (if 0 < n then (1 : Int) else 0) = e := he.symm
    have k1 := pickV_nonneg xs (p + 1) 7 (by omega)
    have k2 := pickV_lt xs (p + 1) 7 (by omega)
    have k3 := pickV_nonneg xs (p + 1 + 1 + 1) 6 (by omega)
    have k4 := pickV_lt xs (p + 1 + 1 + 1) 6 (by omega)
    have k5 := pickV_nonneg xs (p + 1 + 1) 512 (by omega)
    have k6 := pickV_lt xs (p + 1 + 1) 512 (by omega)
    have wa : IntKind.i64.wrap (4096 + pickV xs (p + 1 + 1) 512) = 4096 + pickV xs (p + 1 + 1) 512 := wrap_id (by omega) (by omega)
    have r1 := lit_get [0, 4, 8, 8, 12, 16, pickV xs p 17] (pickV xs (p + 1) 7).toNat (by simp only [List.length_cons, List.length_nil]; omega)
    have r2 := lit_get [0, 4096, 4352, 4353, 4096 + pickV xs (p + 1 + 1) 512, 65535] (pickV xs (p + 1 + 1 + 1) 6).toNat (by simp only [List.length_cons, List.length_nil]; omega)
    simp only [List.map_cons, List.map_nil] at r1 r2
    rw [← bitsV] at r1
    rw [← addrV] at r2
    have bb := bitsV_bd xs p (by omega)
    have ba := addrV_bd xs (p + 1 + 1) (by omega)
    have hsp := span_shift bb.1 bb.2
    have hsb := span_bd bb.1 bb.2
    have hs0 : 0 ≤ IntKind.i64.wrap (16 - bitsV xs p) := by rw [wrap_id] <;> omega
    have k7 := pickV_nonneg xs (p + 1 + 1 + 1 + 1 + 1) 3 (by omega)
    have k8 := pickV_lt xs (p + 1 + 1 + 1 + 1 + 1) 3 (by omega)
    have m1 := Int.tmod_nonneg (span (bitsV xs p)) ba.1
    have m2 := Int.tmod_lt_of_pos (addrV xs (p + 1 + 1)) (show 0 < span (bitsV xs p) by omega)
    have wm : IntKind.i64.wrap (addrV xs (p + 1 + 1) - (addrV xs (p + 1 + 1)).tmod (span (bitsV xs p))) = addrV xs (p + 1 + 1) - (addrV xs (p + 1 + 1)).tmod (span (bitsV xs p)) := wrap_id (by omega) (by omega)
    have w6 : IntKind.i64.wrap (pickV xs (p + 1 + 1 + 1 + 1 + 1) 3 * 6) = pickV xs (p + 1 + 1 + 1 + 1 + 1) 3 * 6 := wrap_id (by omega) (by omega)
    have w7 : IntKind.i64.wrap (4 + pickV xs (p + 1 + 1 + 1 + 1 + 1) 3 * 6) = 4 + pickV xs (p + 1 + 1 + 1 + 1 + 1) 3 * 6 := wrap_id (by omega) (by omega)
    have k9 := pickV_nonneg xs (p + 1 + 1 + 1 + 1 + 1 + 1 + e + 1) 2 (by omega)
    have k10 := pickV_lt xs (p + 1 + 1 + 1 + 1 + 1 + 1 + e + 1) 2 (by omega)
    have w8 : IntKind.i64.wrap (pickV xs (p + 1 + 1 + 1 + 1 + 1 + 1 + e + 1) 2 * 18) = pickV xs (p + 1 + 1 + 1 + 1 + 1 + 1 + e + 1) 2 * 18 := wrap_id (by omega) (by omega)
    have w9 : IntKind.i64.wrap (17 - pickV xs (p + 1 + 1 + 1 + 1 + 1 + 1 + e + 1) 2 * 18) = 17 - pickV xs (p + 1 + 1 + 1 + 1 + 1 + 1 + e + 1) 2 * 18 := wrap_id (by omega) (by omega)
    have w10 : IntKind.i64.wrap (pickV xs (p + 1 + 1 + 1 + 1 + 1 + 1 + e + 1) 2 * 49) = pickV xs (p + 1 + 1 + 1 + 1 + 1 + 1 + e + 1) 2 * 49 := wrap_id (by omega) (by omega)
    have w11 : IntKind.i64.wrap (addrV xs (p + 1 + 1) - (addrV xs (p + 1 + 1)).tmod (span (bitsV xs p)) + 1) = addrV xs (p + 1 + 1) - (addrV xs (p + 1 + 1)).tmod (span (bitsV xs p)) + 1 := wrap_id (by omega) (by omega)
    simp (maxSteps := 3000000) only [Try.f103, rdp, g_pick, g_odd, bytesOf_rows, r1, r2, wa, hsp, wm, w6, w7, w8, w9, w10, w11, D.toI, tYs, evL, implies_true, oMin, oCopy, oBin, oUn, oLoadKid, oStoreTree, oField, oExtract, oNil, oSliceQ, oLen, nodupB, treeOf, kidAbs, kidRows, TK.isCell, D.toL, oLoad, oStore, oMake, oIndexAddr, ↓reduceIte, reduceCtorEq, Nat.reduceBEq, Nat.reduceAdd, Nat.reduceMul, Nat.reduceLT, Nat.reduceSub, Nat.reduceLeDiff, Nat.reduceEqDiff, Nat.reduceBneDiff, Int.reduceToNat, decide_eq_true_eq, decide_eq_false_iff_not, beq_iff_eq, Int.toNat_natCast, hx, he']
    simp only [routeV, oddB, route0, ← he]
    clear r1 r2 hx
    repeat' first
      | refine And.intro (by omega) ?_
      | refine And.intro (by kernel_rfl) ?_
    by_cases ho : (decide (0 < n) && pickV xs (p + 1 + 1 + 1 + 1 + 1 + 1) n == n - 1) = true
    · simp only [ho, ↓reduceIte]
      refine ⟨by omega, ?_⟩
      by_cases h0 : pickV xs (p + 1 + 1 + 1 + 1 + 1 + 1 + e) 3 = 0
      · simp only [h0, ↓reduceIte]
        exact ⟨by omega, [(0, some 0)], ⟨⟨⟨rfl, rfl, rfl⟩, trivial⟩, ⟨.inl rfl, rfl, rfl, rfl, trivial⟩, by simp [rn, hpAt]⟩, by simp [keepIds, rn]⟩
      · simp only [h0, ↓reduceIte]
        by_cases h1 : pickV xs (p + 1 + 1 + 1 + 1 + 1 + 1 + e) 3 = 1
        · simp only [h1, ↓reduceIte]
          exact ⟨by omega, [(0, some 0)], ⟨⟨⟨rfl, rfl, rfl⟩, trivial⟩, ⟨.inl rfl, rfl, rfl, rfl, trivial⟩, by simp [rn, hpAt]⟩, by simp [keepIds, rn]⟩
        · simp only [h1, ↓reduceIte]
          exact ⟨[(0, some 0)], ⟨⟨⟨rfl, rfl, rfl⟩, trivial⟩, ⟨.inl rfl, rfl, rfl, rfl, trivial⟩, by simp [rn, hpAt]⟩, by simp [keepIds, rn]⟩
    · simp only [ho, ↓reduceIte, Bool.false_eq_true]
      exact ⟨[(0, some 0)], ⟨⟨⟨rfl, rfl, rfl⟩, trivial⟩, ⟨.inl rfl, rfl, rfl, rfl, trivial⟩, by simp [rn, hpAt]⟩, by simp [keepIds, rn]⟩
  · cases hg
def addrW (xs : List UInt8) (p : Int) : Int := [0, 4096, 4352, 4353, 4096 + pickV xs p 512, 65535, pickV xs (p + 1) 256 * 256 + pickV xs (p + 1 + 1) 256, 65536 - pickV xs (p + 1 + 1 + 1) 2 * 65537].getD (pickV xs (p + 1 + 1 + 1 + 1) 8).toNat 0
def g_addr : OC := fun args B0 => match args, B0 with
  | [.ptr r o], [.var T [.l 1 rows, .v (.int .i64 p)]] => some (T = 125 ∧ r = 0 ∧ o = 0 ∧ (∃ xs, rows = rowsOfBytes xs ∧ xs.length ≤ 2000) ∧ 0 ≤ p ∧ p < 90000000000,
      .v (.int .i64 (addrW (bytesOfRows rows) p)), [.var T [.l 1 rows, .v (.int .i64 (p + 1 + 1 + 1 + 1 + 1))]], [])
  | _, _ => none
set_option maxHeartbeats 2000000 in
set_option maxRecDepth 100000 in
theorem addr_ok : OwnOk Try.prog 60 g_addr := by
  refine OwnOk.of_vc (G := rdp) rdp_ok mixed Try.func60 (by kernel_rfl) rfl ?_
  intro args B0 cnd r B1 bs hg hc hlive
  unfold g_addr at hg
  split at hg
  · rename_i r o T rows p
    cases hg
    obtain ⟨rfl, rfl, rfl, ⟨xs, rfl, hl⟩, hp0, hp1⟩ := hc
    rw [bytesOf_rows]
    refine ⟨⟨by simp [likeBs, likeB], by simp [Blk.liveB, blkIds, AV.ids.idsL, AV.ids], by simp [AV.ids, AV.ids.idsL]⟩, _, rfl, fun w Z s vs h => h, ?_⟩
    clear hlive
    have hx : (∃ ys, rowsOfBytes xs = rowsOfBytes ys ∧ ys.length ≤ 2000) = True := eq_true ⟨xs, rfl, hl⟩
    have k1 := pickV_nonneg xs p 512 (by omega)
    have k2 := pickV_lt xs p 512 (by omega)
    have k3 := pickV_nonneg xs (p + 1) 256 (by omega)
    have k4 := pickV_lt xs (p + 1) 256 (by omega)
    have k5 := pickV_nonneg xs (p + 1 + 1) 256 (by omega)
    have k6 := pickV_lt xs (p + 1 + 1) 256 (by omega)
    have k7 := pickV_nonneg xs (p + 1 + 1 + 1) 2 (by omega)
    have k8 := pickV_lt xs (p + 1 + 1 + 1) 2 (by omega)
    have k9 := pickV_nonneg xs (p + 1 + 1 + 1 + 1) 8 (by omega)
    have k10 := pickV_lt xs (p + 1 + 1 + 1 + 1) 8 (by omega)
    have wa : IntKind.i64.wrap (4096 + pickV xs p 512) = 4096 + pickV xs p 512 := wrap_id (by omega) (by omega)
    have wb : IntKind.i64.wrap (pickV xs (p + 1) 256 * 256) = pickV xs (p + 1) 256 * 256 := wrap_id (by omega) (by omega)
    have wc : IntKind.i64.wrap (pickV xs (p + 1) 256 * 256 + pickV xs (p + 1 + 1) 256) = pickV xs (p + 1) 256 * 256 + pickV xs (p + 1 + 1) 256 := wrap_id (by omega) (by omega)
    have wd : IntKind.i64.wrap (pickV xs (p + 1 + 1 + 1) 2 * 65537) = pickV xs (p + 1 + 1 + 1) 2 * 65537 := wrap_id (by omega) (by omega)
    have we : IntKind.i64.wrap (65536 - pickV xs (p + 1 + 1 + 1) 2 * 65537) = 65536 - pickV xs (p + 1 + 1 + 1) 2 * 65537 := wrap_id (by omega) (by omega)
    have r1 := lit_get [0, 4096, 4352, 4353, 4096 + pickV xs p 512, 65535, pickV xs (p + 1) 256 * 256 + pickV xs (p + 1 + 1) 256, 65536 - pickV xs (p + 1 + 1 + 1) 2 * 65537] (pickV xs (p + 1 + 1 + 1 + 1) 8).toNat (by simp only [List.length_cons, List.length_nil]; omega)
    simp only [List.map_cons, List.map_nil] at r1
    rw [← addrW] at r1
    simp (maxSteps := 3000000) only [Try.f60, rdp, g_pick, bytesOf_rows, r1, wa, wb, wc, wd, we, D.toI, tYs, evL, implies_true, oMin, oCopy, oBin, oUn, oLoadKid, oStoreTree, oField, oExtract, oNil, oSliceQ, oLen, nodupB, treeOf, kidAbs, kidRows, TK.isCell, D.toL, oLoad, oStore, oMake, oIndexAddr, ↓reduceIte, reduceCtorEq, Nat.reduceBEq, Nat.reduceAdd, Nat.reduceMul, Nat.reduceLT, Nat.reduceSub, Nat.reduceLeDiff, Nat.reduceEqDiff, Nat.reduceBneDiff, Int.reduceToNat, decide_eq_true_eq, decide_eq_false_iff_not, beq_iff_eq, Int.toNat_natCast, hx]
    clear r1 hx
    repeat' first
      | refine And.intro (by omega) ?_
      | refine And.intro (by kernel_rfl) ?_
    exact ⟨[(0, some 0)], ⟨⟨⟨rfl, rfl, rfl⟩, trivial⟩, ⟨.inl rfl, rfl, rfl, rfl, trivial⟩, by simp [rn, hpAt]⟩, by simp [keepIds, rn]⟩
  · cases hg
def routesF (xs : List UInt8) : Nat → List RE → Int → List RE × Int
  | 0, l, p => (l, p)
  | k + 1, l, p => routesF xs k (if putB l (routeV xs p 0).e = true then putV l (routeV xs p 0).e else l) (routeV xs p 0).p
structure RoutesD where
  l : List RE
  p : Int
def routesV (xs : List UInt8) (p n : Int) : RoutesD :=
  if oddB xs (routesF xs (pickV xs p 8).toNat [] (p + 1)).2 n = true then ⟨(routesF xs (pickV xs p 8).toNat [] (p + 1)).1 ++ [(routeV xs ((routesF xs (pickV xs p 8).toNat [] (p + 1)).2 + oneIf n) 2).e], (routeV xs ((routesF xs (pickV xs p 8).toNat [] (p + 1)).2 + oneIf n) 2).p⟩
  else ⟨(routesF xs (pickV xs p 8).toNat [] (p + 1)).1, (routesF xs (pickV xs p 8).toNat [] (p + 1)).2 + oneIf n⟩
def g_routes : OC := fun args B0 => match args, B0 with
  | [.ptr r o, .v (.int .i64 n)], [.var T [.l 1 rows, .v (.int .i64 p)]] => some (T = 125 ∧ r = 0 ∧ o = 0 ∧ (∃ xs, rows = rowsOfBytes xs ∧ xs.length ≤ 2000) ∧ 0 ≤ p ∧ p < 80000000000 ∧ 0 ≤ n ∧ n ≤ 1000000,
      .own 1, [.var T [.l 1 rows, .v (.int .i64 (routesV (bytesOfRows rows) p n).p)]], [.sl 56 4 (rtRows (routesV (bytesOfRows rows) p n).l)])
  | _, _ => none
def rtd : List (FuncId × Abs) := [(69, ownAbs g_pick), (104, ownAbs g_odd), (103, ownAbs g_route), (102, pureAbs g_routePut)]
theorem rtd_ok : ∀ p ∈ rtd, CallOk Try.prog p.1 p.2 := by
  intro p hp
  simp only [rtd, List.mem_cons, List.not_mem_nil, or_false] at hp
  rcases hp with rfl | rfl | rfl | rfl
  · exact pick_ok.call
  · exact odd_ok.call
  · exact route_ok.call
  · exact specRoutePut_ok.call
set_option maxHeartbeats 4000000 in
set_option maxRecDepth 100000 in
theorem routes_ok : OwnOk Try.prog 61 g_routes := by
  refine OwnOk.of_vc (G := rtd) rtd_ok mixed Try.func61 (by kernel_rfl) rfl ?_
  intro args B0 cnd r B1 bs hg hc hlive
  unfold g_routes at hg
  split at hg
  · rename_i r o n T rows p
    cases hg
    obtain ⟨rfl, rfl, rfl, ⟨xs, rfl, hl⟩, hp0, hp1, hn0, hn1⟩ := hc
    rw [bytesOf_rows]
    refine ⟨⟨by simp [likeBs, likeB], by simp [Blk.liveB, blkIds, AV.ids.idsL, AV.ids], by simp [AV.ids, AV.ids.idsL]⟩, _, rfl, fun w Z s vs h => h, ?_⟩
    clear hlive
    have hx : (∃ ys, rowsOfBytes xs = rowsOfBytes ys ∧ ys.length ≤ 2000) = True := eq_true ⟨xs, rfl, hl⟩
    have k1 := pickV_nonneg xs p 8 (by omega)
    have k2 := pickV_lt xs p 8 (by omega)
    obtain ⟨m, hm⟩ : ∃ m : Nat, (pickV xs p 8).toNat = m := ⟨_, rfl⟩
    have hm' : pickV xs p 8 = (m : Int) := by omega
    simp (maxSteps := 3000000) only [Try.f61, rtd, g_pick, bytesOf_rows, tYs, evL, implies_true, oMin, oCopy, oBin, oUn, oLoadKid, oStoreTree, oField, oExtract, oNil, oSliceQ, oLen, nodupB, treeOf, kidAbs, kidRows, TK.isCell, D.toL, oLoad, oStore, oMake, oIndexAddr, ↓reduceIte, reduceCtorEq, Nat.reduceBEq, Nat.reduceAdd, Nat.reduceMul, Nat.reduceLT, Nat.reduceSub, Nat.reduceLeDiff, Nat.reduceEqDiff, Nat.reduceBneDiff, Int.reduceToNat, decide_eq_true_eq, decide_eq_false_iff_not, beq_iff_eq, Int.toNat_natCast, hx, hm']
    repeat' first
      | refine And.intro (by omega) ?_
      | refine And.intro (by kernel_rfl) ?_
    refine e_loop _ _ _ _ _ _ _ _ (fun x : Nat × List RE × Int => [.ptr 0 0, .v (.int .i64 n), .any, .any, .any, .own 1, .v (.int .i64 (x.1 : Int))] ++ List.replicate (Try.f61.ntmps - 7) .any) (fun x => [(0, .var 125 [.l 1 (rowsOfBytes xs), .v (.int .i64 x.2.2)]), (1, .sl 56 4 (rtRows x.2.1))]) (fun x => x.1 ≤ m ∧ x.2.1.length ≤ 8 ∧ (0 ≤ x.2.2 ∧ x.2.2 ≤ p + 1 + 10 * ((m : Int) - x.1)) ∧ routesF xs x.1 x.2.1 x.2.2 = routesF xs m [] (p + 1)) (fun x => x.1) 2 (fun x => by simp) ?_ fun x hk' => ?_
    · exact ⟨(m, [], p + 1), [(0, some 0), (1, some _)], ⟨Nat.le_refl _, Nat.zero_le _, ⟨by dsimp only; omega, by dsimp only; omega⟩, rfl⟩, ⟨⟨⟨rfl, rfl, rfl⟩, ⟨rfl, rfl, rfl⟩, trivial, trivial, trivial, ⟨rfl, rfl, rfl⟩, ⟨rfl, rfl, rfl⟩, fitT_rep _ _ rfl⟩, ⟨.inl rfl, rfl, rfl, rfl, .inl rfl, rfl, rfl, rfl, trivial⟩, by simp [rn, hpAt]⟩, by simp [keepIds, rn]⟩
    obtain ⟨k, l, q⟩ := x
    obtain ⟨hk1, hl8, hq, hinv⟩ := hk'
    dsimp only at hk1 hl8 hq hinv
    cases k with
    | zero =>
      have hg0 : (((0 : Nat) : Int) > 0) = False := eq_false (by omega)
      rw [routesF] at hinv
      have e1 : (routesF xs (pickV xs p 8).toNat [] (p + 1)).1 = l := by rw [hm, ← hinv]
      have e2 : (routesF xs (pickV xs p 8).toNat [] (p + 1)).2 = q := by rw [hm, ← hinv]
      obtain ⟨e, he⟩ : ∃ e, e = oneIf n := ⟨_, rfl⟩
      have be := oneIf_le n
      rw [← he] at be
      have he' : (if 0 < n then (1 : Int) else 0) = e := he.symm
      have eqR : ∀ z : RE, rtRows l ++ [[D.v (.int .i64 z.a), D.v (.int .i64 z.b), D.v (.int .i64 z.v), D.v (.int .i64 z.m)]] = rtRows (l ++ [z]) := fun z => rtRows_app l [z]
      simp (maxSteps := 3000000) only [Try.f61, rtd, g_pick, g_odd, g_route, bytesOf_rows, rtRows_len, eqR, hg0, tYs, evL, implies_true, oMin, oCopy, oBin, oUn, oLoadKid, oStoreTree, oField, oExtract, oNil, oSliceQ, oLen, nodupB, treeOf, kidAbs, kidRows, TK.isCell, D.toL, oLoad, oStore, oMake, oIndexAddr, ↓reduceIte, reduceCtorEq, Nat.reduceBEq, Nat.reduceAdd, Nat.reduceMul, Nat.reduceLT, Nat.reduceSub, Nat.reduceLeDiff, Nat.reduceEqDiff, Nat.reduceBneDiff, Int.reduceToNat, decide_eq_true_eq, decide_eq_false_iff_not, beq_iff_eq, Int.toNat_natCast, loopK_normal, loopK_exit, loopK_ret, hx, he']
      simp only [routesV, oddB, e1, e2, ← he]
      refine ⟨by omega, ?_⟩
      by_cases ho : (decide (0 < n) && pickV xs q n == n - 1) = true
      · simp only [ho, ↓reduceIte]
        repeat' first
          | refine And.intro (by omega) ?_
          | refine And.intro ⟨by omega, by omega, by simp⟩ ?_
          | refine And.intro (by kernel_rfl) ?_
        exact ⟨[(0, some 0), (1, some _)], ⟨⟨⟨rfl, rfl, rfl⟩, trivial⟩, ⟨.inl rfl, rfl, rfl, rfl, .inl rfl, rfl, rfl, rfl, trivial⟩, by simp [rn, hpAt]⟩, by simp [keepIds, rn]⟩
      · simp only [ho, ↓reduceIte, Bool.false_eq_true]
        exact ⟨[(0, some 0), (1, some _)], ⟨⟨⟨rfl, rfl, rfl⟩, trivial⟩, ⟨.inl rfl, rfl, rfl, rfl, .inl rfl, rfl, rfl, rfl, trivial⟩, by simp [rn, hpAt]⟩, by simp [keepIds, rn]⟩
    | succ k =>
      have hg0 : (((k + 1 : Nat) : Int) > 0) = True := eq_true (by omega)
      have w2 : IntKind.i64.wrap (((k + 1 : Nat) : Int) - 1) = (k : Int) := by rw [wrap_id] <;> omega
      have hrp := routeV_p xs q 0
      rw [routesF] at hinv
      have hE : ∀ z : RE, (⟨z.a, z.b, z.v, z.m⟩ : RE) = z := fun z => rfl
      cases hpb : putB l (routeV xs q 0).e with
      | false =>
        rw [if_neg (by rw [hpb]; decide)] at hinv
        simp (maxSteps := 3000000) only [Try.f61, rtd, g_route, g_routePut, bytesOf_rows, rtsOf_rows, rtRows_len, hE, hpb, hg0, tYs, evL, implies_true, oMin, oCopy, oBin, oUn, oLoadKid, oStoreTree, oField, oExtract, oNil, oSliceQ, oLen, nodupB, treeOf, kidAbs, kidRows, TK.isCell, D.toL, oLoad, oStore, oMake, oIndexAddr, ↓reduceIte, reduceCtorEq, Nat.reduceBEq, Nat.reduceAdd, Nat.reduceMul, Nat.reduceLT, Nat.reduceSub, Nat.reduceLeDiff, Nat.reduceEqDiff, Nat.reduceBneDiff, Int.reduceToNat, decide_eq_true_eq, decide_eq_false_iff_not, beq_iff_eq, Int.toNat_natCast, loopK_normal, loopK_exit, loopK_ret, hx, w2]
        repeat' first
          | refine And.intro (by omega) ?_
          | refine And.intro ⟨by omega, by omega⟩ ?_
          | refine And.intro ⟨l, rfl, by omega⟩ ?_
          | refine And.intro (by kernel_rfl) ?_
        exact ⟨(k, l, (routeV xs q 0).p), [(0, some 0), (1, some _)], ⟨by dsimp only; omega, hl8, ⟨by dsimp only; omega, by dsimp only; omega⟩, hinv⟩, by dsimp only; omega, ⟨⟨⟨rfl, rfl, rfl⟩, ⟨rfl, rfl, rfl⟩, trivial, trivial, trivial, ⟨rfl, rfl, rfl⟩, ⟨rfl, rfl, rfl⟩, fitT_rep _ _ rfl⟩, ⟨.inl rfl, rfl, rfl, rfl, .inl rfl, rfl, rfl, rfl, trivial⟩, by simp [rn, hpAt]⟩, by simp [keepIds, rn]⟩
      | true =>
        rw [if_pos hpb] at hinv
        have hl9 : (putV l (routeV xs q 0).e).length ≤ 8 := by
          rw [putV_yes hpb]
          simp only [putB, Bool.and_eq_true, decide_eq_true_eq] at hpb
          exact hpb.2
        simp (maxSteps := 3000000) only [Try.f61, rtd, g_route, g_routePut, bytesOf_rows, rtsOf_rows, rtRows_len, hE, hpb, hg0, tYs, evL, implies_true, oMin, oCopy, oBin, oUn, oLoadKid, oStoreTree, oField, oExtract, oNil, oSliceQ, oLen, nodupB, treeOf, kidAbs, kidRows, TK.isCell, D.toL, oLoad, oStore, oMake, oIndexAddr, ↓reduceIte, reduceCtorEq, Nat.reduceBEq, Nat.reduceAdd, Nat.reduceMul, Nat.reduceLT, Nat.reduceSub, Nat.reduceLeDiff, Nat.reduceEqDiff, Nat.reduceBneDiff, Int.reduceToNat, decide_eq_true_eq, decide_eq_false_iff_not, beq_iff_eq, Int.toNat_natCast, loopK_normal, loopK_exit, loopK_ret, hx, w2]
        repeat' first
          | refine And.intro (by omega) ?_
          | refine And.intro ⟨by omega, by omega⟩ ?_
          | refine And.intro ⟨l, rfl, by omega⟩ ?_
          | refine And.intro (by kernel_rfl) ?_
        exact ⟨(k, putV l (routeV xs q 0).e, (routeV xs q 0).p), [(0, some 0), (1, some _)], ⟨by dsimp only; omega, hl9, ⟨by dsimp only; omega, by dsimp only; omega⟩, hinv⟩, by dsimp only; omega, ⟨⟨⟨rfl, rfl, rfl⟩, ⟨rfl, rfl, rfl⟩, trivial, trivial, trivial, ⟨rfl, rfl, rfl⟩, ⟨rfl, rfl, rfl⟩, fitT_rep _ _ rfl⟩, ⟨.inl rfl, rfl, rfl, rfl, .inl rfl, rfl, rfl, rfl, trivial⟩, by simp [rn, hpAt]⟩, by simp [keepIds, rn]⟩
  · cases hg
end Go.Proofs.Ythbcoakimbpkgaa
