import Derived.Test.YtpompkogpdnlcaaRx
namespace Go.Proofs.Ytpompkogpdnlcaa
open Go.RowKit

/-- how a text ends, told of what it hands back -/
def EndsO (xs : Option (List AV)) (r : AV) (hp hp' : HP) (m : Nat) : Prop := match xs with
  | some xs => ∃ p, Fits [packA xs] hp [r] hp' p ∧ keepIds (List.range m) hp' p = true
  | none => False
def DoneO (P : Program) (fn : Func) (r : AV) (hp' : HP) (m : Nat) : Post := fun e tm hp _ => match e with
  | .normal | .ret => EndsO (resL P hp tm fn.results.toList) r hp hp' m
  | _ => False
theorem doneO_ret (P : Program) (fn : Func) (r : AV) (hp' : HP) (m : Nat) (tm : List AV) (hp : HP) (n : Nat) : DoneO P fn r hp' m .ret tm hp n = EndsO (resL P hp tm fn.results.toList) r hp hp' m := rfl
theorem doneO_normal (P : Program) (fn : Func) (r : AV) (hp' : HP) (m : Nat) (tm : List AV) (hp : HP) (n : Nat) : DoneO P fn r hp' m .normal tm hp n = EndsO (resL P hp tm fn.results.toList) r hp hp' m := rfl
theorem endsO_one (x r : AV) (hp hp' : HP) (m : Nat) : EndsO (some [x]) r hp hp' m = ∃ p, Fits [x] hp [r] hp' p ∧ keepIds (List.range m) hp' p = true := rfl
theorem endsO_nil (r : AV) (hp hp' : HP) (m : Nat) : EndsO (some []) r hp hp' m = ∃ p, Fits [.tup []] hp [r] hp' p ∧ keepIds (List.range m) hp' p = true := rfl
theorem endsO_more (x y : AV) (xs : List AV) (r : AV) (hp hp' : HP) (m : Nat) : EndsO (some (x :: y :: xs)) r hp hp' m = ∃ p, Fits [.tup (x :: y :: xs)] hp [r] hp' p ∧ keepIds (List.range m) hp' p = true := rfl

section
variable {P : Program}

theorem OwnOk.of_vc {G : List (FuncId × Abs)} (hG : ∀ p ∈ G, CallOk P p.1 p.2) (hm : P.follows .mixedOrders = true) {f : FuncId} {fn : Func} {c : Code} {g : OC} (hf : P.funcs[f]? = some fn) (hname : (fn.name == "runtime.NumGoroutine") = false) (hb : fn.body = some c)
    (h : ∀ args B0 cnd r B1 bs, g args B0 = some (cnd, r, B1, bs) → cnd → (∀ b ∈ B0, b.liveB = true) → (likeBs B0 B1 ∧ (∀ b ∈ B1 ++ bs, b.liveB = true ∧ blkIds b = []) ∧ (∀ k ∈ r.ids, k < B1.length + bs.length)) ∧
      ∃ args' : List AV, args'.length = args.length ∧ (∀ w Z s vs, ARel w Z (lk (hpAt 0 B0)) s args vs → ARel w Z (lk (hpAt 0 B0)) s args' vs) ∧
      vc P G (List.range B0.length) c (DoneO P fn r (hpAt 0 (B1 ++ bs)) B0.length) (args' ++ List.replicate (fn.ntmps - args'.length) (.v undef)) (hpAt 0 B0) B0.length) : OwnOk P f g := by
  refine ⟨⟨fn, c, hf, hname, hb⟩, fun w F Z0 s0 args vs B0 cnd r B1 bs hH hargs hlive hg hc => ?_⟩
  obtain ⟨hflat, args', hl, hconv, hvc⟩ := h args B0 cnd r B1 bs hg hc hlive
  refine ⟨hflat, calls_of_wp hf hb ?_⟩
  have ha := hconv w Z0 s0 vs hargs
  have hat : ∀ i, i < B0.length → lk (hpAt 0 B0) i = B0.getD i .none ∧ (B0.getD i .none).liveB = true := fun i hi => by
    refine ⟨by rw [lk_hpAt]; simp, ?_⟩
    simp only [List.getD, List.getElem?_eq_getElem hi, Option.getD_some]
    exact hlive _ (List.getElem_mem hi)
  have hl1 : B1.length = B0.length := (likeBs_at hflat.1).1.symm
  refine vc_ok (S := (List.range B0.length).map fun i => (i, s0 i)) (by rw [List.map_map]; exact (List.map_id _).symm) (F := F) (W0 := ⟨w, Z0⟩) hG hm c _ _ (hpAt 0 B0) B0.length _ w _ hvc ⟨s0, Z0, hH, ⟨?_, fun i x y hx hy => ?_, rfl⟩, fun k hk => ?_, fun p hp => ?_⟩ fun e tm' hp' n' a' w' hk hB => ?_
  · simp [ha.1]
  · by_cases hi : i < args'.length
    · rw [List.getElem?_append_left hi] at hx
      rw [Array.getElem?_append_left (by simp [ha.1]; exact hi)] at hy
      exact ha.2 i x y hx (by simpa using hy)
    · rw [List.getElem?_append_right (by omega)] at hx
      rw [Array.getElem?_append_right (by simp [ha.1]; omega)] at hy
      rw [List.getElem?_replicate] at hx
      rw [Array.getElem?_replicate] at hy
      split at hx
      · simp at hx; subst hx
        split at hy
        · simp at hy; subst hy; exact .v _
        · cases hy
      · cases hx
  · rw [lk_hpAt]
    simp only [Nat.zero_le, if_true, Nat.sub_zero]
    simp only [List.getD, List.getElem?_eq_none hk, Option.getD_none]
  · obtain ⟨i, hi, rfl⟩ := List.mem_map.1 hp
    have hi : i < B0.length := List.mem_range.1 hi
    obtain ⟨k1, k2⟩ := hat i hi
    dsimp only
    rw [k1]
    exact ⟨(fun e => by rw [e] at k2; cases k2), .inr rfl⟩
  · obtain ⟨s, Z, h1, h2, h3, h4⟩ := hB
    have fin : EndsO (resL P hp' tm' fn.results.toList) r hp' (hpAt 0 (B1 ++ bs)) B0.length → a'.defers = [] ∧ ∃ v, (results fn a'.tmps).run P w' = .ok v w' ∧ ∃ v' s Z, Ending.returned v = .returned v' ∧ HR F ⟨w, Z0⟩ w' (lk (hpAt 0 (B1 ++ bs))) s Z ∧ (∀ i, i < B0.length → s i = s0 i) ∧ AVR w' Z (lk (hpAt 0 (B1 ++ bs))) s r v' := by
      intro he
      unfold EndsO at he
      split at he
      · rename_i xs hx
        obtain ⟨p, hfit, hkeep⟩ := he
        obtain ⟨v, k1, k2⟩ := res_ok (P := P) h1 h2 hx
        refine ⟨h2.defers, v, k1, v, sRen (rn p) s, Z, rfl, h1.fits hfit, fun i hi => ?_, AVR.fits hfit (i := 0) rfl fun z hz => by simp at hz; subst hz; exact k2⟩
        have hki := List.all_eq_true.1 hkeep i (List.mem_range.2 hi)
        rw [Bool.and_eq_true] at hki
        have e1 : rn p i = some i := by simpa using hki.1
        have e2 : i ∈ (hpAt 0 (B1 ++ bs)).map (·.1) := by simpa using hki.2
        obtain ⟨g1, -, -, g2⟩ := fitH_at hfit.h i e2
        obtain ⟨q1, q2⟩ := h4 (i, s0 i) (List.mem_map.2 ⟨i, List.mem_range.2 hi, rfl⟩)
        simp only [fitB, e1] at g1
        simp only [sRen, e1]
        rcases q2 with q2 | q2
        · exfalso
          rw [q2] at g1
          have hlive1 : (lk (hpAt 0 (B1 ++ bs)) i).liveB = true := by
            rw [lk_hpAt]
            simp only [Nat.zero_le, if_true, Nat.sub_zero, List.getD]
            rw [List.getElem?_eq_getElem (by rw [List.length_append]; omega)]
            exact (hflat.2.1 _ (List.getElem_mem (by rw [List.length_append]; omega))).1
          cases hb : lk (hpAt 0 (B1 ++ bs)) i <;> rw [hb] at g1 hlive1 <;> simp [Blk.ren, Blk.liveB] at g1 hlive1
        · exact q2
      · exact he.elim
    cases e with
    | normal => exact fin hk
    | ret => exact fin hk
    | _ => exact hk.elim
end

/-! arguments as data of a width -/
inductive Cv : AV → AV → Prop
  | refl (a : AV) : Cv a a
  | l (sz sz' : Nat) (rows : List (List D)) (h : ∀ r ∈ rows, r.length = sz') : Cv (.l sz rows) (.l sz' rows)
  | agg (xs ys : List AV) (hl : ys.length = xs.length) (h : ∀ (i : Nat) x y, xs[i]? = some x → ys[i]? = some y → Cv x y) : Cv (.agg xs) (.agg ys)
section
variable {w : World} {Z : Nat → Prop} {L : Nat → Blk} {s : Nat → Value}
theorem Rep.resize {sz sz' : Nat} {rows : List (List D)} {x : Value} (h : Rep w Z (.l sz rows) x) (hr : ∀ r ∈ rows, r.length = sz') : Rep w Z (.l sz' rows) x := by
  cases h with
  | e => exact .e _ _ _
  | l _ _ b off n c u hn hc hs hz hcell hrep =>
    rcases rows with _ | ⟨r, rows⟩
    · simp at hn; subst hn; exact .e _ _ _
    · have : sz = sz' := by rw [← hs r (by simp), hr r (by simp)]
      subst this
      exact .l _ _ b off n c u hn hc hs hz hcell hrep
theorem Cv.ok {a b : AV} (h : Cv a b) : ∀ {x : Value}, AVR w Z L s a x → AVR w Z L s b x := by
  induction h with
  | refl a => exact fun h => h
  | l sz sz' rows hr => intro x hx; cases hx with | l _ _ _ h => exact .l _ _ _ (h.resize hr)
  | agg xs ys hl _ ih =>
    intro x hx
    cases hx with
    | agg _ vs hvl hvs =>
      refine .agg _ vs (by omega) fun i y v hy hv => ?_
      have hi : i < xs.length := by have := (List.getElem?_eq_some_iff.1 hv).1; omega
      exact ih i _ y (List.getElem?_eq_getElem hi) hy (hvs i _ v (List.getElem?_eq_getElem hi) hv)
theorem CvL.ok {xs ys : List AV} {vs : List Value} (h : Cv (.agg xs) (.agg ys)) (hx : ARel w Z L s xs vs) : ARel w Z L s ys vs := by
  have := h.ok (.agg xs vs hx.1 hx.2)
  cases this with
  | agg _ vs' h1 h2 => exact ⟨h1, h2⟩
end
theorem Cv.nil : Cv (.agg []) (.agg []) := .refl _
theorem Cv.cons {x y : AV} {xs ys : List AV} (h : Cv x y) (k : Cv (.agg xs) (.agg ys)) : Cv (.agg (x :: xs)) (.agg (y :: ys)) := by
  have hk : ys.length = xs.length ∧ ∀ (i : Nat) a b, xs[i]? = some a → ys[i]? = some b → Cv a b := by
    cases k with
    | refl => exact ⟨rfl, fun i a b ha hb => by rw [ha] at hb; cases hb; exact .refl _⟩
    | agg _ _ hl h => exact ⟨hl, h⟩
  refine .agg _ _ (by simp [hk.1]) fun i a b ha hb => ?_
  cases i with
  | zero => simp at ha hb; subst ha; subst hb; exact h
  | succ i => exact hk.2 i a b (by simpa using ha) (by simpa using hb)

/-! bytes -/
theorem bytesOf_rows (xs : List UInt8) : bytesOfRows (rowsOfBytes xs) = xs := by
  simp only [bytesOfRows, rowsOfBytes, List.map_map]
  rw [List.map_congr_left (g := id) fun x _ => ?_]
  · simp
  · simp [byteOf, D.toI]
theorem rowsOf_len (xs : List UInt8) : (rowsOfBytes xs).length = xs.length := by simp [rowsOfBytes]
theorem rowsOf_w (xs : List UInt8) : ∀ r ∈ rowsOfBytes xs, r.length = 1 := fun r hr => by
  simp only [rowsOfBytes, List.mem_map] at hr
  obtain ⟨x, _, rfl⟩ := hr
  rfl
theorem rowsOf_get (xs : List UInt8) (i : Nat) (h : i < xs.length) : (rowsOfBytes xs).getD i [] = [.v (.int .u8 ((xs.getD i 0).toNat : Int))] := by
  simp [rowsOfBytes, List.getD, h]
theorem rowsOf_app (xs ys : List UInt8) : rowsOfBytes xs ++ rowsOfBytes ys = rowsOfBytes (xs ++ ys) := by simp [rowsOfBytes]
theorem rowsOf_nil : rowsOfBytes [] = [] := rfl
theorem rowsOf_flat (xs : List UInt8) : ∀ r ∈ rowsOfBytes xs, ∀ d ∈ r, ∃ x, d = .v x := fun r hr d hd => by
  simp only [rowsOfBytes, List.mem_map] at hr
  obtain ⟨x, _, rfl⟩ := hr
  simp at hd
  exact ⟨_, hd⟩
theorem rowsOf_inj {xs ys : List UInt8} (h : rowsOfBytes xs = rowsOfBytes ys) : xs = ys := by rw [← bytesOf_rows xs, h, bytesOf_rows]
theorem rowsOf_take (xs : List UInt8) (k : Nat) : (rowsOfBytes xs).take k = rowsOfBytes (xs.take k) := by simp [rowsOfBytes, List.map_take]
theorem rowsOf_drop (xs : List UInt8) (k : Nat) : (rowsOfBytes xs).drop k = rowsOfBytes (xs.drop k) := by simp [rowsOfBytes, List.map_drop]
theorem rowsOf_set (xs : List UInt8) (k : Nat) (x : UInt8) : (rowsOfBytes xs).set k [.v (.int .u8 (x.toNat : Int))] = rowsOfBytes (xs.set k x) := by simp [rowsOfBytes, List.map_set]
end Go.Proofs.Ytpompkogpdnlcaa
