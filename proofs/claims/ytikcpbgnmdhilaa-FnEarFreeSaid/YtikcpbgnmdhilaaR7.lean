import Derived.Test.YtikcpbgnmdhilaaR6
namespace Go.Proofs.Ytikcpbgnmdhilaa
open Go.RowKit
set_option linter.unusedVariables false
theorem fitT_rep {f : Nat → Option Nat} {ks : List Nat} : ∀ (xs : List AV) (n : Nat), xs.length = n → fitT f ks xs (List.replicate n .any)
  | [], _, h => by subst h; exact trivial
  | x :: xs, _, h => by subst h; exact ⟨trivial, fitT_rep xs _ rfl⟩
section
variable {P : Program} {w : World} {Z : Nat → Prop} {L : Nat → Blk} {s : Nat → Value} {F : Nat → Prop} {W0 : Ent}
theorem ren_self : ∀ (n : Nat) (a : AV), SizeOf.sizeOf a ≤ n → a.ren (fun k => some k) = a := by
  intro n
  induction n with
  | zero => intro a ha; cases a <;> simp at ha <;> omega
  | succ n ih =>
    intro a ha
    cases a with
    | agg cs =>
      simp only [AV.ren, renL_map]
      congr 1
      exact (List.map_congr_left fun c hc => ih c (by have := List.sizeOf_lt_of_mem hc; simp at ha; omega)).trans (List.map_id' _)
    | tup cs =>
      simp only [AV.ren, renL_map]
      congr 1
      exact (List.map_congr_left fun c hc => ih c (by have := List.sizeOf_lt_of_mem hc; simp at ha; omega)).trans (List.map_id' _)
    | _ => rfl
theorem PureOk.toOwn {f : FuncId} {g : PC} (C : PureOk P f g) : OwnOk P f (ocOf g) := by
  refine ⟨C.there, fun w F Z0 s0 args vs B0 c r B1 bs hH hargs hlive hg hc => ?_⟩
  unfold ocOf at hg
  split at hg
  · split at hg
    · rename_i c' r' bs' hg'
      cases hg
      have hlk : lk (hpAt 0 []) = fun _ => Blk.none := by funext k; rfl
      rw [hlk] at hargs hH
      have hE : Ext w Z0 (fun _ => .none) s0 w (Zold w) (fun _ => .none) (fun _ => nilS) := ⟨fun b hb => hH.zin b hb, fun _ _ => rfl, fun _ => .fresh rfl, fun r _ _ h => h.elim⟩
      obtain ⟨⟨a1, a2, a3⟩, hcall⟩ := C.does w args vs c r bs ⟨hargs.1, fun i x y hx hy => (hargs.2 i x y hx hy).mono hE⟩ hg' hc
      refine ⟨⟨trivial, fun b hb => ?_, by simpa using a3⟩, hcall.mono ?_⟩
      · have := a2 b (by simpa using hb)
        cases b with
        | sl => exact ⟨.inl rfl, rfl⟩
        | tr st e sz cols rows => cases st <;> first | exact ⟨.inl rfl, rfl⟩ | exact this.elim
        | _ => exact this.elim
      · rintro e w' ⟨v, s, Z, rfl, H, hr⟩
        have hw : ∀ b, b < w.heap.size → w'.heap[b]? = w.heap[b]? := fun b hb => H.kept.block b hb fun h => h
        have flat : ∀ k, lk (hpAt 0 bs) k = .none ∨ flatB (lk (hpAt 0 bs) k) := fun k => by
          rw [lk_hpAt]
          simp only [Nat.zero_le, if_true, Nat.sub_zero, List.getD]
          cases hb : bs[k]? with
          | none => exact .inl rfl
          | some b => exact .inr (a2 b (List.mem_of_getElem? hb))
        rw [show ([] : List Blk) ++ bs = bs from rfl]
        refine ⟨v, s, Z0, rfl, ⟨fun k => ?_, H.sepF, fun k g' l1 g1 hz => ?_, fun k g' l1 g1 => ?_, fun b hb => Nat.lt_of_lt_of_le (hH.zin b hb) H.kept.size, ⟨H.kept.os, H.kept.tape, H.kept.output, H.kept.size, fun b hb _ => hw b hb⟩, fun b hb => .inl hb, fun b hb => hb⟩, fun i hi => by simp at hi, ?_⟩
        · have hb := H.blk k
          rcases flat k with hf | hf
          · rw [hf]; trivial
          · generalize lk (hpAt 0 bs) k = b at hb hf
            cases b with
            | sl e sz rows =>
              obtain ⟨k1, k2, xs, k3, k4⟩ := hb
              refine ⟨k1, k2, xs, k3, fun i j d hd => ?_⟩
              obtain ⟨u, hu, hr⟩ := k4 i j d hd
              refine ⟨u, hu, flat_rep ?_ hr⟩
              unfold rowAt at hd
              cases hrow : rows[i]? with
              | none => simp [hrow] at hd
              | some row => simp [hrow] at hd; exact hf row (List.mem_of_getElem? hrow) d (List.mem_of_getElem? hd)
            | tr st e sz cols rows =>
              cases st with
              | whole => obtain ⟨xs, u, hT, -⟩ := hb; exact ⟨xs, u, hT, fun i j q hq => by cases hq⟩
              | _ => exact hf.elim
            | _ => exact hf.elim
        · have := (H.mineF k g' l1 g1).1.resolve_left fun h => h
          have h2 := hH.zin g' hz
          have h3 : w.heap.size ≤ g' := this
          omega
        · have := H.mineF k g' l1 g1
          exact ⟨.inr (this.1.resolve_left fun h => h), this.2⟩
        · have := flat_avr (q := 0) (w' := w') (Z' := Z0) (L' := lk (hpAt 0 bs)) (s' := s) hr a1 fun k hk => by
            rw [Nat.zero_add]
            refine ⟨rfl, rfl, fun sz rows hst => ?_⟩
            rcases flat k with hf | hf <;> rw [hst] at hf
            · cases hf
            · exact hf
          have e : r.ren (sh 0) = r := by
            have hsh : sh 0 = fun k => some k := by funext k; simp [sh]
            rw [hsh]
            exact ren_self _ r (Nat.le_refl _)
          rwa [e] at this
    · cases hg
  · cases hg
end
def nilRow : List TK → List D → List D → Prop
  | [], [], [] => True
  | k :: ks, a :: xs, b :: ys => nilC k a b ∧ nilRow ks xs ys
  | _, _, _ => False
theorem nilRow_at : ∀ {cols : List TK} {a b : List D}, nilRow cols a b → b.length = cols.length ∧ ∀ (j : Nat) d k, b[j]? = some d → cols[j]? = some k → ∃ d0, a[j]? = some d0 ∧ nilC k d0 d
  | [], [], [], _ => ⟨rfl, fun j d k h => by simp at h⟩
  | k :: ks, a :: xs, b :: ys, ⟨h1, h2⟩ => by
    obtain ⟨l, h3⟩ := nilRow_at h2
    refine ⟨by simp [l], fun j d k' hd hk => ?_⟩
    cases j with
    | zero => simp at hd hk; subst hd; subst hk; exact ⟨a, rfl, h1⟩
    | succ j => simpa using h3 j d k' (by simpa using hd) (by simpa using hk)
  | [], _ :: _, _, h => h.elim
  | [], [], _ :: _, h => h.elim
  | _ :: _, [], _, h => h.elim
  | _ :: _, _ :: _, [], h => h.elim
theorem SeenAs.rep {sz n : Nat} {cols : List TK} {a b : List D} (h : nilRow cols a b) (hc : cols.length = sz) : SeenAs sz cols (List.replicate n a) (List.replicate n b) := by
  obtain ⟨l, h3⟩ := nilRow_at h
  refine ⟨hc, by simp, fun r hr => ?_, fun i j d k hd hk => ?_⟩
  · obtain ⟨_, rfl⟩ := List.mem_replicate.1 hr
    rw [l, hc]
  · unfold rowAt at hd ⊢
    rw [List.getElem?_replicate] at hd ⊢
    split at hd
    · rename_i hi
      rw [if_pos hi]
      exact h3 j d k (by simpa using hd) hk
    · simp at hd
theorem SeenAs.flat {sz : Nat} {cols : List TK} {rows : List (List D)} (hf : flatRows rows) (hw : ∀ r ∈ rows, r.length = sz) (hc : cols.length = sz) (ha : cols.all TK.isCell = true) : SeenAs sz cols rows rows := by
  refine ⟨hc, rfl, hw, fun i j d k hd hk => ⟨d, hd, ?_⟩⟩
  have : k = TK.cell := by
    have := List.all_eq_true.1 ha k (List.mem_of_getElem? hk)
    cases k with
    | cell => rfl
    | sl => cases this
  subst this
  unfold rowAt at hd
  cases hrow : rows[i]? with
  | none => simp [hrow] at hd
  | some row =>
    simp [hrow] at hd
    obtain ⟨x, rfl⟩ := hf row (List.mem_of_getElem? hrow) d (List.mem_of_getElem? hd)
    exact ⟨rfl, x, rfl⟩
end Go.Proofs.Ytikcpbgnmdhilaa
