import Derived.Test.YtcpmifgdmlpcpaaR6
namespace Go.Proofs.Ytcpmifgdmlpcpaa
open Go.RowKit
set_option linter.unusedVariables false
def toTr : Blk → Blk
  | .sl e sz rows => .tr .whole e sz (List.replicate sz TK.cell) rows
  | b => b
theorem fitT_rep {f : Nat → Option Nat} {ks : List Nat} : ∀ (xs : List AV) (n : Nat), xs.length = n → fitT f ks xs (List.replicate n .any)
  | [], _, h => by subst h; exact trivial
  | x :: xs, _, h => by subst h; exact ⟨trivial, fitT_rep xs _ rfl⟩
section
variable {P : Program} {w : World} {Z : Nat → Prop} {L : Nat → Blk} {s : Nat → Value} {F : Nat → Prop} {W0 : Ent}
theorem HR.toTrees {bs : List Blk} (h : HR F W0 w (lk (hpAt 0 bs)) s Z) (hf : ∀ b ∈ bs, flatB b) : HR F W0 w (lk (hpAt 0 (bs.map toTr))) s Z := by
  have at_ : ∀ k, lk (hpAt 0 (bs.map toTr)) k = toTr (lk (hpAt 0 bs) k) := fun k => by
    rw [lk_hpAt, lk_hpAt]
    simp only [Nat.zero_le, if_true, Nat.sub_zero, List.getD, List.getElem?_map]
    cases bs[k]? <;> rfl
  have flat : ∀ k, (lk (hpAt 0 bs) k).live → flatB (lk (hpAt 0 bs) k) := fun k hk => by
    rw [lk_hpAt] at hk ⊢
    simp only [Nat.zero_le, if_true, Nat.sub_zero, List.getD] at hk ⊢
    cases hb : bs[k]? with
    | none => rw [hb] at hk; exact hk.elim
    | some b => exact hf b (List.mem_of_getElem? hb)
  have live : ∀ b : Blk, (toTr b).live → b.live := fun b h => by cases b <;> first | exact h | trivial
  have fp : ∀ (b : Blk) (v : Value) (g : Nat), flatB b → Fp w (toTr b) v g → Fp w b v g := fun b v g hfl hg => by
    cases b with
    | sl e sz rows =>
      rcases hg with hg | ⟨i, j, d, k, u, _, hd, hk, _, hin⟩
      · exact hg
      · have : k = TK.cell := (List.mem_replicate.1 (List.mem_of_getElem? hk)).2
        subst this
        cases hin
    | _ => exact hg
  refine ⟨fun k => ?_, fun k k' g a b c d => ?_, fun k g a b => ?_, fun k g a b => ?_, h.zin, h.kept, h.zsrc, h.zhas⟩
  · rw [at_]
    have hb := h.blk k
    cases hB : lk (hpAt 0 bs) k with
    | sl e sz rows =>
      rw [hB] at hb
      have hfl := flat k (by rw [hB]; trivial)
      rw [hB] at hfl
      obtain ⟨o1, -⟩ := sl_own hb hfl (cols := List.replicate sz TK.cell) (by simp) (by simp [TK.isCell])
      obtain ⟨rows', xs, u, e1, hT⟩ := o1.tree
      cases e1
      exact ⟨xs, u, hT, fun i j q hq => by cases hq⟩
    | none => trivial
    | dead => trivial
    | var T cs => rw [hB] at hb; have := flat k (by rw [hB]; trivial); rw [hB] at this; exact this.elim
    | still sz rows => rw [hB] at hb; exact hb
    | off e sz rows => rw [hB] at hb; exact hb
    | tr st e sz cols rows =>
      rw [hB] at hb
      have := flat k (by rw [hB]; trivial)
      rw [hB] at this
      cases st with
      | whole => obtain ⟨xs, u, hT, -⟩ := hb; exact ⟨xs, u, hT, fun i j q hq => by cases hq⟩
      | _ => exact this.elim
  · rw [at_] at a c
    rw [at_] at b d
    exact h.sepF k k' g (live _ a) (live _ b) (fp _ _ g (flat k (live _ a)) c) (fp _ _ g (flat k' (live _ b)) d)
  · rw [at_] at a b
    exact h.nzF k g (live _ a) (fp _ _ g (flat k (live _ a)) b)
  · rw [at_] at a b
    exact h.mineF k g (live _ a) (fp _ _ g (flat k (live _ a)) b)
theorem AVR.toTrees {L1 : Nat → Blk} (hL : ∀ k, L1 k = toTr (L k)) {a : AV} {x : Value} (h : AVR w Z L s a x) : AVR w Z L1 s a x := by
  have same : ∀ r B, L r = B → (∀ e sz rows, B ≠ .sl e sz rows) → L1 r = B := fun r B hB hn => by
    rw [hL, hB]
    cases B <;> first | rfl | exact absurd rfl (hn _ _ _)
  have sl : ∀ r e sz rows, L r = .sl e sz rows → L1 r = .tr .whole e sz (List.replicate sz TK.cell) rows := fun r e sz rows hB => by rw [hL, hB]; rfl
  induction h with
  | any x => exact .any x
  | mute x h => exact .mute x h
  | v x => exact .v x
  | l sz rows x h => exact .l sz rows x h
  | own r x e sz rows h hx hn => exact .ownTr r x _ e sz _ rows (sl _ _ _ _ h) hx hn
  | ownTr r x st e sz cols rows h hx hn => exact .ownTr r x st e sz cols rows (same _ _ h (by intro _ _ _ hc; cases hc)) hx hn
  | ownStill r x sz rows h hx ho => exact .ownStill r x sz rows (same _ _ h (by intro _ _ _ hc; cases hc)) hx ho
  | ownOff r x e sz rows h hx hn => exact .ownOff r x e sz rows (same _ _ h (by intro _ _ _ hc; cases hc)) hx hn
  | ownDead r x h ho => exact .ownDead r x (same _ _ h (by intro _ _ _ hc; cases hc)) ho
  | sub r lo hi x e sz rows h h1 h2 A n c hx hn hc hA => exact .subTr r lo hi x _ e sz _ rows (sl _ _ _ _ h) h1 h2 A n c hx hn hc hA
  | subTr r lo hi x st e sz cols rows h h1 h2 A n c hx hn hc hA => exact .subTr r lo hi x st e sz cols rows (same _ _ h (by intro _ _ _ hc; cases hc)) h1 h2 A n c hx hn hc hA
  | subStill r lo hi x sz rows h h1 h2 hx => exact .subStill r lo hi x sz rows (same _ _ h (by intro _ _ _ hc; cases hc)) h1 h2 hx
  | subDead r lo hi x h ho => exact .subDead r lo hi x (same _ _ h (by intro _ _ _ hc; cases hc)) ho
  | ptr r off x T cs h g hs hx => exact .ptr r off x T cs (same _ _ h (by intro _ _ _ hc; cases hc)) g hs hx
  | ptrDead r off x h ho => exact .ptrDead r off x (same _ _ h (by intro _ _ _ hc; cases hc)) ho
  | eptr r i j x e sz rows h g o n c hs hx => exact .eptrTr r i j x _ e sz _ rows (sl _ _ _ _ h) g o n c hs hx
  | eptrTr r i j x st e sz cols rows h g o n c hs hx => exact .eptrTr r i j x st e sz cols rows (same _ _ h (by intro _ _ _ hc; cases hc)) g o n c hs hx
  | subOff r lo hi x e sz rows h h1 h2 A n c hx hn hc hA => exact .subOff r lo hi x e sz rows (same _ _ h (by intro _ _ _ hc; cases hc)) h1 h2 A n c hx hn hc hA
  | eptrOff r i j x e sz rows h g o n c hs hx => exact .eptrOff r i j x e sz rows (same _ _ h (by intro _ _ _ hc; cases hc)) g o n c hs hx
  | eptrStill r i j x sz rows h ho => exact .eptrStill r i j x sz rows (same _ _ h (by intro _ _ _ hc; cases hc)) ho
  | eptrDead r i j x h ho => exact .eptrDead r i j x (same _ _ h (by intro _ _ _ hc; cases hc)) ho
  | rptr cells b off u h1 h2 h3 => exact .rptr cells b off u h1 h2 h3
  | agg cs vs hl _ ih => exact .agg cs vs hl ih
  | tup cs vs hl _ ih => exact .tup cs vs hl ih
theorem PureOk.toTree {f : FuncId} {g g' : PC} (C : PureOk P f g) (hg : ∀ args c r bs', g' args = some (c, r, bs') → ∃ bs, g args = some (c, r, bs) ∧ bs' = bs.map toTr) : PureOk P f g' := by
  refine ⟨C.there, fun w args vs c r bs' hargs hg' hc => ?_⟩
  obtain ⟨bs, h1, rfl⟩ := hg args c r bs' hg'
  obtain ⟨⟨a1, a2, a3⟩, hcall⟩ := C.does w args vs c r bs hargs h1 hc
  refine ⟨⟨a1, fun b hb => ?_, by simpa using a3⟩, hcall.mono ?_⟩
  · obtain ⟨b0, h0, rfl⟩ := List.mem_map.1 hb
    have := a2 b0 h0
    cases b0 with
    | sl => trivial
    | _ => exact this
  · rintro e w' ⟨v, s, Z, rfl, H, hr⟩
    refine ⟨v, s, Z, rfl, H.toTrees a2, hr.toTrees fun k => ?_⟩
    rw [lk_hpAt, lk_hpAt]
    simp only [Nat.zero_le, if_true, Nat.sub_zero, List.getD, List.getElem?_map]
    cases bs[k]? <;> rfl
end
def nilRow : List TK → List D → List D → Prop
  | [], [], [] => True
  | k :: ks, a :: xs, b :: ys => nilC k a b ∧ nilRow ks xs ys
  | _, _, _ => False
theorem nilRow_at : ∀ {cols : List TK} {a b : List D}, nilRow cols a b → b.length = cols.length ∧ ∀ (j : Nat) d k, b[j]? = some d → cols[j]? = some k → ∃ d0, a[j]? = some d0 ∧ nilC k d0 d
  | [], [], [], _ => ⟨rfl, fun j d k h => by simp at h⟩
  | k :: ks, a :: xs, b :: ys, ⟨h1, h2⟩ => by
    obtain ⟨l, h3⟩ := nilRow_at h2
    refine ⟨by simp [l], fun j d k' hd hk => ?_⟩
    cases j with
    | zero => simp at hd hk; subst hd; subst hk; exact ⟨a, rfl, h1⟩
    | succ j => simpa using h3 j d k' (by simpa using hd) (by simpa using hk)
  | [], _ :: _, _, h => h.elim
  | [], [], _ :: _, h => h.elim
  | _ :: _, [], _, h => h.elim
  | _ :: _, _ :: _, [], h => h.elim
theorem SeenAs.rep {sz n : Nat} {cols : List TK} {a b : List D} (h : nilRow cols a b) (hc : cols.length = sz) : SeenAs sz cols (List.replicate n a) (List.replicate n b) := by
  obtain ⟨l, h3⟩ := nilRow_at h
  refine ⟨hc, by simp, fun r hr => ?_, fun i j d k hd hk => ?_⟩
  · obtain ⟨_, rfl⟩ := List.mem_replicate.1 hr
    rw [l, hc]
  · unfold rowAt at hd ⊢
    rw [List.getElem?_replicate] at hd ⊢
    split at hd
    · rename_i hi
      rw [if_pos hi]
      exact h3 j d k (by simpa using hd) hk
    · simp at hd
theorem SeenAs.flat {sz : Nat} {cols : List TK} {rows : List (List D)} (hf : flatRows rows) (hw : ∀ r ∈ rows, r.length = sz) (hc : cols.length = sz) (ha : cols.all TK.isCell = true) : SeenAs sz cols rows rows := by
  refine ⟨hc, rfl, hw, fun i j d k hd hk => ⟨d, hd, ?_⟩⟩
  have : k = TK.cell := by
    have := List.all_eq_true.1 ha k (List.mem_of_getElem? hk)
    cases k with
    | cell => rfl
    | sl => cases this
  subst this
  unfold rowAt at hd
  cases hrow : rows[i]? with
  | none => simp [hrow] at hd
  | some row =>
    simp [hrow] at hd
    obtain ⟨x, rfl⟩ := hf row (List.mem_of_getElem? hrow) d (List.mem_of_getElem? hd)
    exact ⟨rfl, x, rfl⟩
end Go.Proofs.Ytcpmifgdmlpcpaa
