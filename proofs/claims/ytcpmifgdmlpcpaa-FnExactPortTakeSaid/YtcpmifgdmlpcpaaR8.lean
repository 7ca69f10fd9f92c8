import Derived.Test.YtcpmifgdmlpcpaaR7
namespace Go.Proofs.Ytcpmifgdmlpcpaa
open Go.RowKit
set_option linter.unusedVariables false
set_option linter.unusedSimpArgs false
def Ans (L : Nat → Blk) : Prop := ∀ r, L r = .none ∨ (∃ e sz rows, L r = .sl e sz rows) ∨ ∃ e sz cols rows, L r = .tr .whole e sz cols rows
section
variable {P : Program} {w : World} {Z : Nat → Prop} {L : Nat → Blk} {s : Nat → Value} {F : Nat → Prop} {W0 : Ent}
end
def ansB : Blk → Bool
  | .sl .. => true
  | .tr .whole .. => true
  | _ => false
theorem ansB_of {bs : List Blk} (h : ∀ b ∈ bs, ansB b = true) : Ans (lk (hpAt 0 bs)) := fun r => by
  rw [lk_hpAt]
  simp only [Nat.zero_le, if_true, Nat.sub_zero, List.getD]
  cases hb : bs[r]? with
  | none => exact .inl rfl
  | some b =>
    have := h b (List.mem_of_getElem? hb)
    cases b with
    | sl e sz rows => exact .inr (.inl ⟨e, sz, rows, rfl⟩)
    | tr st e sz cols rows => cases st <;> first | exact .inr (.inr ⟨e, sz, cols, rows, rfl⟩) | cases this
    | _ => cases this
def meltF : Blk → Blk
  | .tr .whole e sz cols rows => if cols.all TK.isCell = true then .sl e sz rows else .tr .whole e sz cols rows
  | b => b
section
variable {P : Program} {w : World} {Z : Nat → Prop} {L : Nat → Blk} {s : Nat → Value} {F : Nat → Prop} {W0 : Ent}
theorem meltF_is {B : Blk} (hB : B = .none ∨ (∃ e sz rows, B = .sl e sz rows) ∨ ∃ e sz cols rows, B = .tr .whole e sz cols rows) : (meltF B = B) ∨ ∃ e sz cols rows, B = .tr .whole e sz cols rows ∧ cols.all TK.isCell = true ∧ meltF B = .sl e sz rows := by
  rcases hB with rfl | ⟨e, sz, rows, rfl⟩ | ⟨e, sz, cols, rows, rfl⟩
  · exact .inl rfl
  · exact .inl rfl
  · by_cases h : cols.all TK.isCell = true
    · exact .inr ⟨e, sz, cols, rows, rfl, h, if_pos h⟩
    · exact .inl (if_neg h)
theorem AVR.meltsF {L1 : Nat → Blk} (hA : Ans L) (hL : ∀ k, L1 k = meltF (L k)) {a : AV} {x : Value} (h : AVR w Z L s a x) : AVR w Z L1 s a x := by
  have at_ : ∀ r, L1 r = L r ∨ ∃ e sz cols rows, L r = .tr .whole e sz cols rows ∧ L1 r = .sl e sz rows := fun r => by
    rw [hL]
    rcases meltF_is (hA r) with h | ⟨e, sz, cols, rows, h1, _, h3⟩
    · exact .inl h
    · exact .inr ⟨e, sz, cols, rows, h1, h3⟩
  have same : ∀ r B, L r = B → (∀ st e sz cols rows, B ≠ .tr st e sz cols rows) → L1 r = B := fun r B hB hn => by
    rcases at_ r with h | ⟨e, sz, cols, rows, h1, _⟩
    · rw [h, hB]
    · rw [hB] at h1; exact absurd h1 (hn _ _ _ _ _)
  have tr : ∀ r st e sz cols rows, L r = .tr st e sz cols rows → L1 r = .tr st e sz cols rows ∨ L1 r = .sl e sz rows := fun r st e sz cols rows hB => by
    rcases at_ r with h | ⟨e, sz, cols, rows, h1, h2⟩
    · exact .inl (by rw [h, hB])
    · rw [hB] at h1; cases h1; exact .inr h2
  induction h with
  | any x => exact .any x
  | mute x h => exact .mute x h
  | v x => exact .v x
  | l sz rows x h => exact .l sz rows x h
  | own r x e sz rows h hx hn => exact .own r x e sz rows (same _ _ h (by intro _ _ _ _ _ hc; cases hc)) hx hn
  | ownTr r x st e sz cols rows h hx hn =>
    rcases tr _ _ _ _ _ _ h with k | k
    · exact .ownTr r x st e sz cols rows k hx hn
    · exact .own r x e sz rows k hx hn
  | ownStill r x sz rows h hx ho => exact .ownStill r x sz rows (same _ _ h (by intro _ _ _ _ _ hc; cases hc)) hx ho
  | ownOff r x e sz rows h hx hn => exact .ownOff r x e sz rows (same _ _ h (by intro _ _ _ _ _ hc; cases hc)) hx hn
  | ownDead r x h ho => exact .ownDead r x (same _ _ h (by intro _ _ _ _ _ hc; cases hc)) ho
  | sub r lo hi x e sz rows h h1 h2 A n c hx hn hc hA => exact .sub r lo hi x e sz rows (same _ _ h (by intro _ _ _ _ _ hc; cases hc)) h1 h2 A n c hx hn hc hA
  | subTr r lo hi x st e sz cols rows h h1 h2 A n c hx hn hc hA =>
    rcases tr _ _ _ _ _ _ h with k | k
    · exact .subTr r lo hi x st e sz cols rows k h1 h2 A n c hx hn hc hA
    · exact .sub r lo hi x e sz rows k h1 h2 A n c hx hn hc hA
  | subStill r lo hi x sz rows h h1 h2 hx => exact .subStill r lo hi x sz rows (same _ _ h (by intro _ _ _ _ _ hc; cases hc)) h1 h2 hx
  | subDead r lo hi x h ho => exact .subDead r lo hi x (same _ _ h (by intro _ _ _ _ _ hc; cases hc)) ho
  | ptr r off x T cs h g hs hx => exact .ptr r off x T cs (same _ _ h (by intro _ _ _ _ _ hc; cases hc)) g hs hx
  | ptrDead r off x h ho => exact .ptrDead r off x (same _ _ h (by intro _ _ _ _ _ hc; cases hc)) ho
  | eptr r i j x e sz rows h g o n c hs hx => exact .eptr r i j x e sz rows (same _ _ h (by intro _ _ _ _ _ hc; cases hc)) g o n c hs hx
  | eptrTr r i j x st e sz cols rows h g o n c hs hx =>
    rcases tr _ _ _ _ _ _ h with k | k
    · exact .eptrTr r i j x st e sz cols rows k g o n c hs hx
    · exact .eptr r i j x e sz rows k g o n c hs hx
  | subOff r lo hi x e sz rows h h1 h2 A n c hx hn hc hA => exact .subOff r lo hi x e sz rows (same _ _ h (by intro _ _ _ _ _ hc; cases hc)) h1 h2 A n c hx hn hc hA
  | eptrOff r i j x e sz rows h g o n c hs hx => exact .eptrOff r i j x e sz rows (same _ _ h (by intro _ _ _ _ _ hc; cases hc)) g o n c hs hx
  | eptrStill r i j x sz rows h ho => exact .eptrStill r i j x sz rows (same _ _ h (by intro _ _ _ _ _ hc; cases hc)) ho
  | eptrDead r i j x h ho => exact .eptrDead r i j x (same _ _ h (by intro _ _ _ _ _ hc; cases hc)) ho
  | rptr cells b off u h1 h2 h3 => exact .rptr cells b off u h1 h2 h3
  | agg cs vs hl _ ih => exact .agg cs vs hl ih
  | tup cs vs hl _ ih => exact .tup cs vs hl ih
theorem HR.meltsF (h : HR F W0 w L s Z) (hA : Ans L) {L1 : Nat → Blk} (hL : ∀ k, L1 k = meltF (L k)) : HR F W0 w L1 s Z := by
  have at_ : ∀ r, L1 r = L r ∨ ∃ e sz cols rows, L r = .tr .whole e sz cols rows ∧ cols.all TK.isCell = true ∧ L1 r = .sl e sz rows := fun r => by
    rw [hL]
    rcases meltF_is (hA r) with h | ⟨e, sz, cols, rows, h1, h2, h3⟩
    · exact .inl h
    · exact .inr ⟨e, sz, cols, rows, h1, h2, h3⟩
  have live : ∀ k, (L1 k).live → (L k).live := fun k hk => by
    rcases at_ k with e | ⟨a, b, c, d, e, _⟩
    · rw [← e]; exact hk
    · rw [e]; trivial
  have fp : ∀ k g, Fp w (L1 k) (s k) g → Fp w (L k) (s k) g := fun k g hg => by
    rcases at_ k with e | ⟨a, b, c, d, e, _, e2⟩
    · rw [← e]; exact hg
    · rw [e2] at hg; exact .root hg
  refine ⟨fun k => ?_, fun k k' g a b c d => h.sepF k k' g (live _ a) (live _ b) (fp _ _ c) (fp _ _ d), fun k g a b => h.nzF k g (live _ a) (fp _ _ b), fun k g a b => h.mineF k g (live _ a) (fp _ _ b), h.zin, h.kept, h.zsrc, h.zhas⟩
  have hb := h.blk k
  rcases at_ k with e | ⟨e', sz, cols, rows, e, hc, e2⟩
  · rw [e]
    rcases hA k with e0 | ⟨a, b, c, e0⟩ | ⟨a, b, c, d, e0⟩ <;> rw [e0] at hb ⊢
    · trivial
    · exact hb
    · obtain ⟨xs, u, hT, -⟩ := hb
      exact ⟨xs, u, hT, fun i j q hq => by cases hq⟩
  · rw [e] at hb
    rw [e2]
    obtain ⟨xs, u, hT, -⟩ := hb
    refine ⟨hT.h0, hT.hr, xs, hT.ho, fun i j d hd => ⟨u i j, hT.hu i j d hd, ?_⟩⟩
    have hj : j < cols.length := by rw [hT.hc]; exact (row_lt hT.hr hd).2
    have hcj := List.getElem?_eq_getElem hj
    have hk := hT.hk i j d _ rfl hd hcj
    have hcell := List.all_eq_true.1 hc _ (List.getElem_mem hj)
    generalize cols[j] = c at hk hcell
    cases hk with
    | cell x h1 => exact .v _ h1
    | sl => cases hcell
end
theorem PureOk.toFlat {P : Program} {f : FuncId} {g g' : PC} (C : PureOk P f g) (hg : ∀ args c r bs', g' args = some (c, r, bs') → ∃ bs, g args = some (c, r, bs) ∧ bs' = bs.map meltF ∧ (∀ b ∈ bs, ansB b = true) ∧ ∀ b ∈ bs', flatB b) : PureOk P f g' := by
  refine ⟨C.there, fun w args vs c r bs' hargs hg' hc => ?_⟩
  obtain ⟨bs, h1, rfl, hb, hfl⟩ := hg args c r bs' hg'
  obtain ⟨⟨a1, a2, a3⟩, hcall⟩ := C.does w args vs c r bs hargs h1 hc
  refine ⟨⟨a1, hfl, by simpa using a3⟩, hcall.mono ?_⟩
  rintro e w' ⟨v, s, Z, rfl, H, hr⟩
  have hL : ∀ k, lk (hpAt 0 (bs.map meltF)) k = meltF (lk (hpAt 0 bs) k) := fun k => by
    rw [lk_hpAt, lk_hpAt]
    simp only [Nat.zero_le, if_true, Nat.sub_zero, List.getD, List.getElem?_map]
    cases bs[k]? <;> rfl
  exact ⟨v, s, Z, rfl, H.meltsF (ansB_of hb) hL, hr.meltsF (ansB_of hb) hL⟩
end Go.Proofs.Ytcpmifgdmlpcpaa
