import Derived.Test.YtegffkmakkccaaaR7
namespace Go.Proofs.Ytegffkmakkccaaa
open Go.RowKit
set_option linter.unusedVariables false
set_option linter.unusedSimpArgs false
def melt : Blk → Blk
  | .tr .whole e sz _ rows => .sl e sz rows
  | b => b
def Ans (L : Nat → Blk) : Prop := ∀ r, L r = .none ∨ (∃ e sz rows, L r = .sl e sz rows) ∨ ∃ e sz cols rows, L r = .tr .whole e sz cols rows
section
variable {P : Program} {w : World} {Z : Nat → Prop} {L : Nat → Blk} {s : Nat → Value} {F : Nat → Prop} {W0 : Ent}
def meltZ (w : World) (Z : Nat → Prop) (L : Nat → Blk) (s : Nat → Value) (b : Nat) : Prop := Z b ∨ ∃ r, (L r).live ∧ Fp w (L r) (s r) b ∧ vblk (s r) ≠ some b
theorem AVR.melts {L1 : Nat → Blk} {Z' : Nat → Prop} (hA : Ans L) (hL : ∀ k, L1 k = melt (L k)) (hz : ∀ b, Z b → Z' b) {a : AV} {x : Value} (h : AVR w Z L s a x) : AVR w Z' L1 s a x := by
  have no : ∀ r B, L r = B → (B = .none → False) → (∀ e sz rows, B ≠ .sl e sz rows) → (∀ e sz cols rows, B ≠ .tr .whole e sz cols rows) → False := fun r B hB h0 h1 h2 => by
    rcases hA r with h | ⟨e, sz, rows, h⟩ | ⟨e, sz, cols, rows, h⟩
    · exact h0 (by rw [← hB, h])
    · exact h1 e sz rows (by rw [← hB, h])
    · exact h2 e sz cols rows (by rw [← hB, h])
  have sl : ∀ r e sz rows, L r = .sl e sz rows → L1 r = .sl e sz rows := fun r e sz rows hB => by rw [hL, hB]; rfl
  have tr : ∀ r st e sz cols rows, L r = .tr st e sz cols rows → L1 r = .sl e sz rows := fun r st e sz cols rows hB => by
    rcases hA r with h | ⟨e', sz', rows', h⟩ | ⟨e', sz', cols', rows', h⟩
    · rw [hB] at h; cases h
    · rw [hB] at h; cases h
    · rw [hB] at h; cases h; rw [hL, hB]; rfl
  induction h with
  | any x => exact .any x
  | mute x h => exact .mute x h
  | v x => exact .v x
  | l sz rows x h => exact .l sz rows x (h.mono hz fun _ _ => rfl)
  | own r x e sz rows h hx hn => exact .own r x e sz rows (sl _ _ _ _ h) hx hn
  | ownTr r x st e sz cols rows h hx hn => exact .own r x e sz rows (tr _ _ _ _ _ _ h) hx hn
  | ownStill r x sz rows h hx ho => exact (no _ _ h (by intro h; cases h) (by intro _ _ _ h; cases h) (by intro _ _ _ _ h; cases h)).elim
  | ownDead r x h ho => exact (no _ _ h (by intro h; cases h) (by intro _ _ _ h; cases h) (by intro _ _ _ _ h; cases h)).elim
  | ownOff r x e sz rows h hx hn => exact (no _ _ h (by intro h; cases h) (by intro _ _ _ h; cases h) (by intro _ _ _ _ h; cases h)).elim
  | sub r lo hi x e sz rows h h1 h2 A n c hx hn hc hA => exact .sub r lo hi x e sz rows (sl _ _ _ _ h) h1 h2 A n c hx hn hc hA
  | subTr r lo hi x st e sz cols rows h h1 h2 A n c hx hn hc hA => exact .sub r lo hi x e sz rows (tr _ _ _ _ _ _ h) h1 h2 A n c hx hn hc hA
  | subStill r lo hi x sz rows h h1 h2 hx => exact (no _ _ h (by intro h; cases h) (by intro _ _ _ h; cases h) (by intro _ _ _ _ h; cases h)).elim
  | subDead r lo hi x h ho => exact (no _ _ h (by intro h; cases h) (by intro _ _ _ h; cases h) (by intro _ _ _ _ h; cases h)).elim
  | ptr r off x T cs h g hs hx => exact (no _ _ h (by intro h; cases h) (by intro _ _ _ h; cases h) (by intro _ _ _ _ h; cases h)).elim
  | ptrDead r off x h ho => exact (no _ _ h (by intro h; cases h) (by intro _ _ _ h; cases h) (by intro _ _ _ _ h; cases h)).elim
  | eptr r i j x e sz rows h g n c hs hx => exact .eptr r i j x e sz rows (sl _ _ _ _ h) g n c hs hx
  | eptrTr r i j x st e sz cols rows h g n c hs hx => exact .eptr r i j x e sz rows (tr _ _ _ _ _ _ h) g n c hs hx
  | subOff r lo hi x e sz rows h h1 h2 A n c hx hn hc hA => exact (no _ _ h (by intro h; cases h) (by intro _ _ _ h; cases h) (by intro _ _ _ _ h; cases h)).elim
  | eptrOff r i j x e sz rows h g o n c hs hx => exact (no _ _ h (by intro h; cases h) (by intro _ _ _ h; cases h) (by intro _ _ _ _ h; cases h)).elim
  | eptrStill r i j x sz rows h ho => exact (no _ _ h (by intro h; cases h) (by intro _ _ _ h; cases h) (by intro _ _ _ _ h; cases h)).elim
  | eptrDead r i j x h ho => exact (no _ _ h (by intro h; cases h) (by intro _ _ _ h; cases h) (by intro _ _ _ _ h; cases h)).elim
  | rptr cells b off u h1 h2 h3 => exact .rptr cells b off u (hz _ h1) h2 fun k d hk => (h3 k d hk).mono hz fun _ _ => rfl
  | agg cs vs hl _ ih => exact .agg cs vs hl ih
  | tup cs vs hl _ ih => exact .tup cs vs hl ih
theorem HR.melts (h : HR F W0 w L s Z) (hA : Ans L) {L1 : Nat → Blk} (hL : ∀ k, L1 k = melt (L k)) : HR F W0 w L1 s (meltZ w Z L s) := by
  have live : ∀ k, (L1 k).live → (L k).live := fun k hk => by
    rw [hL] at hk
    rcases hA k with e | ⟨a, b, c, e⟩ | ⟨a, b, c, d, e⟩ <;> rw [e] at hk ⊢ <;> exact hk
  have root : ∀ k g, Fp w (L1 k) (s k) g → (L1 k).live → vblk (s k) = some g := fun k g hg hk => by
    rw [hL] at hg hk
    rcases hA k with e | ⟨a, b, c, e⟩ | ⟨a, b, c, d, e⟩ <;> rw [e] at hg hk
    · exact hk.elim
    · exact hg
    · exact hg
  have fp : ∀ k g, Fp w (L1 k) (s k) g → (L1 k).live → Fp w (L k) (s k) g := fun k g hg hk => .root (root k g hg hk)
  refine ⟨fun k => ?_, fun k k' g a b c d => h.sepF k k' g (live _ a) (live _ b) (fp _ _ c a) (fp _ _ d b), fun k g a b hz => ?_, fun k g a b => h.mineF k g (live _ a) (fp _ _ b a), fun b hb => ?_, h.kept, fun b hb => ?_, fun b hb => .inl (h.zhas b hb)⟩
  · have hb := h.blk k
    rw [hL]
    rcases hA k with e | ⟨e', sz, rows, e⟩ | ⟨e', sz, cols, rows, e⟩ <;> rw [e] at hb ⊢
    · trivial
    · obtain ⟨q1, q2, xs, q3, q4⟩ := hb
      exact ⟨q1, q2, xs, q3, fun i j d hd => by
        obtain ⟨u, hu, hr⟩ := q4 i j d hd
        exact ⟨u, hu, hr.mono (fun _ => .inl) fun _ _ => rfl⟩⟩
    · obtain ⟨xs, u, hT, -⟩ := hb
      refine ⟨hT.h0, hT.hr, xs, hT.ho, fun i j d hd => ⟨u i j, hT.hu i j d hd, ?_⟩⟩
      obtain ⟨c, hc⟩ : ∃ c, cols[j]? = some c := by
        have hj : j < sz := by
          unfold rowAt at hd
          cases hr : rows[i]? with
          | none => simp [hr] at hd
          | some r =>
            simp [hr] at hd
            have := hT.hr r (List.mem_of_getElem? hr)
            obtain ⟨hlt, _⟩ := List.getElem?_eq_some_iff.1 hd
            omega
        exact ⟨_, List.getElem?_eq_getElem (by rw [hT.hc]; exact hj)⟩
      refine (hT.hk i j d c rfl hd hc).rep fun g hg => .inr ⟨k, by rw [e]; trivial, ?_, hT.h1 i j d c g rfl hd hc hg⟩
      rw [e]
      exact .inr ⟨i, j, d, c, u i j, rfl, hd, hc, own_cell hT.ho (hT.hu i j d hd), hg⟩
  · have hr := root k g b a
    rcases hz with hz | ⟨r, h1, h2, h3⟩
    · exact h.nzF k g (live _ a) (.root hr) hz
    · have := h.sepF k r g (live _ a) h1 (.root hr) h2
      subst this
      exact h3 hr
  · rcases hb with hb | ⟨r, h1, h2, h3⟩
    · exact h.zin b hb
    · exact (h.mineF r b h1 h2).2
  · rcases hb with hb | ⟨r, h1, h2, h3⟩
    · exact h.zsrc b hb
    · exact .inr (h.mineF r b h1 h2).1
end
def ansB : Blk → Bool
  | .sl .. => true
  | .tr .whole .. => true
  | _ => false
theorem ansB_of {bs : List Blk} (h : ∀ b ∈ bs, ansB b = true) : Ans (lk (hpAt 0 bs)) := fun r => by
  rw [lk_hpAt]
  simp only [Nat.zero_le, if_true, Nat.sub_zero, List.getD]
  cases hb : bs[r]? with
  | none => exact .inl rfl
  | some b =>
    have := h b (List.mem_of_getElem? hb)
    cases b with
    | sl e sz rows => exact .inr (.inl ⟨e, sz, rows, rfl⟩)
    | tr st e sz cols rows => cases st <;> first | exact .inr (.inr ⟨e, sz, cols, rows, rfl⟩) | cases this
    | _ => cases this
theorem PureOk.toSl {P : Program} {f : FuncId} {g g' : PC} (C : PureOk P f g) (hg : ∀ args c r bs', g' args = some (c, r, bs') → ∃ bs, g args = some (c, r, bs) ∧ bs' = bs.map melt ∧ ∀ b ∈ bs, ansB b = true) : OwnOk P f (ocOf g') := by
  refine ⟨C.there, fun w F Z0 s0 args vs B0 c r B1 bs' hH hargs hlive hg' hc => ?_⟩
  unfold ocOf at hg'
  split at hg'
  · split at hg'
    · rename_i c1 r1 bs1 hg1
      cases hg'
      obtain ⟨bs, h1, rfl, hb⟩ := hg args c r bs' hg1
      obtain ⟨⟨a1, a2, a3⟩, hcall⟩ := C.toOwn.does w F Z0 s0 args vs [] c r [] bs hH hargs hlive (by simp only [ocOf, h1]) hc
      refine ⟨⟨trivial, fun b hb' => ?_, by simpa using a3⟩, hcall.mono ?_⟩
      · obtain ⟨b0, h0, rfl⟩ := List.mem_map.1 (by simpa using hb')
        have := hb b0 h0
        cases b0 with
        | sl => exact ⟨.inl rfl, rfl⟩
        | tr st e sz cols rows => cases st <;> first | exact ⟨.inl rfl, rfl⟩ | cases this
        | _ => cases this
      · rintro e w' ⟨v, s, Z, rfl, H, h3, hr⟩
        have hL : ∀ k, lk (hpAt 0 ([] ++ bs.map melt)) k = melt (lk (hpAt 0 ([] ++ bs)) k) := fun k => by
          rw [List.nil_append, List.nil_append, lk_hpAt, lk_hpAt]
          simp only [Nat.zero_le, if_true, Nat.sub_zero, List.getD, List.getElem?_map]
          cases bs[k]? <;> rfl
        have hA : Ans (lk (hpAt 0 ([] ++ bs))) := by rw [List.nil_append]; exact ansB_of hb
        exact ⟨v, s, _, rfl, H.melts hA hL, h3, hr.melts hA hL fun b hb => .inl hb⟩
    · cases hg'
  · cases hg'
end Go.Proofs.Ytegffkmakkccaaa
