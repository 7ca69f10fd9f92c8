import Derived.Test.YtpompkogpdnlcaaRs
namespace Go.Proofs.Ytpompkogpdnlcaa
open Go.RowKit

/-! numbers of blocks may be given anew; one without a block is an empty slice -/
def nilS : Value := .slice none 0 0
def AV.ren (f : Nat → Option Nat) : AV → AV
  | .own r => match f r with | some q => .own q | none => .v nilS
  | .sub r lo hi => match f r with | some q => .sub q lo hi | none => .any
  | .ptr r o => match f r with | some q => .ptr q o | none => .any
  | .eptr r i j => match f r with | some q => .eptr q i j | none => .any
  | .agg cs => .agg (renL f cs)
  | .tup cs => .tup (renL f cs)
  | .v x => .v x
  | .l sz rows => .l sz rows
  | .rptr cs => .rptr cs
  | .any => .any
where renL (f : Nat → Option Nat) : List AV → List AV
  | [] => []
  | c :: cs => AV.ren f c :: renL f cs
def Blk.ren (f : Nat → Option Nat) : Blk → Blk
  | .var T cs => .var T (AV.ren.renL f cs)
  | b => b
/-- numbers that pointers bear -/
def AV.pids : AV → List Nat
  | .sub r _ _ | .ptr r _ | .eptr r _ _ => [r]
  | .agg cs => pidsL cs
  | .tup cs => pidsL cs
  | _ => []
where pidsL : List AV → List Nat
  | [] => []
  | c :: cs => AV.pids c ++ pidsL cs
def rn : List (Nat × Option Nat) → Nat → Option Nat
  | [], r => some r
  | (a, b) :: t, r => if r = a then b else rn t r
def blkPids : Blk → List Nat
  | .var _ cs => AV.pids.pidsL cs
  | _ => []

theorem renL_map (f : Nat → Option Nat) : ∀ cs : List AV, AV.ren.renL f cs = cs.map (AV.ren f)
  | [] => rfl
  | c :: cs => by rw [AV.ren.renL, renL_map f cs]; rfl

/-- the later state may be seen as the plainer one -/
def fit1 (f : Nat → Option Nat) (ks : List Nat) (x y : AV) : Prop :=
  match y with
  | .any => True
  | y => x = y.ren f ∧ (y.ids.all fun r => ks.contains r) = true ∧ (y.pids.all fun r => (f r).isSome) = true
def fitT (f : Nat → Option Nat) (ks : List Nat) : List AV → List AV → Prop
  | [], [] => True
  | x :: xs, y :: ys => fit1 f ks x y ∧ fitT f ks xs ys
  | _, _ => False
def emptyB : Blk → Prop
  | .sl _ sz rows => 0 < sz ∧ rows = []
  | _ => False
def Blk.there : Blk → Bool
  | .none => false
  | _ => true
def fitB (f : Nat → Option Nat) (hp : HP) (r : Nat) (b : Blk) : Prop :=
  match f r with
  | some q => lk hp q = b.ren f
  | none => emptyB b
def fitH (f : Nat → Option Nat) (ks : List Nat) (hp : HP) : HP → Prop
  | [] => True
  | (r, b) :: t => fitB f hp r b ∧ ((blkIds b).all fun r => ks.contains r) = true ∧ ((blkPids b).all fun r => (f r).isSome) = true ∧ b.there = true ∧ fitH f ks hp t
structure Fits (tm : List AV) (hp : HP) (tm' : List AV) (hp' : HP) (p : List (Nat × Option Nat)) : Prop where
  t : fitT (rn p) (hp'.map (·.1)) tm tm'
  h : fitH (rn p) (hp'.map (·.1)) hp hp'
  inj : (hp'.filterMap fun x => rn p x.1).Nodup

section
variable {P : Program} {w : World} {Z : Nat → Prop} {L L' : Nat → Blk} {s : Nat → Value} {F : Nat → Prop} {W0 : Ent}

theorem lk_mem {hp : HP} {r : Nat} (h : r ∉ hp.map (·.1)) : lk hp r = .none := by
  induction hp with
  | nil => rfl
  | cons p t ih =>
    simp only [List.map_cons, List.mem_cons, not_or] at h
    simp only [lk]
    rw [if_neg h.1, ih h.2]

/-- how the blocks are those of one another under new numbers -/
def Ren (f : Nat → Option Nat) (L L' : Nat → Blk) : Prop := ∀ r, L' r = .none ∨ (∃ q, f r = some q ∧ L q = (L' r).ren f) ∨ (f r = none ∧ ∃ e sz, 0 < sz ∧ L' r = .sl e sz [])
def sRen (f : Nat → Option Nat) (s : Nat → Value) : Nat → Value := fun r => match f r with | some q => s q | none => nilS

theorem memL : ∀ (cs : List AV) (r : Nat), r ∈ AV.ids.idsL cs ↔ ∃ x ∈ cs, r ∈ x.ids := by
  intro l r
  induction l with
  | nil => simp [AV.ids.idsL]
  | cons x l ih => rw [idsL_cons, List.mem_append, ih]; simp
theorem memP : ∀ (cs : List AV) (r : Nat), r ∈ AV.pids.pidsL cs ↔ ∃ x ∈ cs, r ∈ x.pids := by
  intro l r
  induction l with
  | nil => simp [AV.pids.pidsL]
  | cons x l ih => rw [AV.pids.pidsL, List.mem_append, ih]; simp

theorem AVR.renamed {f : Nat → Option Nat} (hR : Ren f L L') {x : Value} {z : AV} (h : AVR w Z L s z x) : ∀ {y : AV}, y.ren f = z → (∀ r ∈ y.ids, L' r ≠ .none) → (∀ r ∈ y.pids, f r ≠ none) → AVR w Z L' (sRen f s) y x := by
  have at_ : ∀ r q, L' r ≠ .none → f r = some q → L q = (L' r).ren f := fun r q hn hq => by
    rcases hR r with h | ⟨q', h1, h2⟩ | ⟨h1, _⟩
    · exact absurd h hn
    · rw [hq] at h1; cases h1; exact h2
    · rw [hq] at h1; cases h1
  have sl : ∀ r q e sz rows, L' r ≠ .none → f r = some q → L q = .sl e sz rows → L' r = .sl e sz rows := fun r q e sz rows hn hq h => by
    have := at_ r q hn hq
    rw [h] at this
    cases hb : L' r <;> rw [hb] at this <;> simp [Blk.ren] at this ⊢
    exact ⟨this.1.symm, this.2.1.symm, this.2.2.symm⟩
  have still : ∀ r q sz rows, L' r ≠ .none → f r = some q → L q = .still sz rows → L' r = .still sz rows := fun r q sz rows hn hq h => by
    have := at_ r q hn hq
    rw [h] at this
    cases hb : L' r <;> rw [hb] at this <;> simp [Blk.ren] at this ⊢
    exact ⟨this.1.symm, this.2.symm⟩
  have dead : ∀ r q, L' r ≠ .none → f r = some q → L q = .dead → L' r = .dead := fun r q hn hq h => by
    have := at_ r q hn hq
    rw [h] at this
    cases hb : L' r <;> rw [hb] at this <;> simp [Blk.ren] at this ⊢
  have var : ∀ r q T cs, L' r ≠ .none → f r = some q → L q = .var T cs → ∃ cs', L' r = .var T cs' := fun r q T cs hn hq h => by
    have := at_ r q hn hq
    rw [h] at this
    cases hb : L' r <;> rw [hb] at this <;> simp [Blk.ren] at this ⊢
    exact this.1.symm
  have sv : ∀ r q, f r = some q → sRen f s r = s q := fun r q hq => by simp [sRen, hq]
  have own : ∀ (y : AV) q, y.ren f = .own q → ∃ r, y = .own r ∧ f r = some q := by
    intro y q hy
    cases y <;> simp only [AV.ren] at hy <;> (try (cases hy; done)) <;> (split at hy <;> cases hy)
    exact ⟨_, rfl, by assumption⟩
  have vv : ∀ (y : AV) x, y.ren f = .v x → y = .v x ∨ ∃ r, y = .own r ∧ f r = none ∧ x = nilS := by
    intro y x hy
    cases y <;> simp only [AV.ren] at hy <;> (try (cases hy; done)) <;> (try (cases hy; exact .inl rfl)) <;> (split at hy <;> cases hy)
    exact .inr ⟨_, rfl, by assumption, rfl⟩
  have sub : ∀ (y : AV) q lo hi, y.ren f = .sub q lo hi → ∃ r, y = .sub r lo hi ∧ f r = some q := by
    intro y q lo hi hy
    cases y <;> simp only [AV.ren] at hy <;> (try (cases hy; done)) <;> (split at hy <;> cases hy)
    exact ⟨_, rfl, by assumption⟩
  have ptr : ∀ (y : AV) q o, y.ren f = .ptr q o → ∃ r, y = .ptr r o ∧ f r = some q := by
    intro y q o hy
    cases y <;> simp only [AV.ren] at hy <;> (try (cases hy; done)) <;> (split at hy <;> cases hy)
    exact ⟨_, rfl, by assumption⟩
  have eptr : ∀ (y : AV) q i j, y.ren f = .eptr q i j → ∃ r, y = .eptr r i j ∧ f r = some q := by
    intro y q i j hy
    cases y <;> simp only [AV.ren] at hy <;> (try (cases hy; done)) <;> (split at hy <;> cases hy)
    exact ⟨_, rfl, by assumption⟩
  induction h with
  | any x =>
    intro y hz hy hp
    cases y <;> simp only [AV.ren] at hz <;> (try (cases hz; done))
    case own r => split at hz <;> cases hz
    case sub r lo hi => split at hz <;> cases hz; rename_i h; exact absurd h (hp r (by simp [AV.pids]))
    case ptr r o => split at hz <;> cases hz; rename_i h; exact absurd h (hp r (by simp [AV.pids]))
    case eptr r i j => split at hz <;> cases hz; rename_i h; exact absurd h (hp r (by simp [AV.pids]))
    exact .any x
  | v x =>
    intro y hz hy hp
    rcases vv y x hz with rfl | ⟨r, rfl, hr, rfl⟩
    · exact .v x
    · rcases hR r with h | ⟨q, h, _⟩ | ⟨_, e, sz, h0, h⟩
      · exact absurd h (hy r (by simp [AV.ids]))
      · rw [hr] at h; cases h
      · exact .own r _ e sz [] h (by simp [sRen, hr]) ⟨none, 0, by simp [sRen, hr, nilS]⟩
  | l sz rows x h =>
    intro y hz hy hp
    cases y <;> simp only [AV.ren] at hz <;> (try (cases hz; done)) <;> (try (split at hz <;> cases hz; done))
    cases hz
    exact .l _ _ _ h
  | own q x e sz rows h hx hn =>
    intro y hz hy hp
    obtain ⟨r, rfl, hr⟩ := own y q hz
    exact .own _ x e sz rows (sl _ _ _ _ _ (hy r (by simp [AV.ids])) hr h) (by rw [sv r q hr]; exact hx) (by rw [sv r q hr]; exact hn)
  | ownStill q x sz rows h hx ho =>
    intro y hz hy hp
    obtain ⟨r, rfl, hr⟩ := own y q hz
    exact .ownStill _ x sz rows (still _ _ _ _ (hy r (by simp [AV.ids])) hr h) (by rw [sv r q hr]; exact hx) ho
  | ownDead q x h ho =>
    intro y hz hy hp
    obtain ⟨r, rfl, hr⟩ := own y q hz
    exact .ownDead _ x (dead _ _ (hy r (by simp [AV.ids])) hr h) ho
  | sub q lo hi x e sz rows h h1 h2 A n c hx hn hc hA =>
    intro y hz hy hp
    obtain ⟨r, rfl, hr⟩ := sub y q lo hi hz
    exact .sub _ _ _ x e sz rows (sl _ _ _ _ _ (hy r (by simp [AV.ids])) hr h) h1 h2 A n c hx hn hc (by rw [sv r q hr]; exact hA)
  | subStill q lo hi x sz rows h h1 h2 hx =>
    intro y hz hy hp
    obtain ⟨r, rfl, hr⟩ := sub y q lo hi hz
    exact .subStill _ _ _ x sz rows (still _ _ _ _ (hy r (by simp [AV.ids])) hr h) h1 h2 hx
  | subDead q lo hi x h ho =>
    intro y hz hy hp
    obtain ⟨r, rfl, hr⟩ := sub y q lo hi hz
    exact .subDead _ _ _ x (dead _ _ (hy r (by simp [AV.ids])) hr h) ho
  | ptr q off x T cs h g hs hx =>
    intro y hz hy hp
    obtain ⟨r, rfl, hr⟩ := ptr y q off hz
    obtain ⟨cs', h'⟩ := var _ _ _ _ (hy r (by simp [AV.ids])) hr h
    exact .ptr _ _ x T cs' h' g (by rw [sv r q hr]; exact hs) hx
  | ptrDead q off x h ho =>
    intro y hz hy hp
    obtain ⟨r, rfl, hr⟩ := ptr y q off hz
    exact .ptrDead _ _ x (dead _ _ (hy r (by simp [AV.ids])) hr h) ho
  | eptr q i j x e sz rows h g n c hs hx =>
    intro y hz hy hp
    obtain ⟨r, rfl, hr⟩ := eptr y q i j hz
    exact .eptr _ _ _ x e sz rows (sl _ _ _ _ _ (hy r (by simp [AV.ids])) hr h) g n c (by rw [sv r q hr]; exact hs) hx
  | eptrStill q i j x sz rows h ho =>
    intro y hz hy hp
    obtain ⟨r, rfl, hr⟩ := eptr y q i j hz
    exact .eptrStill _ _ _ x sz rows (still _ _ _ _ (hy r (by simp [AV.ids])) hr h) ho
  | eptrDead q i j x h ho =>
    intro y hz hy hp
    obtain ⟨r, rfl, hr⟩ := eptr y q i j hz
    exact .eptrDead _ _ _ x (dead _ _ (hy r (by simp [AV.ids])) hr h) ho
  | rptr cells b off u h1 h2 h3 =>
    intro y hz hy hp
    cases y <;> simp only [AV.ren] at hz <;> (try (cases hz; done)) <;> (try (split at hz <;> cases hz; done))
    cases hz
    exact .rptr _ b off u h1 h2 h3
  | agg cs vs hl _ ih =>
    intro y hz hy hp
    cases y <;> simp only [AV.ren] at hz <;> (try (cases hz; done)) <;> (try (split at hz <;> cases hz; done))
    rename_i cs'
    cases hz
    rw [renL_map] at hl
    refine .agg _ vs (by simpa using hl) fun i a b ha hb => ?_
    have hm : a ∈ cs' := List.mem_of_getElem? ha
    exact ih i (a.ren f) b (by rw [renL_map, List.getElem?_map, ha]; rfl) hb rfl (fun r hr => hy r (by simp only [AV.ids]; exact (memL _ _).2 ⟨a, hm, hr⟩)) (fun r hr => hp r (by simp only [AV.pids]; exact (memP _ _).2 ⟨a, hm, hr⟩))
  | tup cs vs hl _ ih =>
    intro y hz hy hp
    cases y <;> simp only [AV.ren] at hz <;> (try (cases hz; done)) <;> (try (split at hz <;> cases hz; done))
    rename_i cs'
    cases hz
    rw [renL_map] at hl
    refine .tup _ vs (by simpa using hl) fun i a b ha hb => ?_
    have hm : a ∈ cs' := List.mem_of_getElem? ha
    exact ih i (a.ren f) b (by rw [renL_map, List.getElem?_map, ha]; rfl) hb rfl (fun r hr => hy r (by simp only [AV.ids]; exact (memL _ _).2 ⟨a, hm, hr⟩)) (fun r hr => hp r (by simp only [AV.pids]; exact (memP _ _).2 ⟨a, hm, hr⟩))

theorem BlkR.renamed {f : Nat → Option Nat} (hR : Ren f L L') {v : Value} {b : Blk} (hb : ∀ r ∈ blkIds b, L' r ≠ .none) (hp : ∀ r ∈ blkPids b, f r ≠ none) (h : BlkR w Z L s (b.ren f) v) : BlkR w Z L' (sRen f s) b v := by
  cases b with
  | none => trivial
  | dead => trivial
  | var T cs =>
    obtain ⟨g, vs, h1, h2, h3, h4⟩ := h
    refine ⟨g, vs, h1, h2, by rw [h3, renL_map, List.length_map], fun i x y hx hy => ?_⟩
    obtain ⟨k1, k2⟩ := h4 i (x.ren f) y (by rw [renL_map, List.getElem?_map, hx]; rfl) hy
    have hm := List.mem_of_getElem? hx
    exact ⟨k1.renamed hR rfl (fun r hr => hb r (by simp only [blkIds]; exact (memL _ _).2 ⟨x, hm, hr⟩)) (fun r hr => hp r (by simp only [blkPids]; exact (memP _ _).2 ⟨x, hm, hr⟩)), k2⟩
  | sl e sz rows => exact h
  | still sz rows => exact h

theorem fitH_at {f : Nat → Option Nat} {ks : List Nat} {hp : HP} : ∀ {hp' : HP}, fitH f ks hp hp' → ∀ r, r ∈ hp'.map (·.1) → (fitB f hp r (lk hp' r) ∧ (∀ k ∈ blkIds (lk hp' r), k ∈ ks) ∧ (∀ k ∈ blkPids (lk hp' r), f k ≠ none) ∧ lk hp' r ≠ .none)
  | [], _, _, h => by simp at h
  | (r, b) :: t, ⟨h1, h2, h5, h4, h3⟩, k, hk => by
    simp only [lk]
    by_cases e : k = r
    · subst e
      rw [if_pos rfl]
      exact ⟨h1, fun j hj => by have := List.all_eq_true.1 h2 j hj; simpa using this, (fun j hj e => by have := List.all_eq_true.1 h5 j hj; rw [e] at this; cases this), fun e => by rw [e] at h4; cases h4⟩
    · rw [if_neg e]
      exact fitH_at h3 k (by simpa [e] using hk)

theorem fitT_at {f : Nat → Option Nat} {ks : List Nat} : ∀ {tm tm' : List AV}, fitT f ks tm tm' → tm'.length = tm.length ∧ ∀ (i : Nat) y, tm'[i]? = some y → ∃ x, tm[i]? = some x ∧ fit1 f ks x y
  | [], [], _ => ⟨rfl, fun i y h => by simp at h⟩
  | x :: xs, y :: ys, ⟨h1, h2⟩ => by
    obtain ⟨k1, k2⟩ := fitT_at h2
    refine ⟨by simp [k1], fun i z hz => ?_⟩
    cases i with
    | zero => simp at hz; subst hz; exact ⟨x, rfl, h1⟩
    | succ i => simpa using k2 i z (by simpa using hz)
  | [], _ :: _, h => h.elim
  | _ :: _, [], h => h.elim

theorem Blk.ren_live {f : Nat → Option Nat} {b : Blk} : (b.ren f).live ↔ b.live := by cases b <;> simp [Blk.ren, Blk.live]

theorem rn_inj {f : Nat → Option Nat} {hp : HP} (h : (hp.filterMap fun x => f x.1).Nodup) {a b q : Nat} (ha : a ∈ hp.map (·.1)) (hb : b ∈ hp.map (·.1)) (e : f a = some q) (e' : f b = some q) : a = b := by
  induction hp with
  | nil => simp at ha
  | cons p t ih =>
    have hmem : ∀ c, c ∈ t.map (·.1) → f c = some q → q ∈ t.filterMap fun x => f x.1 := fun c hc hq => by
      obtain ⟨x, hx, rfl⟩ := List.mem_map.1 hc
      exact List.mem_filterMap.2 ⟨x, hx, hq⟩
    simp only [List.map_cons, List.mem_cons] at ha hb
    simp only [List.filterMap_cons] at h
    rcases ha with rfl | ha <;> rcases hb with rfl | hb
    · rfl
    · rw [e] at h
      exact absurd (hmem b hb e') (List.nodup_cons.1 h).1
    · rw [e'] at h
      exact absurd (hmem a ha e) (List.nodup_cons.1 h).1
    · refine ih ?_ ha hb
      split at h
      · exact h
      · exact (List.nodup_cons.1 h).2

theorem Fits.ren {tm tm' : List AV} {hp hp' : HP} {p : List (Nat × Option Nat)} (hf : Fits tm hp tm' hp' p) : Ren (rn p) (lk hp) (lk hp') := fun r => by
  rcases Classical.em (r ∈ hp'.map (·.1)) with h | h
  · obtain ⟨k, -, -, -⟩ := fitH_at hf.h r h
    unfold fitB at k
    split at k
    · rename_i q hq; exact .inr (.inl ⟨q, hq, k⟩)
    · rename_i hq
      right; right
      refine ⟨hq, ?_⟩
      unfold emptyB at k
      split at k
      · rename_i e sz rows hb; obtain ⟨k1, k2⟩ := k; subst k2; exact ⟨e, sz, k1, hb⟩
      · exact k.elim
  · exact .inl (lk_mem h)

/-- the heaps, seen as the plainer ones -/
theorem HR.fits {tm tm' : List AV} {hp hp' : HP} {p : List (Nat × Option Nat)} (h1 : HR F W0 w (lk hp) s Z) (hf : Fits tm hp tm' hp' p) : HR F W0 w (lk hp') (sRen (rn p) s) Z := by
  have hR := hf.ren
  obtain ⟨f1, f2, f3⟩ := hf
  have hall : ∀ r ∈ hp'.map (·.1), lk hp' r ≠ .none := fun r hm => (fitH_at f2 r hm).2.2.2
  have dom : ∀ r, lk hp' r ≠ .none → r ∈ hp'.map (·.1) := fun r hr => by
    rcases Classical.em (r ∈ hp'.map (·.1)) with h | h
    · exact h
    · exact absurd (lk_mem h) hr
  have live : ∀ r g, (lk hp' r).live → vblk (sRen (rn p) s r) = some g → r ∈ hp'.map (·.1) ∧ ∃ q, rn p r = some q ∧ (lk hp q).live ∧ vblk (s q) = some g := fun r g hr hg => by
    have hn : lk hp' r ≠ .none := fun e => by rw [e] at hr; exact hr
    refine ⟨dom r hn, ?_⟩
    rcases hR r with h | ⟨q, h2, h3⟩ | ⟨h2, _⟩
    · exact absurd h hn
    · exact ⟨q, h2, by rw [h3, Blk.ren_live]; exact hr, by simpa [sRen, h2] using hg⟩
    · simp [sRen, h2, nilS, vblk] at hg
  refine ⟨fun r => ?_, fun r r' g l1 l2 g1 g2 => ?_, fun r g l1 g1 => ?_, fun r g l1 g1 => ?_, h1.zin, h1.kept, h1.zsrc, h1.zhas⟩
  · rcases Classical.em (r ∈ hp'.map (·.1)) with hm | hm
    · obtain ⟨k1, k2, k3, k4⟩ := fitH_at f2 r hm
      rcases hR r with h | ⟨q, h2, h3⟩ | ⟨h2, e, sz, h0, h3⟩
      · exact absurd h k4
      · have := h1.blk q
        rw [h3] at this
        have e : sRen (rn p) s r = s q := by simp [sRen, h2]
        rw [e]
        exact this.renamed hR (fun k hk => hall k (k2 k hk)) k3
      · rw [h3]
        have e : sRen (rn p) s r = nilS := by simp [sRen, h2]
        rw [e]
        exact ⟨h0, fun r hr => by simp at hr, [], World.ownsRow_nil _ _ _ _, fun i j d hd => by simp [rowAt] at hd⟩
    · rw [lk_mem hm]; trivial
  · obtain ⟨m1, q1, e1, k1, v1⟩ := live r g l1 g1
    obtain ⟨m2, q2, e2, k2, v2⟩ := live r' g l2 g2
    have := h1.sep _ _ g k1 k2 v1 v2
    subst this
    exact rn_inj f3 m1 m2 e1 e2
  · obtain ⟨m1, q1, e1, k1, v1⟩ := live r g l1 g1
    exact h1.nz _ g k1 v1
  · obtain ⟨m1, q1, e1, k1, v1⟩ := live r g l1 g1
    exact h1.mine _ g k1 v1

theorem AVR.fits {tm tm' : List AV} {hp hp' : HP} {p : List (Nat × Option Nat)} (hf : Fits tm hp tm' hp' p) {i : Nat} {y : AV} (hy : tm'[i]? = some y) {x : Value} (h : ∀ z, tm[i]? = some z → AVR w Z (lk hp) s z x) : AVR w Z (lk hp') (sRen (rn p) s) y x := by
  have hR := hf.ren
  obtain ⟨f1, f2, f3⟩ := hf
  have hall : ∀ r ∈ hp'.map (·.1), lk hp' r ≠ .none := fun r hm => (fitH_at f2 r hm).2.2.2
  obtain ⟨x', hx', hfit⟩ := (fitT_at f1).2 i y hy
  have hr := h x' hx'
  unfold fit1 at hfit
  split at hfit
  · exact .any x
  · obtain ⟨rfl, k2, k3⟩ := hfit
    exact hr.renamed hR rfl (fun r hr' => hall r (by have := List.all_eq_true.1 k2 r hr'; simpa using this)) (fun r hr' e => by have := List.all_eq_true.1 k3 r hr'; rw [e] at this; cases this)

/-- these keep their names -/
def keepIds (S0 : List Nat) (hp' : HP) (p : List (Nat × Option Nat)) : Bool := S0.all fun r => rn p r == some r && (hp'.map (·.1)).contains r
/-- seen as the plainer state -/
theorem Both.fits {S : List (Nat × Value)} {tm tm' : List AV} {hp hp' : HP} {n n' : Nat} {a : Act} (h : Both S F W0 tm (lk hp) n a w) {p : List (Nat × Option Nat)} (hf : Fits tm hp tm' hp' p) (hn : (hp'.all fun x => decide (x.1 < n')) = true) (hk : keepIds (S.map (·.1)) hp' p = true) : Both S F W0 tm' (lk hp') n' a w := by
  obtain ⟨s, Z, h1, h2, h3, h4⟩ := h
  have hlt : ∀ r, n' ≤ r → lk hp' r = .none := fun r hr => lk_mem fun hm => by
    obtain ⟨x, hx, rfl⟩ := List.mem_map.1 hm
    have := List.all_eq_true.1 hn x hx
    simp at this
    omega
  refine ⟨sRen (rn p) s, Z, h1.fits hf, ⟨?_, fun i y x hy hx => AVR.fits hf hy fun z hz => h2.rel i z x hz hx, h2.defers⟩, hlt, fun q hq => ?_⟩
  · rw [h2.len]
    exact (fitT_at hf.t).1.symm
  · have := List.all_eq_true.1 hk q.1 (List.mem_map.2 ⟨q, hq, rfl⟩)
    rw [Bool.and_eq_true] at this
    obtain ⟨k1, k2⟩ := this
    have k1 : rn p q.1 = some q.1 := by simpa using k1
    have k2 : q.1 ∈ hp'.map (·.1) := by simpa using k2
    obtain ⟨e1, -, -, e2⟩ := fitH_at hf.h q.1 k2
    refine ⟨e2, ?_⟩
    simp only [fitB, k1] at e1
    obtain ⟨f1, f2⟩ := h4 q hq
    rw [e1] at f2
    rcases f2 with f2 | f2
    · left
      cases hb : lk hp' q.1 <;> rw [hb] at f2 <;> simp [Blk.ren] at f2 ⊢
    · right
      simp [sRen, k1, f2]
end
end Go.Proofs.Ytpompkogpdnlcaa
