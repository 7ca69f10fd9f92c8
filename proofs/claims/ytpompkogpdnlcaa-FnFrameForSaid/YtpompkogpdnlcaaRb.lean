import Derived.Test.YtpompkogpdnlcaaRa
namespace Go.Proofs.Ytpompkogpdnlcaa
open Go.RowKit

def up {α : Type} (L : Nat → α) (r : Nat) (b : α) : Nat → α := fun k => if k = r then b else L k
theorem up_same {α : Type} (L : Nat → α) (r : Nat) (b : α) : up L r b r = b := by simp [up]
theorem up_ne {α : Type} (L : Nat → α) {r k : Nat} (b : α) (h : k ≠ r) : up L r b k = L k := by simp [up, h]

theorem Like.refl (B : Blk) (x : Value) : Like B B x x := by
  cases B with
  | none => exact .fresh rfl
  | dead => exact .dead rfl
  | var T cs => exact .var T cs cs rfl rfl rfl
  | sl e sz rows => exact .sl e sz rows rows rfl rfl rfl rfl
  | still sz rows => exact .still sz rows rfl rfl rfl

theorem Like.trans {A B C : Blk} {x y z : Value} (h : Like A B x y) (k : Like B C y z) : Like A C x z := by
  rcases h with h1 | h1 | ⟨T, cs, cs', h1, h2, h3⟩ | ⟨e, sz, rows, rows', h1, h2, h3, h4⟩ | ⟨e, sz, rows, rows', h1, h2, h3, h4⟩ | ⟨sz, rows, h1, h2, h3⟩
  · exact .fresh h1
  · rcases k with k1 | k1 | ⟨_, _, _, k1, _, _⟩ | ⟨_, _, _, _, k1, _, _, _⟩ | ⟨_, _, _, _, k1, _, _, _⟩ | ⟨_, _, k1, _, _⟩
    · rw [h1] at k1; cases k1
    · exact .dead k1
    all_goals rw [h1] at k1; cases k1
  · rcases k with k1 | k1 | ⟨T', ds, ds', k1, k2, k3⟩ | ⟨_, _, _, _, k1, _, _, _⟩ | ⟨_, _, _, _, k1, _, _, _⟩ | ⟨_, _, k1, _, _⟩
    · rw [h2] at k1; cases k1
    · exact .dead k1
    · rw [h2] at k1; cases k1
      exact .var T cs ds' h1 k2 (k3.trans h3)
    all_goals rw [h2] at k1; cases k1
  · rcases k with k1 | k1 | ⟨T', ds, ds', k1, k2, k3⟩ | ⟨_, _, _, qs, k1, k2, k3, k4⟩ | ⟨_, _, _, qs, k1, k2, k3, k4⟩ | ⟨_, _, k1, _, _⟩
    · rw [h2] at k1; cases k1
    · exact .dead k1
    · rw [h2] at k1; cases k1
    · rw [h2] at k1; cases k1
      exact .sl e sz rows qs h1 k2 (k3.trans h3) (k4.trans h4)
    · rw [h2] at k1; cases k1
      exact .freeze e sz rows qs h1 k2 (k3.trans h3) (k4.trans h4)
    · rw [h2] at k1; cases k1
  · rcases k with k1 | k1 | ⟨T', ds, ds', k1, k2, k3⟩ | ⟨_, _, _, qs, k1, k2, k3, k4⟩ | ⟨_, _, _, qs, k1, k2, k3, k4⟩ | ⟨_, _, k1, k2, k3⟩
    · rw [h2] at k1; cases k1
    · exact .dead k1
    · rw [h2] at k1; cases k1
    · rw [h2] at k1; cases k1
    · rw [h2] at k1; cases k1
    · rw [h2] at k1; cases k1
      exact .freeze e sz rows rows' h1 k2 h3 (k3.trans h4)
  · rcases k with k1 | k1 | ⟨T', ds, ds', k1, k2, k3⟩ | ⟨_, _, _, qs, k1, k2, k3, k4⟩ | ⟨_, _, _, qs, k1, k2, k3, k4⟩ | ⟨_, _, k1, k2, k4⟩
    · rw [h2] at k1; cases k1
    · exact .dead k1
    · rw [h2] at k1; cases k1
    · rw [h2] at k1; cases k1
    · rw [h2] at k1; cases k1
    · rw [h2] at k1; cases k1
      exact .still sz rows h1 k2 (k4.trans h3)

theorem Ext.refl (w : World) (Z : Nat → Prop) (L : Nat → Blk) (s : Nat → Value) : Ext w Z L s w Z L s :=
  ⟨fun _ h => h, fun _ _ => rfl, fun _ => Like.refl _ _, fun r e sz rows sz' rows' h h' => by rw [h] at h'; cases h'⟩
theorem Ext.trans {w w' w'' : World} {Z Z' Z'' : Nat → Prop} {L L' L'' : Nat → Blk} {s s' s'' : Nat → Value} (E : Ext w Z L s w' Z' L' s') (G : Ext w' Z' L' s' w'' Z'' L'' s'') : Ext w Z L s w'' Z'' L'' s'' :=
  ⟨fun b h => G.z b (E.z b h), fun b h => (G.w b (E.z b h)).trans (E.w b h), fun r => (E.l r).trans (G.l r), fun r e sz rows sz' rows' h h' => by
    rcases E.l r with k | k | ⟨_, _, _, k, _, _⟩ | ⟨_, _, _, qs, k, k2, k3, k4⟩ | ⟨_, _, _, qs, k, k2, k3, k4⟩ | ⟨_, _, k, _, _⟩
    · rw [h] at k; cases k
    · rcases G.l r with g | g | ⟨_, _, _, g, _, _⟩ | ⟨_, _, _, _, g, _, _, _⟩ | ⟨_, _, _, _, g, _, _, _⟩ | ⟨_, _, g, _, _⟩
      · rw [k] at g; cases g
      · rw [h'] at g; cases g
      all_goals rw [k] at g; cases g
    · rw [h] at k; cases k
    · exact G.f r _ _ _ _ _ k2 h'
    · have hf := E.f r _ _ _ _ _ h k2
      rcases G.l r with g | g | ⟨_, _, _, g, _, _⟩ | ⟨_, _, _, _, g, _, _, _⟩ | ⟨_, _, _, _, g, _, _, _⟩ | ⟨_, _, g, g2, g3⟩
      · rw [k2] at g; cases g
      · rw [h'] at g; cases g
      · rw [k2] at g; cases g
      · rw [k2] at g; cases g
      · rw [k2] at g; cases g
      · rw [k2] at g; cases g
        rw [h'] at g2; cases g2
        rw [g3]
        exact hf.mono G.z G.w
    · rw [h] at k; cases k⟩

structure KeptF (F : Nat → Prop) (W0 w : World) : Prop where
  os : w.os = W0.os
  tape : w.tape = W0.tape
  output : w.output = W0.output
  size : W0.heap.size ≤ w.heap.size
  block : ∀ b, b < W0.heap.size → ¬ F b → w.heap[b]? = W0.heap[b]?

def BlkR (w : World) (Z : Nat → Prop) (L : Nat → Blk) (s : Nat → Value) : Blk → Value → Prop
  | .none, _ | .dead, _ => True
  | .var T cs, v => ∃ (g : Nat) (vs : List Value), v = .pointer (some ⟨g, 0, none⟩) ∧ w.heap[g]? = some (.cells vs.toArray T (0, 0)) ∧ vs.length = cs.length ∧
      ∀ (i : Nat) x y, cs[i]? = some x → vs[i]? = some y → AVR w Z L s x y ∧ y.oneCell' = true
  | .sl e sz rows, v => 0 < sz ∧ (∀ r ∈ rows, r.length = sz) ∧ ∃ xs, w.ownsRow 0 e sz v rows.length xs ∧ ∀ i j d, rowAt rows i j = some d → ∃ u, xs[i * sz + j]? = some u ∧ Rep w Z d u
  | .still sz rows, v => Rep w Z (.l sz rows) v

theorem owns_move {w w' : World} {base e size n : Nat} {v : Value} {xs : List Value} (h : w.ownsRow base e size v n xs) (hb : ∀ g, vblk v = some g → w'.heap[g]? = w.heap[g]?) : w'.ownsRow base e size v n xs := by
  refine ⟨h.1, ?_⟩
  rcases h.2 with h2 | ⟨g, cap, cur, rfl, h3, h4, r⟩
  · exact .inl h2
  · exact .inr ⟨g, cap, cur, rfl, h3, (hb g rfl).trans h4, r⟩

theorem BlkR.mono {w w' : World} {Z Z' : Nat → Prop} {L L' : Nat → Blk} {s s' : Nat → Value} {B : Blk} {v : Value} (h : BlkR w Z L s B v) (E : Ext w Z L s w' Z' L' s')
    (hb : B.live → ∀ g, vblk v = some g → w'.heap[g]? = w.heap[g]?) : BlkR w' Z' L' s' B v := by
  cases B with
  | none => trivial
  | dead => trivial
  | var T cs =>
    obtain ⟨g, vs, hv, hg, hl, hc⟩ := h
    exact ⟨g, vs, hv, (hb trivial g (by rw [hv]; rfl)).trans hg, hl, fun i x y h1 h2 => ⟨(hc i x y h1 h2).1.mono E, (hc i x y h1 h2).2⟩⟩
  | sl e sz rows =>
    obtain ⟨h1, h2, xs, h3, h4⟩ := h
    refine ⟨h1, h2, xs, owns_move h3 (hb trivial), fun i j d hd => ?_⟩
    obtain ⟨u, hu, hr⟩ := h4 i j d hd
    exact ⟨u, hu, hr.mono E.z E.w⟩
  | still sz rows => exact Rep.mono h E.z E.w

/-- where a text began: the world, and the blocks that it may read and that do not turn -/
structure Ent where
  w : World
  z : Nat → Prop
/-- the heaps are those of one another -/
structure HR (F : Nat → Prop) (W0 : Ent) (w : World) (L : Nat → Blk) (s : Nat → Value) (Z : Nat → Prop) : Prop where
  blk : ∀ r, BlkR w Z L s (L r) (s r)
  sep : ∀ r r' g, (L r).live → (L r').live → vblk (s r) = some g → vblk (s r') = some g → r = r'
  nz : ∀ r g, (L r).live → vblk (s r) = some g → ¬ Z g
  mine : ∀ r g, (L r).live → vblk (s r) = some g → (F g ∨ W0.w.heap.size ≤ g) ∧ g < w.heap.size
  zin : ∀ b, Z b → b < w.heap.size
  kept : KeptF F W0.w w
  zsrc : ∀ b, Z b → W0.z b ∨ F b ∨ W0.w.heap.size ≤ b
  zhas : ∀ b, W0.z b → Z b

theorem HR.of {F : Nat → Prop} {W0 : Ent} {w w' : World} {L : Nat → Blk} {s : Nat → Value} {Z Z' : Nat → Prop} (h : HR F W0 w L s Z) (r : Nat) (B : Blk) (v : Value)
    (E : Ext w Z L s w' Z' (up L r B) (up s r v)) (ho : w'.os = w.os) (ht : w'.tape = w.tape) (hp : w'.output = w.output) (hsz : w.heap.size ≤ w'.heap.size)
    (hfr : ∀ b, b < w.heap.size → (∀ g, (L r).live → vblk (s r) = some g → b ≠ g) → w'.heap[b]? = w.heap[b]?)
    (hB : BlkR w' Z' (up L r B) (up s r v) B v)
    (hv : B.live → ∀ g, vblk v = some g → (w.heap.size ≤ g ∧ g < w'.heap.size) ∨ ((L r).live ∧ vblk (s r) = some g))
    (hZ : ∀ b, Z' b → Z b ∨ (w.heap.size ≤ b ∧ b < w'.heap.size ∧ (B.live → vblk v ≠ some b)) ∨ (¬ B.live ∧ (L r).live ∧ vblk (s r) = some b)) :
    HR F W0 w' (up L r B) (up s r v) Z' := by
  have hfr' : ∀ k, k ≠ r → (L k).live → ∀ g, vblk (s k) = some g → w'.heap[g]? = w.heap[g]? := fun k hk hl g hg =>
    hfr g (h.mine k g hl hg).2 fun g' hl' hg' e => hk (h.sep k r g hl hl' hg (by rw [hg', e]))
  refine ⟨fun k => ?_, fun k k' g hk hk' hg hg' => ?_, fun k g hk hg hz => ?_, fun k g hk hg => ?_, fun b hb => ?_, ?_, fun b hb => ?_, fun b hb => E.z b (h.zhas b hb)⟩
  · by_cases e : k = r
    · subst e; rw [up_same, up_same]; exact hB
    · rw [up_ne _ _ e, up_ne _ _ e]
      exact (h.blk k).mono E (hfr' k e)
  · by_cases e : k = r <;> by_cases e' : k' = r
    · rw [e, e']
    · subst e
      rw [up_same] at hk hg
      rw [up_ne _ _ e'] at hk' hg'
      rcases hv hk g hg with ⟨h1, _⟩ | ⟨h1, h2⟩
      · have := (h.mine k' g hk' hg').2; omega
      · exact h.sep _ _ g h1 hk' h2 hg'
    · subst e'
      rw [up_same] at hk' hg'
      rw [up_ne _ _ e] at hk hg
      rcases hv hk' g hg' with ⟨h1, _⟩ | ⟨h1, h2⟩
      · have := (h.mine k g hk hg).2; omega
      · exact h.sep _ _ g hk h1 hg h2
    · rw [up_ne _ _ e] at hk hg
      rw [up_ne _ _ e'] at hk' hg'
      exact h.sep _ _ g hk hk' hg hg'
  · by_cases e : k = r
    · subst e
      rw [up_same] at hk hg
      rcases hZ g hz with h1 | ⟨_, _, h1⟩ | ⟨h1, _, _⟩
      · rcases hv hk g hg with ⟨h2, _⟩ | ⟨h2, h3⟩
        · have := h.zin g h1; omega
        · exact h.nz _ g h2 h3 h1
      · exact h1 hk hg
      · exact h1 hk
    · rw [up_ne _ _ e] at hk hg
      rcases hZ g hz with h1 | ⟨h1, _, _⟩ | ⟨_, h1, h2⟩
      · exact h.nz _ g hk hg h1
      · have := (h.mine k g hk hg).2; omega
      · exact e (h.sep _ _ g hk h1 hg h2)
  · by_cases e : k = r
    · subst e
      rw [up_same] at hk hg
      rcases hv hk g hg with ⟨h1, h2⟩ | ⟨h1, h2⟩
      · exact ⟨.inr (Nat.le_trans h.kept.size h1), h2⟩
      · have := h.mine _ g h1 h2
        exact ⟨this.1, Nat.lt_of_lt_of_le this.2 hsz⟩
    · rw [up_ne _ _ e] at hk hg
      have := h.mine k g hk hg
      exact ⟨this.1, Nat.lt_of_lt_of_le this.2 hsz⟩
  · rcases hZ b hb with h1 | ⟨_, h1, _⟩ | ⟨_, h1, h2⟩
    · have := h.zin b h1; omega
    · exact h1
    · have := (h.mine r b h1 h2).2; omega
  · refine ⟨ho.trans h.kept.os, ht.trans h.kept.tape, hp.trans h.kept.output, Nat.le_trans h.kept.size hsz, fun b hb hF => ?_⟩
    have := h.kept.size
    refine (hfr b (by omega) fun g hl hg e => ?_).trans (h.kept.block b hb hF)
    subst e
    rcases (h.mine r b hl hg).1 with h1 | h1
    · exact hF h1
    · omega
  · rcases hZ b hb with h1 | ⟨h1, _, _⟩ | ⟨_, h1, h2⟩
    · exact h.zsrc b h1
    · exact .inr (.inr (Nat.le_trans h.kept.size h1))
    · exact .inr (h.mine r b h1 h2).1

/-- a draw -/
theorem HR.draws {F : Nat → Prop} {W0 : Ent} {w w' : World} {L : Nat → Blk} {s : Nat → Value} {Z : Nat → Prop} (h : HR F W0 w L s Z) (ho : w'.os = w.os) (ht : w'.tape = w.tape) (hp : w'.output = w.output) (hh : w'.heap = w.heap) :
    HR F W0 w' L s Z ∧ Ext w Z L s w' Z L s := by
  have E : Ext w Z L s w' Z L s := ⟨fun _ h => h, fun _ _ => by rw [hh], fun _ => Like.refl _ _, fun r e sz rows sz' rows' h h' => by rw [h] at h'; cases h'⟩
  refine ⟨⟨fun r => (h.blk r).mono E fun _ _ _ => by rw [hh], h.sep, h.nz, fun r g h1 h2 => by rw [hh]; exact h.mine r g h1 h2, fun b hb => by rw [hh]; exact h.zin b hb, ?_, h.zsrc, h.zhas⟩, E⟩
  exact ⟨ho.trans h.kept.os, ht.trans h.kept.tape, hp.trans h.kept.output, by rw [hh]; exact h.kept.size, fun b h1 h2 => by rw [hh]; exact h.kept.block b h1 h2⟩

/-- the slice of block r goes on as block q -/
theorem HR.move {F : Nat → Prop} {W0 : Ent} {w : World} {L : Nat → Blk} {s : Nat → Value} {Z : Nat → Prop} (h : HR F W0 w L s Z) {r q : Nat} (hq : L q = .none) (hr : L r ≠ .none) :
    HR F W0 w (up (up L r .dead) q (L r)) (up s q (s r)) Z ∧ Ext w Z L s w Z (up (up L r .dead) q (L r)) (up s q (s r)) := by
  have hne : r ≠ q := fun e => hr (e ▸ hq)
  have E : Ext w Z L s w Z (up (up L r .dead) q (L r)) (up s q (s r)) := by
    refine ⟨fun _ h => h, fun _ _ => rfl, fun k => ?_, fun k e sz rows sz' rows' h1 h2 => ?_⟩
    · by_cases e : k = q
      · subst e; exact .fresh hq
      · rw [up_ne _ _ e, up_ne _ _ e]
        by_cases e' : k = r
        · subst e'; exact .dead (up_same _ _ _)
        · rw [up_ne _ _ e']; exact Like.refl _ _
    · by_cases e' : k = q
      · subst e'; rw [hq] at h1; cases h1
      · rw [up_ne _ _ e'] at h2
        by_cases e'' : k = r
        · subst e''; rw [up_same] at h2; cases h2
        · rw [up_ne _ _ e'', h1] at h2; cases h2
  have look : ∀ k, (up (up L r .dead) q (L r) k).live → (k = q ∧ (L r).live ∧ up s q (s r) k = s r) ∨ (k ≠ q ∧ k ≠ r ∧ (L k).live ∧ up s q (s r) k = s k) := fun k hk => by
    by_cases e : k = q
    · subst e; rw [up_same] at hk; exact .inl ⟨rfl, hk, up_same _ _ _⟩
    · rw [up_ne _ _ e] at hk
      by_cases e' : k = r
      · subst e'; rw [up_same] at hk; exact hk.elim
      · rw [up_ne _ _ e'] at hk; exact .inr ⟨e, e', hk, up_ne _ _ e⟩
  refine ⟨⟨fun k => ?_, fun k k' g hk hk' hg hg' => ?_, fun k g hk hg => ?_, fun k g hk hg => ?_, h.zin, h.kept, h.zsrc, h.zhas⟩, E⟩
  · by_cases e : k = q
    · subst e; rw [up_same, up_same]; exact (h.blk r).mono E fun _ _ _ => rfl
    · rw [up_ne _ _ e, up_ne _ _ e]
      by_cases e' : k = r
      · subst e'; rw [up_same]; trivial
      · rw [up_ne _ _ e']; exact (h.blk k).mono E fun _ _ _ => rfl
  · rcases look k hk with ⟨e1, l1, s1⟩ | ⟨e1, n1, l1, s1⟩ <;> rcases look k' hk' with ⟨e2, l2, s2⟩ | ⟨e2, n2, l2, s2⟩ <;> rw [s1] at hg <;> rw [s2] at hg'
    · rw [e1, e2]
    · exact absurd (h.sep _ _ g l1 l2 hg hg').symm n2
    · exact absurd (h.sep _ _ g l1 l2 hg hg') n1
    · exact h.sep _ _ g l1 l2 hg hg'
  · rcases look k hk with ⟨e1, l1, s1⟩ | ⟨e1, n1, l1, s1⟩ <;> rw [s1] at hg <;> exact h.nz _ g l1 hg
  · rcases look k hk with ⟨e1, l1, s1⟩ | ⟨e1, n1, l1, s1⟩ <;> rw [s1] at hg <;> exact h.mine _ g l1 hg
end Go.Proofs.Ytpompkogpdnlcaa
