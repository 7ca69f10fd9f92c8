import Derived.Test.YtpompkogpdnlcaaRb
namespace Go.Proofs.Ytpompkogpdnlcaa
open Go.RowKit

theorem Ext.of1 {w w' : World} {Z Z' : Nat → Prop} {L : Nat → Blk} {s : Nat → Value} {r : Nat} {B : Blk} {v : Value} (hz : ∀ b, Z b → Z' b) (hw : ∀ b, Z b → w'.heap[b]? = w.heap[b]?) (hl : Like (L r) B (s r) v)
    (hf : ∀ e sz rows sz' rows', L r = .sl e sz rows → B = .still sz' rows' → Rep w' Z' (.l sz' rows') v) : Ext w Z L s w' Z' (up L r B) (up s r v) := by
  refine ⟨hz, hw, fun k => ?_, fun k e sz rows sz' rows' h h' => ?_⟩
  · by_cases e : k = r
    · subst e; rw [up_same, up_same]; exact hl
    · rw [up_ne _ _ e, up_ne _ _ e]; exact Like.refl _ _
  · by_cases e' : k = r
    · subst e'; rw [up_same] at h' ⊢; exact hf e sz rows sz' rows' h h'
    · rw [up_ne _ _ e', h] at h'; cases h'

section
variable {F : Nat → Prop} {W0 : Ent} {w : World} {L : Nat → Blk} {s : Nat → Value} {Z : Nat → Prop}

theorem HR.still_of_alloc (h : HR F W0 w L s Z) (o : Obj) : ∀ b, Z b → (w.alloc o).heap[b]? = w.heap[b]? := fun b hb => Below.heap_alloc w o b (h.zin b hb)

/-- a new variable -/
theorem HR.newVar (h : HR F W0 w L s Z) {r : Nat} (hr : L r = .none) (T : TypeId) (cs : List AV) (vs : List Value) (hl : vs.length = cs.length)
    (hc : ∀ (i : Nat) x y, cs[i]? = some x → vs[i]? = some y → AVR w Z L s x y ∧ y.oneCell' = true) :
    HR F W0 (w.alloc (.cells vs.toArray T)) (up L r (.var T cs)) (up s r (.pointer (some ⟨w.heap.size, 0, none⟩))) Z ∧
    Ext w Z L s (w.alloc (.cells vs.toArray T)) Z (up L r (.var T cs)) (up s r (.pointer (some ⟨w.heap.size, 0, none⟩))) ∧
    AVR (w.alloc (.cells vs.toArray T)) Z (up L r (.var T cs)) (up s r (.pointer (some ⟨w.heap.size, 0, none⟩))) (.ptr r 0) (.pointer (some ⟨w.heap.size, 0, none⟩)) := by
  have E : Ext w Z L s (w.alloc (.cells vs.toArray T)) Z (up L r (.var T cs)) (up s r (.pointer (some ⟨w.heap.size, 0, none⟩))) :=
    Ext.of1 (fun _ h => h) (h.still_of_alloc _) (.fresh hr) (fun e sz rows sz' rows' h1 => by rw [hr] at h1; cases h1)
  refine ⟨h.of r _ _ E rfl rfl rfl (by simp) (fun b hb _ => Below.heap_alloc w _ b hb) ?_ (fun _ g hg => .inl ?_) (fun b hb => .inl hb), E, ?_⟩
  · exact ⟨w.heap.size, vs, rfl, heap_alloc_new w _, hl, fun i x y h1 h2 => ⟨(hc i x y h1 h2).1.mono E, (hc i x y h1 h2).2⟩⟩
  · simp [vblk] at hg; simp; omega
  · exact .ptr r 0 _ T cs (up_same _ _ _) _ (up_same _ _ _) rfl

/-- the cells of rows -/
def RowsR (w : World) (Z : Nat → Prop) (sz : Nat) (rows : List (List D)) (xs : List Value) : Prop :=
  (∀ r ∈ rows, r.length = sz) ∧ xs.length = rows.length * sz ∧ ∀ i j d, rowAt rows i j = some d → ∃ u, xs[i * sz + j]? = some u ∧ Rep w Z d u

theorem RowsR.mono {w w' : World} {Z Z' : Nat → Prop} {sz : Nat} {rows : List (List D)} {xs : List Value} (h : RowsR w Z sz rows xs) (hz : ∀ b, Z b → Z' b) (hw : ∀ b, Z b → w'.heap[b]? = w.heap[b]?) : RowsR w' Z' sz rows xs :=
  ⟨h.1, h.2.1, fun i j d hd => by obtain ⟨u, hu, hr⟩ := h.2.2 i j d hd; exact ⟨u, hu, hr.mono hz hw⟩⟩

theorem BlkR.rows {e : TypeId} {sz : Nat} {rows : List (List D)} {v : Value} (h : BlkR w Z L s (.sl e sz rows) v) : 0 < sz ∧ ∃ xs, w.ownsRow 0 e sz v rows.length xs ∧ RowsR w Z sz rows xs := by
  obtain ⟨h1, h2, xs, h3, h4⟩ := h
  exact ⟨h1, xs, h3, h2, h3.1, h4⟩
theorem BlkR.of_rows {e : TypeId} {sz : Nat} {rows : List (List D)} {v : Value} {xs : List Value} (h1 : 0 < sz) (h2 : w.ownsRow 0 e sz v rows.length xs) (h3 : RowsR w Z sz rows xs) : BlkR w Z L s (.sl e sz rows) v :=
  ⟨h1, h3.1, xs, h2, h3.2.2⟩

theorem owns_shape {base e sz n : Nat} {v : Value} {xs : List Value} (h : w.ownsRow base e sz v n xs) : ∃ A c, v = .slice A n c := by
  rcases h.2 with ⟨rfl, rfl⟩ | ⟨g, cap, cur, rfl, _⟩
  · exact ⟨_, _, rfl⟩
  · exact ⟨_, _, rfl⟩
theorem owns_ownBlock {base e sz n : Nat} {v : Value} {xs : List Value} (h : w.ownsRow base e sz v n xs) : vblk v = v.ownBlock := by
  rcases h.2 with ⟨rfl, rfl⟩ | ⟨g, cap, cur, rfl, _⟩ <;> rfl

/-- a new slice: its block lies behind all others, or it was the block of r (then r is it), or there is none -/
theorem HR.slice (h : HR F W0 w L s Z) {w' : World} {r : Nat} (e : TypeId) (sz : Nat) (rows : List (List D)) (v : Value) (xs : List Value) (hsz : 0 < sz) (hlike : Like (L r) (.sl e sz rows) (s r) v)
    (hown : w'.ownsRow 0 e sz v rows.length xs) (hrows : RowsR w Z sz rows xs) {row : Option Nat} (hg : w.grownBy w' row) (hrow : ∀ k, row = some k → (L r).live ∧ vblk (s r) = some k)
    (hblk : ∀ g, vblk v = some g → (w.heap.size ≤ g ∧ g < w'.heap.size) ∨ ((L r).live ∧ vblk (s r) = some g)) (hnz : ∀ b, Z b → w'.heap[b]? = w.heap[b]?) :
    HR F W0 w' (up L r (.sl e sz rows)) (up s r v) Z ∧ Ext w Z L s w' Z (up L r (.sl e sz rows)) (up s r v) ∧ AVR w' Z (up L r (.sl e sz rows)) (up s r v) (.own r) v := by
  have E : Ext w Z L s w' Z (up L r (.sl e sz rows)) (up s r v) :=
    Ext.of1 (fun _ h => h) hnz hlike (fun _ _ _ _ _ _ h2 => by cases h2)
  obtain ⟨A, c, hA⟩ := owns_shape hown
  refine ⟨h.of r _ _ E hg.os hg.tape hg.output hg.size (fun b hb hne => hg.block b hb fun e => hne b (hrow b e.symm).1 (hrow b e.symm).2 rfl) (BlkR.of_rows hsz hown (hrows.mono (fun _ h => h) hnz)) (fun _ g hg' => hblk g hg') (fun b hb => .inl hb), E, ?_⟩
  · exact .own r v e sz rows (up_same _ _ _) (by rw [up_same]) ⟨A, c, by rw [up_same]; exact hA⟩
end
end Go.Proofs.Ytpompkogpdnlcaa
