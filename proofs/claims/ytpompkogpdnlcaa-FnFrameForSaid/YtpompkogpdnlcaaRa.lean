/-
  The relation between the states of a plain machine (values are data, blocks have numbers of their own) and those of the model: what is kept by it.
-/
import Derived.Test.YtpompkogpdnlcaaRows
import Derived.WalkKit
import Derived.ProofKit
import Derived.Below
import Derived.Lib.Hide
import Derived.Deep.Draws
import Derived.OneCell
namespace Go.Proofs.Ytpompkogpdnlcaa
open Go.RowKit

/-- plain data: a cell's value, or the rows of a slice, each of sz cells -/
inductive D where
  | v (x : Value)
  | l (sz : Nat) (rows : List (List D))
def rowAt (rows : List (List D)) (i j : Nat) : Option D := (rows[i]?).bind (·[j]?)

/-- a value of the model reads as data, in blocks of Z -/
inductive Rep (w : World) (Z : Nat → Prop) : D → Value → Prop
  | v (x : Value) (h : x.oneCell' = true) : Rep w Z (.v x) x
  | e (sz : Nat) (A : Option Addr) (c : Nat) : Rep w Z (.l sz []) (.slice A 0 c)
  | l (sz : Nat) (rows : List (List D)) (b off n c : Nat) (u : Nat → Nat → Value) (hn : rows.length = n) (hc : n ≤ c) (hs : ∀ r ∈ rows, r.length = sz) (hz : Z b)
      (hcell : ∀ i j d, rowAt rows i j = some d → w.cell? ⟨b, off + (i * sz + j), none⟩ = some (u i j)) (hrep : ∀ i j d, rowAt rows i j = some d → Rep w Z d (u i j)) :
      Rep w Z (.l sz rows) (.slice (some ⟨b, off, none⟩) n c)

theorem Rep.mono {w w' : World} {Z Z' : Nat → Prop} {d : D} {x : Value} (h : Rep w Z d x) (hz : ∀ b, Z b → Z' b) (hw : ∀ b, Z b → w'.heap[b]? = w.heap[b]?) : Rep w' Z' d x := by
  induction h with
  | v x h => exact .v x h
  | e sz A c => exact .e sz A c
  | l sz rows b off n c u hn hc hs hZ hcell _ ih =>
    exact .l sz rows b off n c u hn hc hs (hz _ hZ) (fun i j d h => (World.cell?_of_block (hw _ hZ)).trans (hcell i j d h)) ih
theorem Rep.one {w : World} {Z : Nat → Prop} {d : D} {x : Value} (h : Rep w Z d x) : x.oneCell' = true := by
  cases h <;> first | assumption | rfl

/-- a value of the plain machine -/
inductive AV where
  | v (x : Value)
  | l (sz : Nat) (rows : List (List D))
  /-- all of the slice in block r -/
  | own (r : Nat)
  /-- a part of it -/
  | sub (r lo hi : Nat)
  /-- a cell of the variable in block r -/
  | ptr (r off : Nat)
  /-- a cell of a row of the slice in block r -/
  | eptr (r i j : Nat)
  /-- cells that do not turn -/
  | rptr (cells : List D)
  | agg (cs : List AV)
  | tup (cs : List AV)
  /-- whatever it is -/
  | any

/-- a block of the plain machine -/
inductive Blk where
  | none
  | dead
  | var (T : TypeId) (cs : List AV)
  | sl (e : TypeId) (sz : Nat) (rows : List (List D))
  | still (sz : Nat) (rows : List (List D))
def Blk.live : Blk → Prop
  | .var .. | .sl .. => True
  | _ => False

def vblk : Value → Option Nat
  | .pointer (some a) => some a.block
  | .slice (some a) _ _ => some a.block
  | _ => none

/-- a value of the model is one of the plain machine -/
inductive AVR (w : World) (Z : Nat → Prop) (L : Nat → Blk) (s : Nat → Value) : AV → Value → Prop
  | any (x : Value) : AVR w Z L s .any x
  | v (x : Value) : AVR w Z L s (.v x) x
  | l (sz : Nat) (rows : List (List D)) (x : Value) (h : Rep w Z (.l sz rows) x) : AVR w Z L s (.l sz rows) x
  | own (r : Nat) (x : Value) (e : TypeId) (sz : Nat) (rows : List (List D)) (h : L r = .sl e sz rows) (hx : x = s r) (hn : ∃ A c, s r = .slice A rows.length c) : AVR w Z L s (.own r) x
  | ownStill (r : Nat) (x : Value) (sz : Nat) (rows : List (List D)) (h : L r = .still sz rows) (hx : x = s r) (ho : x.oneCell' = true) : AVR w Z L s (.own r) x
  | ownDead (r : Nat) (x : Value) (h : L r = .dead) (ho : x.oneCell' = true) : AVR w Z L s (.own r) x
  | sub (r lo hi : Nat) (x : Value) (e : TypeId) (sz : Nat) (rows : List (List D)) (h : L r = .sl e sz rows) (hlo : lo ≤ hi) (hhi : hi ≤ rows.length) (A : Option Addr) (n c : Nat) (hx : x = .slice A n c)
      (hn : n = hi - lo) (hc : n ≤ c) (hA : 0 < n → ∃ g N C, s r = .slice (some ⟨g, 0, none⟩) N C ∧ A = some ⟨g, lo * sz, none⟩) : AVR w Z L s (.sub r lo hi) x
  | subStill (r lo hi : Nat) (x : Value) (sz : Nat) (rows : List (List D)) (h : L r = .still sz rows) (hlo : lo ≤ hi) (hhi : hi ≤ rows.length) (hx : Rep w Z (.l sz ((rows.take hi).drop lo)) x) : AVR w Z L s (.sub r lo hi) x
  | subDead (r lo hi : Nat) (x : Value) (h : L r = .dead) (ho : x.oneCell' = true) : AVR w Z L s (.sub r lo hi) x
  | ptr (r off : Nat) (x : Value) (T : TypeId) (cs : List AV) (h : L r = .var T cs) (g : Nat) (hs : s r = .pointer (some ⟨g, 0, none⟩)) (hx : x = .pointer (some ⟨g, off, none⟩)) : AVR w Z L s (.ptr r off) x
  | ptrDead (r off : Nat) (x : Value) (h : L r = .dead) (ho : x.oneCell' = true) : AVR w Z L s (.ptr r off) x
  | eptr (r i j : Nat) (x : Value) (e : TypeId) (sz : Nat) (rows : List (List D)) (h : L r = .sl e sz rows) (g n c : Nat) (hs : s r = .slice (some ⟨g, 0, none⟩) n c) (hx : x = .pointer (some ⟨g, i * sz + j, none⟩)) : AVR w Z L s (.eptr r i j) x
  | eptrStill (r i j : Nat) (x : Value) (sz : Nat) (rows : List (List D)) (h : L r = .still sz rows) (ho : x.oneCell' = true) : AVR w Z L s (.eptr r i j) x
  | eptrDead (r i j : Nat) (x : Value) (h : L r = .dead) (ho : x.oneCell' = true) : AVR w Z L s (.eptr r i j) x
  | rptr (cells : List D) (b off : Nat) (u : Nat → Value) (hz : Z b) (hcell : ∀ (k : Nat) (d : D), cells[k]? = some d → w.cell? ⟨b, off + k, none⟩ = some (u k)) (hrep : ∀ (k : Nat) (d : D), cells[k]? = some d → Rep w Z d (u k)) :
      AVR w Z L s (.rptr cells) (.pointer (some ⟨b, off, none⟩))
  | agg (cs : List AV) (vs : List Value) (hl : vs.length = cs.length) (h : ∀ (i : Nat) (x : AV) (y : Value), cs[i]? = some x → vs[i]? = some y → AVR w Z L s x y) : AVR w Z L s (.agg cs) (.agg vs.toArray)
  | tup (cs : List AV) (vs : List Value) (hl : vs.length = cs.length) (h : ∀ (i : Nat) (x : AV) (y : Value), cs[i]? = some x → vs[i]? = some y → AVR w Z L s x y) : AVR w Z L s (.tup cs) (.tuple vs.toArray)

/-- what a block may become without a value that names it being another one -/
inductive Like (L L' : Blk) (x x' : Value) : Prop
  | fresh (h : L = .none)
  | dead (h : L' = .dead)
  | var (T : TypeId) (cs cs' : List AV) (h : L = .var T cs) (h' : L' = .var T cs') (hx : x' = x)
  | sl (e : TypeId) (sz : Nat) (rows rows' : List (List D)) (h : L = .sl e sz rows) (h' : L' = .sl e sz rows') (hn : rows'.length = rows.length) (hx : x' = x)
  | freeze (e : TypeId) (sz : Nat) (rows rows' : List (List D)) (h : L = .sl e sz rows) (h' : L' = .still sz rows') (hn : rows'.length = rows.length) (hx : x' = x)
  | still (sz : Nat) (rows : List (List D)) (h : L = .still sz rows) (h' : L' = .still sz rows) (hx : x' = x)

/-- the later state keeps what is said of values in the earlier one -/
structure Ext (w : World) (Z : Nat → Prop) (L : Nat → Blk) (s : Nat → Value) (w' : World) (Z' : Nat → Prop) (L' : Nat → Blk) (s' : Nat → Value) : Prop where
  z : ∀ b, Z b → Z' b
  w : ∀ b, Z b → w'.heap[b]? = w.heap[b]?
  l : ∀ r, Like (L r) (L' r) (s r) (s' r)
  /-- what became still reads as its rows -/
  f : ∀ r e sz rows sz' rows', L r = .sl e sz rows → L' r = .still sz' rows' → Rep w' Z' (.l sz' rows') (s' r)

/-- a part of what reads as rows -/
theorem Rep.cut {w : World} {Z : Nat → Prop} {sz : Nat} {rows : List (List D)} {x : Value} (h : Rep w Z (.l sz rows) x) {lo hi : Nat} (h1 : lo ≤ hi) (h2 : hi ≤ rows.length)
    {A : Option Addr} {n c : Nat} (hn : n = hi - lo) (hc : n ≤ c) (hA : 0 < n → ∃ b off N C, x = .slice (some ⟨b, off, none⟩) N C ∧ A = some ⟨b, off + lo * sz, none⟩) : Rep w Z (.l sz ((rows.take hi).drop lo)) (.slice A n c) := by
  by_cases h0 : n = 0
  · have e : (rows.take hi).drop lo = [] := List.drop_eq_nil_of_le (by rw [List.length_take]; omega)
    rw [e]
    subst h0
    exact .e sz A c
  · obtain ⟨b, off, N, C, hx, hA⟩ := hA (by omega)
    subst hA
    subst hx
    cases h with
    | e => simp at h2; omega
    | l _ _ _ _ _ _ u hn' hc' hs hz hcell hrep =>
      have get : ∀ i, ((rows.take hi).drop lo)[i]? = if lo + i < hi then rows[lo + i]? else none := fun i => by
        rw [List.getElem?_drop, List.getElem?_take]
      have key : ∀ i j d, rowAt ((rows.take hi).drop lo) i j = some d → rowAt rows (lo + i) j = some d := fun i j d h => by
        unfold rowAt at h ⊢
        rw [get] at h
        split at h
        · exact h
        · simp at h
      refine .l sz _ b (off + lo * sz) n c (fun i j => u (lo + i) j) (by rw [List.length_drop, List.length_take]; omega) hc (fun r hr => hs r (List.mem_of_mem_take (List.mem_of_mem_drop hr))) hz (fun i j d h => ?_) (fun i j d h => hrep _ _ d (key i j d h))
      have := hcell _ _ d (key i j d h)
      rw [Nat.add_mul] at this
      rw [← this]
      congr 2
      omega

theorem AVR.mono {w w' : World} {Z Z' : Nat → Prop} {L L' : Nat → Blk} {s s' : Nat → Value} {a : AV} {x : Value} (h : AVR w Z L s a x) (E : Ext w Z L s w' Z' L' s') : AVR w' Z' L' s' a x := by
  induction h with
  | any x => exact .any x
  | v x => exact .v x
  | l sz rows x h => exact .l sz rows x (h.mono E.z E.w)
  | own r x e sz rows h hx hn =>
    obtain ⟨A, c, hA⟩ := hn
    rcases E.l r with h' | h' | ⟨T, cs, cs', h', _, _⟩ | ⟨e', sz', rows', rows'', h', k', hl, hx'⟩ | ⟨e', sz', rows', rows3, h', k', hl3, hx'⟩ | ⟨sz', rows', h', _, _⟩
    · rw [h] at h'; cases h'
    · exact .ownDead r x h' (by rw [hx, hA]; rfl)
    · rw [h] at h'; cases h'
    · rw [h] at h'; cases h'
      exact .own r x e sz rows'' k' (by rw [hx', hx]) ⟨A, c, by rw [hx', hA, hl]⟩
    · rw [h] at h'; cases h'
      exact .ownStill r x sz rows3 k' (by rw [hx', hx]) (by rw [hx, hA]; rfl)
    · rw [h] at h'; cases h'
  | ownStill r x sz rows h hx ho =>
    rcases E.l r with h' | h' | ⟨T, cs, cs', h', _, _⟩ | ⟨e', sz', rows', rows'', h', k', hl, hx'⟩ | ⟨e', sz', rows', rows3, h', k', hl3, hx'⟩ | ⟨sz', rows', h', k', hx'⟩
    · rw [h] at h'; cases h'
    · exact .ownDead r x h' ho
    · rw [h] at h'; cases h'
    · rw [h] at h'; cases h'
    · rw [h] at h'; cases h'
    · rw [h] at h'; cases h'
      exact .ownStill r x sz rows k' (by rw [hx', hx]) ho
  | ownDead r x h ho =>
    rcases E.l r with h' | h' | ⟨T, cs, cs', h', _, _⟩ | ⟨e', sz', rows', rows'', h', k', hl, hx'⟩ | ⟨e', sz', rows', rows3, h', k', hl3, hx'⟩ | ⟨sz', rows', h', k', hx'⟩
    · rw [h] at h'; cases h'
    · exact .ownDead r x h' ho
    all_goals rw [h] at h'; cases h'
  | sub r lo hi x e sz rows h hlo hhi A n c hx hn hc hA =>
    have ho : x.oneCell' = true := by rw [hx]; rfl
    rcases E.l r with h' | h' | ⟨T, cs, cs', h', _, _⟩ | ⟨e', sz', rows', rows'', h', k', hl, hx'⟩ | ⟨e', sz', rows', rows3, h', k', hl3, hx'⟩ | ⟨sz', rows', h', _, _⟩
    · rw [h] at h'; cases h'
    · exact .subDead r lo hi x h' ho
    · rw [h] at h'; cases h'
    · rw [h] at h'; cases h'
      exact .sub r lo hi x e sz rows'' k' hlo (by omega) A n c hx hn hc (fun h0 => by rw [hx']; exact hA h0)
    · have hf := E.f r e sz rows _ _ h k'
      rw [h] at h'; cases h'
      refine .subStill r lo hi x sz rows3 k' hlo (by omega) ?_
      rw [hx]
      refine hf.cut hlo (by omega) hn hc fun h0 => ?_
      obtain ⟨g, N, C, hs, hA'⟩ := hA h0
      exact ⟨g, 0, N, C, by rw [hx', hs], by rw [hA', Nat.zero_add]⟩
    · rw [h] at h'; cases h'
  | subStill r lo hi x sz rows h hlo hhi hx =>
    rcases E.l r with h' | h' | ⟨T, cs, cs', h', _, _⟩ | ⟨e', sz', rows', rows'', h', k', hl, hx'⟩ | ⟨e', sz', rows', rows3, h', k', hl3, hx'⟩ | ⟨sz', rows', h', k', hx'⟩
    · rw [h] at h'; cases h'
    · exact .subDead r lo hi x h' hx.one
    · rw [h] at h'; cases h'
    · rw [h] at h'; cases h'
    · rw [h] at h'; cases h'
    · rw [h] at h'; cases h'
      exact .subStill r lo hi x sz rows k' hlo hhi (hx.mono E.z E.w)
  | subDead r lo hi x h ho =>
    rcases E.l r with h' | h' | ⟨T, cs, cs', h', _, _⟩ | ⟨e', sz', rows', rows'', h', k', hl, hx'⟩ | ⟨e', sz', rows', rows3, h', k', hl3, hx'⟩ | ⟨sz', rows', h', k', hx'⟩
    · rw [h] at h'; cases h'
    · exact .subDead r lo hi x h' ho
    all_goals rw [h] at h'; cases h'
  | ptr r off x T cs h g hs hx =>
    rcases E.l r with h' | h' | ⟨T', cs', cs'', h', k', hx'⟩ | ⟨e', sz', rows', rows'', h', k', hl, hx'⟩ | ⟨e', sz', rows', rows3, h', k', hl3, hx'⟩ | ⟨sz', rows', h', k', hx'⟩
    · rw [h] at h'; cases h'
    · exact .ptrDead r off x h' (by rw [hx]; rfl)
    · rw [h] at h'; cases h'
      exact .ptr r off x T cs'' k' g (by rw [hx', hs]) hx
    all_goals rw [h] at h'; cases h'
  | ptrDead r off x h ho =>
    rcases E.l r with h' | h' | ⟨T, cs, cs', h', _, _⟩ | ⟨e', sz', rows', rows'', h', k', hl, hx'⟩ | ⟨e', sz', rows', rows3, h', k', hl3, hx'⟩ | ⟨sz', rows', h', k', hx'⟩
    · rw [h] at h'; cases h'
    · exact .ptrDead r off x h' ho
    all_goals rw [h] at h'; cases h'
  | eptr r i j x e sz rows h g n c hs hx =>
    have ho : x.oneCell' = true := by rw [hx]; rfl
    rcases E.l r with h' | h' | ⟨T, cs, cs', h', _, _⟩ | ⟨e', sz', rows', rows'', h', k', hl, hx'⟩ | ⟨e', sz', rows', rows3, h', k', hl3, hx'⟩ | ⟨sz', rows', h', _, _⟩
    · rw [h] at h'; cases h'
    · exact .eptrDead r i j x h' ho
    · rw [h] at h'; cases h'
    · rw [h] at h'; cases h'
      exact .eptr r i j x e sz rows'' k' g n c (by rw [hx', hs]) hx
    · rw [h] at h'; cases h'
      exact .eptrStill r i j x sz rows3 k' ho
    · rw [h] at h'; cases h'
  | eptrStill r i j x sz rows h ho =>
    rcases E.l r with h' | h' | ⟨T, cs, cs', h', _, _⟩ | ⟨e', sz', rows', rows'', h', k', hl, hx'⟩ | ⟨e', sz', rows', rows3, h', k', hl3, hx'⟩ | ⟨sz', rows', h', k', hx'⟩
    · rw [h] at h'; cases h'
    · exact .eptrDead r i j x h' ho
    · rw [h] at h'; cases h'
    · rw [h] at h'; cases h'
    · rw [h] at h'; cases h'
    · rw [h] at h'; cases h'
      exact .eptrStill r i j x sz rows k' ho
  | eptrDead r i j x h ho =>
    rcases E.l r with h' | h' | ⟨T, cs, cs', h', _, _⟩ | ⟨e', sz', rows', rows'', h', k', hl, hx'⟩ | ⟨e', sz', rows', rows3, h', k', hl3, hx'⟩ | ⟨sz', rows', h', k', hx'⟩
    · rw [h] at h'; cases h'
    · exact .eptrDead r i j x h' ho
    all_goals rw [h] at h'; cases h'
  | rptr cells b off u hz hcell hrep =>
    exact .rptr cells b off u (E.z _ hz) (fun k d h => (World.cell?_of_block (E.w _ hz)).trans (hcell k d h)) (fun k d h => (hrep k d h).mono E.z E.w)
  | agg cs vs hl _ ih => exact .agg cs vs hl ih
  | tup cs vs hl _ ih => exact .tup cs vs hl ih
end Go.Proofs.Ytpompkogpdnlcaa
