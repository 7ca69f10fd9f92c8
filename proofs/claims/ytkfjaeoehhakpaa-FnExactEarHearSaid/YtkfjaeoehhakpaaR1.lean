import Derived.Test.YtkfjaeoehhakpaaRows
import Derived.WalkKit
import Derived.ProofKit
import Derived.Below
import Derived.Lib.Hide
import Derived.Deep.Draws
import Derived.OneCell
import Derived.Deep.MidRow
import Derived.Laws.BytesArg
import Derived.Laws.Small
import Derived.Laws.IdiomStrings
import Derived.Laws.StructEq
import Derived.ChangeKeysEq
/-
  The relation between the states of a plain machine (values are data, blocks have numbers of their own) and those of the model: what is kept by it.
-/
namespace Go.Proofs.Ytkfjaeoehhakpaa
open Go.RowKit
inductive D where
  | v (x : Value)
  | l (sz : Nat) (rows : List (List D))
def rowAt (rows : List (List D)) (i j : Nat) : Option D := (rows[i]?).bind (·[j]?)
def vblk : Value → Option Nat
  | .pointer (some a) => some a.block
  | .slice (some a) _ _ => some a.block
  | _ => none
def cellOf (w : World) : Value → Nat → Option Value
  | .slice (some a) _ _, m => w.cell? ⟨a.block, a.off + m, none⟩
  | _, _ => none
def ownsAt (w : World) (e : TypeId) (sz : Nat) (v : Value) (n : Nat) (xs : List Value) : Prop :=
  xs.length = n * sz ∧ ((v = .slice none 0 0 ∧ n = 0) ∨
   ∃ (g o cap : Nat) (cur : Array Value), v = .slice (some ⟨g, o, none⟩) n cap ∧ 0 ≤ g ∧ w.heap[g]? = some (.cells cur e (0, 0)) ∧ n ≤ cap ∧ cap ≤ maxLen ∧ o + cap * sz ≤ cur.size ∧ (cur.toList.drop o).take (n * sz) = xs)
theorem ownsAt_of {w : World} {base : Nat} {e : TypeId} {sz n : Nat} {v : Value} {xs : List Value} (h : w.ownsRow base e sz v n xs) : ownsAt w e sz v n xs := by
  refine ⟨h.1, ?_⟩
  rcases h.2 with h2 | ⟨g, cap, cur, q1, q2, q3, q4, q5, q6, q7⟩
  · exact .inl h2
  · exact .inr ⟨g, 0, cap, cur, q1, Nat.zero_le _, q3, q4, q5, by omega, by rw [List.drop_zero]; exact q7⟩
theorem ownsAt_nil (w : World) (e : TypeId) (sz : Nat) : ownsAt w e sz (.slice none 0 0) 0 [] := ⟨by rw [Nat.zero_mul]; rfl, .inl ⟨rfl, rfl⟩⟩
inductive TK where
  | cell
  | sl (e : TypeId) (sz : Nat) (cols : List TK)
inductive TS where
  | whole
  | hole (i j q : Nat)
  | kid (r : Nat)
  | gone (n : Nat)
def TS.ex : TS → Nat → Nat → Bool
  | .hole i j _, a, b => a == i && b == j
  | .gone n, a, _ => decide (a < n)
  | _, _, _ => false
def TS.atRow : TS → Nat → Bool
  | .whole, i => i == 0
  | .kid _, i => i == 0
  | .gone n, i => i == n
  | _, _ => false
def TS.cutB : TS → Nat → Bool
  | .whole, _ => true
  | .kid _, _ => true
  | .gone n, a => decide (n ≤ a)
  | _, _ => false
theorem TS.cut_ex {st : TS} {a : Nat} (h : st.cutB a = true) (i j : Nat) : st.ex (a + i) j = false := by
  cases st with
  | whole => rfl
  | kid => rfl
  | gone n => simp [TS.cutB] at h; simp [TS.ex]; omega
  | hole => simp [TS.cutB] at h
inductive InF (w : World) : TK → D → Value → Nat → Prop
  | here (e : TypeId) (sz : Nat) (cols : List TK) (d : D) (v : Value) (g : Nat) (h : vblk v = some g) : InF w (.sl e sz cols) d v g
  | down (e : TypeId) (sz : Nat) (cols : List TK) (rows : List (List D)) (v : Value) (i j : Nat) (d : D) (k : TK) (u : Value) (g : Nat) (hd : rowAt rows i j = some d) (hk : cols[j]? = some k)
      (hu : cellOf w v (i * sz + j) = some u) (h : InF w k d u g) : InF w (.sl e sz cols) (.l sz rows) v g
inductive Own (w : World) : TK → D → Value → Prop
  | cell (x : Value) (h : x.oneCell' = true) : Own w .cell (.v x) x
  | sl (e : TypeId) (sz : Nat) (cols : List TK) (rows : List (List D)) (v : Value) (xs : List Value) (u : Nat → Nat → Value) (h0 : 0 < sz) (hc : cols.length = sz) (hr : ∀ r ∈ rows, r.length = sz)
      (ho : ownsAt w e sz v rows.length xs) (hu : ∀ i j d, rowAt rows i j = some d → xs[i * sz + j]? = some (u i j))
      (hk : ∀ i j d k, rowAt rows i j = some d → cols[j]? = some k → Own w k d (u i j))
      (h1 : ∀ i j d k g, rowAt rows i j = some d → cols[j]? = some k → InF w k d (u i j) g → vblk v ≠ some g)
      (h2 : ∀ i j d k i' j' d' k' g, rowAt rows i j = some d → cols[j]? = some k → rowAt rows i' j' = some d' → cols[j']? = some k' → InF w k d (u i j) g → InF w k' d' (u i' j') g → i = i' ∧ j = j') :
      Own w (.sl e sz cols) (.l sz rows) v
structure Tree (w : World) (ex : Nat → Nat → Bool) (e : TypeId) (sz : Nat) (cols : List TK) (rows : List (List D)) (v : Value) (xs : List Value) (u : Nat → Nat → Value) : Prop where
  h0 : 0 < sz
  hc : cols.length = sz
  hr : ∀ r ∈ rows, r.length = sz
  ho : ownsAt w e sz v rows.length xs
  hu : ∀ i j d, rowAt rows i j = some d → xs[i * sz + j]? = some (u i j)
  one : ∀ i j d, rowAt rows i j = some d → (u i j).oneCell' = true
  hk : ∀ i j d k, ex i j = false → rowAt rows i j = some d → cols[j]? = some k → Own w k d (u i j)
  h1 : ∀ i j d k g, ex i j = false → rowAt rows i j = some d → cols[j]? = some k → InF w k d (u i j) g → vblk v ≠ some g
  h2 : ∀ i j d k i' j' d' k' g, ex i j = false → ex i' j' = false → rowAt rows i j = some d → cols[j]? = some k → rowAt rows i' j' = some d' → cols[j']? = some k' → InF w k d (u i j) g → InF w k' d' (u i' j') g → i = i' ∧ j = j'
def InX (w : World) (ex : Nat → Nat → Bool) (sz : Nat) (cols : List TK) (rows : List (List D)) (v : Value) (g : Nat) : Prop :=
  vblk v = some g ∨ ∃ i j d k u, ex i j = false ∧ rowAt rows i j = some d ∧ cols[j]? = some k ∧ cellOf w v (i * sz + j) = some u ∧ InF w k d u g
inductive Rep (w : World) (Z : Nat → Prop) : D → Value → Prop
  | v (x : Value) (h : x.oneCell' = true) : Rep w Z (.v x) x
  | e (sz : Nat) (A : Option Addr) (c : Nat) : Rep w Z (.l sz []) (.slice A 0 c)
  | l (sz : Nat) (rows : List (List D)) (b off n c : Nat) (u : Nat → Nat → Value) (hn : rows.length = n) (hc : n ≤ c) (hs : ∀ r ∈ rows, r.length = sz) (hz : Z b)
      (hcell : ∀ i j d, rowAt rows i j = some d → w.cell? ⟨b, off + (i * sz + j), none⟩ = some (u i j)) (hrep : ∀ i j d, rowAt rows i j = some d → Rep w Z d (u i j)) :
      Rep w Z (.l sz rows) (.slice (some ⟨b, off, none⟩) n c)
theorem Rep.mono {w w' : World} {Z Z' : Nat → Prop} {d : D} {x : Value} (h : Rep w Z d x) (hz : ∀ b, Z b → Z' b) (hw : ∀ b, Z b → w'.heap[b]? = w.heap[b]?) : Rep w' Z' d x := by
  induction h with
  | v x h => exact .v x h
  | e sz A c => exact .e sz A c
  | l sz rows b off n c u hn hc hs hZ hcell _ ih =>
    exact .l sz rows b off n c u hn hc hs (hz _ hZ) (fun i j d h => (World.cell?_of_block (hw _ hZ)).trans (hcell i j d h)) ih
theorem Rep.one {w : World} {Z : Nat → Prop} {d : D} {x : Value} (h : Rep w Z d x) : x.oneCell' = true := by
  cases h <;> first | assumption | rfl
inductive AV where
  | v (x : Value)
  | l (sz : Nat) (rows : List (List D))
  /-- all of the slice in block r -/
  | own (r : Nat)
  /-- a part of it -/
  | sub (r lo hi : Nat)
  /-- a cell of the variable in block r -/
  | ptr (r off : Nat)
  /-- a cell of a row of the slice in block r -/
  | eptr (r i j : Nat)
  /-- cells that do not turn -/
  | rptr (cells : List D)
  | agg (cs : List AV)
  | tup (cs : List AV)
  /-- whatever it is -/
  | any
  /-- one cell, whatever it holds -/
  | mute
inductive Blk where
  | none
  | dead
  | var (T : TypeId) (cs : List AV)
  | sl (e : TypeId) (sz : Nat) (rows : List (List D))
  | still (sz : Nat) (rows : List (List D))
  /-- a slice with all slices in its rows -/
  | tr (st : TS) (e : TypeId) (sz : Nat) (cols : List TK) (rows : List (List D))
  /-- the end of a slice of one's own, from some row on -/
  | off (e : TypeId) (sz : Nat) (rows : List (List D))
def Blk.live : Blk → Prop
  | .var .. | .sl .. | .tr .. | .off .. => True
  | _ => False
def Blk.plain : Blk → Prop
  | .tr .. => False
  | _ => True
def Fp (w : World) : Blk → Value → Nat → Prop
  | .tr st _ sz cols rows, v, g => InX w st.ex sz cols rows v g
  | _, v, g => vblk v = some g
theorem Fp.root {w : World} {B : Blk} {v : Value} {g : Nat} (h : vblk v = some g) : Fp w B v g := by
  cases B <;> first | exact h | exact .inl h
theorem Fp.of_plain {w : World} {B : Blk} {v : Value} {g : Nat} (hp : B.plain) (h : Fp w B v g) : vblk v = some g := by
  cases B <;> first | exact h | exact hp.elim
inductive AVR (w : World) (Z : Nat → Prop) (L : Nat → Blk) (s : Nat → Value) : AV → Value → Prop
  | any (x : Value) : AVR w Z L s .any x
  | mute (x : Value) (h : x.oneCell' = true) : AVR w Z L s .mute x
  | v (x : Value) : AVR w Z L s (.v x) x
  | l (sz : Nat) (rows : List (List D)) (x : Value) (h : Rep w Z (.l sz rows) x) : AVR w Z L s (.l sz rows) x
  | own (r : Nat) (x : Value) (e : TypeId) (sz : Nat) (rows : List (List D)) (h : L r = .sl e sz rows) (hx : x = s r) (hn : ∃ A c, s r = .slice A rows.length c) : AVR w Z L s (.own r) x
  | ownTr (r : Nat) (x : Value) (st : TS) (e : TypeId) (sz : Nat) (cols : List TK) (rows : List (List D)) (h : L r = .tr st e sz cols rows) (hx : x = s r) (hn : ∃ A c, s r = .slice A rows.length c) : AVR w Z L s (.own r) x
  | ownStill (r : Nat) (x : Value) (sz : Nat) (rows : List (List D)) (h : L r = .still sz rows) (hx : x = s r) (ho : x.oneCell' = true) : AVR w Z L s (.own r) x
  | ownDead (r : Nat) (x : Value) (h : L r = .dead) (ho : x.oneCell' = true) : AVR w Z L s (.own r) x
  | ownOff (r : Nat) (x : Value) (e : TypeId) (sz : Nat) (rows : List (List D)) (h : L r = .off e sz rows) (hx : x = s r) (hn : ∃ A c, s r = .slice A rows.length c) : AVR w Z L s (.own r) x
  | sub (r lo hi : Nat) (x : Value) (e : TypeId) (sz : Nat) (rows : List (List D)) (h : L r = .sl e sz rows) (hlo : lo ≤ hi) (hhi : hi ≤ rows.length) (A : Option Addr) (n c : Nat) (hx : x = .slice A n c)
      (hn : n = hi - lo) (hc : n ≤ c) (hA : 0 < n → ∃ g o N C, s r = .slice (some ⟨g, o, none⟩) N C ∧ A = some ⟨g, o + lo * sz, none⟩ ∧ Nat.le (lo + c) C) : AVR w Z L s (.sub r lo hi) x
  | subTr (r lo hi : Nat) (x : Value) (st : TS) (e : TypeId) (sz : Nat) (cols : List TK) (rows : List (List D)) (h : L r = .tr st e sz cols rows) (hlo : lo ≤ hi) (hhi : hi ≤ rows.length) (A : Option Addr) (n c : Nat) (hx : x = .slice A n c)
      (hn : n = hi - lo) (hc : n ≤ c) (hA : 0 < n → ∃ g o N C, s r = .slice (some ⟨g, o, none⟩) N C ∧ A = some ⟨g, o + lo * sz, none⟩ ∧ Nat.le (lo + c) C) : AVR w Z L s (.sub r lo hi) x
  | subOff (r lo hi : Nat) (x : Value) (e : TypeId) (sz : Nat) (rows : List (List D)) (h : L r = .off e sz rows) (hlo : lo ≤ hi) (hhi : hi ≤ rows.length) (A : Option Addr) (n c : Nat) (hx : x = .slice A n c)
      (hn : n = hi - lo) (hc : n ≤ c) (hA : 0 < n → ∃ g o N C, s r = .slice (some ⟨g, o, none⟩) N C ∧ A = some ⟨g, o + lo * sz, none⟩) : AVR w Z L s (.sub r lo hi) x
  | subStill (r lo hi : Nat) (x : Value) (sz : Nat) (rows : List (List D)) (h : L r = .still sz rows) (hlo : lo ≤ hi) (hhi : hi ≤ rows.length) (hx : Rep w Z (.l sz ((rows.take hi).drop lo)) x) : AVR w Z L s (.sub r lo hi) x
  | subDead (r lo hi : Nat) (x : Value) (h : L r = .dead) (ho : x.oneCell' = true) : AVR w Z L s (.sub r lo hi) x
  | ptr (r off : Nat) (x : Value) (T : TypeId) (cs : List AV) (h : L r = .var T cs) (g : Nat) (hs : s r = .pointer (some ⟨g, 0, none⟩)) (hx : x = .pointer (some ⟨g, off, none⟩)) : AVR w Z L s (.ptr r off) x
  | ptrDead (r off : Nat) (x : Value) (h : L r = .dead) (ho : x.oneCell' = true) : AVR w Z L s (.ptr r off) x
  | eptr (r i j : Nat) (x : Value) (e : TypeId) (sz : Nat) (rows : List (List D)) (h : L r = .sl e sz rows) (g o n c : Nat) (hs : s r = .slice (some ⟨g, o, none⟩) n c) (hx : x = .pointer (some ⟨g, o + (i * sz + j), none⟩)) : AVR w Z L s (.eptr r i j) x
  | eptrTr (r i j : Nat) (x : Value) (st : TS) (e : TypeId) (sz : Nat) (cols : List TK) (rows : List (List D)) (h : L r = .tr st e sz cols rows) (g o n c : Nat) (hs : s r = .slice (some ⟨g, o, none⟩) n c) (hx : x = .pointer (some ⟨g, o + (i * sz + j), none⟩)) : AVR w Z L s (.eptr r i j) x
  | eptrOff (r i j : Nat) (x : Value) (e : TypeId) (sz : Nat) (rows : List (List D)) (h : L r = .off e sz rows) (g o n c : Nat) (hs : s r = .slice (some ⟨g, o, none⟩) n c) (hx : x = .pointer (some ⟨g, o + (i * sz + j), none⟩)) : AVR w Z L s (.eptr r i j) x
  | eptrStill (r i j : Nat) (x : Value) (sz : Nat) (rows : List (List D)) (h : L r = .still sz rows) (ho : x.oneCell' = true) : AVR w Z L s (.eptr r i j) x
  | eptrDead (r i j : Nat) (x : Value) (h : L r = .dead) (ho : x.oneCell' = true) : AVR w Z L s (.eptr r i j) x
  | rptr (cells : List D) (b off : Nat) (u : Nat → Value) (hz : Z b) (hcell : ∀ (k : Nat) (d : D), cells[k]? = some d → w.cell? ⟨b, off + k, none⟩ = some (u k)) (hrep : ∀ (k : Nat) (d : D), cells[k]? = some d → Rep w Z d (u k)) :
      AVR w Z L s (.rptr cells) (.pointer (some ⟨b, off, none⟩))
  | agg (cs : List AV) (vs : List Value) (hl : vs.length = cs.length) (h : ∀ (i : Nat) (x : AV) (y : Value), cs[i]? = some x → vs[i]? = some y → AVR w Z L s x y) : AVR w Z L s (.agg cs) (.agg vs.toArray)
  | tup (cs : List AV) (vs : List Value) (hl : vs.length = cs.length) (h : ∀ (i : Nat) (x : AV) (y : Value), cs[i]? = some x → vs[i]? = some y → AVR w Z L s x y) : AVR w Z L s (.tup cs) (.tuple vs.toArray)
inductive Like0 (L L' : Blk) (x x' : Value) : Prop
  | fresh (h : L = .none)
  | dead (h : L' = .dead)
  | var (T : TypeId) (cs cs' : List AV) (h : L = .var T cs) (h' : L' = .var T cs') (hx : x' = x)
  | sl (e : TypeId) (sz : Nat) (rows rows' : List (List D)) (h : L = .sl e sz rows) (h' : L' = .sl e sz rows') (hn : rows'.length = rows.length) (hx : x' = x)
  | freeze (e : TypeId) (sz : Nat) (rows rows' : List (List D)) (h : L = .sl e sz rows) (h' : L' = .still sz rows') (hn : rows'.length = rows.length) (hx : x' = x)
  | still (sz : Nat) (rows : List (List D)) (h : L = .still sz rows) (h' : L' = .still sz rows) (hx : x' = x)
  | tr (st : TS) (e : TypeId) (sz : Nat) (cols : List TK) (rows rows' : List (List D)) (h : L = .tr st e sz cols rows) (h' : (∃ st', L' = .tr st' e sz cols rows') ∨ L' = .still sz rows') (hn : rows'.length = rows.length) (hx : x' = x)
inductive Like (L L' : Blk) (x x' : Value) : Prop
  | fresh (h : L = .none)
  | dead (h : L' = .dead)
  | var (T : TypeId) (cs cs' : List AV) (h : L = .var T cs) (h' : L' = .var T cs') (hx : x' = x)
  | sl (e : TypeId) (sz : Nat) (rows rows' : List (List D)) (h : L = .sl e sz rows) (h' : L' = .sl e sz rows') (hn : rows'.length = rows.length) (hx : x' = x)
  | freeze (e : TypeId) (sz : Nat) (rows rows' : List (List D)) (h : L = .sl e sz rows) (h' : L' = .still sz rows') (hn : rows'.length = rows.length) (hx : x' = x)
  | still (sz : Nat) (rows : List (List D)) (h : L = .still sz rows) (h' : L' = .still sz rows) (hx : x' = x)
  | tr (st : TS) (e : TypeId) (sz : Nat) (cols : List TK) (rows rows' : List (List D)) (h : L = .tr st e sz cols rows) (h' : (∃ st', L' = .tr st' e sz cols rows') ∨ L' = .still sz rows') (hn : rows'.length = rows.length) (hx : x' = x)
  | off (e : TypeId) (sz : Nat) (rows : List (List D)) (h : L = .off e sz rows) (h' : L' = .off e sz rows ∨ L' = .still sz rows) (hx : x' = x)
theorem Like.z {L L' : Blk} {x x' : Value} (h : Like L L' x x') (hn : ∀ e sz rows, L ≠ .off e sz rows) : Like0 L L' x x' := by
  rcases h with h1 | h1 | ⟨T, cs, cs', h1, h2, h3⟩ | ⟨e, sz, rows, rows', h1, h2, h3, h4⟩ | ⟨e, sz, rows, rows', h1, h2, h3, h4⟩ | ⟨sz, rows, h1, h2, h3⟩ | ⟨st, e, sz, cols, rows, rows', h1, h2, h3, h4⟩ | ⟨e, sz, rows, h1, h2, h3⟩
  · exact .fresh h1
  · exact .dead h1
  · exact .var T cs cs' h1 h2 h3
  · exact .sl e sz rows rows' h1 h2 h3 h4
  · exact .freeze e sz rows rows' h1 h2 h3 h4
  · exact .still sz rows h1 h2 h3
  · exact .tr st e sz cols rows rows' h1 h2 h3 h4
  · exact absurd h1 (hn e sz rows)
theorem Like.off_to {L L' : Blk} {x x' : Value} {e : TypeId} {sz : Nat} {rows : List (List D)} (h : Like L L' x x') (hn : L = .off e sz rows) : L' = .dead ∨ ((L' = .off e sz rows ∨ L' = .still sz rows) ∧ x' = x) := by
  subst hn
  rcases h with h1 | h1 | ⟨_, _, _, h1, _, _⟩ | ⟨_, _, _, _, h1, _, _, _⟩ | ⟨_, _, _, _, h1, _, _, _⟩ | ⟨_, _, h1, _, _⟩ | ⟨_, _, _, _, _, _, h1, _, _, _⟩ | ⟨e, sz, rows, h1, h2, h3⟩
  · cases h1
  · exact .inl h1
  · cases h1
  · cases h1
  · cases h1
  · cases h1
  · cases h1
  · cases h1; exact .inr ⟨h2, h3⟩
structure Ext (w : World) (Z : Nat → Prop) (L : Nat → Blk) (s : Nat → Value) (w' : World) (Z' : Nat → Prop) (L' : Nat → Blk) (s' : Nat → Value) : Prop where
  z : ∀ b, Z b → Z' b
  w : ∀ b, Z b → w'.heap[b]? = w.heap[b]?
  l : ∀ r, Like (L r) (L' r) (s r) (s' r)
  /-- what became still reads as its rows -/
  f : ∀ r sz' rows', (L r).live → L' r = .still sz' rows' → Rep w' Z' (.l sz' rows') (s' r)
theorem Rep.cut {w : World} {Z : Nat → Prop} {sz : Nat} {rows : List (List D)} {x : Value} (h : Rep w Z (.l sz rows) x) {lo hi : Nat} (h1 : lo ≤ hi) (h2 : hi ≤ rows.length)
    {A : Option Addr} {n c : Nat} (hn : n = hi - lo) (hc : n ≤ c) (hA : 0 < n → ∃ b off N C, x = .slice (some ⟨b, off, none⟩) N C ∧ A = some ⟨b, off + lo * sz, none⟩) : Rep w Z (.l sz ((rows.take hi).drop lo)) (.slice A n c) := by
  by_cases h0 : n = 0
  · have e : (rows.take hi).drop lo = [] := List.drop_eq_nil_of_le (by rw [List.length_take]; omega)
    rw [e]
    subst h0
    exact .e sz A c
  · obtain ⟨b, off, N, C, hx, hA⟩ := hA (by omega)
    subst hA
    subst hx
    cases h with
    | e => simp at h2; omega
    | l _ _ _ _ _ _ u hn' hc' hs hz hcell hrep =>
      have get : ∀ i, ((rows.take hi).drop lo)[i]? = if lo + i < hi then rows[lo + i]? else none := fun i => by
        rw [List.getElem?_drop, List.getElem?_take]
      have key : ∀ i j d, rowAt ((rows.take hi).drop lo) i j = some d → rowAt rows (lo + i) j = some d := fun i j d h => by
        unfold rowAt at h ⊢
        rw [get] at h
        split at h
        · exact h
        · simp at h
      refine .l sz _ b (off + lo * sz) n c (fun i j => u (lo + i) j) (by rw [List.length_drop, List.length_take]; omega) hc (fun r hr => hs r (List.mem_of_mem_take (List.mem_of_mem_drop hr))) hz (fun i j d h => ?_) (fun i j d h => hrep _ _ d (key i j d h))
      have := hcell _ _ d (key i j d h)
      rw [Nat.add_mul] at this
      rw [← this]
      congr 2
      omega
theorem AVR.mono {w w' : World} {Z Z' : Nat → Prop} {L L' : Nat → Blk} {s s' : Nat → Value} {a : AV} {x : Value} (h : AVR w Z L s a x) (E : Ext w Z L s w' Z' L' s') : AVR w' Z' L' s' a x := by
  induction h with
  | any x => exact .any x
  | mute x h => exact .mute x h
  | v x => exact .v x
  | l sz rows x h => exact .l sz rows x (h.mono E.z E.w)
  | own r x e sz rows h hx hn =>
    obtain ⟨A, c, hA⟩ := hn
    rcases (E.l r).z (by rw [h]; intro _ _ _ q; cases q) with h' | h' | ⟨T, cs, cs', h', _, _⟩ | ⟨e', sz', rows', rows'', h', k', hl, hx'⟩ | ⟨e', sz', rows', rows3, h', k', hl3, hx'⟩ | ⟨sz', rows', h', _, _⟩ | ⟨_, _, _, _, _, _, h', _, _, _⟩
    · rw [h] at h'; cases h'
    · exact .ownDead r x h' (by rw [hx, hA]; rfl)
    · rw [h] at h'; cases h'
    · rw [h] at h'; cases h'
      exact .own r x e sz rows'' k' (by rw [hx', hx]) ⟨A, c, by rw [hx', hA, hl]⟩
    · rw [h] at h'; cases h'
      exact .ownStill r x sz rows3 k' (by rw [hx', hx]) (by rw [hx, hA]; rfl)
    · rw [h] at h'; cases h'
    · rw [h] at h'; cases h'
  | ownStill r x sz rows h hx ho =>
    rcases (E.l r).z (by rw [h]; intro _ _ _ q; cases q) with h' | h' | ⟨T, cs, cs', h', _, _⟩ | ⟨e', sz', rows', rows'', h', k', hl, hx'⟩ | ⟨e', sz', rows', rows3, h', k', hl3, hx'⟩ | ⟨sz', rows', h', k', hx'⟩ | ⟨_, _, _, _, _, _, h', _, _, _⟩
    · rw [h] at h'; cases h'
    · exact .ownDead r x h' ho
    · rw [h] at h'; cases h'
    · rw [h] at h'; cases h'
    · rw [h] at h'; cases h'
    · rw [h] at h'; cases h'
      exact .ownStill r x sz rows k' (by rw [hx', hx]) ho
    · rw [h] at h'; cases h'
  | ownDead r x h ho =>
    rcases (E.l r).z (by rw [h]; intro _ _ _ q; cases q) with h' | h' | ⟨T, cs, cs', h', _, _⟩ | ⟨e', sz', rows', rows'', h', k', hl, hx'⟩ | ⟨e', sz', rows', rows3, h', k', hl3, hx'⟩ | ⟨sz', rows', h', k', hx'⟩ | ⟨_, _, _, _, _, _, h', _, _, _⟩
    · rw [h] at h'; cases h'
    · exact .ownDead r x h' ho
    all_goals rw [h] at h'; cases h'
  | ownOff r x e sz rows h hx hn =>
    obtain ⟨A, c, hA⟩ := hn
    rcases (E.l r).off_to h with h' | ⟨h' | h', hx'⟩
    · exact .ownDead r x h' (by rw [hx, hA]; rfl)
    · exact .ownOff r x e sz rows h' (by rw [hx', hx]) ⟨A, c, by rw [hx', hA]⟩
    · exact .ownStill r x sz rows h' (by rw [hx', hx]) (by rw [hx, hA]; rfl)
  | sub r lo hi x e sz rows h hlo hhi A n c hx hn hc hA =>
    have ho : x.oneCell' = true := by rw [hx]; rfl
    rcases (E.l r).z (by rw [h]; intro _ _ _ q; cases q) with h' | h' | ⟨T, cs, cs', h', _, _⟩ | ⟨e', sz', rows', rows'', h', k', hl, hx'⟩ | ⟨e', sz', rows', rows3, h', k', hl3, hx'⟩ | ⟨sz', rows', h', _, _⟩ | ⟨_, _, _, _, _, _, h', _, _, _⟩
    · rw [h] at h'; cases h'
    · exact .subDead r lo hi x h' ho
    · rw [h] at h'; cases h'
    · rw [h] at h'; cases h'
      exact .sub r lo hi x e sz rows'' k' hlo (by omega) A n c hx hn hc (fun h0 => by rw [hx']; exact hA h0)
    · have hf := E.f r _ _ (by rw [h]; trivial) k'
      rw [h] at h'; cases h'
      refine .subStill r lo hi x sz rows3 k' hlo (by omega) ?_
      rw [hx]
      refine hf.cut hlo (by omega) hn hc fun h0 => ?_
      obtain ⟨g, o, N, C, hs, hA', _⟩ := hA h0
      exact ⟨g, o, N, C, by rw [hx', hs], hA'⟩
    · rw [h] at h'; cases h'
    · rw [h] at h'; cases h'
  | subOff r lo hi x e sz rows h hlo hhi A n c hx hn hc hA =>
    rcases (E.l r).off_to h with h' | ⟨h' | h', hx'⟩
    · exact .subDead r lo hi x h' (by rw [hx]; rfl)
    · exact .subOff r lo hi x e sz rows h' hlo hhi A n c hx hn hc (fun h0 => by rw [hx']; exact hA h0)
    · have hf := E.f r _ _ (by rw [h]; trivial) h'
      refine .subStill r lo hi x sz rows h' hlo hhi ?_
      rw [hx]
      refine hf.cut hlo hhi hn hc fun h0 => ?_
      obtain ⟨g, o, N, C, hs, hA'⟩ := hA h0
      exact ⟨g, o, N, C, by rw [hx', hs], hA'⟩
  | subStill r lo hi x sz rows h hlo hhi hx =>
    rcases (E.l r).z (by rw [h]; intro _ _ _ q; cases q) with h' | h' | ⟨T, cs, cs', h', _, _⟩ | ⟨e', sz', rows', rows'', h', k', hl, hx'⟩ | ⟨e', sz', rows', rows3, h', k', hl3, hx'⟩ | ⟨sz', rows', h', k', hx'⟩ | ⟨_, _, _, _, _, _, h', _, _, _⟩
    · rw [h] at h'; cases h'
    · exact .subDead r lo hi x h' hx.one
    · rw [h] at h'; cases h'
    · rw [h] at h'; cases h'
    · rw [h] at h'; cases h'
    · rw [h] at h'; cases h'
      exact .subStill r lo hi x sz rows k' hlo hhi (hx.mono E.z E.w)
    · rw [h] at h'; cases h'
  | subDead r lo hi x h ho =>
    rcases (E.l r).z (by rw [h]; intro _ _ _ q; cases q) with h' | h' | ⟨T, cs, cs', h', _, _⟩ | ⟨e', sz', rows', rows'', h', k', hl, hx'⟩ | ⟨e', sz', rows', rows3, h', k', hl3, hx'⟩ | ⟨sz', rows', h', k', hx'⟩ | ⟨_, _, _, _, _, _, h', _, _, _⟩
    · rw [h] at h'; cases h'
    · exact .subDead r lo hi x h' ho
    all_goals rw [h] at h'; cases h'
  | ptr r off x T cs h g hs hx =>
    rcases (E.l r).z (by rw [h]; intro _ _ _ q; cases q) with h' | h' | ⟨T', cs', cs'', h', k', hx'⟩ | ⟨e', sz', rows', rows'', h', k', hl, hx'⟩ | ⟨e', sz', rows', rows3, h', k', hl3, hx'⟩ | ⟨sz', rows', h', k', hx'⟩ | ⟨_, _, _, _, _, _, h', _, _, _⟩
    · rw [h] at h'; cases h'
    · exact .ptrDead r off x h' (by rw [hx]; rfl)
    · rw [h] at h'; cases h'
      exact .ptr r off x T cs'' k' g (by rw [hx', hs]) hx
    all_goals rw [h] at h'; cases h'
  | ptrDead r off x h ho =>
    rcases (E.l r).z (by rw [h]; intro _ _ _ q; cases q) with h' | h' | ⟨T, cs, cs', h', _, _⟩ | ⟨e', sz', rows', rows'', h', k', hl, hx'⟩ | ⟨e', sz', rows', rows3, h', k', hl3, hx'⟩ | ⟨sz', rows', h', k', hx'⟩ | ⟨_, _, _, _, _, _, h', _, _, _⟩
    · rw [h] at h'; cases h'
    · exact .ptrDead r off x h' ho
    all_goals rw [h] at h'; cases h'
  | eptr r i j x e sz rows h g o n c hs hx =>
    have ho : x.oneCell' = true := by rw [hx]; rfl
    rcases (E.l r).z (by rw [h]; intro _ _ _ q; cases q) with h' | h' | ⟨T, cs, cs', h', _, _⟩ | ⟨e', sz', rows', rows'', h', k', hl, hx'⟩ | ⟨e', sz', rows', rows3, h', k', hl3, hx'⟩ | ⟨sz', rows', h', _, _⟩ | ⟨_, _, _, _, _, _, h', _, _, _⟩
    · rw [h] at h'; cases h'
    · exact .eptrDead r i j x h' ho
    · rw [h] at h'; cases h'
    · rw [h] at h'; cases h'
      exact .eptr r i j x e sz rows'' k' g o n c (by rw [hx', hs]) hx
    · rw [h] at h'; cases h'
      exact .eptrStill r i j x sz rows3 k' ho
    · rw [h] at h'; cases h'
    · rw [h] at h'; cases h'
  | eptrOff r i j x e sz rows h g o n c hs hx =>
    rcases (E.l r).off_to h with h' | ⟨h' | h', hx'⟩
    · exact .eptrDead r i j x h' (by rw [hx]; rfl)
    · exact .eptrOff r i j x e sz rows h' g o n c (by rw [hx', hs]) hx
    · exact .eptrStill r i j x sz rows h' (by rw [hx]; rfl)
  | eptrStill r i j x sz rows h ho =>
    rcases (E.l r).z (by rw [h]; intro _ _ _ q; cases q) with h' | h' | ⟨T, cs, cs', h', _, _⟩ | ⟨e', sz', rows', rows'', h', k', hl, hx'⟩ | ⟨e', sz', rows', rows3, h', k', hl3, hx'⟩ | ⟨sz', rows', h', k', hx'⟩ | ⟨_, _, _, _, _, _, h', _, _, _⟩
    · rw [h] at h'; cases h'
    · exact .eptrDead r i j x h' ho
    · rw [h] at h'; cases h'
    · rw [h] at h'; cases h'
    · rw [h] at h'; cases h'
    · rw [h] at h'; cases h'
      exact .eptrStill r i j x sz rows k' ho
    · rw [h] at h'; cases h'
  | eptrDead r i j x h ho =>
    rcases (E.l r).z (by rw [h]; intro _ _ _ q; cases q) with h' | h' | ⟨T, cs, cs', h', _, _⟩ | ⟨e', sz', rows', rows'', h', k', hl, hx'⟩ | ⟨e', sz', rows', rows3, h', k', hl3, hx'⟩ | ⟨sz', rows', h', k', hx'⟩ | ⟨_, _, _, _, _, _, h', _, _, _⟩
    · rw [h] at h'; cases h'
    · exact .eptrDead r i j x h' ho
    all_goals rw [h] at h'; cases h'
  | ownTr r x st e sz cols rows h hx hn =>
    obtain ⟨A, c, hA⟩ := hn
    rcases (E.l r).z (by rw [h]; intro _ _ _ q; cases q) with h' | h' | ⟨_, _, _, h', _, _⟩ | ⟨_, _, _, _, h', _, _, _⟩ | ⟨_, _, _, _, h', _, _, _⟩ | ⟨_, _, h', _, _⟩ | ⟨st1, e1, sz1, cols1, q1, q2, h', ⟨st2, k'⟩ | k', hl, hx'⟩
    · rw [h] at h'; cases h'
    · exact .ownDead r x h' (by rw [hx, hA]; rfl)
    · rw [h] at h'; cases h'
    · rw [h] at h'; cases h'
    · rw [h] at h'; cases h'
    · rw [h] at h'; cases h'
    · rw [h] at h'; cases h'
      exact .ownTr r x st2 e sz cols q2 k' (by rw [hx', hx]) ⟨A, c, by rw [hx', hA, hl]⟩
    · rw [h] at h'; cases h'
      exact .ownStill r x sz q2 k' (by rw [hx', hx]) (by rw [hx, hA]; rfl)
  | subTr r lo hi x st e sz cols rows h hlo hhi A n c hx hn hc hA =>
    rcases (E.l r).z (by rw [h]; intro _ _ _ q; cases q) with h' | h' | ⟨_, _, _, h', _, _⟩ | ⟨_, _, _, _, h', _, _, _⟩ | ⟨_, _, _, _, h', _, _, _⟩ | ⟨_, _, h', _, _⟩ | ⟨st1, e1, sz1, cols1, q1, q2, h', ⟨st2, k'⟩ | k', hl, hx'⟩
    · rw [h] at h'; cases h'
    · exact .subDead r lo hi x h' (by rw [hx]; rfl)
    · rw [h] at h'; cases h'
    · rw [h] at h'; cases h'
    · rw [h] at h'; cases h'
    · rw [h] at h'; cases h'
    · rw [h] at h'; cases h'
      exact .subTr r lo hi x st2 e sz cols q2 k' hlo (by omega) A n c hx hn hc (fun h0 => by rw [hx']; exact hA h0)
    · have hf := E.f r _ _ (by rw [h]; trivial) k'
      rw [h] at h'; cases h'
      refine .subStill r lo hi x sz q2 k' hlo (by omega) ?_
      rw [hx]
      refine hf.cut hlo (by omega) hn hc fun h0 => ?_
      obtain ⟨g, o, N, C, hs, hA', _⟩ := hA h0
      exact ⟨g, o, N, C, by rw [hx', hs], hA'⟩
  | eptrTr r i j x st e sz cols rows h g o n c hs hx =>
    rcases (E.l r).z (by rw [h]; intro _ _ _ q; cases q) with h' | h' | ⟨_, _, _, h', _, _⟩ | ⟨_, _, _, _, h', _, _, _⟩ | ⟨_, _, _, _, h', _, _, _⟩ | ⟨_, _, h', _, _⟩ | ⟨st1, e1, sz1, cols1, q1, q2, h', ⟨st2, k'⟩ | k', hl, hx'⟩
    · rw [h] at h'; cases h'
    · exact .eptrDead r i j x h' (by rw [hx]; rfl)
    · rw [h] at h'; cases h'
    · rw [h] at h'; cases h'
    · rw [h] at h'; cases h'
    · rw [h] at h'; cases h'
    · rw [h] at h'; cases h'
      exact .eptrTr r i j x st2 e sz cols q2 k' g o n c (by rw [hx', hs]) hx
    · rw [h] at h'; cases h'
      exact .eptrStill r i j x sz q2 k' (by rw [hx]; rfl)
  | rptr cells b off u hz hcell hrep =>
    exact .rptr cells b off u (E.z _ hz) (fun k d h => (World.cell?_of_block (E.w _ hz)).trans (hcell k d h)) (fun k d h => (hrep k d h).mono E.z E.w)
  | agg cs vs hl _ ih => exact .agg cs vs hl ih
  | tup cs vs hl _ ih => exact .tup cs vs hl ih
end Go.Proofs.Ytkfjaeoehhakpaa
namespace Go.Proofs.Ytkfjaeoehhakpaa
open Go.RowKit
def up {α : Type} (L : Nat → α) (r : Nat) (b : α) : Nat → α := fun k => if k = r then b else L k
theorem up_same {α : Type} (L : Nat → α) (r : Nat) (b : α) : up L r b r = b := by simp [up]
theorem up_ne {α : Type} (L : Nat → α) {r k : Nat} (b : α) (h : k ≠ r) : up L r b k = L k := by simp [up, h]
theorem Like.refl (B : Blk) (x : Value) : Like B B x x := by
  cases B with
  | none => exact .fresh rfl
  | dead => exact .dead rfl
  | var T cs => exact .var T cs cs rfl rfl rfl
  | sl e sz rows => exact .sl e sz rows rows rfl rfl rfl rfl
  | still sz rows => exact .still sz rows rfl rfl rfl
  | tr st e sz cols rows => exact .tr st e sz cols rows rows rfl (.inl ⟨st, rfl⟩) rfl rfl
  | off e sz rows => exact .off e sz rows rfl (.inl rfl) rfl
theorem Like.trans {A B C : Blk} {x y z : Value} (h : Like A B x y) (k : Like B C y z) : Like A C x z := by
  rcases h with h1 | h1 | ⟨T, cs, cs', h1, h2, h3⟩ | ⟨e, sz, rows, rows', h1, h2, h3, h4⟩ | ⟨e, sz, rows, rows', h1, h2, h3, h4⟩ | ⟨sz, rows, h1, h2, h3⟩ | ⟨st, e, sz, cols, rows, rows', h1, ⟨st', h2⟩ | h2, h3, h4⟩ | ⟨e, sz, rows, h1, h2 | h2, h3⟩
  · exact .fresh h1
  · subst h1
    rcases k.z (by intro _ _ _ q; cases q) with k1 | k1 | ⟨_, _, _, k1, _, _⟩ | ⟨_, _, _, _, k1, _, _, _⟩ | ⟨_, _, _, _, k1, _, _, _⟩ | ⟨_, _, k1, _, _⟩ | ⟨_, _, _, _, _, _, k1, _, _, _⟩ <;> first | cases k1; done | exact .dead k1
  · subst h2
    rcases k.z (by intro _ _ _ q; cases q) with k1 | k1 | ⟨T', ds, ds', k1, k2, k3⟩ | ⟨_, _, _, _, k1, _, _, _⟩ | ⟨_, _, _, _, k1, _, _, _⟩ | ⟨_, _, k1, _, _⟩ | ⟨_, _, _, _, _, _, k1, _, _, _⟩ <;> first | exact .dead k1 | (cases k1; first | done | exact .var T cs ds' h1 k2 (k3.trans h3))
  · subst h2
    rcases k.z (by intro _ _ _ q; cases q) with k1 | k1 | ⟨T', ds, ds', k1, k2, k3⟩ | ⟨_, _, _, qs, k1, k2, k3, k4⟩ | ⟨_, _, _, qs, k1, k2, k3, k4⟩ | ⟨_, _, k1, _, _⟩ | ⟨_, _, _, _, _, _, k1, _, _, _⟩
    · cases k1
    · exact .dead k1
    · cases k1
    · cases k1; exact .sl e sz rows qs h1 k2 (k3.trans h3) (k4.trans h4)
    · cases k1; exact .freeze e sz rows qs h1 k2 (k3.trans h3) (k4.trans h4)
    · cases k1
    · cases k1
  · subst h2
    rcases k.z (by intro _ _ _ q; cases q) with k1 | k1 | ⟨T', ds, ds', k1, k2, k3⟩ | ⟨_, _, _, qs, k1, k2, k3, k4⟩ | ⟨_, _, _, qs, k1, k2, k3, k4⟩ | ⟨_, _, k1, k2, k3⟩ | ⟨_, _, _, _, _, _, k1, _, _, _⟩
    · cases k1
    · exact .dead k1
    · cases k1
    · cases k1
    · cases k1
    · cases k1; exact .freeze e sz rows rows' h1 k2 h3 (k3.trans h4)
    · cases k1
  · subst h2
    rcases k.z (by intro _ _ _ q; cases q) with k1 | k1 | ⟨T', ds, ds', k1, k2, k3⟩ | ⟨_, _, _, qs, k1, k2, k3, k4⟩ | ⟨_, _, _, qs, k1, k2, k3, k4⟩ | ⟨_, _, k1, k2, k4⟩ | ⟨_, _, _, _, _, _, k1, _, _, _⟩
    · cases k1
    · exact .dead k1
    · cases k1
    · cases k1
    · cases k1
    · cases k1; exact .still sz rows h1 k2 (k4.trans h3)
    · cases k1
  · subst h2
    rcases k.z (by intro _ _ _ q; cases q) with k1 | k1 | ⟨T', ds, ds', k1, k2, k3⟩ | ⟨_, _, _, qs, k1, k2, k3, k4⟩ | ⟨_, _, _, qs, k1, k2, k3, k4⟩ | ⟨_, _, k1, k2, k4⟩ | ⟨_, _, _, _, _, qs, k1, k2, k3, k4⟩
    · cases k1
    · exact .dead k1
    · cases k1
    · cases k1
    · cases k1
    · cases k1
    · cases k1; exact .tr st e sz cols rows qs h1 k2 (k3.trans h3) (k4.trans h4)
  · subst h2
    rcases k.z (by intro _ _ _ q; cases q) with k1 | k1 | ⟨T', ds, ds', k1, k2, k3⟩ | ⟨_, _, _, qs, k1, k2, k3, k4⟩ | ⟨_, _, _, qs, k1, k2, k3, k4⟩ | ⟨_, _, k1, k2, k5⟩ | ⟨_, _, _, _, _, _, k1, _, _, _⟩
    · cases k1
    · exact .dead k1
    · cases k1
    · cases k1
    · cases k1
    · cases k1; exact .tr st e sz cols rows rows' h1 (.inr k2) h3 (k5.trans h4)
    · cases k1
  · subst h2
    rcases k.off_to rfl with k1 | ⟨k1, k2⟩
    · exact .dead k1
    · exact .off e sz rows h1 k1 (k2.trans h3)
  · subst h2
    rcases k.z (by intro _ _ _ q; cases q) with k1 | k1 | ⟨T', ds, ds', k1, k2, k3⟩ | ⟨_, _, _, qs, k1, k2, k3, k4⟩ | ⟨_, _, _, qs, k1, k2, k3, k4⟩ | ⟨_, _, k1, k2, k5⟩ | ⟨_, _, _, _, _, _, k1, _, _, _⟩
    · cases k1
    · exact .dead k1
    · cases k1
    · cases k1
    · cases k1
    · cases k1; exact .off e sz rows h1 (.inr k2) (k5.trans h3)
    · cases k1
theorem Like.live_back {A B : Blk} {x y : Value} (h : Like A B x y) (hn : A ≠ .none) : B ≠ .none ∧ (B.live → A.live ∧ y = x) := by
  rcases h with h1 | h1 | ⟨T, cs, cs', h1, h2, h3⟩ | ⟨e, sz, rows, rows', h1, h2, h3, h4⟩ | ⟨e, sz, rows, rows', h1, h2, h3, h4⟩ | ⟨sz, rows, h1, h2, h3⟩ | ⟨st, e, sz, cols, rows, rows', h1, ⟨st', h2⟩ | h2, h3, h4⟩ | ⟨e, sz, rows, h1, h2 | h2, h3⟩
  · exact absurd h1 hn
  · subst h1; exact ⟨(by intro h; cases h), fun h => h.elim⟩
  · subst h1; subst h2; exact ⟨(by intro h; cases h), fun _ => ⟨trivial, h3⟩⟩
  · subst h1; subst h2; exact ⟨(by intro h; cases h), fun _ => ⟨trivial, h4⟩⟩
  · subst h1; subst h2; exact ⟨(by intro h; cases h), fun h => h.elim⟩
  · subst h1; subst h2; exact ⟨(by intro h; cases h), fun h => h.elim⟩
  · subst h1; subst h2; exact ⟨(by intro h; cases h), fun _ => ⟨trivial, h4⟩⟩
  · subst h1; subst h2; exact ⟨(by intro h; cases h), fun h => h.elim⟩
  · subst h1; subst h2; exact ⟨(by intro h; cases h), fun _ => ⟨trivial, h3⟩⟩
  · subst h1; subst h2; exact ⟨(by intro h; cases h), fun h => h.elim⟩
theorem Ext.refl (w : World) (Z : Nat → Prop) (L : Nat → Blk) (s : Nat → Value) : Ext w Z L s w Z L s :=
  ⟨fun _ h => h, fun _ _ => rfl, fun _ => Like.refl _ _, fun r sz' rows' h h' => by rw [h'] at h; exact h.elim⟩
theorem Ext.trans {w w' w'' : World} {Z Z' Z'' : Nat → Prop} {L L' L'' : Nat → Blk} {s s' s'' : Nat → Value} (E : Ext w Z L s w' Z' L' s') (G : Ext w' Z' L' s' w'' Z'' L'' s'') : Ext w Z L s w'' Z'' L'' s'' :=
  ⟨fun b h => G.z b (E.z b h), fun b h => (G.w b (E.z b h)).trans (E.w b h), fun r => (E.l r).trans (G.l r), fun r sz' rows' h h' => by
    by_cases hl : (L' r).live
    · exact G.f r _ _ hl h'
    · have hn : L r ≠ .none := fun e => by rw [e] at h; exact h
      rcases (G.l r).z (by intro _ _ _ q; rw [q] at hl; exact absurd trivial hl) with g | g | ⟨_, _, _, g, _, _⟩ | ⟨_, _, _, _, g, _, _, _⟩ | ⟨_, _, _, _, g, _, _, _⟩ | ⟨_, _, g, g2, g3⟩ | ⟨_, _, _, _, _, _, g, _, _, _⟩
      · exact absurd g ((E.l r).live_back hn).1
      · rw [h'] at g; cases g
      · rw [g] at hl; exact absurd trivial hl
      · rw [g] at hl; exact absurd trivial hl
      · rw [g] at hl; exact absurd trivial hl
      · rw [h'] at g2; cases g2
        rw [g3]
        exact (E.f r _ _ h g).mono G.z G.w
      · rw [g] at hl; exact absurd trivial hl⟩
structure KeptF (F : Nat → Prop) (W0 w : World) : Prop where
  os : w.os = W0.os
  tape : w.tape = W0.tape
  output : w.output = W0.output
  size : W0.heap.size ≤ w.heap.size
  block : ∀ b, b < W0.heap.size → ¬ F b → w.heap[b]? = W0.heap[b]?
def BlkR (w : World) (Z : Nat → Prop) (L : Nat → Blk) (s : Nat → Value) : Blk → Value → Prop
  | .none, _ | .dead, _ => True
  | .var T cs, v => ∃ (g : Nat) (vs : List Value), v = .pointer (some ⟨g, 0, none⟩) ∧ w.heap[g]? = some (.cells vs.toArray T (0, 0)) ∧ vs.length = cs.length ∧
      ∀ (i : Nat) x y, cs[i]? = some x → vs[i]? = some y → AVR w Z L s x y ∧ y.oneCell' = true
  | .sl e sz rows, v => 0 < sz ∧ (∀ r ∈ rows, r.length = sz) ∧ ∃ xs, ownsAt w e sz v rows.length xs ∧ ∀ i j d, rowAt rows i j = some d → ∃ u, xs[i * sz + j]? = some u ∧ Rep w Z d u
  | .still sz rows, v => Rep w Z (.l sz rows) v
  | .off e sz rows, v => 0 < sz ∧ (∀ r ∈ rows, r.length = sz) ∧ ∃ xs, ownsAt w e sz v rows.length xs ∧ ∀ i j d, rowAt rows i j = some d → ∃ u, xs[i * sz + j]? = some u ∧ Rep w Z d u
  | .tr st e sz cols rows, v => ∃ xs u, Tree w st.ex e sz cols rows v xs u ∧
      ∀ i j q, st = .hole i j q → (∃ d e' sz' cols', rowAt rows i j = some d ∧ cols[j]? = some (.sl e' sz' cols')) ∧ L q ≠ .none ∧ ((L q).live → u i j = s q)
theorem owns_move {w w' : World} {e : TypeId} {size n : Nat} {v : Value} {xs : List Value} (h : ownsAt w e size v n xs) (hb : ∀ g, vblk v = some g → w'.heap[g]? = w.heap[g]?) : ownsAt w' e size v n xs := by
  refine ⟨h.1, ?_⟩
  rcases h.2 with h2 | ⟨g, o, cap, cur, rfl, h3, h4, r⟩
  · exact .inl h2
  · exact .inr ⟨g, o, cap, cur, rfl, h3, (hb g rfl).trans h4, r⟩
theorem cellOf_same {w w' : World} {v : Value} {m : Nat} (h : ∀ g, vblk v = some g → w'.heap[g]? = w.heap[g]?) : cellOf w' v m = cellOf w v m := by
  unfold cellOf
  split
  · exact World.cell?_of_block (h _ rfl)
  · rfl
theorem own_cell {w : World} {e : TypeId} {sz n : Nat} {v : Value} {xs : List Value} (h : ownsAt w e sz v n xs) {m : Nat} {u : Value} (hu : xs[m]? = some u) : cellOf w v m = some u := by
  rcases h.2 with ⟨q1, q2⟩ | ⟨g, o, cap, cur, q1, _, q3, _, _, _, q7⟩
  · have := h.1
    rw [q2, Nat.zero_mul] at this
    rw [List.eq_nil_of_length_eq_zero this] at hu
    simp at hu
  · subst q1
    rw [← q7, List.getElem?_take] at hu
    split at hu
    · rw [List.getElem?_drop] at hu
      simp only [cellOf, World.cell?, q3]
      rw [← Array.getElem?_toList]
      exact hu
    · cases hu
theorem InF.same {w w' : World} {k : TK} {d : D} {v : Value} {g : Nat} (h : InF w' k d v g) : (∀ g, InF w k d v g → w'.heap[g]? = w.heap[g]?) → InF w k d v g := by
  induction h with
  | here e sz cols d v g h => intro _; exact .here e sz cols d v g h
  | down e sz cols rows v i j d k u g hd hk hu _ ih =>
    intro hs
    have hc : cellOf w v (i * sz + j) = some u := by rw [← hu]; exact (cellOf_same fun g hg => hs g (.here _ _ _ _ _ _ hg)).symm
    exact .down e sz cols rows v i j d k u g hd hk hc (ih fun g hg => hs g (.down e sz cols rows v i j d k u g hd hk hc hg))
theorem InF.move {w w' : World} {k : TK} {d : D} {v : Value} {g : Nat} (h : InF w k d v g) : (∀ g, InF w k d v g → w'.heap[g]? = w.heap[g]?) → InF w' k d v g := by
  induction h with
  | here e sz cols d v g h => intro _; exact .here e sz cols d v g h
  | down e sz cols rows v i j d k u g hd hk hu _ ih =>
    intro hs
    have hc : cellOf w' v (i * sz + j) = some u := by rw [← hu]; exact cellOf_same fun g hg => hs g (.here _ _ _ _ _ _ hg)
    exact .down e sz cols rows v i j d k u g hd hk hc (ih fun g hg => hs g (.down e sz cols rows v i j d k u g hd hk hu hg))
theorem Own.one {w : World} {k : TK} {d : D} {v : Value} (h : Own w k d v) : v.oneCell' = true := by
  cases h with
  | cell _ h => exact h
  | sl _ _ _ _ _ _ _ _ _ _ ho => rcases ho.2 with ⟨q1, _⟩ | ⟨g, o, cap, cur, q1, _⟩ <;> rw [q1] <;> rfl
theorem Own.move {w w' : World} {k : TK} {d : D} {v : Value} (h : Own w k d v) : (∀ g, InF w k d v g → w'.heap[g]? = w.heap[g]?) → Own w' k d v := by
  induction h with
  | cell x h => intro _; exact .cell x h
  | sl e sz cols rows v xs u h0 hc hr ho hu hk h1 h2 ih =>
    intro hs
    have kid : ∀ i j d k, rowAt rows i j = some d → cols[j]? = some k → ∀ g, InF w k d (u i j) g → w'.heap[g]? = w.heap[g]? := fun i j d k hd hk' g hg =>
      hs g (.down e sz cols rows v i j d k _ g hd hk' (own_cell ho (hu i j d hd)) hg)
    refine .sl e sz cols rows v xs u h0 hc hr (owns_move ho fun g hg => hs g (.here _ _ _ _ _ _ hg)) hu (fun i j d k hd hk' => ih i j d k hd hk' (kid i j d k hd hk')) (fun i j d k g hd hk' hg => h1 i j d k g hd hk' (hg.same (kid i j d k hd hk')))
      (fun i j d k i' j' d' k' g a1 a2 a3 a4 a5 a6 => h2 i j d k i' j' d' k' g a1 a2 a3 a4 (a5.same (kid i j d k a1 a2)) (a6.same (kid i' j' d' k' a3 a4)))
theorem InX.same {w w' : World} {ex : Nat → Nat → Bool} {sz : Nat} {cols : List TK} {rows : List (List D)} {v : Value} {g : Nat} (h : InX w' ex sz cols rows v g) (hs : ∀ g, InX w ex sz cols rows v g → w'.heap[g]? = w.heap[g]?) : InX w ex sz cols rows v g := by
  rcases h with h | ⟨i, j, d, k, u, he, hd, hk, hu, hg⟩
  · exact .inl h
  · have hc : cellOf w v (i * sz + j) = some u := by rw [← hu]; exact (cellOf_same fun g hg => hs g (.inl hg)).symm
    exact .inr ⟨i, j, d, k, u, he, hd, hk, hc, hg.same fun g hg => hs g (.inr ⟨i, j, d, k, u, he, hd, hk, hc, hg⟩)⟩
theorem InX.move {w w' : World} {ex : Nat → Nat → Bool} {sz : Nat} {cols : List TK} {rows : List (List D)} {v : Value} {g : Nat} (h : InX w ex sz cols rows v g) (hs : ∀ g, InX w ex sz cols rows v g → w'.heap[g]? = w.heap[g]?) : InX w' ex sz cols rows v g := by
  rcases h with h | ⟨i, j, d, k, u, he, hd, hk, hu, hg⟩
  · exact .inl h
  · exact .inr ⟨i, j, d, k, u, he, hd, hk, by rw [← hu]; exact cellOf_same fun g hg => hs g (.inl hg), hg.move fun g hg => hs g (.inr ⟨i, j, d, k, u, he, hd, hk, hu, hg⟩)⟩
theorem Fp.same {w w' : World} {B : Blk} {v : Value} {g : Nat} (h : Fp w' B v g) (hs : ∀ g, Fp w B v g → w'.heap[g]? = w.heap[g]?) : Fp w B v g := by
  cases B with
  | tr st e sz cols rows => exact InX.same h hs
  | _ => exact h
theorem Fp.move {w w' : World} {B : Blk} {v : Value} {g : Nat} (h : Fp w B v g) (hs : ∀ g, Fp w B v g → w'.heap[g]? = w.heap[g]?) : Fp w' B v g := by
  cases B with
  | tr st e sz cols rows => exact InX.move h hs
  | _ => exact h
theorem Tree.move {w w' : World} {ex : Nat → Nat → Bool} {e : TypeId} {sz : Nat} {cols : List TK} {rows : List (List D)} {v : Value} {xs : List Value} {u : Nat → Nat → Value} (h : Tree w ex e sz cols rows v xs u)
    (hs : ∀ g, InX w ex sz cols rows v g → w'.heap[g]? = w.heap[g]?) : Tree w' ex e sz cols rows v xs u := by
  have kid : ∀ i j d k, ex i j = false → rowAt rows i j = some d → cols[j]? = some k → ∀ g, InF w k d (u i j) g → w'.heap[g]? = w.heap[g]? := fun i j d k he hd hk' g hg =>
    hs g (.inr ⟨i, j, d, k, _, he, hd, hk', own_cell h.ho (h.hu i j d hd), hg⟩)
  exact ⟨h.h0, h.hc, h.hr, owns_move h.ho fun g hg => hs g (.inl hg), h.hu, h.one, fun i j d k he hd hk' => (h.hk i j d k he hd hk').move (kid i j d k he hd hk'),
    fun i j d k g he hd hk' hg => h.h1 i j d k g he hd hk' (hg.same (kid i j d k he hd hk')),
    fun i j d k i' j' d' k' g he he' a1 a2 a3 a4 a5 a6 => h.h2 i j d k i' j' d' k' g he he' a1 a2 a3 a4 (a5.same (kid i j d k he a1 a2)) (a6.same (kid i' j' d' k' he' a3 a4))⟩
theorem BlkR.mono {w w' : World} {Z Z' : Nat → Prop} {L L' : Nat → Blk} {s s' : Nat → Value} {B : Blk} {v : Value} (h : BlkR w Z L s B v) (E : Ext w Z L s w' Z' L' s')
    (hb : B.live → ∀ g, Fp w B v g → w'.heap[g]? = w.heap[g]?) : BlkR w' Z' L' s' B v := by
  cases B with
  | none => trivial
  | dead => trivial
  | var T cs =>
    obtain ⟨g, vs, hv, hg, hl, hc⟩ := h
    exact ⟨g, vs, hv, (hb trivial g (by rw [hv]; rfl)).trans hg, hl, fun i x y h1 h2 => ⟨(hc i x y h1 h2).1.mono E, (hc i x y h1 h2).2⟩⟩
  | sl e sz rows =>
    obtain ⟨h1, h2, xs, h3, h4⟩ := h
    refine ⟨h1, h2, xs, owns_move h3 (hb trivial), fun i j d hd => ?_⟩
    obtain ⟨u, hu, hr⟩ := h4 i j d hd
    exact ⟨u, hu, hr.mono E.z E.w⟩
  | still sz rows => exact Rep.mono h E.z E.w
  | off e sz rows =>
    obtain ⟨h1, h2, xs, h3, h4⟩ := h
    refine ⟨h1, h2, xs, owns_move h3 (hb trivial), fun i j d hd => ?_⟩
    obtain ⟨u, hu, hr⟩ := h4 i j d hd
    exact ⟨u, hu, hr.mono E.z E.w⟩
  | tr st e sz cols rows =>
    obtain ⟨xs, u, h1, h2⟩ := h
    refine ⟨xs, u, h1.move (hb trivial), fun i j q hq => ?_⟩
    obtain ⟨a1, a2, a3⟩ := h2 i j q hq
    obtain ⟨b1, b2⟩ := (E.l q).live_back a2
    exact ⟨a1, b1, fun hl => (a3 (b2 hl).1).trans (b2 hl).2.symm⟩
structure Ent where
  w : World
  z : Nat → Prop
structure HR (F : Nat → Prop) (W0 : Ent) (w : World) (L : Nat → Blk) (s : Nat → Value) (Z : Nat → Prop) : Prop where
  blk : ∀ r, BlkR w Z L s (L r) (s r)
  sepF : ∀ r r' g, (L r).live → (L r').live → Fp w (L r) (s r) g → Fp w (L r') (s r') g → r = r'
  nzF : ∀ r g, (L r).live → Fp w (L r) (s r) g → ¬ Z g
  mineF : ∀ r g, (L r).live → Fp w (L r) (s r) g → (F g ∨ W0.w.heap.size ≤ g) ∧ g < w.heap.size
  zin : ∀ b, Z b → b < w.heap.size
  kept : KeptF F W0.w w
  zsrc : ∀ b, Z b → W0.z b ∨ F b ∨ W0.w.heap.size ≤ b
  zhas : ∀ b, W0.z b → Z b
section
variable {F : Nat → Prop} {W0 : Ent} {w : World} {L : Nat → Blk} {s : Nat → Value} {Z : Nat → Prop}
theorem HR.nz (h : HR F W0 w L s Z) (r g : Nat) (a : (L r).live) (c : vblk (s r) = some g) : ¬ Z g := h.nzF r g a (.root c)
theorem HR.mine (h : HR F W0 w L s Z) (r g : Nat) (a : (L r).live) (c : vblk (s r) = some g) : (F g ∨ W0.w.heap.size ≤ g) ∧ g < w.heap.size := h.mineF r g a (.root c)
end
theorem HR.ofT {F : Nat → Prop} {W0 : Ent} {w w' : World} {L : Nat → Blk} {s : Nat → Value} {Z Z' : Nat → Prop} (h : HR F W0 w L s Z) (r : Nat) (B : Blk) (v : Value)
    (E : Ext w Z L s w' Z' (up L r B) (up s r v)) (ho : w'.os = w.os) (ht : w'.tape = w.tape) (hp : w'.output = w.output) (hsz : w.heap.size ≤ w'.heap.size)
    (hfr : ∀ b, b < w.heap.size → (∀ g, (L r).live → Fp w (L r) (s r) g → b ≠ g) → w'.heap[b]? = w.heap[b]?)
    (hB : BlkR w' Z' (up L r B) (up s r v) B v)
    (hv : B.live → ∀ g, Fp w' B v g → (w.heap.size ≤ g ∧ g < w'.heap.size) ∨ ((L r).live ∧ Fp w (L r) (s r) g))
    (hZ : ∀ b, Z' b → Z b ∨ (w.heap.size ≤ b ∧ b < w'.heap.size ∧ (B.live → ¬ Fp w' B v b)) ∨ (¬ B.live ∧ (L r).live ∧ Fp w (L r) (s r) b)) :
    HR F W0 w' (up L r B) (up s r v) Z' := by
  have hfr' : ∀ k, k ≠ r → (L k).live → ∀ g, Fp w (L k) (s k) g → w'.heap[g]? = w.heap[g]? := fun k hk hl g hg =>
    hfr g (h.mineF k g hl hg).2 fun g' hl' hg' e => hk (h.sepF k r g hl hl' hg (by rw [e]; exact hg'))
  refine ⟨fun k => ?_, fun k k' g hk hk' hg hg' => ?_, fun k g hk hg hz => ?_, fun k g hk hg => ?_, fun b hb => ?_, ?_, fun b hb => ?_, fun b hb => E.z b (h.zhas b hb)⟩
  · by_cases e : k = r
    · subst e; rw [up_same, up_same]; exact hB
    · rw [up_ne _ _ e, up_ne _ _ e]
      exact (h.blk k).mono E (hfr' k e)
  · by_cases e : k = r <;> by_cases e' : k' = r
    · rw [e, e']
    · subst e
      rw [up_same] at hk
      rw [up_same, up_same] at hg
      rw [up_ne _ _ e'] at hk'
      rw [up_ne _ _ e', up_ne _ _ e'] at hg'
      have hg2 := hg'.same (hfr' k' e' hk')
      rcases hv hk g hg with ⟨h1, _⟩ | ⟨h1, h2⟩
      · have := (h.mineF k' g hk' hg2).2; omega
      · exact h.sepF _ _ g h1 hk' h2 hg2
    · subst e'
      rw [up_same] at hk'
      rw [up_same, up_same] at hg'
      rw [up_ne _ _ e] at hk
      rw [up_ne _ _ e, up_ne _ _ e] at hg
      have hg2 := hg.same (hfr' k e hk)
      rcases hv hk' g hg' with ⟨h1, _⟩ | ⟨h1, h2⟩
      · have := (h.mineF k g hk hg2).2; omega
      · exact h.sepF _ _ g hk h1 hg2 h2
    · rw [up_ne _ _ e] at hk
      rw [up_ne _ _ e, up_ne _ _ e] at hg
      rw [up_ne _ _ e'] at hk'
      rw [up_ne _ _ e', up_ne _ _ e'] at hg'
      exact h.sepF _ _ g hk hk' (hg.same (hfr' k e hk)) (hg'.same (hfr' k' e' hk'))
  · by_cases e : k = r
    · subst e
      rw [up_same] at hk
      rw [up_same, up_same] at hg
      rcases hZ g hz with h1 | ⟨_, _, h1⟩ | ⟨h1, _, _⟩
      · rcases hv hk g hg with ⟨h2, _⟩ | ⟨h2, h3⟩
        · have := h.zin g h1; omega
        · exact h.nzF _ g h2 h3 h1
      · exact h1 hk hg
      · exact h1 hk
    · rw [up_ne _ _ e] at hk
      rw [up_ne _ _ e, up_ne _ _ e] at hg
      have hg2 := hg.same (hfr' k e hk)
      rcases hZ g hz with h1 | ⟨h1, _, _⟩ | ⟨_, h1, h2⟩
      · exact h.nzF _ g hk hg2 h1
      · have := (h.mineF k g hk hg2).2; omega
      · exact e (h.sepF _ _ g hk h1 hg2 h2)
  · by_cases e : k = r
    · subst e
      rw [up_same] at hk
      rw [up_same, up_same] at hg
      rcases hv hk g hg with ⟨h1, h2⟩ | ⟨h1, h2⟩
      · exact ⟨.inr (Nat.le_trans h.kept.size h1), h2⟩
      · have := h.mineF _ g h1 h2
        exact ⟨this.1, Nat.lt_of_lt_of_le this.2 hsz⟩
    · rw [up_ne _ _ e] at hk
      rw [up_ne _ _ e, up_ne _ _ e] at hg
      have := h.mineF k g hk (hg.same (hfr' k e hk))
      exact ⟨this.1, Nat.lt_of_lt_of_le this.2 hsz⟩
  · rcases hZ b hb with h1 | ⟨_, h1, _⟩ | ⟨_, h1, h2⟩
    · have := h.zin b h1; omega
    · exact h1
    · have := (h.mineF r b h1 h2).2; omega
  · refine ⟨ho.trans h.kept.os, ht.trans h.kept.tape, hp.trans h.kept.output, Nat.le_trans h.kept.size hsz, fun b hb hF => ?_⟩
    have := h.kept.size
    refine (hfr b (by omega) fun g hl hg e => ?_).trans (h.kept.block b hb hF)
    subst e
    rcases (h.mineF r b hl hg).1 with h1 | h1
    · exact hF h1
    · omega
  · rcases hZ b hb with h1 | ⟨h1, _, _⟩ | ⟨_, h1, h2⟩
    · exact h.zsrc b h1
    · exact .inr (.inr (Nat.le_trans h.kept.size h1))
    · exact .inr (h.mineF r b h1 h2).1
theorem HR.of {F : Nat → Prop} {W0 : Ent} {w w' : World} {L : Nat → Blk} {s : Nat → Value} {Z Z' : Nat → Prop} (h : HR F W0 w L s Z) (r : Nat) (B : Blk) (v : Value)
    (E : Ext w Z L s w' Z' (up L r B) (up s r v)) (ho : w'.os = w.os) (ht : w'.tape = w.tape) (hp : w'.output = w.output) (hsz : w.heap.size ≤ w'.heap.size)
    (hfr : ∀ b, b < w.heap.size → (∀ g, (L r).live → vblk (s r) = some g → b ≠ g) → w'.heap[b]? = w.heap[b]?)
    (hB : BlkR w' Z' (up L r B) (up s r v) B v)
    (hv : B.live → ∀ g, vblk v = some g → (w.heap.size ≤ g ∧ g < w'.heap.size) ∨ ((L r).live ∧ vblk (s r) = some g))
    (hZ : ∀ b, Z' b → Z b ∨ (w.heap.size ≤ b ∧ b < w'.heap.size ∧ (B.live → vblk v ≠ some b)) ∨ (¬ B.live ∧ (L r).live ∧ vblk (s r) = some b)) (hpl : B.plain := by trivial) :
    HR F W0 w' (up L r B) (up s r v) Z' :=
  h.ofT r B v E ho ht hp hsz (fun b hb hne => hfr b hb fun g hl hg => hne g hl (.root hg)) hB (fun hl g hg => (hv hl g (hg.of_plain hpl)).imp id fun k => ⟨k.1, .root k.2⟩)
    (fun b hb => (hZ b hb).imp id fun k => k.imp (fun k => ⟨k.1, k.2.1, fun hl hg => k.2.2 hl (hg.of_plain hpl)⟩) fun k => ⟨k.1, k.2.1, .root k.2.2⟩)
theorem HR.draws {F : Nat → Prop} {W0 : Ent} {w w' : World} {L : Nat → Blk} {s : Nat → Value} {Z : Nat → Prop} (h : HR F W0 w L s Z) (ho : w'.os = w.os) (ht : w'.tape = w.tape) (hp : w'.output = w.output) (hh : w'.heap = w.heap) :
    HR F W0 w' L s Z ∧ Ext w Z L s w' Z L s := by
  have E : Ext w Z L s w' Z L s := ⟨fun _ h => h, fun _ _ => by rw [hh], fun _ => Like.refl _ _, fun r sz' rows' h h' => by rw [h'] at h; exact h.elim⟩
  have sm : ∀ {B : Blk} {v : Value} {g : Nat}, Fp w' B v g → Fp w B v g := fun k => k.same fun _ _ => by rw [hh]
  refine ⟨⟨fun r => (h.blk r).mono E fun _ _ _ => by rw [hh], fun r r' g a b c d => h.sepF r r' g a b (sm c) (sm d), fun r g a b => h.nzF r g a (sm b), fun r g h1 h2 => by rw [hh]; exact h.mineF r g h1 (sm h2), fun b hb => by rw [hh]; exact h.zin b hb, ?_, h.zsrc, h.zhas⟩, E⟩
  exact ⟨ho.trans h.kept.os, ht.trans h.kept.tape, hp.trans h.kept.output, by rw [hh]; exact h.kept.size, fun b h1 h2 => by rw [hh]; exact h.kept.block b h1 h2⟩
theorem HR.move {F : Nat → Prop} {W0 : Ent} {w : World} {L : Nat → Blk} {s : Nat → Value} {Z : Nat → Prop} (h : HR F W0 w L s Z) {r q : Nat} (hq : L q = .none) (hr : L r ≠ .none) :
    HR F W0 w (up (up L r .dead) q (L r)) (up s q (s r)) Z ∧ Ext w Z L s w Z (up (up L r .dead) q (L r)) (up s q (s r)) := by
  have hne : r ≠ q := fun e => hr (e ▸ hq)
  have E : Ext w Z L s w Z (up (up L r .dead) q (L r)) (up s q (s r)) := by
    refine ⟨fun _ h => h, fun _ _ => rfl, fun k => ?_, fun k sz' rows' h1 h2 => ?_⟩
    · by_cases e : k = q
      · subst e; exact .fresh hq
      · rw [up_ne _ _ e, up_ne _ _ e]
        by_cases e' : k = r
        · subst e'; exact .dead (up_same _ _ _)
        · rw [up_ne _ _ e']; exact Like.refl _ _
    · by_cases e' : k = q
      · subst e'; rw [hq] at h1; exact h1.elim
      · rw [up_ne _ _ e'] at h2
        by_cases e'' : k = r
        · subst e''; rw [up_same] at h2; cases h2
        · rw [up_ne _ _ e''] at h2; rw [h2] at h1; exact h1.elim
  have look : ∀ k, (up (up L r .dead) q (L r) k).live → (k = q ∧ (L r).live ∧ up s q (s r) k = s r) ∨ (k ≠ q ∧ k ≠ r ∧ (L k).live ∧ up s q (s r) k = s k) := fun k hk => by
    by_cases e : k = q
    · subst e; rw [up_same] at hk; exact .inl ⟨rfl, hk, up_same _ _ _⟩
    · rw [up_ne _ _ e] at hk
      by_cases e' : k = r
      · subst e'; rw [up_same] at hk; exact hk.elim
      · rw [up_ne _ _ e'] at hk; exact .inr ⟨e, e', hk, up_ne _ _ e⟩
  have look2 : ∀ k, (up (up L r .dead) q (L r) k).live → ∃ k0, (k = q ∧ k0 = r ∨ k ≠ q ∧ k0 = k ∧ k ≠ r) ∧ (L k0).live ∧ up (up L r .dead) q (L r) k = L k0 ∧ up s q (s r) k = s k0 := fun k hk => by
    rcases look k hk with ⟨e1, l1, s1⟩ | ⟨e1, n1, l1, s1⟩
    · exact ⟨r, .inl ⟨e1, rfl⟩, l1, by rw [e1, up_same], s1⟩
    · exact ⟨k, .inr ⟨e1, rfl, n1⟩, l1, by rw [up_ne _ _ e1, up_ne _ _ n1], s1⟩
  refine ⟨⟨fun k => ?_, fun k k' g hk hk' hg hg' => ?_, fun k g hk hg => ?_, fun k g hk hg => ?_, h.zin, h.kept, h.zsrc, h.zhas⟩, E⟩
  · by_cases e : k = q
    · subst e; rw [up_same, up_same]; exact (h.blk r).mono E fun _ _ _ => rfl
    · rw [up_ne _ _ e, up_ne _ _ e]
      by_cases e' : k = r
      · subst e'; rw [up_same]; trivial
      · rw [up_ne _ _ e']; exact (h.blk k).mono E fun _ _ _ => rfl
  · obtain ⟨k0, c, l1, e1, s1⟩ := look2 k hk
    obtain ⟨k1, c', l2, e2, s2⟩ := look2 k' hk'
    rw [e1, s1] at hg
    rw [e2, s2] at hg'
    have := h.sepF k0 k1 g l1 l2 hg hg'
    omega
  · obtain ⟨k0, c, l1, e1, s1⟩ := look2 k hk
    rw [e1, s1] at hg
    exact h.nzF _ g l1 hg
  · obtain ⟨k0, c, l1, e1, s1⟩ := look2 k hk
    rw [e1, s1] at hg
    exact h.mineF _ g l1 hg
end Go.Proofs.Ytkfjaeoehhakpaa
namespace Go.Proofs.Ytkfjaeoehhakpaa
open Go.RowKit
theorem Ext.of1 {w w' : World} {Z Z' : Nat → Prop} {L : Nat → Blk} {s : Nat → Value} {r : Nat} {B : Blk} {v : Value} (hz : ∀ b, Z b → Z' b) (hw : ∀ b, Z b → w'.heap[b]? = w.heap[b]?) (hl : Like (L r) B (s r) v)
    (hf : ∀ sz' rows', (L r).live → B = .still sz' rows' → Rep w' Z' (.l sz' rows') v) : Ext w Z L s w' Z' (up L r B) (up s r v) := by
  refine ⟨hz, hw, fun k => ?_, fun k sz' rows' h h' => ?_⟩
  · by_cases e : k = r
    · subst e; rw [up_same, up_same]; exact hl
    · rw [up_ne _ _ e, up_ne _ _ e]; exact Like.refl _ _
  · by_cases e' : k = r
    · subst e'; rw [up_same] at h' ⊢; exact hf sz' rows' h h'
    · rw [up_ne _ _ e'] at h'; rw [h'] at h; exact h.elim
section
variable {F : Nat → Prop} {W0 : Ent} {w : World} {L : Nat → Blk} {s : Nat → Value} {Z : Nat → Prop}
theorem HR.still_of_alloc (h : HR F W0 w L s Z) (o : Obj) : ∀ b, Z b → (w.alloc o).heap[b]? = w.heap[b]? := fun b hb => Below.heap_alloc w o b (h.zin b hb)
theorem HR.newVar (h : HR F W0 w L s Z) {r : Nat} (hr : L r = .none) (T : TypeId) (cs : List AV) (vs : List Value) (hl : vs.length = cs.length)
    (hc : ∀ (i : Nat) x y, cs[i]? = some x → vs[i]? = some y → AVR w Z L s x y ∧ y.oneCell' = true) :
    HR F W0 (w.alloc (.cells vs.toArray T)) (up L r (.var T cs)) (up s r (.pointer (some ⟨w.heap.size, 0, none⟩))) Z ∧
    Ext w Z L s (w.alloc (.cells vs.toArray T)) Z (up L r (.var T cs)) (up s r (.pointer (some ⟨w.heap.size, 0, none⟩))) ∧
    AVR (w.alloc (.cells vs.toArray T)) Z (up L r (.var T cs)) (up s r (.pointer (some ⟨w.heap.size, 0, none⟩))) (.ptr r 0) (.pointer (some ⟨w.heap.size, 0, none⟩)) := by
  have E : Ext w Z L s (w.alloc (.cells vs.toArray T)) Z (up L r (.var T cs)) (up s r (.pointer (some ⟨w.heap.size, 0, none⟩))) :=
    Ext.of1 (fun _ h => h) (h.still_of_alloc _) (.fresh hr) (fun sz' rows' h1 => by rw [hr] at h1; exact h1.elim)
  refine ⟨h.of r _ _ E rfl rfl rfl (by simp) (fun b hb _ => Below.heap_alloc w _ b hb) ?_ (fun _ g hg => .inl ?_) (fun b hb => .inl hb), E, ?_⟩
  · exact ⟨w.heap.size, vs, rfl, heap_alloc_new w _, hl, fun i x y h1 h2 => ⟨(hc i x y h1 h2).1.mono E, (hc i x y h1 h2).2⟩⟩
  · simp [vblk] at hg; simp; omega
  · exact .ptr r 0 _ T cs (up_same _ _ _) _ (up_same _ _ _) rfl
def RowsR (w : World) (Z : Nat → Prop) (sz : Nat) (rows : List (List D)) (xs : List Value) : Prop :=
  (∀ r ∈ rows, r.length = sz) ∧ xs.length = rows.length * sz ∧ ∀ i j d, rowAt rows i j = some d → ∃ u, xs[i * sz + j]? = some u ∧ Rep w Z d u
theorem RowsR.mono {w w' : World} {Z Z' : Nat → Prop} {sz : Nat} {rows : List (List D)} {xs : List Value} (h : RowsR w Z sz rows xs) (hz : ∀ b, Z b → Z' b) (hw : ∀ b, Z b → w'.heap[b]? = w.heap[b]?) : RowsR w' Z' sz rows xs :=
  ⟨h.1, h.2.1, fun i j d hd => by obtain ⟨u, hu, hr⟩ := h.2.2 i j d hd; exact ⟨u, hu, hr.mono hz hw⟩⟩
theorem BlkR.rows {e : TypeId} {sz : Nat} {rows : List (List D)} {v : Value} (h : BlkR w Z L s (.sl e sz rows) v) : 0 < sz ∧ ∃ xs, ownsAt w e sz v rows.length xs ∧ RowsR w Z sz rows xs := by
  obtain ⟨h1, h2, xs, h3, h4⟩ := h
  exact ⟨h1, xs, h3, h2, h3.1, h4⟩
theorem BlkR.offRows {e : TypeId} {sz : Nat} {rows : List (List D)} {v : Value} (h : BlkR w Z L s (.off e sz rows) v) : 0 < sz ∧ ∃ xs, ownsAt w e sz v rows.length xs ∧ RowsR w Z sz rows xs := by
  obtain ⟨h1, h2, xs, h3, h4⟩ := h
  exact ⟨h1, xs, h3, h2, h3.1, h4⟩
theorem BlkR.of_rows {e : TypeId} {sz : Nat} {rows : List (List D)} {v : Value} {xs : List Value} (h1 : 0 < sz) (h2 : ownsAt w e sz v rows.length xs) (h3 : RowsR w Z sz rows xs) : BlkR w Z L s (.sl e sz rows) v :=
  ⟨h1, h3.1, xs, h2, h3.2.2⟩
theorem BlkR.of_off {e : TypeId} {sz : Nat} {rows : List (List D)} {v : Value} {xs : List Value} (h1 : 0 < sz) (h2 : ownsAt w e sz v rows.length xs) (h3 : RowsR w Z sz rows xs) : BlkR w Z L s (.off e sz rows) v :=
  ⟨h1, h3.1, xs, h2, h3.2.2⟩
theorem owns_shape {e : TypeId} {sz n : Nat} {v : Value} {xs : List Value} (h : ownsAt w e sz v n xs) : ∃ A c, v = .slice A n c := by
  rcases h.2 with ⟨rfl, rfl⟩ | ⟨g, o, cap, cur, rfl, _⟩
  · exact ⟨_, _, rfl⟩
  · exact ⟨_, _, rfl⟩
theorem HR.slice (h : HR F W0 w L s Z) {w' : World} {r : Nat} (e : TypeId) (sz : Nat) (rows : List (List D)) (v : Value) (xs : List Value) (hsz : 0 < sz) (hlike : Like (L r) (.sl e sz rows) (s r) v)
    (hown : ownsAt w' e sz v rows.length xs) (hrows : RowsR w Z sz rows xs) {row : Option Nat} (hg : w.grownBy w' row) (hrow : ∀ k, row = some k → (L r).live ∧ vblk (s r) = some k)
    (hblk : ∀ g, vblk v = some g → (w.heap.size ≤ g ∧ g < w'.heap.size) ∨ ((L r).live ∧ vblk (s r) = some g)) (hnz : ∀ b, Z b → w'.heap[b]? = w.heap[b]?) :
    HR F W0 w' (up L r (.sl e sz rows)) (up s r v) Z ∧ Ext w Z L s w' Z (up L r (.sl e sz rows)) (up s r v) ∧ AVR w' Z (up L r (.sl e sz rows)) (up s r v) (.own r) v := by
  have E : Ext w Z L s w' Z (up L r (.sl e sz rows)) (up s r v) :=
    Ext.of1 (fun _ h => h) hnz hlike (fun _ _ _ h2 => by cases h2)
  obtain ⟨A, c, hA⟩ := owns_shape hown
  refine ⟨h.of r _ _ E hg.os hg.tape hg.output hg.size (fun b hb hne => hg.block b hb fun e => hne b (hrow b e.symm).1 (hrow b e.symm).2 rfl) (BlkR.of_rows hsz hown (hrows.mono (fun _ h => h) hnz)) (fun _ g hg' => hblk g hg') (fun b hb => .inl hb), E, ?_⟩
  · exact .own r v e sz rows (up_same _ _ _) (by rw [up_same]) ⟨A, c, by rw [up_same]; exact hA⟩
end
end Go.Proofs.Ytkfjaeoehhakpaa
namespace Go.Proofs.Ytkfjaeoehhakpaa
open Go.RowKit
def inf (P : Program) (t : TypeId) : Option (Option Value × Nat × Nat) := (P.info? t).map fun i => (i.zero, i.size, i.bytes)
def szOf (P : Program) (t : TypeId) : Nat := match inf P t with | some (_, n, _) => n | none => 0
def isSt (P : Program) (t : TypeId) : Bool := match P.underlying t with | some (.struct _) => true | _ => false
def isRow' : TypeDesc → Bool
  | .struct _ | .array _ _ => true
  | _ => false
def isCell (P : Program) (t : TypeId) : Bool := match P.underlying t with | some d => !isRow' d | none => false
inductive CK where
  | int (k : IntKind)
  | bool
  | str
  | sl (sz : Nat)
  | other
def D.toI : D → Int | .v (.int _ n) => n | _ => 0
def D.toB : D → Bool | .v (.bool b) => b | _ => false
def D.toS : D → ByteArray | .v (.string s) => s | _ => .empty
def D.toL : D → List (List D) | .l _ rows => rows | _ => []
def CK.av : CK → D → AV
  | .int k, d => .v (.int k d.toI)
  | .bool, d => .v (.bool d.toB)
  | .str, d => .v (.string d.toS)
  | .sl sz, d => .l sz d.toL
  | .other, _ => .v undef
def CK.ok : CK → D → Prop
  | .int k, d => d = .v (.int k d.toI)
  | .bool, d => d = .v (.bool d.toB)
  | .str, d => d = .v (.string d.toS)
  | .sl sz, d => d = .l sz d.toL
  | .other, _ => False
def views : List CK → List D → List AV
  | [], _ => []
  | k :: ks, ds => k.av (ds.headD (.v undef)) :: views ks ds.tail
def viewsOk : List CK → List D → Prop
  | [], _ => True
  | k :: ks, ds => ds ≠ [] ∧ k.ok (ds.headD (.v undef)) ∧ viewsOk ks ds.tail
def cks (P : Program) : Nat → TypeId → List CK
  | 0, _ => []
  | n + 1, t => match P.underlying t with
    | some (.int k) => [.int k]
    | some .bool => [.bool]
    | some .string => [.str]
    | some (.slice e) => [.sl (szOf P e)]
    | some (.struct fs) => fs.toList.flatMap fun f => cks P n f.type
    | _ => [.other]
def ckOf (P : Program) (t : TypeId) : List CK := cks P 8 t
def colsOf (P : Program) : Nat → TypeId → List TK
  | 0, _ => []
  | n + 1, t => match P.underlying t with
    | some (.slice e) => [.sl e (szOf P e) (colsOf P n e)]
    | some (.struct fs) => fs.toList.flatMap fun f => colsOf P n f.type
    | _ => [.cell]
structure Out where
  c : Prop
  dst : AV
  ups : List (Nat × Blk)
def ups (L : Nat → Blk) : List (Nat × Blk) → Nat → Blk
  | [] => L
  | p :: l => ups (up L p.1 p.2) l
def AV.cells : AV → List AV
  | .agg cs => cs
  | x => [x]
def AV.one : AV → Bool
  | .v x => x.oneCell'
  | .agg _ | .tup _ | .any => false
  | _ => true
def putAt {α : Type} (cs : List α) (off : Nat) (xs : List α) : List α := cs.take off ++ xs ++ cs.drop (off + xs.length)
def nilV : Value → Bool
  | .slice none 0 0 => true
  | _ => false
theorem nilV_eq {x : Value} (h : nilV x = true) : x = .slice none 0 0 := by
  unfold nilV at h
  split at h
  · rfl
  · cases h
def lenV : Value → Option Nat
  | .slice _ n _ => some n
  | _ => none
def dk (L : Nat → Blk) : CK → AV → Option D
  | .sl sz, .v x => if nilV x = true then some (.l sz []) else none
  | _, .v x => some (.v x)
  | _, .l sz rows => some (.l sz rows)
  | _, .own r => match L r with | .still sz rows => some (.l sz rows) | _ => none
  | _, .sub r lo hi => match L r with | .still sz rows => some (.l sz ((rows.take hi).drop lo)) | _ => none
  | _, _ => none
def dks (L : Nat → Blk) : List CK → List AV → Option (List D)
  | [], [] => some []
  | k :: ks, x :: xs => match dk L k x, dks L ks xs with | some d, some ds => some (d :: ds) | _, _ => none
  | _, _ => none
def slB : Blk → Option (Nat × List (List D))
  | .sl _ sz rows => some (sz, rows)
  | .tr .whole _ sz _ rows => some (sz, rows)
  | .off _ sz rows => some (sz, rows)
  | _ => none
def frz (L : Nat → Blk) : List AV → List (Nat × Blk)
  | [] => []
  | .own r :: xs => match slB (L r) with | some (sz, rows) => (r, .still sz rows) :: frz L xs | none => frz L xs
  | .sub r _ _ :: xs => match slB (L r) with | some (sz, rows) => (r, .still sz rows) :: frz L xs | none => frz L xs
  | _ :: xs => frz L xs
def rowLoad (P : Program) (T : TypeId) (cells : List D) : Option Out :=
  if isSt P T then (if (ckOf P T).length = szOf P T then some ⟨viewsOk (ckOf P T) cells, .agg (views (ckOf P T) cells), []⟩ else none)
  else if isCell P T then match ckOf P T with
    | [k] => some ⟨viewsOk [k] cells, k.av (cells.headD (.v undef)), []⟩
    | _ => none
  else none
def oLoad (P : Program) (L : Nat → Blk) (T : TypeId) : AV → Option Out
  | .ptr r off => match L r with
    | .var _ cs => if isSt P T then (if off + szOf P T ≤ cs.length then some ⟨True, .agg ((cs.drop off).take (szOf P T)), []⟩ else none)
      else if isCell P T then (match cs[off]? with | some x => some ⟨True, x, []⟩ | none => none) else none
    | _ => none
  | .rptr cells => rowLoad P T cells
  | .eptr r i j => match L r with
    | .sl _ _ rows => match rowLoad P T ((rows.getD i []).drop j) with
      | some o => some ⟨i < rows.length ∧ o.c, o.dst, []⟩
      | none => none
    | .off _ _ rows => match rowLoad P T ((rows.getD i []).drop j) with
      | some o => some ⟨i < rows.length ∧ o.c, o.dst, []⟩
      | none => none
    | _ => none
  | _ => none
def oStore (P : Program) (L : Nat → Blk) (T : TypeId) (x : AV) : AV → Option Out
  | .ptr r off => match L r with
    | .var T' cs => if x.cells.length = szOf P T ∧ off + x.cells.length ≤ cs.length ∧ x.cells.all AV.one = true then some ⟨True, .v undef, [(r, .var T' (putAt cs off x.cells))]⟩ else none
    | _ => none
  | .eptr r i j => match ups L (frz L x.cells) r with
    | .sl e sz rows => match dks (ups L (frz L x.cells)) (ckOf P T) x.cells with
      | some ds => if ds.length = szOf P T ∧ j + ds.length ≤ sz ∧ x.cells.all AV.one = true then some ⟨i < rows.length, .v undef, frz L x.cells ++ [(r, .sl e sz (rows.set i (putAt (rows.getD i []) j ds)))]⟩ else none
      | none => none
    | _ => none
  | _ => none
def oIndexAddr (P : Program) (L : Nat → Blk) (T : TypeId) (x i : AV) : Option Out :=
  match P.underlying T, i with
  | some (.slice e), .v (.int _ n) => match x with
    | .l sz rows => if szOf P e = sz ∧ 0 < sz then some ⟨0 ≤ n ∧ n < (rows.length : Int), .rptr (rows.getD n.toNat []), []⟩ else none
    | .own r => match L r with
      | .sl _ sz rows => if szOf P e = sz ∧ 0 < sz then some ⟨0 ≤ n ∧ n < (rows.length : Int), .eptr r n.toNat 0, []⟩ else none
      | .still sz rows => if szOf P e = sz ∧ 0 < sz then some ⟨0 ≤ n ∧ n < (rows.length : Int), .rptr (rows.getD n.toNat []), []⟩ else none
      | .tr _ _ sz _ rows => if szOf P e = sz ∧ 0 < sz then some ⟨0 ≤ n ∧ n < (rows.length : Int), .eptr r n.toNat 0, []⟩ else none
      | .off _ sz rows => if szOf P e = sz ∧ 0 < sz then some ⟨0 ≤ n ∧ n < (rows.length : Int), .eptr r n.toNat 0, []⟩ else none
      | _ => none
    | .sub r lo hi => match L r with
      | .sl _ sz _ => if szOf P e = sz ∧ 0 < sz then some ⟨0 ≤ n ∧ n < ((hi - lo : Nat) : Int), .eptr r (lo + n.toNat) 0, []⟩ else none
      | .still sz rows => if szOf P e = sz ∧ 0 < sz then some ⟨0 ≤ n ∧ n < ((hi - lo : Nat) : Int), .rptr (rows.getD (lo + n.toNat) []), []⟩ else none
      | .tr _ _ sz _ _ => if szOf P e = sz ∧ 0 < sz then some ⟨0 ≤ n ∧ n < ((hi - lo : Nat) : Int), .eptr r (lo + n.toNat) 0, []⟩ else none
      | _ => none
    | _ => none
  | _, _ => none
def fieldOf (P : Program) (T : TypeId) (f : Nat) : Option (Nat × TypeId) :=
  match P.underlying T with
  | some (.struct fs) => match fs[f]? with | some x => some (x.offset, x.type) | none => none
  | _ => none
def oFieldAddr (P : Program) (L : Nat → Blk) (T : TypeId) (x : AV) (f : Nat) : Option Out :=
  match fieldOf P T f with
  | some (o, t) => if szOf P t = 0 then none else match x with
    | .ptr r off => match L r with | .var .. => some ⟨True, .ptr r (off + o), []⟩ | _ => none
    | .eptr r i j => match L r with | .sl .. => some ⟨True, .eptr r i (j + o), []⟩ | .tr .. => some ⟨True, .eptr r i (j + o), []⟩ | _ => none
    | .rptr cells => some ⟨True, .rptr (cells.drop o), []⟩
    | _ => none
  | none => none
def oField (P : Program) (T : TypeId) (x : AV) (f : Nat) : Option Out :=
  match fieldOf P T f, x with
  | some (o, t), .agg cs => if isSt P t then (if o + szOf P t ≤ cs.length then some ⟨True, .agg ((cs.drop o).take (szOf P t)), []⟩ else none)
      else if isCell P t then (match cs[o]? with | some y => some ⟨True, y, []⟩ | none => none) else none
  | _, _ => none
def oExtract (x : AV) (i : Nat) : Option Out :=
  match x with
  | .tup cs => match cs[i]? with | some y => some ⟨True, y, []⟩ | none => none
  | _ => none
def loOf : Option AV → Option (Prop × Nat)
  | none => some (True, 0)
  | some (.v (.int _ n)) => some (0 ≤ n, n.toNat)
  | _ => none
def hiOf (len : Nat) : Option AV → Option (Prop × Nat)
  | none => some (True, len)
  | some (.v (.int _ n)) => some (0 ≤ n ∧ n.toNat ≤ len, n.toNat)
  | _ => none
def oSlice (P : Program) (L : Nat → Blk) (T : TypeId) (x : AV) (lo hi : Option AV) : Option Out :=
  match P.underlying T with
  | some (.slice e) => match x with
    | .l sz rows => if szOf P e = sz ∧ 0 < sz then match loOf lo, hiOf rows.length hi with
      | some (c1, a), some (c2, b) => some ⟨c1 ∧ c2 ∧ a ≤ b, .l sz ((rows.take b).drop a), []⟩
      | _, _ => none else none
    | .own r => match L r with
      | .sl _ sz rows => if szOf P e = sz ∧ 0 < sz then match loOf lo, hiOf rows.length hi with
        | some (c1, a), some (c2, b) => some ⟨c1 ∧ c2 ∧ a ≤ b, .sub r a b, []⟩
        | _, _ => none else none
      | .still sz rows => if szOf P e = sz ∧ 0 < sz then match loOf lo, hiOf rows.length hi with
        | some (c1, a), some (c2, b) => some ⟨c1 ∧ c2 ∧ a ≤ b, .l sz ((rows.take b).drop a), []⟩
        | _, _ => none else none
      | .tr _ _ sz _ rows => if szOf P e = sz ∧ 0 < sz then match loOf lo, hiOf rows.length hi with
        | some (c1, a), some (c2, b) => some ⟨c1 ∧ c2 ∧ a ≤ b, .sub r a b, []⟩
        | _, _ => none else none
      | _ => none
    | _ => none
  | _ => none
def lenOf (L : Nat → Blk) : AV → Option Nat
  | .l _ rows => some rows.length
  | .own r => match L r with | .sl _ _ rows | .still _ rows => some rows.length | .tr _ _ _ _ rows => some rows.length | .off _ _ rows => some rows.length | _ => none
  | .sub r lo hi => match L r with | .sl .. | .still .. => some (hi - lo) | .tr .. => some (hi - lo) | _ => none
  | .v x => lenV x
  | _ => none
def oLen (P : Program) (L : Nat → Blk) (T : TypeId) (x : AV) : Option Out :=
  match P.underlying T with
  | some (.slice _) => match lenOf L x with | some n => some ⟨True, .v (.int .i64 (n : Int)), []⟩ | none => none
  | some .string => match x with | .v (.string b) => some ⟨True, .v (.int .i64 (b.size : Int)), []⟩ | _ => none
  | _ => none
def rowsOf (L : Nat → Blk) : AV → Option (List (List D))
  | .l _ rows => some rows
  | .own r => match L r with | .sl _ _ rows | .still _ rows => some rows | .off _ _ rows => some rows | _ => none
  | .sub r lo hi => match L r with | .sl _ _ rows | .still _ rows => some ((rows.take hi).drop lo) | _ => none
  | .v x => if nilV x = true then some [] else none
  | _ => none
def byteOf (r : List D) : UInt8 := UInt8.ofNat (r.headD (.v undef)).toI.toNat
def bytesOfRows (rows : List (List D)) : List UInt8 := rows.map byteOf
def rowsOfBytes (xs : List UInt8) : List (List D) := xs.map fun x => [.v (.int .u8 (x.toNat : Int))]
def oConvert (P : Program) (L : Nat → Blk) (src dst : TypeId) (x : AV) : Option Out :=
  match P.underlying src, P.underlying dst with
  | some (.int _), some (.int k) => match x with | .v (.int _ n) => some ⟨True, .v (.int k (k.wrap n)), []⟩ | _ => none
  | some (.slice e), some .string => match P.underlying e, rowsOf L x with
    | some (.int .u8), some rows => some ⟨rows = rowsOfBytes (bytesOfRows rows), .v (.string ⟨(bytesOfRows rows).toArray⟩), []⟩
    | _, _ => none
  | _, _ => none
def eqKinds (P : Program) : Nat → List Field → Option (List Bool)
  | _, [] => some []
  | k, f :: fs => if f.name ≠ "_" ∧ f.offset = k then
      match P.underlying f.type, eqKinds P (k + 1) fs with
      | some (.int _), some ks => some (true :: ks)
      | some .bool, some ks => some (false :: ks)
      | _, _ => none
    else none
def eqFlat (P : Program) (T : TypeId) : Option (List Bool) := match P.underlying T with
  | some (.struct fs) => if P.eqGuardType P.depth T = false ∧ P.stoodInHeld T = false then eqKinds P 0 fs.toList else none
  | _ => none
def eqAVs : List Bool → List AV → List AV → Option Bool
  | [], [], [] => some true
  | true :: ks, .v (.int k a) :: xs, .v (.int k' b) :: ys => if k = k' then (match eqAVs ks xs ys with | some r => some ((a == b) && r) | none => none) else none
  | false :: ks, .v (.bool a) :: xs, .v (.bool b) :: ys => match eqAVs ks xs ys with | some r => some ((a == b) && r) | none => none
  | _, _, _ => none
def oBin (P : Program) (op : BinOp) (T : TypeId) (x y : AV) : Option Out :=
  match x, y with
  | .agg xs, .agg ys => match eqFlat P T with
    | some ks => match eqAVs ks xs ys with
      | some r => match op with
        | .eql => some ⟨True, .v (.bool r), []⟩
        | .neq => some ⟨True, .v (.bool (!r)), []⟩
        | _ => none
      | none => none
    | none => none
  | .v (.int k a), .v (.int k' b) => if k = k' then match op with
    | .add => some ⟨True, .v (.int k (k.wrap (a + b))), []⟩
    | .sub => some ⟨True, .v (.int k (k.wrap (a - b))), []⟩
    | .mul => some ⟨True, .v (.int k (k.wrap (a * b))), []⟩
    | .quo => some ⟨b ≠ 0, .v (.int k (k.wrap (a.tdiv b))), []⟩
    | .rem => some ⟨b ≠ 0, .v (.int k (a.tmod b)), []⟩
    | .eql => some ⟨True, .v (.bool (a == b)), []⟩
    | .neq => some ⟨True, .v (.bool (a != b)), []⟩
    | .lss => some ⟨True, .v (.bool (decide (a < b))), []⟩
    | .leq => some ⟨True, .v (.bool (decide (a ≤ b))), []⟩
    | .gtr => some ⟨True, .v (.bool (decide (a > b))), []⟩
    | .geq => some ⟨True, .v (.bool (decide (a ≥ b))), []⟩
    | .and => some ⟨True, .v (.int k (bits .and k a b)), []⟩
    | .or => some ⟨True, .v (.int k (bits .or k a b)), []⟩
    | .xor => some ⟨True, .v (.int k (bits .xor k a b)), []⟩
    | .andNot => some ⟨True, .v (.int k (bits .andNot k a b)), []⟩
    | .shl => some ⟨0 ≤ b, .v (.int k (k.wrap (a * 2 ^ min b.toNat k.bits))), []⟩
    | .shr => some ⟨0 ≤ b, .v (.int k (a.fdiv (2 ^ min b.toNat k.bits))), []⟩
    else none
  | .v (.bool a), .v (.bool b) => match P.underlying T, op with
    | some .bool, .eql => some ⟨True, .v (.bool (a == b)), []⟩
    | some .bool, .neq => some ⟨True, .v (.bool (!(a == b))), []⟩
    | _, _ => none
  | .v (.string a), .v (.string b) => match op with
    | .eql => some ⟨True, .v (.bool (a.toList == b.toList)), []⟩
    | .neq => some ⟨True, .v (.bool (!(a.toList == b.toList))), []⟩
    | _ => none
  | _, _ => none
def oUn (op : UnOp) (x : AV) : Option Out :=
  match op, x with
  | .not, .v (.bool b) => some ⟨True, .v (.bool (!b)), []⟩
  | .neg, .v (.int k n) => some ⟨True, .v (.int k (k.wrap (0 - n))), []⟩
  | _, _ => none
end Go.Proofs.Ytkfjaeoehhakpaa
namespace Go.Proofs.Ytkfjaeoehhakpaa
open Go.RowKit
def oAlloc (P : Program) (T : TypeId) (q : Nat) : Option Out :=
  match inf P T with
  | some (some z, _, _) => if z.cells.toList.all (·.oneCell') = true then some ⟨True, .ptr q 0, [(q, .var T (z.cells.toList.map .v))]⟩ else none
  | _ => none
def oBox (T : TypeId) (x : AV) (q : Nat) : Option Out :=
  if x.cells.all AV.one = true then some ⟨True, .ptr q 0, [(q, .var T x.cells)]⟩ else none
def fillA (P : Program) (fs : Array Field) (cs : List AV) : List (Nat × AV) → Option (List AV)
  | [] => some cs
  | (i, x) :: ps => match fs[i]? with
    | some f => if x.cells.length = szOf P f.type ∧ f.offset + x.cells.length ≤ cs.length ∧ x.cells.all AV.one = true then fillA P fs (putAt cs f.offset x.cells) ps else none
    | none => none
def oBuild (P : Program) (T : TypeId) (parts : List (Nat × AV)) : Option Out :=
  match P.underlying T, inf P T with
  | some (.struct fs), some (some z, _, _) => if (fs.toList.all fun f => (inf P f.type).isSome) = true ∧ z.cells.toList.all (·.oneCell') = true then match fillA P fs (z.cells.toList.map .v) parts with
    | some cs => some ⟨True, .agg cs, []⟩
    | none => none else none
  | _, _ => none
def fillR (sz : Nat) (rows : List (List AV)) : List (Nat × AV) → Option (List (List AV))
  | [] => some rows
  | (i, x) :: ps => if x.cells.length = sz ∧ i < rows.length ∧ x.cells.all AV.one = true then fillR sz (rows.set i x.cells) ps else none
def dkRows (L : Nat → Blk) (ks : List CK) : List (List AV) → Option (List (List D))
  | [] => some []
  | r :: rs => match dks L ks r, dkRows L ks rs with | some d, some ds => some (d :: ds) | _, _ => none
def oBuildSlice (P : Program) (L : Nat → Blk) (T : TypeId) (n : Nat) (parts : List (Nat × AV)) (q : Nat) : Option Out :=
  match P.underlying T with
  | some (.slice e) => match inf P e with
    | some (some z, sz, _) => if 0 < sz ∧ z.cells.size = sz ∧ n * sz ≤ 16777216 ∧ z.cells.toList.all (·.oneCell') = true then
      match fillR sz (List.replicate n (z.cells.toList.map .v)) parts with
      | some rows => match dkRows (ups L (frz L rows.flatten)) (ckOf P e) rows with
        | some ds => some ⟨True, .own q, frz L rows.flatten ++ [(q, .sl e sz ds)]⟩
        | none => none
      | none => none else none
    | _ => none
  | _ => none
def oMake (P : Program) (T : TypeId) (len cap : AV) (q : Nat) : Option Out :=
  match P.underlying T, len, cap with
  | some (.slice e), .v (.int _ n), .v (.int _ c) => match inf P e with
    | some (some z, sz, by_) => if 0 < sz ∧ z.cells.size = sz ∧ z.cells.toList.all (·.oneCell') = true then
      some ⟨0 ≤ n ∧ n ≤ c ∧ c * by_ ≤ 1099511627776 ∧ c ≤ 1099511627776, .own q, [(q, .sl e sz (List.replicate n.toNat (z.cells.toList.map D.v)))]⟩ else none
    | _ => none
  | _, _, _ => none
def oAppend (P : Program) (L : Nat → Blk) (T : TypeId) (x y : AV) (q : Nat) : Option Out :=
  match P.underlying T with
  | some (.slice e) => match inf P e, rowsOf L y with
    | some (some z, sz, by_), some ys => if 0 < sz ∧ z.cells.size = sz ∧ z.cells.toList.all (·.oneCell') = true then match x with
      | .own r => match L r with
        | .sl e' sz' xs => if e' = e ∧ sz' = sz ∧ r ≠ q then some ⟨(xs.length + ys.length) * by_ ≤ 1099511627776 ∧ xs.length + ys.length ≤ 1099511627776 ∧ (∀ r ∈ ys, r.length = sz), .own q, [(r, .dead), (q, .sl e sz (xs ++ ys))]⟩ else none
        | .off e' sz' xs => if e' = e ∧ sz' = sz ∧ r ≠ q then some ⟨(xs.length + ys.length) * by_ ≤ 1099511627776 ∧ xs.length + ys.length ≤ 1099511627776 ∧ (∀ r ∈ ys, r.length = sz), .own q, [(r, .dead), (q, .off e sz (xs ++ ys))]⟩ else none
        | _ => none
      | .sub r lo hi => match L r with
        | .sl e' sz' xs => if e' = e ∧ sz' = sz ∧ lo < hi ∧ hi = xs.length then some ⟨(hi + ys.length) * by_ ≤ 1099511627776 ∧ hi + ys.length ≤ 1099511627776 ∧ (∀ r ∈ ys, r.length = sz), .own q, [(r, .dead), (q, .off e sz (xs.drop lo ++ ys))]⟩ else none
        | _ => none
      | .v x' => if nilV x' = true then some ⟨ys.length * by_ ≤ 1099511627776 ∧ ys.length ≤ 1099511627776 ∧ (∀ r ∈ ys, r.length = sz), .own q, [(q, .sl e sz ys)]⟩ else none
      | _ => none
      else none
    | _, _ => none
  | _ => none
end Go.Proofs.Ytkfjaeoehhakpaa
namespace Go.Proofs.Ytkfjaeoehhakpaa
open Go.RowKit
section
variable {P : Program} {w : World} {Z : Nat → Prop} {L : Nat → Blk} {s : Nat → Value} {F : Nat → Prop} {W0 : Ent}
theorem szOf_info {t : TypeId} {n : Nat} (h : szOf P t = n) (hn : 0 < n) : ∃ i, P.info? t = some i ∧ i.size = n := by
  unfold szOf inf at h
  cases hi : P.info? t with
  | none => simp [hi] at h; omega
  | some i => exact ⟨i, rfl, by simpa [hi] using h⟩
theorem isSt_desc {t : TypeId} (h : isSt P t = true) : ∃ fs, P.underlying t = some (.struct fs) := by
  unfold isSt at h
  split at h
  · rename_i fs hu; exact ⟨fs, hu⟩
  · cases h
theorem views_rel {ks : List CK} {ds : List D} {us : List Value} (h : viewsOk ks ds) (hu : ∀ (k : Nat) d, ds[k]? = some d → ∃ x, us[k]? = some x ∧ Rep w Z d x) :
    ∀ (i : Nat) x y, (views ks ds)[i]? = some x → (us.take ks.length)[i]? = some y → AVR w Z L s x y := by
  induction ks generalizing ds us with
  | nil => intro i x y hx; simp [views] at hx
  | cons k ks ih =>
    obtain ⟨h1, h2, h3⟩ := h
    obtain ⟨d, ds, rfl⟩ := List.exists_cons_of_ne_nil h1
    obtain ⟨u0, hu0, hr0⟩ := hu 0 d rfl
    obtain ⟨u, us, rfl⟩ : ∃ u us', us = u :: us' := by cases us with | nil => simp at hu0 | cons a b => exact ⟨a, b, rfl⟩
    obtain rfl : u = u0 := by simpa using hu0
    intro i x y hx hy
    cases i with
    | zero =>
      simp [views] at hx
      simp at hy
      subst hx
      subst hy
      simp at h2
      cases k with
      | int kk => simp only [CK.ok] at h2; rw [h2] at hr0; cases hr0; exact .v _
      | bool => simp only [CK.ok] at h2; rw [h2] at hr0; cases hr0; exact .v _
      | str => simp only [CK.ok] at h2; rw [h2] at hr0; cases hr0; exact .v _
      | sl sz => simp only [CK.ok] at h2; rw [h2] at hr0; exact .l _ _ _ hr0
      | other => exact h2.elim
    | succ i =>
      simp [views] at hx
      simp at hy
      exact ih h3 (fun k d hk => by simpa using hu (k + 1) d (by simpa using hk)) i x y hx (by simpa using hy)
theorem views_len (ks : List CK) (ds : List D) : (views ks ds).length = ks.length := by
  induction ks generalizing ds with
  | nil => rfl
  | cons k ks ih => simp [views, ih]
theorem viewsOk_len {ks : List CK} {ds : List D} (h : viewsOk ks ds) : ks.length ≤ ds.length := by
  induction ks generalizing ds with
  | nil => simp
  | cons k ks ih =>
    obtain ⟨h1, _, h3⟩ := h
    obtain ⟨d, ds, rfl⟩ := List.exists_cons_of_ne_nil h1
    have := ih h3
    simp at this ⊢; omega
theorem run_loadAt_one (t : TypeId) (b o : Nat) (x : Value) (d : TypeDesc) (hu : P.underlying t = some d) (hd : d.isRow = false) (h : w.cell? ⟨b, o, none⟩ = some x) :
    (Instr.loadAt t (.pointer (some ⟨b, o, none⟩))).run P w = .ok x w := by
  have hagg : (isAgg t).run P w = .ok false w := by
    unfold isAgg
    rw [Sem.run_bind, run_underlying hu w]
    cases d <;> simp_all
  simp [Instr.loadAt, Instr.sureAddr, loadVar, Sem.run_bind, hagg, load, Sem.run, h]
theorem isCell_desc {t : TypeId} (h : isCell P t = true) : ∃ d, P.underlying t = some d ∧ d.isRow = false := by
  unfold isCell at h
  split at h
  · rename_i d hu; exact ⟨d, hu, by cases d <;> simp_all [isRow']⟩
  · cases h
theorem rowLoad_ok {T : TypeId} {cells : List D} {out : Out} (h : rowLoad P T cells = some out) (hc : out.c) {b off : Nat} {us : List Value}
    (hcell : ∀ (k : Nat) x, us[k]? = some x → w.cell? ⟨b, off + k, none⟩ = some x) (hrep : ∀ (k : Nat) d, cells[k]? = some d → ∃ x, us[k]? = some x ∧ Rep w Z d x) :
    ∃ v, (Instr.loadAt T (.pointer (some ⟨b, off, none⟩))).run P w = .ok v w ∧ AVR w Z L s out.dst v := by
  unfold rowLoad at h
  split at h
  · rename_i hst
    split at h
    · rename_i hlen
      simp at h
      subst h
      obtain ⟨fs, hu⟩ := isSt_desc hst
      have hl := viewsOk_len hc
      have hul : cells.length ≤ us.length := by
        rcases Nat.lt_or_ge us.length cells.length with h0 | h0
        · obtain ⟨x, hx, _⟩ := hrep us.length _ (List.getElem?_eq_getElem h0)
          rw [List.getElem?_eq_none (Nat.le_refl _)] at hx; cases hx
        · exact h0
      have htl : (us.take (ckOf P T).length).length = (ckOf P T).length := by rw [List.length_take]; omega
      refine ⟨.agg (us.take (ckOf P T).length).toArray, ?_, .agg _ _ (by rw [views_len, htl]) (views_rel hc hrep)⟩
      refine run_loadAt_mid w b off T (us.take (ckOf P T).length) _ (fun j x hx => ?_) hu rfl ?_
      · rw [List.getElem?_take] at hx
        split at hx
        · exact hcell j x hx
        · cases hx
      · rw [htl, hlen]
        unfold szOf inf
        cases hi : P.info? T with
        | none =>
          have : szOf P T = 0 := by simp [szOf, inf, hi]
          simp [Program.underlying, hi] at hu
        | some i => simp
    · cases h
  · split at h
    · rename_i hst
      obtain ⟨dd, hu, hd⟩ := isCell_desc hst
      split at h
      · rename_i k hk
        simp at h
        subst h
        obtain ⟨h1, h2, _⟩ := hc
        obtain ⟨d, ds, rfl⟩ := List.exists_cons_of_ne_nil h1
        obtain ⟨x, hx, hr⟩ := hrep 0 d rfl
        refine ⟨x, ?_, ?_⟩
        · have := hcell 0 x hx
          exact run_loadAt_one T b off x dd hu hd (by simpa using this)
        · have := views_rel (L := L) (s := s) (ks := [k]) (ds := d :: ds) (us := us) ⟨h1, h2, trivial⟩ hrep 0 (k.av d) x (by simp [views]) (by cases us with | nil => simp at hx | cons a b => simpa using hx)
          simpa using this
      · cases h
    · cases h
theorem cells_get {g o : Nat} {cur : Array Value} {T : TypeId} {fr : Nat × Nat} (h : w.heap[g]? = some (.cells cur T fr)) : w.cell? ⟨g, o, none⟩ = cur[o]? := by simp [World.cell?, h]
theorem owns_cells {e : TypeId} {sz n : Nat} {v : Value} {xs : List Value} (h : ownsAt w e sz v n xs) {g o c m : Nat} (hv : v = .slice (some ⟨g, o, none⟩) m c) (j : Nat) (u : Value) (hu : xs[j]? = some u) : w.cell? ⟨g, o + j, none⟩ = some u := by
  have := own_cell h hu
  subst hv
  exact this
theorem oLoad_ok (h : HR F W0 w L s Z) {T : TypeId} {p : AV} {x : Value} (hp : AVR w Z L s p x) {out : Out} (ho : oLoad P L T p = some out) (hc : out.c) :
    ∃ v, (Instr.loadAt T x).run P w = .ok v w ∧ AVR w Z L s out.dst v ∧ out.ups = [] := by
  unfold oLoad at ho
  split at ho
  · -- a variable
    rename_i r off
    split at ho
    · rename_i T' cs hL
      have hb := h.blk r
      rw [hL] at hb
      obtain ⟨g, vs, hs, hg, hl, hcs⟩ := hb
      obtain rfl : x = .pointer (some ⟨g, off, none⟩) := by
        cases hp with
        | ptr _ _ _ _ _ _ g' hs' hx => rw [hs] at hs'; cases hs'; exact hx
        | ptrDead _ _ _ hd _ => rw [hL] at hd; cases hd
      split at ho
      · rename_i hst
        split at ho
        · rename_i hn
          simp at ho
          subst ho
          obtain ⟨fs, hu⟩ := isSt_desc hst
          refine ⟨.agg ((vs.drop off).take (szOf P T)).toArray, ?_, .agg _ _ (by simp [hl]) (fun i x y hx hy => ?_), rfl⟩
          · refine run_loadAt_mid w g off T _ _ (fun j y hy => ?_) hu rfl ?_
            · rw [List.getElem?_take] at hy
              split at hy
              · rw [List.getElem?_drop] at hy
                rw [cells_get hg]
                simpa using hy
              · cases hy
            · rw [List.length_take, List.length_drop, hl]
              unfold szOf inf at hn ⊢
              cases hi : P.info? T with
              | none => simp [Program.underlying, hi] at hu
              | some i => simp [hi] at hn ⊢; omega
          · rw [List.getElem?_take] at hx hy
            split at hx
            · rename_i hi
              rw [if_pos hi] at hy
              rw [List.getElem?_drop] at hx hy
              exact (hcs _ x y hx hy).1
            · cases hx
        · cases ho
      · split at ho
        · rename_i hst
          obtain ⟨dd, hu, hd⟩ := isCell_desc hst
          split at ho
          · rename_i y hy
            simp at ho
            subst ho
            have hlt : off < vs.length := by rw [hl]; exact (List.getElem?_eq_some_iff.1 hy).1
            refine ⟨vs[off], ?_, (hcs off y vs[off] hy (List.getElem?_eq_getElem hlt)).1, rfl⟩
            refine run_loadAt_one T g off _ dd hu hd ?_
            rw [cells_get hg]
            simp [hlt]
          · cases ho
        · cases ho
    · cases ho
  · -- still cells
    rename_i cells
    have hu0 : out.ups = [] := by
      unfold rowLoad at ho
      split at ho
      · split at ho
        · simp at ho; subst ho; rfl
        · cases ho
      · split at ho
        · split at ho
          · simp at ho; subst ho; rfl
          · cases ho
        · cases ho
    cases hp with
    | rptr _ b off u hz hcell hrep =>
      obtain ⟨v, h1, h2⟩ := rowLoad_ok (L := L) (s := s) (us := (List.range cells.length).map u) ho hc (b := b) (off := off) (fun k x hx => by
        rw [List.getElem?_map] at hx
        by_cases hk : k < cells.length
        · rw [List.getElem?_range hk] at hx
          simp at hx
          rw [hcell k _ (List.getElem?_eq_getElem hk), hx]
        · rw [List.getElem?_eq_none (by simpa using hk)] at hx; cases hx) (fun k d hd => by
        have hk := (List.getElem?_eq_some_iff.1 hd).1
        exact ⟨u k, by rw [List.getElem?_map, List.getElem?_range hk]; rfl, hrep k d hd⟩)
      exact ⟨v, h1, h2, hu0⟩
  · -- a row of a slice of one's own
    rename_i r i j
    split at ho
    · rename_i e sz rows hL
      have hb := h.blk r
      rw [hL] at hb
      obtain ⟨hsz, xs, hown, h1, h2, h3⟩ := hb.rows
      split at ho
      · rename_i o hro
        simp at ho
        subst ho
        obtain ⟨hi, hc'⟩ := hc
        cases hp with
        | eptrDead _ _ _ _ hd _ => rw [hL] at hd; cases hd
        | eptrTr _ _ _ _ _ _ _ _ _ hd => rw [hL] at hd; cases hd
        | eptrOff _ _ _ _ _ _ _ hd => rw [hL] at hd; cases hd
        | eptrStill _ _ _ _ _ _ hd _ => rw [hL] at hd; cases hd
        | eptr _ _ _ _ e' sz' rows' hL' g o2 n c hs hx =>
          rw [hL] at hL'; cases hL'
          subst hx
          obtain ⟨v, h1, h2⟩ := rowLoad_ok (L := L) (s := s) (us := xs.drop (i * sz + j)) hro hc' (b := g) (off := o2 + (i * sz + j)) (fun k y hy => by
            rw [List.getElem?_drop] at hy
            rw [Nat.add_assoc]
            exact owns_cells hown hs _ y hy) (fun k d hd => by
            rw [List.getElem?_drop] at hd
            obtain ⟨y, hy, hr⟩ := h3 i (j + k) d (by
              unfold rowAt
              rw [List.getElem?_eq_getElem hi]
              simp [List.getD, List.getElem?_eq_getElem hi] at hd
              simpa using hd)
            exact ⟨y, by rw [List.getElem?_drop]; rw [← hy]; congr 1; omega, hr⟩)
          exact ⟨v, h1, h2, rfl⟩
      · cases ho
    · rename_i e sz rows hL
      have hb := h.blk r
      rw [hL] at hb
      obtain ⟨hsz, xs, hown, h1, h2, h3⟩ := hb.offRows
      split at ho
      · rename_i o hro
        simp at ho
        subst ho
        obtain ⟨hi, hc'⟩ := hc
        cases hp with
        | eptrDead _ _ _ _ hd _ => rw [hL] at hd; cases hd
        | eptrTr _ _ _ _ _ _ _ _ _ hd => rw [hL] at hd; cases hd
        | eptr _ _ _ _ _ _ _ hd => rw [hL] at hd; cases hd
        | eptrStill _ _ _ _ _ _ hd _ => rw [hL] at hd; cases hd
        | eptrOff _ _ _ _ e' sz' rows' hL' g o2 n c hs hx =>
          rw [hL] at hL'; cases hL'
          subst hx
          obtain ⟨v, h1, h2⟩ := rowLoad_ok (L := L) (s := s) (us := xs.drop (i * sz + j)) hro hc' (b := g) (off := o2 + (i * sz + j)) (fun k y hy => by
            rw [List.getElem?_drop] at hy
            rw [Nat.add_assoc]
            exact owns_cells hown hs _ y hy) (fun k d hd => by
            rw [List.getElem?_drop] at hd
            obtain ⟨y, hy, hr⟩ := h3 i (j + k) d (by
              unfold rowAt
              rw [List.getElem?_eq_getElem hi]
              simp [List.getD, List.getElem?_eq_getElem hi] at hd
              simpa using hd)
            exact ⟨y, by rw [List.getElem?_drop]; rw [← hy]; congr 1; omega, hr⟩)
          exact ⟨v, h1, h2, rfl⟩
      · cases ho
    · cases ho
  · cases ho
end
end Go.Proofs.Ytkfjaeoehhakpaa
namespace Go.Proofs.Ytkfjaeoehhakpaa
open Go.RowKit
section
variable {P : Program} {w : World} {Z : Nat → Prop} {L : Nat → Blk} {s : Nat → Value} {F : Nat → Prop} {W0 : Ent}
theorem idx_run {T e : TypeId} {sz : Nat} (hu : P.underlying T = some (.slice e)) (hs : szOf P e = sz) (h0 : 0 < sz) (b off len c : Nat) (k : IntKind) (n : Int) (h1 : 0 ≤ n) (h2 : n < (len : Int)) :
    (Instr.indexAt T (.slice (some ⟨b, off, none⟩) len c) (.int k n)).run P w = .ok (.pointer (some ⟨b, off + n.toNat * sz, none⟩)) w := by
  obtain ⟨i, hi, his⟩ := szOf_info hs h0
  have hadd : (⟨b, off, none⟩ : Addr).add (n.toNat * sz) = ⟨b, off + n.toNat * sz, none⟩ := Addr.add_mid _ _ _
  simp [Instr.indexAt, asIntOf, run_underlying hu, sizeOf, typeInfo, hi, his, h1, h2, hadd]
theorem idx_rep {T e : TypeId} {sz : Nat} (hu : P.underlying T = some (.slice e)) (hs : szOf P e = sz) (h0 : 0 < sz) {rows : List (List D)} {x : Value} (hx : Rep w Z (.l sz rows) x) (k : IntKind) (n : Int) (h1 : 0 ≤ n) (h2 : n < (rows.length : Int)) :
    ∃ v, (Instr.indexAt T x (.int k n)).run P w = .ok v w ∧ AVR w Z L s (.rptr (rows.getD n.toNat [])) v := by
  cases hx with
  | e => simp at h2; omega
  | l _ _ b off len c u hn hc hs' hz hcell hrep =>
    have hlt : n.toNat < rows.length := by omega
    refine ⟨_, idx_run hu hs h0 b off len c k n h1 (by omega), ?_⟩
    have e : ∀ (j : Nat) d, (rows.getD n.toNat [])[j]? = some d → rowAt rows n.toNat j = some d := fun j d h => by
      unfold rowAt
      rw [List.getElem?_eq_getElem hlt]
      simpa [List.getD, List.getElem?_eq_getElem hlt] using h
    refine .rptr _ b _ (fun j => u n.toNat j) hz (fun j d h => ?_) (fun j d h => hrep _ _ d (e j d h))
    rw [← hcell _ _ d (e j d h)]
    congr 2
    omega
theorem oIndexAddr_ok (h : HR F W0 w L s Z) {T : TypeId} {p i : AV} {x y : Value} (hp : AVR w Z L s p x) (hi : AVR w Z L s i y) {out : Out} (ho : oIndexAddr P L T p i = some out) (hc : out.c) :
    ∃ v, (Instr.indexAt T x y).run P w = .ok v w ∧ AVR w Z L s out.dst v ∧ out.ups = [] := by
  unfold oIndexAddr at ho
  split at ho
  · rename_i e k n hu
    cases hi
    split at ho
    · split at ho
      · rename_i sz rows hs
        simp at ho; subst ho
        obtain ⟨v, h1, h2⟩ := idx_rep (L := L) (s := s) hu hs.1 hs.2 (by cases hp with | l _ _ _ h => exact h) k n hc.1 hc.2
        exact ⟨v, h1, h2, rfl⟩
      · cases ho
    · rename_i r
      have hb := h.blk r
      split at ho
      · rename_i e' sz rows hL
        rw [hL] at hb
        obtain ⟨hsz, xs, hown, hr⟩ := hb.rows
        split at ho
        · rename_i hs
          simp at ho; subst ho
          obtain ⟨hc1, hc2⟩ := hc
          have hx : x = s r := by
            cases hp with
            | own _ _ _ _ _ _ hx _ => exact hx
            | ownStill _ _ _ _ hd _ _ => rw [hL] at hd; cases hd
            | ownDead _ _ hd _ => rw [hL] at hd; cases hd
            | ownOff _ _ _ _ _ hd _ _ => rw [hL] at hd; cases hd
            | ownTr _ _ _ _ _ _ _ hd => rw [hL] at hd; cases hd
          subst hx
          rcases hown.2 with ⟨h0, h1⟩ | ⟨g, o, cap, cur, hv, _⟩
          · omega
          · rw [hv]
            refine ⟨_, idx_run hu hs.1 hs.2 g o rows.length cap k n hc1 hc2, .eptr r n.toNat 0 _ e' sz rows hL g o _ _ hv (by simp), rfl⟩
        · cases ho
      · rename_i sz rows hL
        rw [hL] at hb
        split at ho
        · rename_i hs
          simp at ho; subst ho
          have hx : x = s r := by
            cases hp with
            | own _ _ _ _ _ hd _ _ => rw [hL] at hd; cases hd
            | ownStill _ _ _ _ hd hx _ => exact hx
            | ownDead _ _ hd _ => rw [hL] at hd; cases hd
            | ownOff _ _ _ _ _ hd _ _ => rw [hL] at hd; cases hd
            | ownTr _ _ _ _ _ _ _ hd => rw [hL] at hd; cases hd
          subst hx
          obtain ⟨v, h1, h2⟩ := idx_rep (L := L) (s := s) hu hs.1 hs.2 hb k n hc.1 hc.2
          exact ⟨v, h1, h2, rfl⟩
        · cases ho
      · rename_i st e' sz cols rows hL
        rw [hL] at hb
        obtain ⟨xs, uu, hT, -⟩ := hb
        have hown := hT.ho
        split at ho
        · rename_i hs
          simp at ho; subst ho
          obtain ⟨hc1, hc2⟩ := hc
          have hx : x = s r := by
            cases hp with
            | own _ _ _ _ _ hd _ _ => rw [hL] at hd; cases hd
            | ownStill _ _ _ _ hd _ _ => rw [hL] at hd; cases hd
            | ownTr _ _ _ _ _ _ _ _ hx _ => exact hx
            | ownDead _ _ hd _ => rw [hL] at hd; cases hd
            | ownOff _ _ _ _ _ hd _ _ => rw [hL] at hd; cases hd
          subst hx
          rcases hown.2 with ⟨h0, h1⟩ | ⟨g, o, cap, cur, hv, _⟩
          · omega
          · rw [hv]
            refine ⟨_, idx_run hu hs.1 hs.2 g o rows.length cap k n hc1 hc2, .eptrTr r n.toNat 0 _ st e' sz cols rows hL g o _ _ hv (by simp), rfl⟩
        · cases ho
      · rename_i e' sz rows hL
        rw [hL] at hb
        obtain ⟨-, xs, hown, -⟩ := hb.offRows
        split at ho
        · rename_i hs
          simp at ho; subst ho
          obtain ⟨hc1, hc2⟩ := hc
          have hx : x = s r := by
            cases hp with
            | own _ _ _ _ _ hd _ _ => rw [hL] at hd; cases hd
            | ownStill _ _ _ _ hd _ _ => rw [hL] at hd; cases hd
            | ownOff _ _ _ _ _ _ hx _ => exact hx
            | ownDead _ _ hd _ => rw [hL] at hd; cases hd
            | ownTr _ _ _ _ _ _ _ hd => rw [hL] at hd; cases hd
          subst hx
          rcases hown.2 with ⟨h0, h1⟩ | ⟨g, o0, cap, cur, hv, _⟩
          · omega
          · rw [hv]
            exact ⟨_, idx_run hu hs.1 hs.2 g o0 rows.length cap k n hc1 hc2, .eptrOff r n.toNat 0 _ e' sz rows hL g o0 _ _ hv (by simp), rfl⟩
        · cases ho
      · cases ho
    · rename_i r lo hi
      have hb := h.blk r
      split at ho
      · rename_i e' sz rows hL
        split at ho
        · rename_i hs
          simp at ho; subst ho
          obtain ⟨hc1, hc2⟩ := hc
          cases hp with
          | subStill _ _ _ _ _ _ hd => rw [hL] at hd; cases hd
          | subDead _ _ _ _ hd => rw [hL] at hd; cases hd
          | subTr _ _ _ _ _ _ _ _ _ hd => rw [hL] at hd; cases hd
          | subOff _ _ _ _ _ _ _ hd => rw [hL] at hd; cases hd
          | sub _ _ _ _ e2 sz2 rows2 hL2 hlo hhi A N C hx hN hC hA =>
            rw [hL] at hL2; cases hL2
            subst hx
            have hN0 : 0 < N := by omega
            obtain ⟨g, o, N', C', hsr, rfl, _⟩ := hA hN0
            refine ⟨_, idx_run hu hs.1 hs.2 g _ N C k n hc1 (by omega), .eptr r (lo + n.toNat) 0 _ e' sz rows hL g o _ _ hsr (by rw [Nat.add_mul, Nat.add_zero, Nat.add_assoc]), rfl⟩
        · cases ho
      · rename_i sz rows hL
        split at ho
        · rename_i hs
          simp at ho; subst ho
          obtain ⟨hc1, hc2⟩ := hc
          cases hp with
          | sub _ _ _ _ _ _ _ hd => rw [hL] at hd; cases hd
          | subDead _ _ _ _ hd => rw [hL] at hd; cases hd
          | subTr _ _ _ _ _ _ _ _ _ hd => rw [hL] at hd; cases hd
          | subOff _ _ _ _ _ _ _ hd => rw [hL] at hd; cases hd
          | subStill _ _ _ _ sz2 rows2 hL2 hlo hhi hx =>
            rw [hL] at hL2; cases hL2
            obtain ⟨v, h1, h2⟩ := idx_rep (L := L) (s := s) hu hs.1 hs.2 hx k n hc1 (by rw [List.length_drop, List.length_take]; omega)
            have e : ((rows.take hi).drop lo).getD n.toNat [] = rows.getD (lo + n.toNat) [] := by
              simp only [List.getD, List.getElem?_drop, List.getElem?_take]
              rw [if_pos (by omega)]
            rw [e] at h2
            exact ⟨v, h1, h2, rfl⟩
        · cases ho
      · rename_i st e' sz cols rows hL
        split at ho
        · rename_i hs
          simp at ho; subst ho
          obtain ⟨hc1, hc2⟩ := hc
          cases hp with
          | sub _ _ _ _ _ _ _ hd => rw [hL] at hd; cases hd
          | subStill _ _ _ _ _ _ hd => rw [hL] at hd; cases hd
          | subDead _ _ _ _ hd => rw [hL] at hd; cases hd
          | subOff _ _ _ _ _ _ _ hd => rw [hL] at hd; cases hd
          | subTr _ _ _ _ st2 e2 sz2 cols2 rows2 hL2 hlo hhi A N C hx hN hC hA =>
            rw [hL] at hL2; cases hL2
            subst hx
            have hN0 : 0 < N := by omega
            obtain ⟨g, o, N', C', hsr, rfl, _⟩ := hA hN0
            refine ⟨_, idx_run hu hs.1 hs.2 g _ N C k n hc1 (by omega), .eptrTr r (lo + n.toNat) 0 _ st e' sz cols rows hL g o _ _ hsr (by rw [Nat.add_mul, Nat.add_zero, Nat.add_assoc]), rfl⟩
        · cases ho
      · cases ho
    · cases ho
  · cases ho
theorem oFieldAddr_ok {T : TypeId} {p : AV} {f : Nat} {x : Value} (hp : AVR w Z L s p x) {out : Out} (ho : oFieldAddr P L T p f = some out) :
    ∃ v, (Instr.fieldAt T x f).run P w = .ok v w ∧ AVR w Z L s out.dst v ∧ out.ups = [] := by
  unfold oFieldAddr at ho
  split at ho
  · rename_i o t hf
    unfold fieldOf at hf
    split at hf
    · rename_i fs hu
      split at hf
      · rename_i fd hfd
        simp at hf
        obtain ⟨rfl, rfl⟩ := hf
        split at ho
        · cases ho
        · rename_i hn0
          obtain ⟨i, hi, his⟩ := szOf_info (P := P) (t := fd.type) rfl (by omega)
          have run : ∀ b off, (Instr.fieldAt T (.pointer (some ⟨b, off, none⟩)) f).run P w = .ok (.pointer (some ⟨b, off + fd.offset, none⟩)) w := fun b off => by
            have hne : ¬ i.size = 0 := by omega
            simp [Instr.fieldAt, run_underlying hu, hfd, Instr.sureAddr, fieldPlace, sizeOf, typeInfo, hi, hne, Addr.add_mid]
          split at ho
          · rename_i r off
            split at ho
            · rename_i hL0
              simp at ho; subst ho
              cases hp with
              | ptrDead _ _ _ hd => rw [hd] at hL0; cases hL0
              | ptr _ _ _ T' cs hL g hs hx => subst hx; exact ⟨_, run g off, .ptr r _ _ T' cs hL g hs rfl, rfl⟩
            · cases ho
          · rename_i r i' j
            split at ho
            · rename_i hL0
              simp at ho; subst ho
              cases hp with
              | eptrDead _ _ _ _ hd => rw [hd] at hL0; cases hL0
              | eptrStill _ _ _ _ _ _ hd => rw [hd] at hL0; cases hL0
              | eptrTr _ _ _ _ _ _ _ _ _ hd => rw [hd] at hL0; cases hL0
              | eptrOff _ _ _ _ _ _ _ hd => rw [hd] at hL0; cases hL0
              | eptr _ _ _ _ e sz rows hL g o n c hs hx => subst hx; exact ⟨_, run g _, .eptr r i' _ _ e sz rows hL g o n c hs (by rw [Nat.add_assoc, Nat.add_assoc]), rfl⟩
            · rename_i hL0
              simp at ho; subst ho
              cases hp with
              | eptrDead _ _ _ _ hd => rw [hd] at hL0; cases hL0
              | eptrStill _ _ _ _ _ _ hd => rw [hd] at hL0; cases hL0
              | eptr _ _ _ _ _ _ _ hd => rw [hd] at hL0; cases hL0
              | eptrOff _ _ _ _ _ _ _ hd => rw [hd] at hL0; cases hL0
              | eptrTr _ _ _ _ st e sz cols rows hL g o n c hs hx => subst hx; exact ⟨_, run g _, .eptrTr r i' _ _ st e sz cols rows hL g o n c hs (by rw [Nat.add_assoc, Nat.add_assoc]), rfl⟩
            · cases ho
          · rename_i cells
            simp at ho; subst ho
            cases hp with
            | rptr _ b off u hz hcell hrep =>
              refine ⟨_, run b off, .rptr _ b _ (fun k => u (fd.offset + k)) hz (fun k d h => ?_) (fun k d h => ?_), rfl⟩
              · rw [List.getElem?_drop] at h
                rw [Nat.add_assoc]
                exact hcell _ d h
              · rw [List.getElem?_drop] at h
                exact hrep _ d h
          · cases ho
      · cases hf
    · cases hf
  · cases ho
theorem oField_ok {T : TypeId} {p : AV} {f : Nat} {x : Value} (hp : AVR w Z L s p x) {out : Out} (ho : oField P T p f = some out) :
    ∃ v, (Instr.field T x f).run P w = .ok v w ∧ AVR w Z L s out.dst v ∧ out.ups = [] := by
  unfold oField at ho
  split at ho
  · rename_i o t cs hf
    unfold fieldOf at hf
    split at hf
    · rename_i fs hu
      split at hf
      · rename_i fd hfd
        simp at hf
        obtain ⟨rfl, rfl⟩ := hf
        cases hp with
        | agg _ vs hl hcs =>
          split at ho
          · rename_i hst
            obtain ⟨fs', hu'⟩ := isSt_desc hst
            split at ho
            · rename_i hn
              simp at ho; subst ho
              have hinfo : ∃ i, P.info? fd.type = some i := by
                cases hi : P.info? fd.type with
                | none => simp [Program.underlying, hi] at hu'
                | some i => exact ⟨i, rfl⟩
              obtain ⟨i, hi⟩ := hinfo
              have hsz : szOf P fd.type = i.size := by simp [szOf, inf, hi]
              rw [hsz] at hn ⊢
              refine ⟨.agg ((vs.drop fd.offset).take i.size).toArray, ?_, .agg _ _ (by simp [hl]) (fun j a b h1 h2 => ?_), rfl⟩
              · have hagg : (isAgg fd.type).run P w = .ok true w := by
                  unfold isAgg
                  rw [Sem.run_bind, run_underlying hu' w]
                  simp
                simp [Instr.field, run_underlying hu, hfd, asAgg, part, hagg, sizeOf, typeInfo, hi]
              · rw [List.getElem?_take] at h1 h2
                split at h1
                · rename_i hj
                  rw [if_pos hj] at h2
                  rw [List.getElem?_drop] at h1 h2
                  exact hcs _ a b h1 h2
                · cases h1
            · cases ho
          · split at ho
            · rename_i hst
              obtain ⟨dd, hu', hd⟩ := isCell_desc hst
              split at ho
              · rename_i y hy
                simp at ho; subst ho
                have hlt : fd.offset < vs.length := by rw [hl]; exact (List.getElem?_eq_some_iff.1 hy).1
                refine ⟨vs[fd.offset], ?_, hcs _ y _ hy (List.getElem?_eq_getElem hlt), rfl⟩
                have hagg : (isAgg fd.type).run P w = .ok false w := by
                  unfold isAgg
                  rw [Sem.run_bind, run_underlying hu' w]
                  cases dd <;> simp_all
                simp [Instr.field, run_underlying hu, hfd, asAgg, part, hagg, List.getElem?_eq_getElem hlt]
              · cases ho
            · cases ho
      · cases hf
    · cases hf
  · cases ho
theorem oExtract_ok {p : AV} {i : Nat} {x : Value} (hp : AVR w Z L s p x) {out : Out} (ho : oExtract p i = some out) :
    ∃ v, (Instr.extract x i).run P w = .ok v w ∧ AVR w Z L s out.dst v ∧ out.ups = [] := by
  unfold oExtract at ho
  split at ho
  · rename_i cs
    split at ho
    · rename_i y hy
      simp at ho; subst ho
      cases hp with
      | tup _ vs hl hcs =>
        have hlt : i < vs.length := by rw [hl]; exact (List.getElem?_eq_some_iff.1 hy).1
        exact ⟨vs[i], by simp [Instr.extract, List.getElem?_eq_getElem hlt], hcs _ y _ hy (List.getElem?_eq_getElem hlt), rfl⟩
    · cases ho
  · cases ho
end
end Go.Proofs.Ytkfjaeoehhakpaa
namespace Go.Proofs.Ytkfjaeoehhakpaa
open Go.RowKit
section
variable {P : Program} {w : World} {Z : Nat → Prop} {L : Nat → Blk} {s : Nat → Value} {F : Nat → Prop} {W0 : Ent}
def ORel (w : World) (Z : Nat → Prop) (L : Nat → Blk) (s : Nat → Value) : Option AV → Option Value → Prop
  | none, none => True
  | some a, some x => AVR w Z L s a x
  | _, _ => False
theorem lo_run {lo : Option AV} {lo' : Option Value} (hr : ORel w Z L s lo lo') {c : Prop} {a : Nat} (h : loOf lo = some (c, a)) (hc : c) : (lo' = none ∧ a = 0) ∨ ∃ k n, lo' = some (.int k n) ∧ 0 ≤ n ∧ a = n.toNat := by
  unfold loOf at h
  split at h
  · simp at h
    cases lo' with
    | none => exact .inl ⟨rfl, h.2.symm⟩
    | some x => exact hr.elim
  · rename_i k n
    simp at h
    cases lo' with
    | none => exact hr.elim
    | some x =>
      cases hr
      obtain ⟨h1, h2⟩ := h
      exact .inr ⟨k, n, rfl, by rw [h1]; exact hc, h2.symm⟩
  · cases h
theorem hi_run {hi : Option AV} {hi' : Option Value} (hr : ORel w Z L s hi hi') {len : Nat} {c : Prop} {a : Nat} (h : hiOf len hi = some (c, a)) (hc : c) : (hi' = none ∧ a = len) ∨ ∃ k n, hi' = some (.int k n) ∧ 0 ≤ n ∧ a = n.toNat ∧ a ≤ len := by
  unfold hiOf at h
  split at h
  · simp at h
    cases hi' with
    | none => exact .inl ⟨rfl, h.2.symm⟩
    | some x => exact hr.elim
  · rename_i k n
    simp at h
    cases hi' with
    | none => exact hr.elim
    | some x =>
      cases hr
      obtain ⟨h1, h2⟩ := h
      rw [← h1] at hc
      exact .inr ⟨k, n, rfl, hc.1, h2.symm, by omega⟩
  · cases h
theorem slice_run {T e : TypeId} {sz : Nat} (hu : P.underlying T = some (.slice e)) (hs : szOf P e = sz) (h0 : 0 < sz) {A : Option Addr} {len cap a b : Nat} {lo' hi' : Option Value}
    (hlo : (lo' = none ∧ a = 0) ∨ ∃ k n, lo' = some (.int k n) ∧ 0 ≤ n ∧ a = n.toNat) (hhi : (hi' = none ∧ b = len) ∨ ∃ k n, hi' = some (.int k n) ∧ 0 ≤ n ∧ b = n.toNat ∧ b ≤ len) (hab : a ≤ b) (hb : b ≤ len) (hc : len ≤ cap) :
    (Instr.sliceAt T (.slice A len cap) lo' hi' none).run P w = .ok (.slice (if cap = a then A else A.map (·.add (a * sz))) (b - a) (cap - a)) w := by
  obtain ⟨i, hi, his⟩ := szOf_info hs h0
  have hel : P.underlying T = some (.slice (P.elem T)) := by simp [Program.elem, hu]
  have hee : P.elem T = e := by simp [Program.elem, hu]
  have hsz : (sizeOf (P.elem T)).run P w = .ok sz w := by rw [hee]; simp [sizeOf, typeInfo, hi, his]
  rw [run_sliceAt_slice _ T _ _ _ _ hel]
  rcases hlo with ⟨rfl, rfl⟩ | ⟨k, n, rfl, hn, rfl⟩ <;> rcases hhi with ⟨rfl, rfl⟩ | ⟨k', n', rfl, hn', rfl, hle⟩
  · rw [run_slice_all _ T A _ cap hel, hsz]; rfl
  · rw [run_slice_h _ T A len cap hel k' n' hn' (by omega), hsz]; rfl
  · rw [run_slice_l _ T A _ cap hel k n hn (by omega), hsz]; rfl
  · rw [run_slice_lh _ T A len cap hel k k' n n' hn (by omega) (by omega), hsz]; rfl
theorem Rep.shape {sz : Nat} {rows : List (List D)} {x : Value} (h : Rep w Z (.l sz rows) x) : ∃ A c, x = .slice A rows.length c ∧ rows.length ≤ c := by
  cases h with
  | e => exact ⟨_, _, rfl, by simp⟩
  | l _ _ _ _ _ _ _ hn hc => exact ⟨_, _, by rw [hn], by omega⟩
theorem slice_rep {T e : TypeId} {sz : Nat} (hu : P.underlying T = some (.slice e)) (hs : szOf P e = sz) (h0 : 0 < sz) {rows : List (List D)} {x : Value} (hx : Rep w Z (.l sz rows) x) {a b : Nat} {lo' hi' : Option Value}
    (hlo : (lo' = none ∧ a = 0) ∨ ∃ k n, lo' = some (.int k n) ∧ 0 ≤ n ∧ a = n.toNat) (hhi : (hi' = none ∧ b = rows.length) ∨ ∃ k n, hi' = some (.int k n) ∧ 0 ≤ n ∧ b = n.toNat ∧ b ≤ rows.length) (hab : a ≤ b) :
    ∃ v, (Instr.sliceAt T x lo' hi' none).run P w = .ok v w ∧ Rep w Z (.l sz ((rows.take b).drop a)) v := by
  obtain ⟨A, c, rfl, hc⟩ := hx.shape
  have hb : b ≤ rows.length := by rcases hhi with ⟨_, rfl⟩ | ⟨_, _, _, _, _, h⟩ <;> omega
  refine ⟨_, slice_run hu hs h0 hlo hhi hab hb hc, hx.cut hab hb rfl (by omega) fun h1 => ?_⟩
  cases hx with
  | e => simp at hb; omega
  | l _ _ b0 off n c u hn hc' hs' hz hcell hrep =>
    refine ⟨b0, off, _, _, rfl, ?_⟩
    rw [if_neg (by omega)]
    simp [Addr.add_mid]
theorem oSlice_ok (h : HR F W0 w L s Z) {T : TypeId} {p : AV} {lo hi : Option AV} {x : Value} {lo' hi' : Option Value} (hp : AVR w Z L s p x) (hlo : ORel w Z L s lo lo') (hhi : ORel w Z L s hi hi') {out : Out} (ho : oSlice P L T p lo hi = some out) (hc : out.c) :
    ∃ v, (Instr.sliceAt T x lo' hi' none).run P w = .ok v w ∧ AVR w Z L s out.dst v ∧ out.ups = [] := by
  unfold oSlice at ho
  split at ho
  · rename_i e hu
    split at ho
    · rename_i sz rows
      split at ho
      · rename_i hs
        split at ho
        · rename_i c1 a c2 b h1 h2
          simp at ho; subst ho
          obtain ⟨k1, k2, k3⟩ := hc
          obtain ⟨v, r1, r2⟩ := slice_rep hu hs.1 hs.2 (by cases hp with | l _ _ _ h => exact h) (lo_run hlo h1 k1) (hi_run hhi h2 k2) k3
          exact ⟨v, r1, .l _ _ _ r2, rfl⟩
        · cases ho
      · cases ho
    · rename_i r
      have hb := h.blk r
      split at ho
      · rename_i e' sz rows hL
        rw [hL] at hb
        obtain ⟨hsz, xs, hown, hr⟩ := hb.rows
        split at ho
        · rename_i hs
          split at ho
          · rename_i c1 a c2 b h1 h2
            simp at ho; subst ho
            obtain ⟨k1, k2, k3⟩ := hc
            have hx : x = s r := by
              cases hp with
              | own _ _ _ _ _ _ hx _ => exact hx
              | ownStill _ _ _ _ hd _ _ => rw [hL] at hd; cases hd
              | ownDead _ _ hd _ => rw [hL] at hd; cases hd
              | ownOff _ _ _ _ _ hd _ _ => rw [hL] at hd; cases hd
              | ownTr _ _ _ _ _ _ _ hd => rw [hL] at hd; cases hd
            subst hx
            have hh := hi_run hhi h2 k2
            have hble : b ≤ rows.length := by rcases hh with ⟨_, rfl⟩ | ⟨_, _, _, _, _, h⟩ <;> omega
            have hcap : ∃ A C, s r = .slice A rows.length C ∧ rows.length ≤ C ∧ (0 < rows.length → ∃ g o, A = some ⟨g, o, none⟩) := by
              rcases hown.2 with ⟨q1, q2⟩ | ⟨g, o, cap, cur, q1, _, _, q2, _⟩
              · exact ⟨none, 0, by rw [q1, q2], by omega, fun h => by omega⟩
              · exact ⟨_, cap, q1, q2, fun _ => ⟨g, o, rfl⟩⟩
            obtain ⟨A, C, hsr, hC, hA⟩ := hcap
            refine ⟨_, by rw [hsr]; exact slice_run hu hs.1 hs.2 (lo_run hlo h1 k1) hh k3 hble hC, .sub r a b _ e' sz rows hL k3 hble _ _ _ rfl rfl (by omega) (fun hpos => ?_), rfl⟩
            obtain ⟨g, o, rfl⟩ := hA (by omega)
            refine ⟨g, o, _, _, hsr, ?_, by show @LE.le Nat _ _ _; omega⟩
            rw [if_neg (by omega)]
            simp [Addr.add_mid]
          · cases ho
        · cases ho
      · rename_i sz rows hL
        rw [hL] at hb
        split at ho
        · rename_i hs
          split at ho
          · rename_i c1 a c2 b h1 h2
            simp at ho; subst ho
            obtain ⟨k1, k2, k3⟩ := hc
            have hx : x = s r := by
              cases hp with
              | own _ _ _ _ _ hd _ _ => rw [hL] at hd; cases hd
              | ownStill _ _ _ _ hd hx _ => exact hx
              | ownDead _ _ hd _ => rw [hL] at hd; cases hd
              | ownOff _ _ _ _ _ hd _ _ => rw [hL] at hd; cases hd
              | ownTr _ _ _ _ _ _ _ hd => rw [hL] at hd; cases hd
            subst hx
            obtain ⟨v, r1, r2⟩ := slice_rep hu hs.1 hs.2 hb (lo_run hlo h1 k1) (hi_run hhi h2 k2) k3
            exact ⟨v, r1, .l _ _ _ r2, rfl⟩
          · cases ho
        · cases ho
      · rename_i st e' sz cols rows hL
        rw [hL] at hb
        obtain ⟨xs, uu, hT, -⟩ := hb
        have hown := hT.ho
        split at ho
        · rename_i hs
          split at ho
          · rename_i c1 a c2 b h1 h2
            simp at ho; subst ho
            obtain ⟨k1, k2, k3⟩ := hc
            have hx : x = s r := by
              cases hp with
              | own _ _ _ _ _ hd _ _ => rw [hL] at hd; cases hd
              | ownStill _ _ _ _ hd _ _ => rw [hL] at hd; cases hd
              | ownTr _ _ _ _ _ _ _ _ hx _ => exact hx
              | ownDead _ _ hd _ => rw [hL] at hd; cases hd
              | ownOff _ _ _ _ _ hd _ _ => rw [hL] at hd; cases hd
            subst hx
            have hh := hi_run hhi h2 k2
            have hble : b ≤ rows.length := by rcases hh with ⟨_, rfl⟩ | ⟨_, _, _, _, _, h⟩ <;> omega
            have hcap : ∃ A C, s r = .slice A rows.length C ∧ rows.length ≤ C ∧ (0 < rows.length → ∃ g o, A = some ⟨g, o, none⟩) := by
              rcases hown.2 with ⟨q1, q2⟩ | ⟨g, o, cap, cur, q1, _, _, q2, _⟩
              · exact ⟨none, 0, by rw [q1, q2], by omega, fun h => by omega⟩
              · exact ⟨_, cap, q1, q2, fun _ => ⟨g, o, rfl⟩⟩
            obtain ⟨A, C, hsr, hC, hA⟩ := hcap
            refine ⟨_, by rw [hsr]; exact slice_run hu hs.1 hs.2 (lo_run hlo h1 k1) hh k3 hble hC, .subTr r a b _ st e' sz cols rows hL k3 hble _ _ _ rfl rfl (by omega) (fun hpos => ?_), rfl⟩
            obtain ⟨g, o, rfl⟩ := hA (by omega)
            refine ⟨g, o, _, _, hsr, ?_, by show @LE.le Nat _ _ _; omega⟩
            rw [if_neg (by omega)]
            simp [Addr.add_mid]
          · cases ho
        · cases ho
      · cases ho
    · cases ho
  · cases ho
theorem lenOf_ok (h : HR F W0 w L s Z) {p : AV} {x : Value} (hp : AVR w Z L s p x) {n : Nat} (hn : lenOf L p = some n) : ∃ A c, x = .slice A n c := by
  unfold lenOf at hn
  split at hn
  · simp at hn; subst hn
    cases hp with
    | l _ _ _ h => obtain ⟨A, c, rfl, _⟩ := h.shape; exact ⟨A, c, rfl⟩
  · rename_i r
    have hb := h.blk r
    split at hn
    · rename_i e sz rows hL
      simp at hn; subst hn
      cases hp with
      | own _ _ _ _ _ hL' hx hA => rw [hL] at hL'; cases hL'; obtain ⟨A, c, hA⟩ := hA; exact ⟨A, c, by rw [hx, hA]⟩
      | ownStill _ _ _ _ hd _ _ => rw [hL] at hd; cases hd
      | ownDead _ _ hd _ => rw [hL] at hd; cases hd
      | ownOff _ _ _ _ _ hd _ _ => rw [hL] at hd; cases hd
      | ownTr _ _ _ _ _ _ _ hd => rw [hL] at hd; cases hd
    · rename_i sz rows hL
      simp at hn; subst hn
      rw [hL] at hb
      cases hp with
      | own _ _ _ _ _ hd _ _ => rw [hL] at hd; cases hd
      | ownStill _ _ _ _ hd hx _ => obtain ⟨A, c, hA, _⟩ := Rep.shape hb; exact ⟨A, c, by rw [hx, hA]⟩
      | ownDead _ _ hd _ => rw [hL] at hd; cases hd
      | ownOff _ _ _ _ _ hd _ _ => rw [hL] at hd; cases hd
      | ownTr _ _ _ _ _ _ _ hd => rw [hL] at hd; cases hd
    · rename_i st e sz cols rows hL
      simp at hn; subst hn
      cases hp with
      | own _ _ _ _ _ hd _ _ => rw [hL] at hd; cases hd
      | ownTr _ _ _ _ _ _ _ hL' hx hA => rw [hL] at hL'; cases hL'; obtain ⟨A, c, hA⟩ := hA; exact ⟨A, c, by rw [hx, hA]⟩
      | ownStill _ _ _ _ hd _ _ => rw [hL] at hd; cases hd
      | ownDead _ _ hd _ => rw [hL] at hd; cases hd
      | ownOff _ _ _ _ _ hd _ _ => rw [hL] at hd; cases hd
    · rename_i e sz rows hL
      simp at hn; subst hn
      cases hp with
      | ownOff _ _ _ _ _ hL' hx hA => rw [hL] at hL'; cases hL'; obtain ⟨A, c, hA⟩ := hA; exact ⟨A, c, by rw [hx, hA]⟩
      | own _ _ _ _ _ hd _ _ => rw [hL] at hd; cases hd
      | ownStill _ _ _ _ hd _ _ => rw [hL] at hd; cases hd
      | ownDead _ _ hd _ => rw [hL] at hd; cases hd
      | ownTr _ _ _ _ _ _ _ hd => rw [hL] at hd; cases hd
    · cases hn
  · rename_i r lo hi
    split at hn
    · rename_i e sz rows hL
      simp at hn; subst hn
      cases hp with
      | sub _ _ _ _ _ _ _ _ _ _ A n c hx hn' => subst hx; exact ⟨A, c, by rw [hn']⟩
      | subStill _ _ _ _ _ _ hd => rw [hL] at hd; cases hd
      | subDead _ _ _ _ hd => rw [hL] at hd; cases hd
      | subTr _ _ _ _ _ _ _ _ _ hd => rw [hL] at hd; cases hd
      | subOff _ _ _ _ _ _ _ hd => rw [hL] at hd; cases hd
    · rename_i sz rows hL
      simp at hn; subst hn
      cases hp with
      | sub _ _ _ _ _ _ _ hd => rw [hL] at hd; cases hd
      | subDead _ _ _ _ hd => rw [hL] at hd; cases hd
      | subTr _ _ _ _ _ _ _ _ _ hd => rw [hL] at hd; cases hd
      | subOff _ _ _ _ _ _ _ hd => rw [hL] at hd; cases hd
      | subStill _ _ _ _ _ _ hL' hlo hhi hx =>
        obtain ⟨A, c, rfl, _⟩ := Rep.shape hx
        rw [hL] at hL'; cases hL'
        refine ⟨A, c, ?_⟩
        congr 1
        rw [List.length_drop, List.length_take]; omega
    · rename_i st e sz cols rows hL
      simp at hn; subst hn
      cases hp with
      | sub _ _ _ _ _ _ _ hd => rw [hL] at hd; cases hd
      | subOff _ _ _ _ _ _ _ hd => rw [hL] at hd; cases hd
      | subTr _ _ _ _ _ _ _ _ _ _ _ _ A n c hx hn' => subst hx; exact ⟨A, c, by rw [hn']⟩
      | subStill _ _ _ _ _ _ hd => rw [hL] at hd; cases hd
      | subDead _ _ _ _ hd => rw [hL] at hd; cases hd
    · cases hn
  · cases hp
    unfold lenV at hn
    split at hn
    · simp at hn; subst hn; exact ⟨_, _, rfl⟩
    · cases hn
  · cases hn
theorem oLen_ok (h : HR F W0 w L s Z) {T ty : TypeId} {p : AV} {x : Value} (hp : AVR w Z L s p x) {out : Out} (ho : oLen P L T p = some out) :
    ∃ v, (Builtin.len_ #[T] ty #[x]).run P w = .ok v w ∧ AVR w Z L s out.dst v ∧ out.ups = [] := by
  unfold oLen at ho
  split at ho
  · rename_i e hu
    split at ho
    · rename_i n hn
      simp at ho; subst ho
      obtain ⟨A, c, rfl⟩ := lenOf_ok h hp hn
      exact ⟨_, by simp [Builtin.len_, run_underlying hu, goInt], .v _, rfl⟩
    · cases ho
  · rename_i hu
    split at ho
    · simp at ho; subst ho
      cases hp
      exact ⟨_, by simp [Builtin.len_, run_underlying hu, goInt], .v _, rfl⟩
    · cases ho
  · cases ho
theorem rowsOf_ok (h : HR F W0 w L s Z) {p : AV} {x : Value} (hp : AVR w Z L s p x) {rows : List (List D)} (hn : rowsOf L p = some rows) :
    ∃ A c, x = .slice A rows.length c ∧ (0 < rows.length → ∃ sz b off, A = some ⟨b, off, none⟩ ∧ b < w.heap.size ∧ (∀ r ∈ rows, r.length = sz) ∧ ∀ i j d, rowAt rows i j = some d → ∃ u, w.cell? ⟨b, off + (i * sz + j), none⟩ = some u ∧ Rep w Z d u) := by
  have still : ∀ sz rows x, Rep w Z (.l sz rows) x → ∃ A c, x = .slice A rows.length c ∧ (0 < rows.length → ∃ sz b off, A = some ⟨b, off, none⟩ ∧ b < w.heap.size ∧ (∀ r ∈ rows, r.length = sz) ∧ ∀ i j d, rowAt rows i j = some d → ∃ u, w.cell? ⟨b, off + (i * sz + j), none⟩ = some u ∧ Rep w Z d u) := by
    intro sz rows x hr
    cases hr with
    | e _ A c => exact ⟨A, c, rfl, fun h => by simp at h⟩
    | l _ _ b off n c u hn hc hs hz hcell hrep => exact ⟨_, _, by rw [hn], fun _ => ⟨sz, b, off, rfl, h.zin b hz, hs, fun i j d hd => ⟨_, hcell i j d hd, hrep i j d hd⟩⟩⟩
  unfold rowsOf at hn
  split at hn
  · simp at hn; subst hn
    cases hp with
    | l _ _ _ h => exact still _ _ _ h
  · rename_i r
    have hb := h.blk r
    split at hn
    · rename_i e sz rows' hL
      simp at hn; subst hn
      rw [hL] at hb
      obtain ⟨hsz, xs, hown, h1, h2, h3⟩ := hb.rows
      have hx : x = s r := by
        cases hp with
        | own _ _ _ _ _ _ hx _ => exact hx
        | ownStill _ _ _ _ hd _ _ => rw [hL] at hd; cases hd
        | ownDead _ _ hd _ => rw [hL] at hd; cases hd
        | ownOff _ _ _ _ _ hd _ _ => rw [hL] at hd; cases hd
        | ownTr _ _ _ _ _ _ _ hd => rw [hL] at hd; cases hd
      subst hx
      rcases hown.2 with ⟨q1, q2⟩ | ⟨g, o, cap, cur, q1, _, q3, _⟩
      · exact ⟨none, 0, by rw [q1, q2], fun h0 => by omega⟩
      · refine ⟨_, cap, q1, fun _ => ⟨sz, g, o, rfl, (Array.getElem?_eq_some_iff.1 q3).1, h1, fun i j d hd => ?_⟩⟩
        obtain ⟨u, hu, hr⟩ := h3 i j d hd
        exact ⟨u, owns_cells hown q1 _ u hu, hr⟩
    · rename_i sz rows' hL
      simp at hn; subst hn
      rw [hL] at hb
      have hx : x = s r := by
        cases hp with
        | own _ _ _ _ _ hd _ _ => rw [hL] at hd; cases hd
        | ownStill _ _ _ _ _ hx _ => exact hx
        | ownDead _ _ hd _ => rw [hL] at hd; cases hd
        | ownOff _ _ _ _ _ hd _ _ => rw [hL] at hd; cases hd
        | ownTr _ _ _ _ _ _ _ hd => rw [hL] at hd; cases hd
      subst hx
      exact still _ _ _ hb
    · rename_i e sz rows' hL
      simp at hn; subst hn
      have hmine := h.mine r
      rw [hL] at hb hmine
      obtain ⟨hsz, xs, hown, h1, h2, h3⟩ := hb.offRows
      have hx : x = s r := by
        cases hp with
        | ownOff _ _ _ _ _ _ hx _ => exact hx
        | own _ _ _ _ _ hd _ _ => rw [hL] at hd; cases hd
        | ownStill _ _ _ _ hd _ _ => rw [hL] at hd; cases hd
        | ownDead _ _ hd _ => rw [hL] at hd; cases hd
        | ownTr _ _ _ _ _ _ _ hd => rw [hL] at hd; cases hd
      subst hx
      rcases hown.2 with ⟨q1, q2⟩ | ⟨g, o, cap, cur, q1, _, q3, _⟩
      · exact ⟨none, 0, by rw [q1, q2], fun h0 => by omega⟩
      · refine ⟨_, cap, q1, fun _ => ⟨sz, g, o, rfl, (Array.getElem?_eq_some_iff.1 q3).1, h1, fun i j d hd => ?_⟩⟩
        obtain ⟨u, hu, hr⟩ := h3 i j d hd
        exact ⟨u, owns_cells hown q1 _ u hu, hr⟩
    · cases hn
  · rename_i r lo hi
    have hb := h.blk r
    split at hn
    · rename_i e sz rows' hL
      simp at hn; subst hn
      rw [hL] at hb
      obtain ⟨hsz, xs, hown, h1, h2, h3⟩ := hb.rows
      cases hp with
      | subStill _ _ _ _ _ _ hd => rw [hL] at hd; cases hd
      | subDead _ _ _ _ hd => rw [hL] at hd; cases hd
      | subTr _ _ _ _ _ _ _ _ _ hd => rw [hL] at hd; cases hd
      | subOff _ _ _ _ _ _ _ hd => rw [hL] at hd; cases hd
      | sub _ _ _ _ _ _ _ hL' hlo hhi A n c hx hn' hc hA =>
        rw [hL] at hL'; cases hL'
        have hlen : ((rows'.take hi).drop lo).length = hi - lo := by rw [List.length_drop, List.length_take]; omega
        refine ⟨A, c, by rw [hx, hn', hlen], fun h0 => ?_⟩
        have hn0 : 0 < n := by omega
        obtain ⟨g, o, N, C, hsr, rfl, _⟩ := hA hn0
        have hg : g < w.heap.size := (h.mine r g (by rw [hL]; trivial) (by rw [hsr]; rfl)).2
        refine ⟨sz, g, o + lo * sz, rfl, hg, fun r hr => h1 r (List.mem_of_mem_take (List.mem_of_mem_drop hr)), fun i j d hd => ?_⟩
        have hd' : rowAt rows' (lo + i) j = some d := by
          unfold rowAt at hd ⊢
          rw [List.getElem?_drop, List.getElem?_take] at hd
          split at hd
          · exact hd
          · simp at hd
        obtain ⟨u, hu, hr⟩ := h3 _ _ d hd'
        refine ⟨u, ?_, hr⟩
        have := owns_cells hown hsr _ u hu
        rw [Nat.add_mul, Nat.add_assoc, ← Nat.add_assoc o] at this
        exact this
    · rename_i sz rows' hL
      simp at hn; subst hn
      cases hp with
      | sub _ _ _ _ _ _ _ hd => rw [hL] at hd; cases hd
      | subDead _ _ _ _ hd => rw [hL] at hd; cases hd
      | subTr _ _ _ _ _ _ _ _ _ hd => rw [hL] at hd; cases hd
      | subOff _ _ _ _ _ _ _ hd => rw [hL] at hd; cases hd
      | subStill _ _ _ _ _ _ hL' hlo hhi hx =>
        rw [hL] at hL'; cases hL'
        exact still _ _ _ hx
    · cases hn
  · split at hn
    · rename_i hnil
      simp at hn; subst hn
      cases hp
      rw [nilV_eq hnil]
      exact ⟨_, _, rfl, fun h => by simp at h⟩
    · cases hn
  · cases hn
theorem rowAt_bytes (xs : List UInt8) (i : Nat) (x : UInt8) (h : xs[i]? = some x) : rowAt (rowsOfBytes xs) i 0 = some (.v (.int .u8 (x.toNat : Int))) := by
  simp [rowAt, rowsOfBytes, h]
theorem oConvert_ok (h : HR F W0 w L s Z) {src dst : TypeId} {p : AV} {x : Value} (hp : AVR w Z L s p x) {out : Out} (ho : oConvert P L src dst p = some out) (hc : out.c) :
    ∃ v, (convert src dst x).run P w = .ok v w ∧ AVR w Z L s out.dst v ∧ out.ups = [] := by
  unfold oConvert at ho
  split at ho
  · rename_i k0 k hs hd
    split at ho
    · simp at ho; subst ho
      cases hp
      exact ⟨_, by simp [convert, run_underlying hs, run_underlying hd, Conv.intToInt], .v _, rfl⟩
    · cases ho
  · rename_i e hs hd
    split at ho
    · rename_i rows he hr
      simp at ho; subst ho
      obtain ⟨A, c, rfl, hA⟩ := rowsOf_ok h hp hr
      simp only at hc
      generalize bytesOfRows rows = xs at hc ⊢
      subst hc
      have hl : (rowsOfBytes xs).length = xs.length := by simp [rowsOfBytes]
      refine ⟨.string ⟨xs.toArray⟩, ?_, .v _, rfl⟩
      rcases A with _ | a
      · have h0 : xs = [] := by
          rcases xs with _ | ⟨x, r⟩
          · rfl
          · obtain ⟨_, _, _, e, _⟩ := hA (by simp [rowsOfBytes]); cases e
        subst h0
        exact run_convert_bytes_nil _ _ _ hs he _ _ _ hd
      · rw [hl]
        refine run_convert_bytes_back w _ _ _ a c xs hs he hd fun j hj => ?_
        obtain ⟨sz, b, off, e, _, hsz, hcell⟩ := hA (by rw [hl]; omega)
        injection e with e
        subst e
        obtain ⟨u, hu, hr⟩ := hcell j 0 _ (rowAt_bytes xs j _ (List.getElem?_eq_getElem hj))
        cases hr
        have : sz = 1 := by
          have := hsz [.v (.int .u8 ((xs[j]).toNat : Int))] (by simp only [rowsOfBytes, List.mem_map]; exact ⟨xs[j], List.getElem_mem hj, rfl⟩)
          simpa using this.symm
        subst this
        rw [Addr.add_mid]
        simpa using hu
    · cases ho
  · cases ho
theorem eqAVs_int {ks : List Bool} {xs ys : List AV} {r : Bool} (h : eqAVs (true :: ks) xs ys = some r) : ∃ k a b xs' ys' r', xs = .v (.int k a) :: xs' ∧ ys = .v (.int k b) :: ys' ∧ eqAVs ks xs' ys' = some r' ∧ r = ((a == b) && r') := by
  unfold eqAVs at h
  split at h
  · rename_i e; cases e
  · rename_i ks2 k1 a1 xs2 k2 b ys2 e1
    simp only [List.cons.injEq, true_and] at e1
    subst e1
    split at h
    · rename_i hk
      subst hk
      split at h
      · rename_i r' hr'
        exact ⟨k1, a1, b, xs2, ys2, r', rfl, rfl, hr', by simpa using h.symm⟩
      · cases h
    · cases h
  · rename_i e; simp at e
  · cases h
theorem eqAVs_bool {ks : List Bool} {xs ys : List AV} {r : Bool} (h : eqAVs (false :: ks) xs ys = some r) : ∃ a b xs' ys' r', xs = .v (.bool a) :: xs' ∧ ys = .v (.bool b) :: ys' ∧ eqAVs ks xs' ys' = some r' ∧ r = ((a == b) && r') := by
  unfold eqAVs at h
  split at h
  · rename_i e; cases e
  · rename_i e; simp at e
  · rename_i ks2 a1 xs2 b ys2 e1
    simp only [List.cons.injEq, true_and] at e1
    subst e1
    split at h
    · rename_i r' hr'
      exact ⟨a1, b, xs2, ys2, r', rfl, rfl, hr', by simpa using h.symm⟩
    · cases h
  · cases h
theorem eqFields_run {d : Nat} {xs ys : List AV} {us vs : List Value} (hx : ∀ (i : Nat) a x, xs[i]? = some a → us[i]? = some x → AVR w Z L s a x) (hy : ∀ (i : Nat) a x, ys[i]? = some a → vs[i]? = some x → AVR w Z L s a x)
    (lx : us.length = xs.length) (ly : vs.length = ys.length) : ∀ (fs : List Field) (k : Nat) (ks : List Bool) (r : Bool), eqKinds P k fs = some ks → eqAVs ks (xs.drop k) (ys.drop k) = some r →
    (Op.eqFields (d + 1) us.toArray vs.toArray fs).run P w = .ok r w
  | [], k, ks, r, hk, hr => by
    simp only [eqKinds, Option.some.injEq] at hk
    subst hk
    unfold eqAVs at hr
    split at hr
    · simp at hr; subst hr; simp [Op.eqFields]
    all_goals simp_all
  | f :: fs, k, ks, r, hk, hr => by
    have cut : ∀ {l : List AV} {a : AV} {t : List AV}, l.drop k = a :: t → l[k]? = some a ∧ l.drop (k + 1) = t := fun {l a t} h => by
      refine ⟨?_, ?_⟩
      · rw [← List.head?_drop, h]; rfl
      · rw [← List.drop_drop, h]; rfl
    simp only [eqKinds] at hk
    split at hk
    · rename_i hf
      obtain ⟨hf1, hf2⟩ := hf
      split at hk
      · rename_i kk ks' hu hks
        simp at hk; subst hk
        obtain ⟨k1, a, b, xs', ys', r', e2, e3, hr', rfl⟩ := eqAVs_int hr
        obtain ⟨g1, g2⟩ := cut e2
        obtain ⟨g3, g4⟩ := cut e3
        have l1 : k < us.length := by rw [lx]; exact (List.getElem?_eq_some_iff.1 g1).1
        have l2 : k < vs.length := by rw [ly]; exact (List.getElem?_eq_some_iff.1 g3).1
        have a1 := hx k _ _ g1 (List.getElem?_eq_getElem l1)
        have a2 := hy k _ _ g3 (List.getElem?_eq_getElem l2)
        generalize hq1 : us[k] = q1 at a1
        generalize hq2 : vs[k] = q2 at a2
        cases a1
        cases a2
        have pk : P.plainKey f.type = true := by simp [Program.plainKey, hu]
        have p1 := run_part_plain (w := w) pk (xs := us.toArray) (off := f.offset) (v := .int k1 a) (by rw [hf2, List.getElem?_toArray, List.getElem?_eq_getElem l1, hq1])
        have p2 := run_part_plain (w := w) pk (xs := vs.toArray) (off := f.offset) (v := .int k1 b) (by rw [hf2, List.getElem?_toArray, List.getElem?_eq_getElem l2, hq2])
        have ih := eqFields_run (d := d) hx hy lx ly fs (k + 1) ks' r' hks (by rw [g2, g4]; exact hr')
        simp only [Op.eqFields, if_pos hf1, Sem.run_bind, p1, p2, Result.andThen_ok, run_equalIn_int w d f.type k1 kk a b hu]
        cases hab : (a == b)
        · simp
        · simp [ih]
      · rename_i ks' hu hks
        simp at hk; subst hk
        obtain ⟨a, b, xs', ys', r', e2, e3, hr', rfl⟩ := eqAVs_bool hr
        obtain ⟨g1, g2⟩ := cut e2
        obtain ⟨g3, g4⟩ := cut e3
        have l1 : k < us.length := by rw [lx]; exact (List.getElem?_eq_some_iff.1 g1).1
        have l2 : k < vs.length := by rw [ly]; exact (List.getElem?_eq_some_iff.1 g3).1
        have a1 := hx k _ _ g1 (List.getElem?_eq_getElem l1)
        have a2 := hy k _ _ g3 (List.getElem?_eq_getElem l2)
        generalize hq1 : us[k] = q1 at a1
        generalize hq2 : vs[k] = q2 at a2
        cases a1
        cases a2
        have pk : P.plainKey f.type = true := by simp [Program.plainKey, hu]
        have p1 := run_part_plain (w := w) pk (xs := us.toArray) (off := f.offset) (v := .bool a) (by rw [hf2, List.getElem?_toArray, List.getElem?_eq_getElem l1, hq1])
        have p2 := run_part_plain (w := w) pk (xs := vs.toArray) (off := f.offset) (v := .bool b) (by rw [hf2, List.getElem?_toArray, List.getElem?_eq_getElem l2, hq2])
        have ih := eqFields_run (d := d) hx hy lx ly fs (k + 1) ks' r' hks (by rw [g2, g4]; exact hr')
        simp only [Op.eqFields, if_pos hf1, Sem.run_bind, p1, p2, Result.andThen_ok, run_equalIn_bool' w d f.type a b hu]
        cases hab : (a == b)
        · simp
        · simp [ih]
      · cases hk
    · cases hk
theorem oBin_ok {op : BinOp} {T : TypeId} {xo yo : Operand} {p q : AV} {x y : Value} (hp : AVR w Z L s p x) (hq : AVR w Z L s q y) {out : Out} (ho : oBin P op T p q = some out) (hc : out.c) :
    ∃ v, (do eqGuard op T xo yo x y; binOp op T x y : Sem Value).run P w = .ok v w ∧ AVR w Z L s out.dst v ∧ out.ups = [] := by
  unfold oBin at ho
  split at ho
  · rename_i xs ys
    split at ho
    · rename_i ks hks
      split at ho
      · rename_i r hr
        cases hp with
        | agg _ us lu hu =>
        cases hq with
        | agg _ vs lv hv =>
        unfold eqFlat at hks
        split at hks
        · rename_i fs hT
          split at hks
          · rename_i hgs
            obtain ⟨hg1, hg2⟩ := hgs
            have hT' : P.underlying T = some (.struct (P.fieldsOf T)) := by simp only [Program.fieldsOf, hT]
            have hfs : (P.fieldsOf T) = fs := by simp only [Program.fieldsOf, hT]
            have he : (Op.equalIn 10000 T (.agg us.toArray) (.agg vs.toArray)).run P w = .ok r w := by
              rw [run_equalIn_struct w 9999 T _ _ hT' hg2, hfs]
              exact eqFields_run hu hv lu lv fs.toList 0 ks r hks (by simpa using hr)
            split at ho
            · simp at ho; subst ho
              exact ⟨_, by rw [Sem.run_bind, run_eqGuard_agg w _ T xo yo _ _ hg1, Result.andThen_ok, run_eql_struct, he]; rfl, .v _, rfl⟩
            · simp at ho; subst ho
              exact ⟨_, by rw [Sem.run_bind, run_eqGuard_agg w _ T xo yo _ _ hg1, Result.andThen_ok, run_neq_struct, he]; rfl, .v _, rfl⟩
            · cases ho
          · cases hks
        · cases hks
      · cases ho
    · cases ho
  · split at ho
    · rename_i k a k' b hk
      subst hk
      cases hp
      cases hq
      cases op <;> simp at ho <;> subst ho <;> refine ⟨_, ?_, .v _, rfl⟩ <;>
        first
        | (simp_all [eqGuard, binOp, Op.intArith, Op.intCmp, Op.intDiv, Op.intBits, bits]; done)
        | (have hb : ¬ b < 0 := Int.not_lt.2 hc
           simp [eqGuard, binOp, Op.shift, hb])
    · cases ho
  · cases hp
    cases hq
    split at ho
    · rename_i hu
      simp at ho; subst ho
      exact ⟨_, by simp [eqGuard, binOp, run_equal_bool _ T _ _ hu], .v _, rfl⟩
    · rename_i hu
      simp at ho; subst ho
      exact ⟨_, by simp [eqGuard, binOp, run_equal_bool _ T _ _ hu], .v _, rfl⟩
    · cases ho
  · cases hp
    cases hq
    cases op <;> simp at ho <;> subst ho <;> refine ⟨_, ?_, .v _, rfl⟩ <;> simp [eqGuard, binOp, Op.stringOp]
  · cases ho
theorem oUn_ok {op : UnOp} {p : AV} {x : Value} (hp : AVR w Z L s p x) {out : Out} (ho : oUn op p = some out) :
    ∃ v, (Op.unary op x).run P w = .ok v w ∧ AVR w Z L s out.dst v ∧ out.ups = [] := by
  unfold oUn at ho
  split at ho
  · simp at ho; subst ho; cases hp; exact ⟨_, by simp [Op.unary], .v _, rfl⟩
  · simp at ho; subst ho; cases hp; exact ⟨_, by simp [Op.unary, Op.intArith], .v _, rfl⟩
  · cases ho
end
end Go.Proofs.Ytkfjaeoehhakpaa
