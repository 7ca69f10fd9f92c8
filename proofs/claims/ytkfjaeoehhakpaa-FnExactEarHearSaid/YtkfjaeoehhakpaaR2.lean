import Derived.Test.YtkfjaeoehhakpaaR1
import Derived.Laws.IdiomCopy
import Derived.Laws.AppendOwn
import Derived.Laws.MakeOwn
import Derived.Laws.Tables
set_option linter.unusedVariables false
set_option linter.unusedSimpArgs false
namespace Go.Proofs.Ytkfjaeoehhakpaa
open Go.RowKit
set_option linter.unusedSimpArgs false
section
variable {P : Program} {w : World} {Z : Nat → Prop} {L : Nat → Blk} {s : Nat → Value} {F : Nat → Prop} {W0 : Ent}
theorem up_self {α : Type} (f : Nat → α) (r : Nat) : up f r (f r) = f := by
  funext k
  by_cases h : k = r
  · subst h; exact up_same _ _ _
  · exact up_ne _ _ h
theorem AVR.isOne {a : AV} {x : Value} (h : AVR w Z L s a x) (ho : a.one = true) : x.oneCell' = true := by
  cases h with
  | any => cases ho
  | mute _ h => exact h
  | v x => exact ho
  | l _ _ _ h => exact h.one
  | own _ _ _ _ _ _ hx hn => obtain ⟨A, c, hA⟩ := hn; rw [hx, hA]; rfl
  | ownOff _ _ _ _ _ _ hx hn => obtain ⟨A, c, hA⟩ := hn; rw [hx, hA]; rfl
  | ownStill _ _ _ _ _ _ ho => exact ho
  | ownDead _ _ _ ho => exact ho
  | ownTr _ _ _ _ _ _ _ _ hx hn => obtain ⟨A, c, hA⟩ := hn; rw [hx, hA]; rfl
  | subTr _ _ _ _ _ _ _ _ _ _ _ _ _ _ _ hx => rw [hx]; rfl
  | subOff _ _ _ _ _ _ _ _ _ _ _ _ _ hx => rw [hx]; rfl
  | eptrTr _ _ _ _ _ _ _ _ _ _ _ _ _ _ _ hx => rw [hx]; rfl
  | eptrOff _ _ _ _ _ _ _ _ _ _ _ _ _ hx => rw [hx]; rfl
  | sub _ _ _ _ _ _ _ _ _ _ _ _ _ hx => rw [hx]; rfl
  | subStill _ _ _ _ _ _ _ _ _ hx => exact hx.one
  | subDead _ _ _ _ _ ho => exact ho
  | ptr _ _ _ _ _ _ _ _ hx => rw [hx]; rfl
  | ptrDead _ _ _ _ ho => exact ho
  | eptr _ _ _ _ _ _ _ _ _ _ _ _ _ hx => rw [hx]; rfl
  | eptrStill _ _ _ _ _ _ _ ho => exact ho
  | eptrDead _ _ _ _ _ ho => exact ho
  | rptr => rfl
  | agg => cases ho
  | tup => cases ho
theorem oneCell_cells {x : Value} (h : x.oneCell' = true) : x.cells = #[x] := by cases x <;> first | rfl | cases h
theorem AVR.cellsOf {a : AV} {x : Value} (h : AVR w Z L s a x) (ho : a.cells.all AV.one = true) :
    ∃ vs : List Value, x.cells = vs.toArray ∧ vs.length = a.cells.length ∧ ∀ (i : Nat) b y, a.cells[i]? = some b → vs[i]? = some y → AVR w Z L s b y ∧ y.oneCell' = true := by
  have single : a.cells = [a] → ∃ vs : List Value, x.cells = vs.toArray ∧ vs.length = a.cells.length ∧ ∀ (i : Nat) b y, a.cells[i]? = some b → vs[i]? = some y → AVR w Z L s b y ∧ y.oneCell' = true := by
    intro hc
    have h1 : a.one = true := by rw [hc] at ho; simpa using ho
    have h2 := h.isOne h1
    refine ⟨[x], oneCell_cells h2, by rw [hc]; rfl, fun i b y hb hy => ?_⟩
    rw [hc] at hb
    cases i with
    | zero => simp at hb hy; subst hb; subst hy; exact ⟨h, h2⟩
    | succ i => simp at hb
  cases h with
  | agg cs vs hl hcs =>
    refine ⟨vs, rfl, hl, fun i b y hb hy => ⟨hcs i b y hb hy, (hcs i b y hb hy).isOne ?_⟩⟩
    exact List.all_eq_true.1 ho b (List.mem_of_getElem? hb)
  | _ => exact single rfl
theorem oAlloc_ok (h : HR F W0 w L s Z) {T : TypeId} {q : Nat} (hq : L q = .none) {out : Out} (ho : oAlloc P T q = some out) :
    ∃ v w' s', (Instr.alloc T true (.tuple #[])).run P w = .ok v w' ∧ HR F W0 w' (ups L out.ups) s' Z ∧ Ext w Z L s w' Z (ups L out.ups) s' ∧ AVR w' Z (ups L out.ups) s' out.dst v := by
  unfold oAlloc at ho
  split at ho
  · rename_i z n b hinf
    split at ho
    · rename_i hone
      simp at ho; subst ho
      unfold inf at hinf
      cases hi : P.info? T with
      | none => simp [hi] at hinf
      | some i =>
        simp [hi] at hinf
        obtain ⟨hz, _, _⟩ := hinf
        obtain ⟨h1, h2, h3⟩ := h.newVar hq T (z.cells.toList.map .v) z.cells.toList (by simp) (fun j x y hx hy => by
          rw [List.getElem?_map, hy] at hx
          simp at hx; subst hx
          exact ⟨.v y, List.all_eq_true.1 hone y (List.mem_of_getElem? hy)⟩)
        refine ⟨_, _, _, ?_, h1, h2, h3⟩
        simp [Instr.alloc, zeroValue, typeInfo, hi, hz, newVar, newRow, newObj, Sem.run]
    · cases ho
  · cases ho
theorem oBox_ok (h : HR F W0 w L s Z) {T : TypeId} {q : Nat} (hq : L q = .none) {a : AV} {x : Value} (ha : AVR w Z L s a x) {out : Out} (ho : oBox T a q = some out) :
    ∃ v w' s', (Instr.box T x).run P w = .ok v w' ∧ HR F W0 w' (ups L out.ups) s' Z ∧ Ext w Z L s w' Z (ups L out.ups) s' ∧ AVR w' Z (ups L out.ups) s' out.dst v := by
  unfold oBox at ho
  split at ho
  · rename_i hone
    simp at ho; subst ho
    obtain ⟨vs, hv, hl, hc⟩ := ha.cellsOf (by simpa using hone)
    obtain ⟨h1, h2, h3⟩ := h.newVar hq T a.cells vs hl hc
    refine ⟨_, _, _, ?_, h1, h2, h3⟩
    simp [Instr.box, newVar, newRow, newObj, Sem.run, hv]
  · cases ho
theorem putAt_get {α : Type} {cs xs : List α} {off : Nat} (h : off + xs.length ≤ cs.length) (i : Nat) : (putAt cs off xs)[i]? = if off ≤ i ∧ i < off + xs.length then xs[i - off]? else cs[i]? := by
  unfold putAt
  have ht : (cs.take off).length = off := by rw [List.length_take]; omega
  by_cases h1 : i < off
  · rw [if_neg (by omega), List.append_assoc, List.getElem?_append_left (by omega), List.getElem?_take, if_pos h1]
  · by_cases h2 : i < off + xs.length
    · rw [if_pos (by omega), List.append_assoc, List.getElem?_append_right (by omega), ht, List.getElem?_append_left (by omega)]
    · rw [if_neg (by omega), List.getElem?_append_right (by rw [List.length_append]; omega), List.length_append, ht, List.getElem?_drop]
      congr 1
      omega
theorem putAt_len {α : Type} {cs xs : List α} {off : Nat} (h : off + xs.length ≤ cs.length) : (putAt cs off xs).length = cs.length := by
  unfold putAt
  simp
  omega
theorem storeAt_run {T : TypeId} {g o : Nat} {cur : Array Value} {T' : TypeId} {x : Value} {vs : List Value} (hg : w.heap[g]? = some (.cells cur T' (0, 0))) (hx : x.cells = vs.toArray) (hsz : vs.length = szOf P T) (h0 : 0 < vs.length) (hl : o + vs.length ≤ cur.size)
    (h1 : ∀ v ∈ vs, v.oneCell' = true) :
    (Instr.storeAt T (.pointer (some ⟨g, o, none⟩)) x).run P w = .ok () (w.setRow g (putAt cur.toList o vs).toArray) := by
  obtain ⟨i, hi, his⟩ := szOf_info (P := P) (t := T) rfl (by omega)
  have := run_storeCells_at (P := P) g o T' vs 0 cur w hg (by omega) h1
  simp only [Nat.add_zero] at this
  simp [Instr.storeAt, Instr.sureAddr, storeVar, sizeOf, typeInfo, hi, hx, hsz, his, this, putAt]
theorem oStore_var (h : HR F W0 w L s Z) {T T' : TypeId} {r off : Nat} {cs : List AV} (hL : L r = .var T' cs) {a p : AV} {x y : Value} (ha : AVR w Z L s a x) (hp : p = .ptr r off) (hpy : AVR w Z L s p y)
    (hn : a.cells.length = szOf P T) (h0 : 0 < a.cells.length) (hle : off + a.cells.length ≤ cs.length) (hone : a.cells.all AV.one = true) :
    ∃ w', (Instr.storeAt T y x).run P w = .ok () w' ∧ HR F W0 w' (up L r (.var T' (putAt cs off a.cells))) s Z ∧ Ext w Z L s w' Z (up L r (.var T' (putAt cs off a.cells))) s := by
  subst hp
  have hb := h.blk r
  rw [hL] at hb
  obtain ⟨g, vs, hs, hg, hl, hcs⟩ := hb
  obtain rfl : y = .pointer (some ⟨g, off, none⟩) := by
    cases hpy with
    | ptr _ _ _ _ _ _ g' hs' hx => rw [hs] at hs'; cases hs'; exact hx
    | ptrDead _ _ _ hd _ => rw [hL] at hd; cases hd
  obtain ⟨us, hx, hul, hcu⟩ := ha.cellsOf hone
  have huone : ∀ v ∈ us, v.oneCell' = true := fun v hv => by
    obtain ⟨i, hi, hiv⟩ := List.mem_iff_getElem.1 hv
    exact (hcu i _ v (List.getElem?_eq_getElem (show i < a.cells.length by omega)) (by rw [List.getElem?_eq_getElem hi, hiv])).2
  have hrun := storeAt_run (P := P) (T := T) hg hx (by omega) (by omega) (o := off) (by simp; omega) huone
  have hlive : (L r).live := by rw [hL]; trivial
  have hE : Ext w Z L s (w.setRow g (putAt vs off us).toArray) Z (up L r (.var T' (putAt cs off a.cells))) (up s r (s r)) := by
    refine Ext.of1 (fun _ h => h) (fun b hb => setRow_other w g b _ fun e => h.nz r g hlive (by rw [hs]; rfl) (e ▸ hb)) (.var T' cs _ hL rfl rfl) (fun _ _ _ h2 => by cases h2)
  refine ⟨_, by simpa using hrun, ?_, ?_⟩
  · have key := h.of r (.var T' (putAt cs off a.cells)) (s r) hE rfl rfl rfl (by simp) (fun b _ hne => setRow_other w g b _ (hne g hlive (by rw [hs]; rfl))) ?_ (fun _ g' hg' => .inr ⟨hlive, hg'⟩) (fun b hb => .inl hb)
    · rw [up_self] at key; exact key
    · refine ⟨g, putAt vs off us, hs, setRow_heap w g _ _ _ _ hg, by rw [putAt_len (by omega), putAt_len (by omega), hl], fun i b c hb hc => ?_⟩
      rw [putAt_get (by omega)] at hb hc
      rw [hul] at hc
      split at hb
      · rename_i hin
        rw [if_pos hin] at hc
        exact ⟨(hcu _ b c hb hc).1.mono hE, (hcu _ b c hb hc).2⟩
      · rename_i hout
        rw [if_neg hout] at hc
        exact ⟨(hcs i b c hb hc).1.mono hE, (hcs i b c hb hc).2⟩
  · rw [up_self] at hE; exact hE
theorem InX.of {ex : Nat → Nat → Bool} {e : TypeId} {sz : Nat} {cols : List TK} {rows : List (List D)} {v : Value} {g : Nat} (h : InF w (.sl e sz cols) (.l sz rows) v g) : InX w (fun _ _ => false) sz cols rows v g := by
  cases h with
  | here _ _ _ _ _ _ h => exact .inl h
  | down _ _ _ _ _ i j d k u g hd hk hu h => exact .inr ⟨i, j, d, k, u, rfl, hd, hk, hu, h⟩
theorem Own.rep {k : TK} {d : D} {v : Value} (h : Own w k d v) {Z : Nat → Prop} : (∀ g, InF w k d v g → Z g) → Rep w Z d v := by
  induction h with
  | cell x h => intro _; exact .v x h
  | sl e sz cols rows v xs u h0 hc hr ho hu hk h1 h2 ih =>
    intro hz
    rcases ho.2 with ⟨q1, q2⟩ | ⟨g, o, cap, cur, q1, _, q3, q4, _⟩
    · have : rows = [] := List.eq_nil_of_length_eq_zero q2
      rw [q1, this]; exact .e _ _ _
    · have hcell : ∀ i j d, rowAt rows i j = some d → cellOf w v (i * sz + j) = some (u i j) := fun i j d hd => own_cell ho (hu i j d hd)
      have := Rep.l (w := w) (Z := Z) sz rows g o rows.length cap u rfl q4 hr (hz g (.here _ _ _ _ _ _ (by rw [q1]; rfl))) (fun i j d hd => by
          have := hcell i j d hd
          rw [q1] at this
          exact this) (fun i j d hd => by
          have hj : j < cols.length := by
            rw [hc]
            unfold rowAt at hd
            cases hrow : rows[i]? with
            | none => simp [hrow] at hd
            | some row =>
              simp [hrow] at hd
              rw [← hr row (List.mem_of_getElem? hrow)]
              exact (List.getElem?_eq_some_iff.1 hd).1
          have hk' := List.getElem?_eq_getElem hj
          exact ih i j d _ hd hk' fun g hg => hz g (.down _ _ _ _ _ i j d _ _ g hd hk' (hcell i j d hd) hg))
      rw [← q1] at this
      exact this
theorem Tree.own {e : TypeId} {sz : Nat} {cols : List TK} {rows : List (List D)} {v : Value} {xs : List Value} {u : Nat → Nat → Value} {ex : Nat → Nat → Bool} (hex : ∀ i j, ex i j = false) (h : Tree w ex e sz cols rows v xs u) : Own w (.sl e sz cols) (.l sz rows) v :=
  .sl e sz cols rows v xs u h.h0 h.hc h.hr h.ho h.hu (fun i j d k => h.hk i j d k (hex i j)) (fun i j d k g => h.h1 i j d k g (hex i j)) (fun i j d k i' j' d' k' g => h.h2 i j d k i' j' d' k' g (hex i j) (hex i' j'))
theorem HR.freeze (h : HR F W0 w L s Z) {r : Nat} {e : TypeId} {sz : Nat} {rows : List (List D)} (hL : L r = .sl e sz rows) :
    ∃ Z', HR F W0 w (up L r (.still sz rows)) s Z' ∧ Ext w Z L s w Z' (up L r (.still sz rows)) s := by
  have hlive : (L r).live := by rw [hL]; trivial
  have hb := h.blk r
  rw [hL] at hb
  obtain ⟨hsz, xs, hown, h1, h2, h3⟩ := hb.rows
  have hrep : Rep w (fun b => Z b ∨ vblk (s r) = some b) (.l sz rows) (s r) := by
    rcases hown.2 with ⟨q1, q2⟩ | ⟨g, o, cap, cur, q1, _, q3, q4, _⟩
    · have : rows = [] := List.eq_nil_of_length_eq_zero q2
      rw [q1, this]; exact .e _ _ _
    · have hx : ∀ i j d, rowAt rows i j = some d → (xs.getD (i * sz + j) undef) = (xs.getD (i * sz + j) undef) ∧ ∃ u, xs[i * sz + j]? = some u ∧ Rep w Z d u := fun i j d hd => ⟨rfl, h3 i j d hd⟩
      have := Rep.l (w := w) (Z := fun b => Z b ∨ vblk (s r) = some b) sz rows g o rows.length cap (fun i j => xs.getD (i * sz + j) undef) rfl q4 h1 (.inr (by rw [q1]; rfl)) (fun i j d hd => by
          obtain ⟨u, hu, _⟩ := h3 i j d hd
          rw [owns_cells hown q1 _ u hu]
          simp [List.getD, hu]) (fun i j d hd => by
          obtain ⟨u, hu, hr⟩ := h3 i j d hd
          simp [List.getD, hu]
          exact hr.mono (fun _ h => .inl h) (fun _ _ => rfl))
      rw [← q1] at this
      exact this
  have hE : Ext w Z L s w (fun b => Z b ∨ vblk (s r) = some b) (up L r (.still sz rows)) (up s r (s r)) := by
    refine Ext.of1 (fun _ h => .inl h) (fun _ _ => rfl) (.freeze e sz rows rows hL rfl rfl rfl) (fun sz2 rows2 h1 h2 => by cases h2; exact hrep)
  refine ⟨_, ?_, by rw [up_self] at hE; exact hE⟩
  have key := h.of r (.still sz rows) (s r) hE rfl rfl rfl (Nat.le_refl _) (fun _ _ _ => rfl) hrep (fun hl => hl.elim) (fun b hb => hb.elim .inl fun hb => .inr (.inr ⟨fun h => h, hlive, hb⟩))
  rw [up_self] at key; exact key
theorem HR.freezeT (h : HR F W0 w L s Z) {r : Nat} {e : TypeId} {sz : Nat} {cols : List TK} {rows : List (List D)} (hL : L r = .tr .whole e sz cols rows) :
    ∃ Z', HR F W0 w (up L r (.still sz rows)) s Z' ∧ Ext w Z L s w Z' (up L r (.still sz rows)) s := by
  have hlive : (L r).live := by rw [hL]; trivial
  have hb := h.blk r
  rw [hL] at hb
  obtain ⟨xs, u, hT, -⟩ := hb
  have hrep : Rep w (fun b => Z b ∨ Fp w (L r) (s r) b) (.l sz rows) (s r) := by
    refine (hT.own fun _ _ => rfl).rep fun g hg => .inr ?_
    rw [hL]
    exact InX.of (ex := fun _ _ => false) hg
  have hE : Ext w Z L s w (fun b => Z b ∨ Fp w (L r) (s r) b) (up L r (.still sz rows)) (up s r (s r)) := by
    refine Ext.of1 (fun _ h => .inl h) (fun _ _ => rfl) (.tr .whole e sz cols rows rows hL (.inr rfl) rfl rfl) (fun sz2 rows2 h1 h2 => by cases h2; exact hrep)
  refine ⟨_, ?_, by rw [up_self] at hE; exact hE⟩
  have key := h.ofT r (.still sz rows) (s r) hE rfl rfl rfl (Nat.le_refl _) (fun _ _ _ => rfl) hrep (fun hl => hl.elim) (fun b hb => hb.elim .inl fun hb => .inr (.inr ⟨fun h => h, hlive, hb⟩))
  rw [up_self] at key; exact key
theorem HR.freezeO (h : HR F W0 w L s Z) {r : Nat} {e : TypeId} {sz : Nat} {rows : List (List D)} (hL : L r = .off e sz rows) :
    ∃ Z', HR F W0 w (up L r (.still sz rows)) s Z' ∧ Ext w Z L s w Z' (up L r (.still sz rows)) s := by
  have hlive : (L r).live := by rw [hL]; trivial
  have hb := h.blk r
  rw [hL] at hb
  obtain ⟨hsz, xs, hown, h1, h2, h3⟩ := hb.offRows
  have hrep : Rep w (fun b => Z b ∨ vblk (s r) = some b) (.l sz rows) (s r) := by
    rcases hown.2 with ⟨q1, q2⟩ | ⟨g, o, cap, cur, q1, _, q3, q4, _⟩
    · have : rows = [] := List.eq_nil_of_length_eq_zero q2
      rw [q1, this]; exact .e _ _ _
    · have := Rep.l (w := w) (Z := fun b => Z b ∨ vblk (s r) = some b) sz rows g o rows.length cap (fun i j => xs.getD (i * sz + j) undef) rfl q4 h1 (.inr (by rw [q1]; rfl)) (fun i j d hd => by
          obtain ⟨u, hu, _⟩ := h3 i j d hd
          rw [owns_cells hown q1 _ u hu]
          simp [List.getD, hu]) (fun i j d hd => by
          obtain ⟨u, hu, hr⟩ := h3 i j d hd
          simp [List.getD, hu]
          exact hr.mono (fun _ h => .inl h) (fun _ _ => rfl))
      rw [← q1] at this
      exact this
  have hE : Ext w Z L s w (fun b => Z b ∨ vblk (s r) = some b) (up L r (.still sz rows)) (up s r (s r)) := by
    refine Ext.of1 (fun _ h => .inl h) (fun _ _ => rfl) (.off e sz rows hL (.inr rfl) rfl) (fun sz2 rows2 h1 h2 => by cases h2; exact hrep)
  refine ⟨_, ?_, by rw [up_self] at hE; exact hE⟩
  have key := h.of r (.still sz rows) (s r) hE rfl rfl rfl (Nat.le_refl _) (fun _ _ _ => rfl) hrep (fun hl => hl.elim) (fun b hb => hb.elim .inl fun hb => .inr (.inr ⟨fun h => h, hlive, hb⟩))
  rw [up_self] at key; exact key
theorem HR.freezeB (h : HR F W0 w L s Z) {r : Nat} {sz : Nat} {rows : List (List D)} (hL : slB (L r) = some (sz, rows)) :
    ∃ Z', HR F W0 w (up L r (.still sz rows)) s Z' ∧ Ext w Z L s w Z' (up L r (.still sz rows)) s := by
  unfold slB at hL
  split at hL
  · rename_i h1; cases hL; exact h.freeze h1
  · rename_i h1; cases hL; exact h.freezeT h1
  · rename_i h1; cases hL; exact h.freezeO h1
  · cases hL
end
end Go.Proofs.Ytkfjaeoehhakpaa
namespace Go.Proofs.Ytkfjaeoehhakpaa
open Go.RowKit
section
variable {P : Program} {w : World} {Z : Nat → Prop} {L : Nat → Blk} {s : Nat → Value} {F : Nat → Prop} {W0 : Ent}
theorem ups_append (L : Nat → Blk) (a b : List (Nat × Blk)) : ups L (a ++ b) = ups (ups L a) b := by
  induction a generalizing L with
  | nil => rfl
  | cons p a ih => exact ih _
def Froze (L0 L : Nat → Blk) : Prop := ∀ r, L r = L0 r ∨ ∃ sz rows, slB (L0 r) = some (sz, rows) ∧ L r = .still sz rows
theorem HR.frz1 (h : HR F W0 w L s Z) {L0 : Nat → Blk} (hF : Froze L0 L) {r : Nat} {sz : Nat} {rows : List (List D)} (h0 : slB (L0 r) = some (sz, rows)) :
    ∃ Z', HR F W0 w (up L r (.still sz rows)) s Z' ∧ Ext w Z L s w Z' (up L r (.still sz rows)) s ∧ Froze L0 (up L r (.still sz rows)) := by
  have hF' : Froze L0 (up L r (.still sz rows)) := fun k => by
    by_cases hk : k = r
    · subst hk; exact .inr ⟨sz, rows, h0, up_same _ _ _⟩
    · rw [up_ne _ _ hk]; exact hF k
  rcases hF r with h1 | ⟨sz', rows', h1, h2⟩
  · obtain ⟨Z', a, b⟩ := h.freezeB (r := r) (by rw [h1]; exact h0)
    exact ⟨Z', a, b, hF'⟩
  · rw [h0] at h1; cases h1
    rw [show up L r (.still sz rows) = L by rw [← h2]; exact up_self _ _] at hF' ⊢
    exact ⟨Z, h, Ext.refl _ _ _ _, hF'⟩
theorem HR.frz {L0 : Nat → Blk} (xs : List AV) : ∀ {L : Nat → Blk} {Z : Nat → Prop}, HR F W0 w L s Z → Froze L0 L →
    ∃ Z', HR F W0 w (ups L (frz L0 xs)) s Z' ∧ Ext w Z L s w Z' (ups L (frz L0 xs)) s ∧ Froze L0 (ups L (frz L0 xs)) := by
  induction xs with
  | nil => intro L Z h hF; exact ⟨Z, h, Ext.refl _ _ _ _, hF⟩
  | cons x xs ih =>
    intro L Z h hF
    have go : ∀ r sz rows, slB (L0 r) = some (sz, rows) → ∃ Z', HR F W0 w (ups L ((r, .still sz rows) :: Proofs.Ytkfjaeoehhakpaa.frz L0 xs)) s Z' ∧ Ext w Z L s w Z' (ups L ((r, .still sz rows) :: Proofs.Ytkfjaeoehhakpaa.frz L0 xs)) s ∧ Froze L0 (ups L ((r, .still sz rows) :: Proofs.Ytkfjaeoehhakpaa.frz L0 xs)) := by
      intro r sz rows h0
      obtain ⟨Z1, a, b, c⟩ := h.frz1 hF h0
      obtain ⟨Z2, a2, b2, c2⟩ := ih a c
      exact ⟨Z2, a2, b.trans b2, c2⟩
    cases x with
    | own r =>
      simp only [Proofs.Ytkfjaeoehhakpaa.frz]
      split
      · rename_i sz rows h0; exact go r sz rows h0
      · exact ih h hF
    | sub r lo hi =>
      simp only [Proofs.Ytkfjaeoehhakpaa.frz]
      split
      · rename_i sz rows h0; exact go r sz rows h0
      · exact ih h hF
    | _ => exact ih h hF
theorem dk_ok (h : HR F W0 w L s Z) {k : CK} {x : AV} {y : Value} (hx : AVR w Z L s x y) (ho : x.one = true) {d : D} (hd : dk L k x = some d) : Rep w Z d y := by
  have own : ∀ r sz rows, L r = .still sz rows → x = .own r → Rep w Z (.l sz rows) y := by
    intro r sz rows hL e
    subst e
    have hb := h.blk r
    rw [hL] at hb
    cases hx with
    | own _ _ _ _ _ hd _ _ => rw [hL] at hd; cases hd
    | ownStill _ _ _ _ _ hx _ => rw [hx]; exact hb
    | ownDead _ _ hd _ => rw [hL] at hd; cases hd
    | ownOff _ _ _ _ _ hd _ _ => rw [hL] at hd; cases hd
    | ownTr _ _ _ _ _ _ _ hd => rw [hL] at hd; cases hd
  have sub : ∀ r lo hi sz rows, L r = .still sz rows → x = .sub r lo hi → Rep w Z (.l sz ((rows.take hi).drop lo)) y := by
    intro r lo hi sz rows hL e
    subst e
    cases hx with
    | sub _ _ _ _ _ _ _ hd => rw [hL] at hd; cases hd
    | subDead _ _ _ _ hd => rw [hL] at hd; cases hd
    | subTr _ _ _ _ _ _ _ _ _ hd => rw [hL] at hd; cases hd
    | subOff _ _ _ _ _ _ _ hd => rw [hL] at hd; cases hd
    | subStill _ _ _ _ _ _ hL' _ _ hx => rw [hL] at hL'; cases hL'; exact hx
  unfold dk at hd
  split at hd
  · split at hd
    · rename_i hnil; simp at hd; subst hd; cases hx; rw [nilV_eq hnil]; exact .e _ _ _
    · cases hd
  · simp at hd; subst hd; cases hx; exact .v _ ho
  · simp at hd; subst hd; cases hx with | l _ _ _ h => exact h
  · split at hd
    · rename_i hL; simp at hd; subst hd; exact own _ _ _ hL rfl
    · cases hd
  · split at hd
    · rename_i hL; simp at hd; subst hd; exact sub _ _ _ _ _ hL rfl
    · cases hd
  · cases hd
theorem dks_ok (h : HR F W0 w L s Z) {ks : List CK} {xs : List AV} {ds : List D} (hd : dks L ks xs = some ds) {ys : List Value} (hl : ys.length = xs.length)
    (hx : ∀ (i : Nat) x y, xs[i]? = some x → ys[i]? = some y → AVR w Z L s x y ∧ y.oneCell' = true) (hone : xs.all AV.one = true) :
    ds.length = xs.length ∧ ∀ (i : Nat) d, ds[i]? = some d → ∃ y, ys[i]? = some y ∧ Rep w Z d y := by
  induction ks generalizing xs ds ys with
  | nil =>
    cases xs with
    | nil => simp [dks] at hd; subst hd; exact ⟨rfl, fun i d h => by simp at h⟩
    | cons x xs => simp [dks] at hd
  | cons k ks ih =>
    cases xs with
    | nil => simp [dks] at hd
    | cons x xs =>
      cases ys with
      | nil => simp at hl
      | cons y ys =>
        simp only [dks] at hd
        split at hd
        · rename_i d ds' h1 h2
          simp at hd; subst hd
          simp only [List.all_cons, Bool.and_eq_true] at hone
          obtain ⟨l1, l2⟩ := ih h2 (ys := ys) (by simpa using hl) (fun i a b ha hb => hx (i + 1) a b (by simpa using ha) (by simpa using hb)) hone.2
          refine ⟨by simp [l1], fun i dd hi => ?_⟩
          cases i with
          | zero => simp at hi; subst hi; exact ⟨y, rfl, dk_ok h (hx 0 x y rfl rfl).1 hone.1 h1⟩
          | succ i => obtain ⟨u, hu, hr⟩ := l2 i dd (by simpa using hi); exact ⟨u, by simpa using hu, hr⟩
        · cases hd
theorem row_apart {i i' j j' sz m : Nat} (hi : i' ≠ i) (hj : j' < sz) (hm : j + m ≤ sz) : ¬ (i * sz + j ≤ i' * sz + j' ∧ i' * sz + j' < i * sz + j + m) := by
  rintro ⟨h1, h2⟩
  rcases Nat.lt_or_ge i' i with h | h
  · have := Nat.mul_le_mul_right sz (show i' + 1 ≤ i from h)
    rw [Nat.succ_mul] at this
    omega
  · have := Nat.mul_le_mul_right sz (show i + 1 ≤ i' by omega)
    rw [Nat.succ_mul] at this
    omega
theorem RowsR.put {sz : Nat} {rows : List (List D)} {xs : List Value} (h : RowsR w Z sz rows xs) {i j : Nat} (hi : i < rows.length) {ds : List D} {us : List Value} (hl : us.length = ds.length) (hj : j + ds.length ≤ sz)
    (hd : ∀ (k : Nat) d, ds[k]? = some d → ∃ u, us[k]? = some u ∧ Rep w Z d u) : RowsR w Z sz (rows.set i (putAt (rows.getD i []) j ds)) (putAt xs (i * sz + j) us) := by
  obtain ⟨h1, h2, h3⟩ := h
  have hrow : (rows.getD i []).length = sz := by
    simp only [List.getD, List.getElem?_eq_getElem hi, Option.getD_some]
    exact h1 _ (List.getElem_mem hi)
  have hfit : i * sz + j + us.length ≤ xs.length := by
    have := Nat.mul_le_mul_right sz (show i + 1 ≤ rows.length from hi)
    rw [Nat.succ_mul] at this
    omega
  refine ⟨fun r hr => ?_, by rw [putAt_len hfit, List.length_set, h2], fun i' j' d hdd => ?_⟩
  · rcases List.mem_or_eq_of_mem_set hr with hr | rfl
    · exact h1 r hr
    · rw [putAt_len (by omega), hrow]
  · unfold rowAt at hdd
    rw [putAt_get hfit]
    by_cases e : i' = i
    · subst e
      rw [List.getElem?_set_self hi] at hdd
      simp only [Option.bind_some] at hdd
      rw [putAt_get (by omega)] at hdd
      split at hdd
      · rename_i hin
        rw [if_pos (by omega)]
        obtain ⟨u, hu, hr⟩ := hd _ d hdd
        exact ⟨u, by rw [← hu]; congr 1; omega, hr⟩
      · rename_i hout
        rw [if_neg (by omega)]
        refine h3 i' j' d ?_
        unfold rowAt
        rw [List.getElem?_eq_getElem hi]
        simpa [List.getD, List.getElem?_eq_getElem hi] using hdd
    · rw [List.getElem?_set_ne (fun h => e h.symm)] at hdd
      have hj' : j' < sz := by
        cases hr : rows[i']? with
        | none => simp [hr] at hdd
        | some r =>
          simp [hr] at hdd
          have := (List.getElem?_eq_some_iff.1 hdd).1
          rw [h1 r (List.mem_of_getElem? hr)] at this
          exact this
      rw [if_neg (by rw [hl]; exact row_apart e hj' hj)]
      exact h3 i' j' d hdd
theorem drop_putAt {α : Type} {cs xs : List α} {o k : Nat} (h : o + k + xs.length ≤ cs.length) : (putAt cs (o + k) xs).drop o = putAt (cs.drop o) k xs := by
  apply List.ext_getElem?
  intro i
  rw [List.getElem?_drop, putAt_get (by omega), putAt_get (by rw [List.length_drop]; omega), List.getElem?_drop]
  by_cases hi : k ≤ i ∧ i < k + xs.length
  · rw [if_pos hi, if_pos (by omega)]
    congr 1
    omega
  · rw [if_neg hi, if_neg (by omega)]
theorem take_putAt {α : Type} {cs xs : List α} {off n : Nat} (h : off + xs.length ≤ n) (hn : n ≤ cs.length) : (putAt cs off xs).take n = putAt (cs.take n) off xs := by
  apply List.ext_getElem?
  intro i
  rw [List.getElem?_take, putAt_get (by omega), putAt_get (by rw [List.length_take]; omega), List.getElem?_take]
  by_cases hi : i < n
  · simp only [hi, if_true]
  · simp only [hi, if_false]
    rw [if_neg (by omega)]
theorem ownsAt_put {w : World} {e : TypeId} {sz n : Nat} {v : Value} {xs : List Value} (h : ownsAt w e sz v n xs) {g o n' c : Nat} (hv : v = .slice (some ⟨g, o, none⟩) n' c) {cur : Array Value} {T : TypeId} (hg : w.heap[g]? = some (.cells cur T (0, 0)))
    {k : Nat} {us : List Value} (hk : k + us.length ≤ n * sz) : ownsAt (w.setRow g (putAt cur.toList (o + k) us).toArray) e sz v n (putAt xs k us) ∧ o + k + us.length ≤ cur.size := by
  rcases h.2 with ⟨q1, q2⟩ | ⟨g', o', cap, cur', q1, q2, q3, q4, q5, q6, q7⟩
  · rw [hv] at q1; cases q1
  · rw [hv] at q1
    cases q1
    rw [hg] at q3
    cases q3
    have hm := Nat.mul_le_mul_right sz q4
    have hsz : o + k + us.length ≤ cur.size := by omega
    have hcl : cur.toList.length = cur.size := Array.length_toList
    refine ⟨⟨by rw [putAt_len (by rw [h.1]; exact hk), h.1], .inr ⟨g, o, _, _, hv, q2, setRow_heap w g _ _ _ _ hg, q4, q5, ?_, ?_⟩⟩, hsz⟩
    · rw [List.size_toArray, putAt_len (by omega), hcl]; exact q6
    · show ((putAt cur.toList (o + k) us).drop o).take (n * sz) = _
      rw [drop_putAt (by omega), take_putAt hk (by rw [List.length_drop]; omega), q7]
theorem ownsAt_room {w : World} {e : TypeId} {sz n : Nat} {us vs : List Value} (hl : us.length = n * sz) {g o cap m : Nat} {cur : Array Value} (q3 : w.heap[g]? = some (.cells cur e (0, 0))) (q4 : n ≤ cap) (q5 : cap ≤ maxLen) (q6 : o + cap * sz ≤ cur.size) (q7 : (cur.toList.drop o).take (n * sz) = us)
    (hvl : vs.length = m * sz) (hroom : n + m ≤ cap) : ownsAt (w.setRow g (cur.toList.take (o + n * sz) ++ vs ++ cur.toList.drop (o + n * sz + vs.length)).toArray) e sz (.slice (some ⟨g, o, none⟩) (n + m) cap) (n + m) (us ++ vs) := by
  have hlen : (us ++ vs).length = (n + m) * sz := by rw [List.length_append, hl, hvl, Nat.add_mul]
  have hcl : cur.toList.length = cur.size := Array.length_toList
  have hmc : n * sz + m * sz ≤ cap * sz := by rw [← Nat.add_mul]; exact Nat.mul_le_mul_right _ hroom
  refine ⟨hlen, .inr ⟨g, o, cap, _, rfl, Nat.zero_le _, setRow_heap w g cur _ e _ q3, hroom, q5, ?_, ?_⟩⟩
  · simp only [List.size_toArray, List.length_append, List.length_take, List.length_drop, Array.length_toList]
    omega
  · show ((cur.toList.take (o + n * sz) ++ vs ++ cur.toList.drop (o + n * sz + vs.length)).drop o).take ((n + m) * sz) = _
    rw [List.append_assoc, List.drop_append_of_le_length (by rw [List.length_take]; omega), List.drop_take, Nat.add_sub_cancel_left, q7, ← List.append_assoc, ← hlen]
    exact List.take_left
theorem ownsAt_drop {w : World} {e : TypeId} {sz n g o C : Nat} {us : List Value} (h : ownsAt w e sz (.slice (some ⟨g, o, none⟩) n C) n us) {lo m c o' : Nat} (hn : n = lo + m) (hc : m ≤ c) (hC : lo + c ≤ C) (ho : 0 < c → o' = o + lo * sz) (ho2 : o' ≤ o + lo * sz) :
    ownsAt w e sz (.slice (some ⟨g, o', none⟩) m c) m (us.drop (lo * sz)) := by
  rcases h.2 with ⟨q1, q2⟩ | ⟨g', o1, cap, cur, q1, q2, q3, q4, q5, q6, q7⟩
  · cases q1
  · cases q1
    have hm : lo * sz + c * sz ≤ C * sz := by rw [← Nat.add_mul]; exact Nat.mul_le_mul_right _ hC
    have hnm : n * sz = lo * sz + m * sz := by rw [hn, Nat.add_mul]
    refine ⟨by rw [List.length_drop, h.1]; omega, .inr ⟨g, o', c, cur, rfl, Nat.zero_le _, q3, hc, by omega, ?_, ?_⟩⟩
    · rcases Nat.eq_zero_or_pos c with h0 | h0
      · subst h0; rw [Nat.zero_mul]; omega
      · rw [ho h0]; omega
    · rcases Nat.eq_zero_or_pos c with h0 | h0
      · have : m = 0 := by omega
        subst this
        rw [Nat.zero_mul, List.take_zero, List.drop_of_length_le (by rw [h.1]; omega)]
      · rw [ho h0, ← q7, hnm, List.drop_take, List.drop_drop, Nat.add_sub_cancel_left]
theorem oStore_ok (h : HR F W0 w L s Z) {T : TypeId} {a p : AV} {x y : Value} (ha : AVR w Z L s a x) (hp : AVR w Z L s p y) {out : Out} (ho : oStore P L T a p = some out) (hc : out.c) (h0 : 0 < szOf P T) :
    ∃ w' Z', (Instr.storeAt T y x).run P w = .ok () w' ∧ HR F W0 w' (ups L out.ups) s Z' ∧ Ext w Z L s w' Z' (ups L out.ups) s ∧ out.dst = .v undef := by
  unfold oStore at ho
  split at ho
  · rename_i r off
    split at ho
    · rename_i T' cs hL
      split at ho
      · rename_i hh
        simp at ho; subst ho
        obtain ⟨w', h1, h2, h3⟩ := oStore_var h (T := T) hL ha rfl hp hh.1 (by omega) hh.2.1 hh.2.2
        exact ⟨w', Z, h1, h2, h3, rfl⟩
      · cases ho
    · cases ho
  · rename_i r i j
    split at ho
    · rename_i e sz rows hL1
      split at ho
      · rename_i ds hds
        split at ho
        · rename_i hh
          obtain ⟨hn, hj, hone⟩ := hh
          have ho := Option.some.inj ho
          subst ho
          obtain ⟨Z1, H1, E1, -⟩ := h.frz (L0 := L) a.cells (fun r => .inl rfl)
          have hp1 := hp.mono E1
          obtain ⟨us, hx, hul, hcu⟩ := ha.cellsOf hone
          have hcu1 : ∀ (i : Nat) b y, a.cells[i]? = some b → us[i]? = some y → AVR w Z1 (ups L (frz L a.cells)) s b y ∧ y.oneCell' = true := fun i b y h1 h2 => ⟨(hcu i b y h1 h2).1.mono E1, (hcu i b y h1 h2).2⟩
          obtain ⟨hdl, hdr⟩ := dks_ok H1 hds hul hcu1 hone
          have huone : ∀ v ∈ us, v.oneCell' = true := fun v hv => by
            obtain ⟨i, hi, hiv⟩ := List.mem_iff_getElem.1 hv
            exact (hcu i _ v (List.getElem?_eq_getElem (show i < a.cells.length by omega)) (by rw [List.getElem?_eq_getElem hi, hiv])).2
          have hb := H1.blk r
          rw [hL1] at hb
          obtain ⟨hsz, xs, hown, hrows⟩ := hb.rows
          cases hp1 with
          | eptrDead _ _ _ _ hd _ => rw [hL1] at hd; cases hd
          | eptrTr _ _ _ _ _ _ _ _ _ hd => rw [hL1] at hd; cases hd
          | eptrOff _ _ _ _ _ _ _ hd => rw [hL1] at hd; cases hd
          | eptrStill _ _ _ _ _ _ hd _ => rw [hL1] at hd; cases hd
          | eptr _ _ _ _ e' sz' rows' hL' g o n c hs hy =>
            rw [hL1] at hL'; cases hL'
            subst hy
            have hc' : i < rows.length := hc
            rcases hown.2 with ⟨q1, _⟩ | ⟨g', o', cap, cur, q1, q2, q3, q4, q5, q6, q7⟩
            · rw [hs] at q1; cases q1
            · obtain ⟨rfl, rfl⟩ : g' = g ∧ o' = o := by rw [hs] at q1; cases q1; exact ⟨rfl, rfl⟩
              have hfit : i * sz + j + us.length ≤ rows.length * sz := by
                have := Nat.mul_le_mul_right sz (show i + 1 ≤ rows.length from hc')
                rw [Nat.succ_mul] at this
                omega
              obtain ⟨hput2, hroom⟩ := ownsAt_put hown q1 q3 (k := i * sz + j) (us := us) hfit
              have hrun := storeAt_run (P := P) (T := T) q3 hx (by omega) (by omega) (o := o' + (i * sz + j)) (by omega) huone
              have hlive : (ups L (frz L a.cells) r).live := by rw [hL1]; trivial
              have hvb : vblk (s r) = some g' := by rw [hs]; rfl
              have hE : Ext w Z1 (ups L (frz L a.cells)) s (w.setRow g' (putAt cur.toList (o' + (i * sz + j)) us).toArray) Z1 (up (ups L (frz L a.cells)) r (.sl e sz (rows.set i (putAt (rows.getD i []) j ds)))) (up s r (s r)) := by
                refine Ext.of1 (fun _ h => h) (fun b hb => setRow_other w g' b _ fun e => H1.nz r g' hlive hvb (e ▸ hb)) (.sl e sz rows _ hL1 rfl (by simp) rfl) (fun _ _ _ h2 => by cases h2)
              have key := H1.of r (.sl e sz (rows.set i (putAt (rows.getD i []) j ds))) (s r) hE rfl rfl rfl (by simp) (fun b _ hne => setRow_other w g' b _ (hne g' hlive hvb)) ?_ (fun _ g2 hg2 => .inr ⟨hlive, hg2⟩) (fun b hb => .inl hb)
              · rw [up_self] at key hE
                refine ⟨_, Z1, hrun, ?_, ?_, rfl⟩
                · rw [ups_append]; exact key
                · rw [ups_append]; exact E1.trans hE
              · have hput := hrows.put (i := i) (j := j) hc' (ds := ds) (us := us) (by omega) hj hdr
                refine BlkR.of_rows hsz (xs := putAt xs (i * sz + j) us) ?_ (hput.mono hE.z hE.w)
                rw [List.length_set]
                exact hput2
        · cases ho
      · cases ho
    · cases ho
  · cases ho
end
end Go.Proofs.Ytkfjaeoehhakpaa
namespace Go.Proofs.Ytkfjaeoehhakpaa
open Go.RowKit
section
variable {P : Program} {w : World} {Z : Nat → Prop} {L : Nat → Blk} {s : Nat → Value} {F : Nat → Prop} {W0 : Ent}
def PRel (w : World) (Z : Nat → Prop) (L : Nat → Blk) (s : Nat → Value) : List (Nat × AV) → List (Nat × Value) → Prop
  | [], [] => True
  | (i, a) :: ps, (j, x) :: qs => i = j ∧ AVR w Z L s a x ∧ PRel w Z L s ps qs
  | _, _ => False
theorem foldl_put (l : List Value) : ∀ (k off : Nat) (cells : Array Value), off + k + l.length ≤ cells.size →
    ((l.zipIdx k).foldl (fun (cs : Array Value) p => cs.setIfInBounds (off + p.2) p.1) cells).toList = putAt cells.toList (off + k) l := by
  induction l with
  | nil => intro k off cells _; simp [putAt]
  | cons c l ih =>
    intro k off cells h
    simp only [List.length_cons] at h
    rw [List.zipIdx_cons, List.foldl_cons, ih (k + 1) off (cells.setIfInBounds (off + k) c) (by simp; omega)]
    have hl : cells.size = cells.toList.length := Array.length_toList.symm
    apply List.ext_getElem?
    intro i
    rw [putAt_get (by simp; omega), putAt_get (by simp; omega), Array.toList_setIfInBounds]
    by_cases h1 : off + (k + 1) ≤ i ∧ i < off + (k + 1) + l.length
    · rw [if_pos h1, if_pos (by simp; omega)]
      obtain ⟨j, rfl⟩ : ∃ j, i = off + k + (j + 1) := ⟨i - (off + k) - 1, by omega⟩
      rw [show off + k + (j + 1) - (off + (k + 1)) = j by omega, show off + k + (j + 1) - (off + k) = j + 1 by omega]
      simp
    · rw [if_neg h1]
      by_cases h2 : i = off + k
      · subst h2
        rw [if_pos (by simp), Nat.sub_self, List.getElem?_set_self (by omega)]
        rfl
      · rw [if_neg (by simp; omega), List.getElem?_set_ne (by omega)]
def CRel (w : World) (Z : Nat → Prop) (L : Nat → Blk) (s : Nat → Value) (cs : List AV) (vs : List Value) : Prop :=
  vs.length = cs.length ∧ ∀ (i : Nat) x y, cs[i]? = some x → vs[i]? = some y → AVR w Z L s x y ∧ y.oneCell' = true
theorem CRel.put {cs : List AV} {vs : List Value} (h : CRel w Z L s cs vs) {xs : List AV} {us : List Value} (k : CRel w Z L s xs us) {off : Nat} (hl : off + xs.length ≤ cs.length) : CRel w Z L s (putAt cs off xs) (putAt vs off us) := by
  obtain ⟨h1, h2⟩ := h
  obtain ⟨k1, k2⟩ := k
  refine ⟨by rw [putAt_len (by omega), putAt_len hl, h1], fun i x y hx hy => ?_⟩
  rw [putAt_get hl] at hx
  rw [putAt_get (by omega), k1] at hy
  split at hx
  · rename_i hin; rw [if_pos hin] at hy; exact k2 _ x y hx hy
  · rename_i hout; rw [if_neg hout] at hy; exact h2 i x y hx hy
theorem fillPut_step (v : Value) (off size : Nat) (cells : Array Value) (place : Nat → Option (Nat × Nat)) (i : Nat) (rest : List (Nat × Value)) (hp : place i = some (off, size)) (hs : v.cells.size = size) (hf : off + v.cells.size ≤ cells.size) :
    Instr.fill place cells ((i, v) :: rest) = Instr.fill place (putAt cells.toList off v.cells.toList).toArray rest := by
  have e : (v.cells.zipIdx.foldl (fun (cs : Array Value) p => cs.setIfInBounds (off + p.2) p.1) cells) = (putAt cells.toList off v.cells.toList).toArray := by
    rw [← Array.foldl_toList, Array.toList_zipIdx]
    have := foldl_put v.cells.toList 0 off cells (by simp; omega)
    rw [Nat.add_zero] at this
    rw [← this, Array.toArray_toList]
  simp only [Instr.fill, hp]
  rw [if_neg (by simp only [Bool.or_eq_true, decide_eq_true_eq]; rintro (h | h); exact h hs; omega)]
  exact congrArg (fun c => Instr.fill place c rest) e
theorem fillA_ok {fs : Array Field} {place : Nat → Option (Nat × Nat)} (hpl : ∀ (i : Nat) f, fs[i]? = some f → place i = some (f.offset, szOf P f.type)) :
    ∀ {ps : List (Nat × AV)} {qs : List (Nat × Value)} {cs cs' : List AV} {vs : List Value}, PRel w Z L s ps qs → CRel w Z L s cs vs → fillA P fs cs ps = some cs' → ∃ vs', Instr.fill place vs.toArray qs = some vs'.toArray ∧ CRel w Z L s cs' vs'
  | [], [], cs, cs', vs, _, hc, h => by
    simp [fillA] at h; subst h
    exact ⟨vs, rfl, hc⟩
  | (i, a) :: ps, (j, x) :: qs, cs, cs', vs, hp, hc, h => by
    obtain ⟨rfl, ha, hr⟩ := hp
    simp only [fillA] at h
    split at h
    · rename_i f hf
      split at h
      · rename_i hh
        obtain ⟨h1, h2, h3⟩ := hh
        obtain ⟨us, hx, hul, hcu⟩ := ha.cellsOf h3
        have hcl := hc.1
        rw [fillPut_step x f.offset (szOf P f.type) vs.toArray place i qs (hpl i f hf) (by rw [hx]; simp; omega) (by rw [hx]; simp; omega), hx]
        exact fillA_ok hpl hr (hc.put ⟨hul, hcu⟩ h2) h
      · cases h
    · cases h
  | [], _ :: _, _, _, _, h, _, _ => h.elim
  | _ :: _, [], _, _, _, h, _, _ => h.elim
theorem places_ok : ∀ (fs : List Field), (fs.all fun f => (inf P f.type).isSome) = true → ∃ pl, fs.mapM (fun f => (P.info? f.type).map fun i => (f.offset, i.size)) = some pl ∧ pl.length = fs.length ∧ ∀ (i : Nat) f, fs[i]? = some f → pl[i]? = some (f.offset, szOf P f.type)
  | [], _ => ⟨[], rfl, rfl, fun i f h => by simp at h⟩
  | f :: fs, h => by
    simp only [List.all_cons, Bool.and_eq_true] at h
    obtain ⟨pl, h1, h2, h3⟩ := places_ok fs h.2
    cases hi : P.info? f.type with
    | none => simp [inf, hi] at h
    | some i =>
      refine ⟨(f.offset, i.size) :: pl, by simp [List.mapM_cons, hi, h1], by simp [h2], fun k g hk => ?_⟩
      cases k with
      | zero => simp at hk; subst hk; simp [szOf, inf, hi]
      | succ k => simpa using h3 k g (by simpa using hk)
theorem zeros_rel {z : Value} (h : z.cells.toList.all (·.oneCell') = true) : CRel w Z L s (z.cells.toList.map .v) z.cells.toList :=
  ⟨by simp, fun i x y hx hy => by
    rw [List.getElem?_map, hy] at hx
    simp at hx; subst hx
    exact ⟨.v y, List.all_eq_true.1 h y (List.mem_of_getElem? hy)⟩⟩
theorem oBuild_ok {T : TypeId} {ps : List (Nat × AV)} {qs : List (Nat × Value)} (hp : PRel w Z L s ps qs) {out : Out} (ho : oBuild P T ps = some out) :
    ∃ v, (Instr.build T qs.toArray).run P w = .ok v w ∧ AVR w Z L s out.dst v ∧ out.ups = [] := by
  unfold oBuild at ho
  split at ho
  · rename_i fs z n b hu hinf
    split at ho
    · rename_i hall
      obtain ⟨hall, hone⟩ := hall
      split at ho
      · rename_i cs' hf
        simp at ho; subst ho
        obtain ⟨pl, h1, h2, h3⟩ := places_ok (P := P) fs.toList hall
        obtain ⟨vs', hv, hc⟩ := fillA_ok (place := (pl.toArray[·]?)) (fun i f hf => by simpa using h3 i f (by simpa using hf)) hp (zeros_rel hone) hf
        unfold inf at hinf
        cases hi : P.info? T with
        | none => simp [hi] at hinf
        | some i =>
          simp [hi] at hinf
          obtain ⟨hz, _, _⟩ := hinf
          refine ⟨.agg vs'.toArray, run_build w T _ _ ?_, .agg _ _ hc.1 fun i x y hx hy => (hc.2 i x y hx hy).1, rfl⟩
          simp only [Array.toArray_toList] at hv
          simp only [Program.built, hi, hu, hz, h1]
          exact hv
      · cases ho
    · cases ho
  · cases ho
end
end Go.Proofs.Ytkfjaeoehhakpaa
namespace Go.Proofs.Ytkfjaeoehhakpaa
open Go.RowKit
section
variable {P : Program} {w : World} {Z : Nat → Prop} {L : Nat → Blk} {s : Nat → Value} {F : Nat → Prop} {W0 : Ent}
def RRel (w : World) (Z : Nat → Prop) (L : Nat → Blk) (s : Nat → Value) (sz : Nat) (rows : List (List AV)) (vs : List Value) : Prop :=
  (∀ r ∈ rows, r.length = sz ∧ r.all AV.one = true) ∧ vs.length = rows.length * sz ∧ ∀ (i j : Nat) x, (rows[i]?).bind (·[j]?) = some x → ∃ y, vs[i * sz + j]? = some y ∧ AVR w Z L s x y ∧ y.oneCell' = true
theorem RRel.put {sz : Nat} {rows : List (List AV)} {vs : List Value} (h : RRel w Z L s sz rows vs) {i : Nat} (hi : i < rows.length) {xs : List AV} {us : List Value} (k : CRel w Z L s xs us) (hl : xs.length = sz) (hone : xs.all AV.one = true) :
    RRel w Z L s sz (rows.set i xs) (putAt vs (i * sz) us) := by
  obtain ⟨h1, h2, h3⟩ := h
  obtain ⟨k1, k2⟩ := k
  have hfit : i * sz + us.length ≤ vs.length := by
    have := Nat.mul_le_mul_right sz (show i + 1 ≤ rows.length from hi)
    rw [Nat.succ_mul] at this
    omega
  refine ⟨fun r hr => ?_, by rw [putAt_len hfit, List.length_set, h2], fun i' j' x hx => ?_⟩
  · rcases List.mem_or_eq_of_mem_set hr with hr | rfl
    · exact h1 r hr
    · exact ⟨hl, hone⟩
  · rw [putAt_get hfit]
    by_cases e : i' = i
    · subst e
      rw [List.getElem?_set_self hi] at hx
      simp only [Option.bind_some] at hx
      have hj := (List.getElem?_eq_some_iff.1 hx).1
      rw [if_pos (by omega)]
      have hy : us[j']? = some us[j'] := List.getElem?_eq_getElem (by omega)
      exact ⟨us[j'], by rw [← hy]; congr 1; omega, k2 j' x _ hx hy⟩
    · rw [List.getElem?_set_ne (fun h => e h.symm)] at hx
      have hj' : j' < sz := by
        cases hr : rows[i']? with
        | none => simp [hr] at hx
        | some r =>
          simp [hr] at hx
          have := (List.getElem?_eq_some_iff.1 hx).1
          rw [(h1 r (List.mem_of_getElem? hr)).1] at this
          exact this
      have := row_apart (i := i) (j := 0) (m := sz) e hj' (by omega)
      rw [if_neg (by omega)]
      exact h3 i' j' x hx
theorem fillR_ok {sz : Nat} {place : Nat → Option (Nat × Nat)} (hpl : ∀ i, place i = some (i * sz, sz)) :
    ∀ {ps : List (Nat × AV)} {qs : List (Nat × Value)} {rows rows' : List (List AV)} {vs : List Value}, PRel w Z L s ps qs → RRel w Z L s sz rows vs → fillR sz rows ps = some rows' → ∃ vs', Instr.fill place vs.toArray qs = some vs'.toArray ∧ RRel w Z L s sz rows' vs' ∧ rows'.length = rows.length
  | [], [], rows, rows', vs, _, hc, h => by
    simp [fillR] at h; subst h
    exact ⟨vs, rfl, hc, rfl⟩
  | (i, a) :: ps, (j, x) :: qs, rows, rows', vs, hp, hc, h => by
    obtain ⟨rfl, ha, hr⟩ := hp
    simp only [fillR] at h
    split at h
    · rename_i hh
      obtain ⟨h1, h2, h3⟩ := hh
      obtain ⟨us, hx, hul, hcu⟩ := ha.cellsOf h3
      have hcl := hc.2.1
      have := Nat.mul_le_mul_right sz (show i + 1 ≤ rows.length from h2)
      rw [Nat.succ_mul] at this
      rw [fillPut_step x (i * sz) sz vs.toArray place i qs (hpl i) (by rw [hx]; simp; omega) (by rw [hx]; simp; omega), hx]
      obtain ⟨vs', q1, q2, q3⟩ := fillR_ok hpl hr (hc.put h2 ⟨hul, hcu⟩ h1 h3) h
      exact ⟨vs', q1, q2, by rw [q3, List.length_set]⟩
    · cases h
  | [], _ :: _, _, _, _, h, _, _ => h.elim
  | _ :: _, [], _, _, _, h, _, _ => h.elim
theorem RRel.mono {w' : World} {Z' : Nat → Prop} {L' : Nat → Blk} {s' : Nat → Value} {sz : Nat} {rows : List (List AV)} {vs : List Value} (h : RRel w Z L s sz rows vs) (E : Ext w Z L s w' Z' L' s') : RRel w' Z' L' s' sz rows vs :=
  ⟨h.1, h.2.1, fun i j x hx => by obtain ⟨y, h1, h2, h3⟩ := h.2.2 i j x hx; exact ⟨y, h1, h2.mono E, h3⟩⟩
theorem dkRows_ok (h : HR F W0 w L s Z) {ks : List CK} {sz : Nat} : ∀ {rows : List (List AV)} {ds : List (List D)} {vs : List Value}, RRel w Z L s sz rows vs → dkRows L ks rows = some ds → RowsR w Z sz ds vs ∧ ds.length = rows.length
  | [], ds, vs, hr, hd => by
    simp [dkRows] at hd; subst hd
    exact ⟨⟨fun r h => by simp at h, by simpa using hr.2.1, fun i j d h => by simp [rowAt] at h⟩, rfl⟩
  | r :: rows, ds, vs, hr, hd => by
    obtain ⟨h1, h2, h3⟩ := hr
    simp only [dkRows] at hd
    split at hd
    · rename_i d ds' e1 e2
      simp at hd; subst hd
      obtain ⟨r1, r2⟩ := h1 r (by simp)
      have hvl : sz ≤ vs.length := by rw [h2]; simp [Nat.succ_mul]
      obtain ⟨l1, l2⟩ := dks_ok h e1 (ys := vs.take sz) (by rw [List.length_take]; omega) (fun i x y hx hy => by
        obtain ⟨y', g1, g2, g3⟩ := h3 0 i x (by simpa using hx)
        rw [List.getElem?_take] at hy
        split at hy
        · rw [Nat.zero_mul, Nat.zero_add, hy] at g1; cases g1; exact ⟨g2, g3⟩
        · cases hy) r2
      obtain ⟨q, q4⟩ := dkRows_ok h (rows := rows) (ds := ds') (vs := vs.drop sz) ⟨fun r hr => h1 r (by simp [hr]), by rw [List.length_drop, h2]; simp [Nat.succ_mul], fun i j x hx => by
        obtain ⟨y', g1, g2, g3⟩ := h3 (i + 1) j x (by simpa using hx)
        exact ⟨y', by rw [List.getElem?_drop, ← g1]; congr 1; rw [Nat.succ_mul]; omega, g2, g3⟩⟩ e2
      obtain ⟨q1, q2, q3⟩ := q
      refine ⟨⟨fun x hx => ?_, by rw [h2]; simp [q4], fun i j dd hdd => ?_⟩, by simp [q4]⟩
      · rcases List.mem_cons.1 hx with rfl | hx
        · rw [l1, r1]
        · exact q1 x hx
      · cases i with
        | zero =>
          simp [rowAt] at hdd
          obtain ⟨y, g1, g2⟩ := l2 j dd hdd
          rw [List.getElem?_take] at g1
          split at g1
          · exact ⟨y, by simpa using g1, g2⟩
          · cases g1
        | succ i =>
          obtain ⟨y, g1, g2⟩ := q3 i j dd (by simpa [rowAt] using hdd)
          rw [List.getElem?_drop] at g1
          exact ⟨y, by rw [← g1]; congr 1; rw [Nat.succ_mul]; omega, g2⟩
    · cases hd
theorem madeCells_get (z : Array Value) (k m : Nat) (hm : m < k) : (madeCells z k).toList[m]? = z[m % z.size]? ∨ z.size = 0 := by
  by_cases hz : z.size = 0
  · exact .inr hz
  · left
    have hlt : m % z.size < z.size := Nat.mod_lt _ (by omega)
    simp [madeCells, hm, hlt]
theorem mul_lt_of {i j n sz : Nat} (hi : i < n) (hj : j < sz) : i * sz + j < n * sz := by
  have := Nat.mul_le_mul_right sz (show i + 1 ≤ n from hi)
  rw [Nat.succ_mul] at this
  omega
theorem made_rel {z : Value} (hone : z.cells.toList.all (·.oneCell') = true) {sz n : Nat} (h0 : 0 < sz) (hz : z.cells.size = sz) : RRel w Z L s sz (List.replicate n (z.cells.toList.map .v)) (madeCells z.cells (n * sz)).toList := by
  refine ⟨fun r hr => ?_, by simp [madeCells], fun i j x hx => ?_⟩
  · obtain ⟨_, rfl⟩ := List.mem_replicate.1 hr
    refine ⟨by simp [hz], ?_⟩
    rw [List.all_map]
    exact hone
  · rw [List.getElem?_replicate] at hx
    split at hx
    · rename_i hi
      simp only [Option.bind_some, List.getElem?_map] at hx
      cases hy : z.cells.toList[j]? with
      | none => simp [hy] at hx
      | some y =>
        simp [hy] at hx; subst hx
        have hj : j < sz := by rw [← hz, ← Array.length_toList]; exact (List.getElem?_eq_some_iff.1 hy).1
        have hmod : (i * sz + j) % z.cells.size = j := by rw [hz, Nat.add_comm, Nat.add_mul_mod_self_right, Nat.mod_eq_of_lt hj]
        refine ⟨y, ?_, .v y, List.all_eq_true.1 hone y (List.mem_of_getElem? hy)⟩
        rcases madeCells_get z.cells (n * sz) (i * sz + j) (mul_lt_of hi hj) with h | h
        · rw [h, hmod, ← hy]; simp
        · omega
    · cases hx
theorem HR.laid (h : HR F W0 w L s Z) {q : Nat} (hq : L q = .none) {e : TypeId} {sz n cap : Nat} {rows : List (List D)} {cur : Array Value} {w1 : World} (h1 : w1.heap = w.heap) (ho : w1.os = w.os) (ht : w1.tape = w.tape) (hpp : w1.output = w.output) (hsz : 0 < sz) (hn : rows.length = n) (hc : n ≤ cap) (hm : cap ≤ maxLen) (hcs : cur.size = cap * sz) {xs : List Value} (hx : cur.toList.take (n * sz) = xs) (hr : RowsR w Z sz rows xs) :
    HR F W0 (w1.alloc (.cells cur e)) (up L q (.sl e sz rows)) (up s q (.slice (some ⟨w.heap.size, 0, none⟩) n cap)) Z ∧
    Ext w Z L s (w1.alloc (.cells cur e)) Z (up L q (.sl e sz rows)) (up s q (.slice (some ⟨w.heap.size, 0, none⟩) n cap)) ∧
    AVR (w1.alloc (.cells cur e)) Z (up L q (.sl e sz rows)) (up s q (.slice (some ⟨w.heap.size, 0, none⟩) n cap)) (.own q) (.slice (some ⟨w.heap.size, 0, none⟩) n cap) := by
  subst hn
  have hsz1 : w1.heap.size = w.heap.size := by rw [h1]
  have hold : ∀ b, b < w.heap.size → (w1.alloc (.cells cur e)).heap[b]? = w.heap[b]? := fun b hb => by rw [Below.heap_alloc w1 _ b (by omega), h1]
  have hnew : (w1.alloc (.cells cur e)).heap[w.heap.size]? = some (.cells cur e (0, 0)) := by rw [← hsz1]; exact heap_alloc_new w1 _
  refine h.slice e sz rows _ xs hsz (.fresh hq) (ownsAt_of (base := 0) ⟨by rw [hr.2.1], .inr ⟨w.heap.size, cap, cur, rfl, Nat.zero_le _, hnew, hc, hm, hcs, hx⟩⟩) hr (row := none) ⟨ho, ht, hpp, by simp; omega, fun k hk _ => hold k hk⟩ (fun k hk => by cases hk) (fun g hg => .inl ?_) (fun b hb => hold b (h.zin b hb))
  simp [vblk] at hg
  subst hg
  simp; omega
theorem inf_info {t : TypeId} {z : Value} {n b : Nat} (h : inf P t = some (some z, n, b)) : ∃ i, P.info? t = some i ∧ i.zero = some z ∧ i.size = n ∧ i.bytes = b := by
  unfold inf at h
  cases hi : P.info? t with
  | none => simp [hi] at h
  | some i => simp [hi] at h; exact ⟨i, rfl, h⟩
theorem oBuildSlice_ok (h : HR F W0 w L s Z) {T : TypeId} {n q : Nat} (hq : L q = .none) {ps : List (Nat × AV)} {qs : List (Nat × Value)} (hp : PRel w Z L s ps qs) {out : Out} (ho : oBuildSlice P L T n ps q = some out) :
    ∃ v w' s' Z', (Instr.buildSlice T n qs.toArray).run P w = .ok v w' ∧ HR F W0 w' (ups L out.ups) s' Z' ∧ Ext w Z L s w' Z' (ups L out.ups) s' ∧ AVR w' Z' (ups L out.ups) s' out.dst v := by
  unfold oBuildSlice at ho
  split at ho
  · rename_i e hu
    split at ho
    · rename_i z sz by_ hinf
      obtain ⟨i, hi, hz, his, _⟩ := inf_info hinf
      split at ho
      · rename_i hh
        obtain ⟨h0, hzs, hlim, hone⟩ := hh
        split at ho
        · rename_i rows hfill
          split at ho
          · rename_i ds hds
            simp at ho; subst ho
            obtain ⟨vs, r1, r2, r3⟩ := fillR_ok (place := fun i => some (i * sz, sz)) (fun _ => rfl) hp (made_rel (L := L) (s := s) (Z := Z) (w := w) hone (n := n) h0 hzs) hfill
            obtain ⟨Z1, H1, E1, hF⟩ := h.frz (L0 := L) rows.flatten (fun r => .inl rfl)
            obtain ⟨rr, rl⟩ := dkRows_ok H1 (r2.mono E1) hds
            have hq1 : ups L (frz L rows.flatten) q = .none := by
              rcases hF q with h1 | ⟨_, _, h1, _⟩
              · rw [h1, hq]
              · rw [hq] at h1; cases h1
            simp at r3
            have hlen : vs.length = n * sz := by rw [r2.2.1, r3]
            obtain ⟨a1, a2, a3⟩ := H1.laid hq1 (e := e) (sz := sz) (n := n) (cap := n) (rows := ds) (cur := vs.toArray) (w1 := w) rfl rfl rfl rfl h0 (by omega) (Nat.le_refl _) (by
              have : n ≤ n * sz := Nat.le_mul_of_pos_right n h0
              unfold maxLen; omega) (by simp [hlen]) (xs := vs) (List.take_of_length_le (by simp; omega)) rr
            refine ⟨_, _, _, Z1, ?_, by rw [ups_append]; exact a1, by rw [ups_append]; exact E1.trans a2, by rw [ups_append]; exact a3⟩
            simp only [Array.toArray_toList] at r1
            by_cases hn : n * sz = 0
            · have hvs : vs = [] := List.eq_nil_of_length_eq_zero (by omega)
              have hmz : madeCells z.cells (n * sz) = #[] := by simp [madeCells, hn]
              rw [hmz] at r1
              have e0 : Array.map (fun _ => (default : Value)) (Array.range 0) = #[] := by simp
              simp [Instr.buildSlice, run_underlying hu, sizeOf, typeInfo, hi, his, hn, e0, r1, newRow, newObj, Sem.run]
            · have hm : ¬ n * sz > 16777216 := by omega
              have r1' : Instr.fill (fun i => some (i * sz, sz)) ((Array.range (n * sz)).map fun x => z.cells[x % z.cells.size]!) qs = some vs.toArray := r1
              simp [Instr.buildSlice, run_underlying hu, sizeOf, typeInfo, zeroValue, hi, his, hz, hn, hm, r1', newRow, newObj, Sem.run]
          · cases ho
        · cases ho
      · cases ho
    · cases ho
  · cases ho
end
end Go.Proofs.Ytkfjaeoehhakpaa
namespace Go.Proofs.Ytkfjaeoehhakpaa
open Go.RowKit
section
variable {P : Program} {w : World} {Z : Nat → Prop} {L : Nat → Blk} {s : Nat → Value} {F : Nat → Prop} {W0 : Ent}
theorem oMake_ok (h : HR F W0 w L s Z) {T : TypeId} {q : Nat} (hq : L q = .none) {a b : AV} {x y : Value} (ha : AVR w Z L s a x) (hb : AVR w Z L s b y) {out : Out} (ho : oMake P T a b q = some out) (hc : out.c) :
    ∃ v w' s', (Instr.makeSlice T x y).run P w = .ok v w' ∧ HR F W0 w' (ups L out.ups) s' Z ∧ Ext w Z L s w' Z (ups L out.ups) s' ∧ AVR w' Z (ups L out.ups) s' out.dst v := by
  unfold oMake at ho
  split at ho
  · rename_i e k1 n k2 c hu
    split at ho
    · rename_i z sz by_ hinf
      obtain ⟨i, hi, hz, his, hib⟩ := inf_info hinf
      split at ho
      · rename_i hh
        obtain ⟨h0, hzs, hone⟩ := hh
        cases ho
        obtain ⟨c1, c2, c3, c4⟩ := hc
        cases ha
        cases hb
        have hrun := run_make (P := P) w T e i z hu hi hz k1 k2 n c c1 c2 (by rw [hib, Int.mul_comm]; omega) (by omega)
        have hrr : RowsR w Z sz (List.replicate n.toNat (z.cells.toList.map D.v)) ((madeCells z.cells (c.toNat * sz)).toList.take (n.toNat * sz)) := by
          have hrl : (z.cells.toList.map D.v).length = sz := by rw [List.length_map, ← hzs]; simp
          have d2 : ∀ (j : Nat) d, (z.cells.toList.map D.v)[j]? = some d → ∃ u, z.cells.toList[j]? = some u ∧ Rep w Z d u := fun j d hj => by
            rw [List.getElem?_map] at hj
            obtain ⟨u, hu, rfl⟩ := Option.map_eq_some_iff.1 hj
            exact ⟨u, hu, .v u (by have := List.all_eq_true.1 hone u (List.mem_of_getElem? hu); simpa using this)⟩
          have hle : n.toNat * sz ≤ c.toNat * sz := Nat.mul_le_mul_right _ (by omega)
          refine ⟨fun r hr => ?_, ?_, fun i' j d hd' => ?_⟩
          · obtain ⟨_, rfl⟩ := List.mem_replicate.1 hr; exact hrl
          · rw [List.length_take, List.length_replicate, show (madeCells z.cells (c.toNat * sz)).toList.length = c.toNat * sz by simp [madeCells]]; omega
          · unfold rowAt at hd'
            rw [List.getElem?_replicate] at hd'
            split at hd'
            · rename_i hi'
              rw [Option.bind_some] at hd'
              obtain ⟨u, g1, g2⟩ := d2 j d hd'
              have hj : j < sz := by rw [← hrl]; exact (List.getElem?_eq_some_iff.1 hd').1
              have hlt := mul_lt_of hi' hj
              have hmod : (i' * sz + j) % z.cells.size = j := by rw [hzs, Nat.add_comm, Nat.add_mul_mod_self_right, Nat.mod_eq_of_lt hj]
              refine ⟨u, ?_, g2⟩
              rw [List.getElem?_take, if_pos hlt]
              rcases madeCells_get z.cells (c.toNat * sz) (i' * sz + j) (by omega) with h | h
              · rw [h, hmod, ← g1]; simp
              · omega
            · simp at hd'
        obtain ⟨a1, a2, a3⟩ := h.laid hq (e := e) (sz := sz) (n := n.toNat) (cap := c.toNat) (rows := List.replicate n.toNat (z.cells.toList.map D.v)) (cur := madeCells z.cells (c.toNat * sz)) (w1 := w) rfl rfl rfl rfl h0 (by simp) (by omega) (by unfold maxLen; omega) (by simp [madeCells]) rfl hrr
        rw [his] at hrun
        exact ⟨_, _, _, hrun, a1, a2, a3⟩
      · cases ho
    · cases ho
  · cases ho
theorem src_cells {rows : List (List D)} {A : Option Addr} {sz : Nat} (hs : ∀ r ∈ rows, r.length = sz)
    (hA : 0 < rows.length → ∃ sz b off, A = some ⟨b, off, none⟩ ∧ b < w.heap.size ∧ (∀ r ∈ rows, r.length = sz) ∧ ∀ i j d, rowAt rows i j = some d → ∃ u, w.cell? ⟨b, off + (i * sz + j), none⟩ = some u ∧ Rep w Z d u) (h0 : 0 < rows.length) :
    ∃ b off, A = some ⟨b, off, none⟩ ∧ ∃ us : List Value, us.length = rows.length * sz ∧ (∀ j u, us[j]? = some u → w.cell? ((⟨b, off, none⟩ : Addr).add j) = some u) ∧ (∀ u ∈ us, u.oneCell' = true) ∧ RowsR w Z sz rows us := by
  obtain ⟨sz', b, off, rfl, hb, hs', hc⟩ := hA h0
  have hsz : sz' = sz := by
    have h1 := hs _ (List.getElem_mem h0)
    have h2 := hs' _ (List.getElem_mem h0)
    omega
  subst hsz
  refine ⟨b, off, rfl, (List.range (rows.length * sz')).map fun m => (w.cell? ⟨b, off + m, none⟩).getD undef, by simp, fun j u hu => ?_, fun u hu => ?_, hs, by simp, fun i j d hd => ?_⟩
  · rw [List.getElem?_map] at hu
    have hj : j < rows.length * sz' := by
      rcases Nat.lt_or_ge j (rows.length * sz') with h | h
      · exact h
      · rw [List.getElem?_eq_none (by simpa using h)] at hu; cases hu
    rw [List.getElem?_range hj] at hu
    simp at hu
    have hp : 0 < sz' := by rcases Nat.eq_zero_or_pos sz' with h | h; · subst h; simp at hj
                            · exact h
    have hd : rowAt rows (j / sz') (j % sz') = some ((rows[j / sz']'(by exact (Nat.div_lt_iff_lt_mul hp).2 hj))[j % sz']'(by rw [hs _ (List.getElem_mem _)]; exact Nat.mod_lt _ hp)) := by
      unfold rowAt
      rw [List.getElem?_eq_getElem ((Nat.div_lt_iff_lt_mul hp).2 hj)]
      simp
    obtain ⟨u', h1, h2⟩ := hc _ _ _ hd
    rw [Nat.mul_comm, Nat.div_add_mod] at h1
    rw [Addr.add_mid, ← hu, h1]; rfl
  · obtain ⟨m, hm, rfl⟩ := List.mem_map.1 hu
    have hj : m < rows.length * sz' := by simpa using hm
    have hp : 0 < sz' := by rcases Nat.eq_zero_or_pos sz' with h | h; · subst h; simp at hj
                            · exact h
    have hd : rowAt rows (m / sz') (m % sz') = some ((rows[m / sz']'(by exact (Nat.div_lt_iff_lt_mul hp).2 hj))[m % sz']'(by rw [hs _ (List.getElem_mem _)]; exact Nat.mod_lt _ hp)) := by
      unfold rowAt
      rw [List.getElem?_eq_getElem ((Nat.div_lt_iff_lt_mul hp).2 hj)]
      simp
    obtain ⟨u', h1, h2⟩ := hc _ _ _ hd
    rw [Nat.mul_comm, Nat.div_add_mod] at h1
    rw [h1]
    exact h2.one
  · obtain ⟨u, h1, h2⟩ := hc i j d hd
    have hi : i < rows.length := by
      unfold rowAt at hd
      cases hr : rows[i]? with
      | none => simp [hr] at hd
      | some r => exact (List.getElem?_eq_some_iff.1 hr).1
    have hj : j < sz' := by
      unfold rowAt at hd
      rw [List.getElem?_eq_getElem hi] at hd
      simp at hd
      have := (List.getElem?_eq_some_iff.1 hd).1
      rw [hs _ (List.getElem_mem hi)] at this
      exact this
    exact ⟨u, by rw [List.getElem?_map, List.getElem?_range (mul_lt_of hi hj)]; simp [h1], h2⟩
theorem RowsR.append {sz : Nat} {xs ys : List (List D)} {us vs : List Value} (h : RowsR w Z sz xs us) (k : RowsR w Z sz ys vs) : RowsR w Z sz (xs ++ ys) (us ++ vs) := by
  obtain ⟨h1, h2, h3⟩ := h
  obtain ⟨k1, k2, k3⟩ := k
  refine ⟨fun r hr => (List.mem_append.1 hr).elim (h1 r) (k1 r), by rw [List.length_append, List.length_append, Nat.add_mul, h2, k2], fun i j d hd => ?_⟩
  unfold rowAt at hd
  by_cases hi : i < xs.length
  · rw [List.getElem?_append_left hi] at hd
    obtain ⟨u, g1, g2⟩ := h3 i j d hd
    exact ⟨u, by rw [List.getElem?_append_left (List.getElem?_eq_some_iff.1 g1).1]; exact g1, g2⟩
  · rw [List.getElem?_append_right (by omega)] at hd
    obtain ⟨u, g1, g2⟩ := k3 (i - xs.length) j d hd
    refine ⟨u, ?_, g2⟩
    have e : i * sz + j = us.length + ((i - xs.length) * sz + j) := by
      rw [h2, ← Nat.add_assoc, ← Nat.add_mul]
      congr 2
      omega
    rw [e, List.getElem?_append_right (by omega), Nat.add_sub_cancel_left]
    exact g1
end
end Go.Proofs.Ytkfjaeoehhakpaa
namespace Go.Proofs.Ytkfjaeoehhakpaa
open Go.RowKit
section
variable {P : Program} {w : World} {Z : Nat → Prop} {L : Nat → Blk} {s : Nat → Value} {F : Nat → Prop} {W0 : Ent}
def kills (L : Nat → Blk) (K : List Nat) : Nat → Blk := fun k => if k ∈ K then .dead else L k
theorem HR.join {w' : World} (h : HR F W0 w L s Z) (t : Nat) (K : List Nat) (B : Blk) (v : Value) (htK : t ∉ K)
    (hlike : Like (L t) B (s t) v) (hst : ∀ sz rows, B ≠ .still sz rows)
    (ho : w'.os = w.os) (ht : w'.tape = w.tape) (hp : w'.output = w.output) (hsz : w.heap.size ≤ w'.heap.size)
    (hfr : ∀ b, b < w.heap.size → (∀ k, (k = t ∨ k ∈ K) → (L k).live → ∀ g, Fp w (L k) (s k) g → b ≠ g) → w'.heap[b]? = w.heap[b]?)
    (hB : Ext w Z L s w' Z (up (kills L K) t B) (up s t v) → BlkR w' Z (up (kills L K) t B) (up s t v) B v)
    (hv : B.live → ∀ g, Fp w' B v g → (w.heap.size ≤ g ∧ g < w'.heap.size) ∨ ∃ k, (k = t ∨ k ∈ K) ∧ (L k).live ∧ Fp w (L k) (s k) g) :
    HR F W0 w' (up (kills L K) t B) (up s t v) Z ∧ Ext w Z L s w' Z (up (kills L K) t B) (up s t v) := by
  have hzk : ∀ b, Z b → w'.heap[b]? = w.heap[b]? := fun b hb => hfr b (h.zin b hb) fun k _ hl g hg e => h.nzF k g hl hg (e ▸ hb)
  have E : Ext w Z L s w' Z (up (kills L K) t B) (up s t v) := by
    refine ⟨fun _ h => h, hzk, fun k => ?_, fun k sz' rows' h1 h2 => ?_⟩
    · by_cases e : k = t
      · subst e; rw [up_same, up_same]; exact hlike
      · rw [up_ne _ _ e, up_ne _ _ e]
        by_cases e' : k ∈ K
        · simp only [kills, if_pos e']; exact .dead rfl
        · simp only [kills, if_neg e']; exact Like.refl _ _
    · by_cases e' : k = t
      · subst e'; rw [up_same] at h2; exact absurd h2 (hst _ _)
      · rw [up_ne _ _ e'] at h2
        by_cases e'' : k ∈ K
        · simp only [kills, if_pos e''] at h2; cases h2
        · simp only [kills, if_neg e''] at h2; rw [h2] at h1; exact h1.elim
  have hfr' : ∀ k, k ≠ t → k ∉ K → (L k).live → ∀ g, Fp w (L k) (s k) g → w'.heap[g]? = w.heap[g]? := fun k hk hK hl g hg =>
    hfr g (h.mineF k g hl hg).2 fun k' hk' hl' g' hg' e => by
      have := h.sepF k k' g hl hl' hg (by rw [e]; exact hg')
      subst this
      exact hk'.elim hk hK
  have look : ∀ k, (up (kills L K) t B k).live → (k = t ∧ up (kills L K) t B k = B ∧ up s t v k = v) ∨ (k ≠ t ∧ k ∉ K ∧ (L k).live ∧ up (kills L K) t B k = L k ∧ up s t v k = s k) := fun k hk => by
    by_cases e : k = t
    · subst e; exact .inl ⟨rfl, up_same _ _ _, up_same _ _ _⟩
    · rw [up_ne _ _ e] at hk
      rw [up_ne _ _ e, up_ne _ _ e]
      by_cases e' : k ∈ K
      · simp only [kills, if_pos e'] at hk; exact hk.elim
      · simp only [kills, if_neg e'] at hk ⊢; exact .inr ⟨e, e', hk, trivial, trivial⟩
  have other : ∀ k g, k ≠ t → k ∉ K → (L k).live → Fp w' (L k) (s k) g → Fp w (L k) (s k) g := fun k g a b c d => d.same (hfr' k a b c)
  refine ⟨⟨fun k => ?_, fun k k' g hk hk' hg hg' => ?_, fun k g hk hg hz => ?_, fun k g hk hg => ?_, fun b hb => Nat.lt_of_lt_of_le (h.zin b hb) hsz, ?_, h.zsrc, h.zhas⟩, E⟩
  · by_cases e : k = t
    · subst e; rw [up_same, up_same]; exact hB E
    · rw [up_ne _ _ e, up_ne _ _ e]
      by_cases e' : k ∈ K
      · simp only [kills, if_pos e']; trivial
      · simp only [kills, if_neg e']; exact (h.blk k).mono E (hfr' k e e')
  · rcases look k hk with ⟨e1, b1, s1⟩ | ⟨e1, n1, l1, b1, s1⟩ <;> rcases look k' hk' with ⟨e2, b2, s2⟩ | ⟨e2, n2, l2, b2, s2⟩ <;> rw [b1, s1] at hg <;> rw [b2, s2] at hg'
    · rw [e1, e2]
    · have hg2 := other k' g e2 n2 l2 hg'
      rw [b1] at hk
      rcases hv hk g hg with ⟨h1, _⟩ | ⟨k0, c, l0, h1⟩
      · have := (h.mineF k' g l2 hg2).2; omega
      · have := h.sepF _ _ g l2 l0 hg2 h1
        subst this
        exact (c.elim e2 n2).elim
    · have hg2 := other k g e1 n1 l1 hg
      rw [b2] at hk'
      rcases hv hk' g hg' with ⟨h1, _⟩ | ⟨k0, c, l0, h1⟩
      · have := (h.mineF k g l1 hg2).2; omega
      · have := h.sepF _ _ g l1 l0 hg2 h1
        subst this
        exact (c.elim e1 n1).elim
    · exact h.sepF _ _ g l1 l2 (other k g e1 n1 l1 hg) (other k' g e2 n2 l2 hg')
  · rcases look k hk with ⟨e1, b1, s1⟩ | ⟨e1, n1, l1, b1, s1⟩ <;> rw [b1, s1] at hg
    · rw [b1] at hk
      rcases hv hk g hg with ⟨h1, _⟩ | ⟨k0, c, l0, h1⟩
      · have := h.zin g hz; omega
      · exact h.nzF k0 g l0 h1 hz
    · exact h.nzF _ g l1 (other k g e1 n1 l1 hg) hz
  · rcases look k hk with ⟨e1, b1, s1⟩ | ⟨e1, n1, l1, b1, s1⟩ <;> rw [b1, s1] at hg
    · rw [b1] at hk
      rcases hv hk g hg with ⟨h1, h2⟩ | ⟨k0, c, l0, h1⟩
      · exact ⟨.inr (Nat.le_trans h.kept.size h1), h2⟩
      · have := h.mineF k0 g l0 h1
        exact ⟨this.1, Nat.lt_of_lt_of_le this.2 hsz⟩
    · have := h.mineF _ g l1 (other k g e1 n1 l1 hg)
      exact ⟨this.1, Nat.lt_of_lt_of_le this.2 hsz⟩
  · refine ⟨ho.trans h.kept.os, ht.trans h.kept.tape, hp.trans h.kept.output, Nat.le_trans h.kept.size hsz, fun b hb hF => ?_⟩
    have := h.kept.size
    refine (hfr b (by omega) fun k _ hl g hg e => ?_).trans (h.kept.block b hb hF)
    subst e
    rcases (h.mineF k b hl hg).1 with h1 | h1
    · exact hF h1
    · omega
theorem up_kills (L : Nat → Blk) (r : Nat) : up L r .dead = kills L [r] := by
  funext k
  simp only [kills, List.mem_singleton, up]
theorem HR.of2 {w' : World} (h : HR F W0 w L s Z) {r q : Nat} (hr : (L r).live) (hq : L q = .none) (B : Blk) (v : Value)
    (ho : w'.os = w.os) (ht : w'.tape = w.tape) (hp : w'.output = w.output) (hsz : w.heap.size ≤ w'.heap.size)
    (hfr : ∀ b, b < w.heap.size → (∀ g, vblk (s r) = some g → b ≠ g) → w'.heap[b]? = w.heap[b]?)
    (hB : Ext w Z L s w' Z (up (up L r .dead) q B) (up s q v) → BlkR w' Z (up (up L r .dead) q B) (up s q v) B v)
    (hv : ∀ g, vblk v = some g → (w.heap.size ≤ g ∧ g < w'.heap.size) ∨ vblk (s r) = some g) (hpl : B.plain := by trivial) (hst : ∀ sz rows, B ≠ .still sz rows := by intro _ _ hc; cases hc) :
    HR F W0 w' (up (up L r .dead) q B) (up s q v) Z ∧ Ext w Z L s w' Z (up (up L r .dead) q B) (up s q v) := by
  have hne : r ≠ q := fun e => by rw [e, hq] at hr; exact hr
  rw [up_kills] at hB ⊢
  refine h.join q [r] B v (by simp [hne.symm]) (.fresh hq) hst ho ht hp hsz (fun b hb hh => hfr b hb fun g hg => hh r (.inr (by simp)) hr g (.root hg)) hB (fun _ g hg => ?_)
  exact (hv g (hg.of_plain hpl)).imp id fun k => ⟨r, .inr (by simp), hr, .root k⟩
theorem append_zero {T e ty : TypeId} {i : TypeInfo} (hu : P.underlying T = some (.slice e)) (hi : P.info? e = some i) {B A : Option Addr} {n cap c : Nat} (hn : n ≤ cap) :
    (Builtin.append_ #[T, T] ty #[.slice B n cap, .slice A 0 c]).run P w = .ok (.slice B n cap) w := by
  cases A <;> cases B <;> simp [Builtin.append_, run_underlying hu, sizeOf, typeInfo, hi, Builtin.lenOf, Builtin.firstCells, hn, storeCells, loadCells, loadCellsFrom]
theorem run_append_off (t ty e : TypeId) (i : TypeInfo) (ht : P.underlying t = some (.slice e)) (hi : P.info? e = some i)
    (g off sLen sCap : Nat) (cur : Array Value) (hg : w.heap[g]? = some (.cells cur e (0, 0)))
    (a : Addr) (m c : Nat) (news : List Value) (hl : news.length = m * i.size) (hnews : ∀ j u, news[j]? = some u → w.cell? (a.add j) = some u) (h1 : ∀ u ∈ news, u.oneCell' = true)
    (hroom : sLen + m ≤ sCap) (hfit : off + sLen * i.size + news.length ≤ cur.size) :
    (Builtin.append_ #[t, t] ty #[.slice (some ⟨g, off, none⟩) sLen sCap, .slice (some a) m c]).run P w =
      .ok (.slice (some ⟨g, off, none⟩) (sLen + m) sCap) (w.setRow g (cur.toList.take (off + sLen * i.size) ++ news ++ cur.toList.drop (off + sLen * i.size + news.length)).toArray) := by
  have hf := run_firstCells_some (P := P) w i.size m a m c news hl hnews
  have hst := run_storeCells_at P g (off + sLen * i.size) e news 0 cur w hg (by simpa using hfit) h1
  simp only [Nat.add_zero] at hst
  simp [Builtin.append_, run_underlying ht, sizeOf, typeInfo, hi, Builtin.lenOf, hroom, hf, Addr.add_lit, hst]
theorem append_run {T e ty : TypeId} {i : TypeInfo} {z : Value} {sz by_ : Nat} (hu : P.underlying T = some (.slice e)) (hi : P.info? e = some i) (hz : i.zero = some z) (his : i.size = sz) (hib : i.bytes = by_) (h0 : 0 < sz) (hzs : z.cells.size = sz)
    {v : Value} {n : Nat} {us : List Value} (hown : ownsAt w e sz v n us) {A : Option Addr} {m c : Nat} {vs : List Value} (hvl : vs.length = m * sz) (hA : 0 < m → ∃ bb off, A = some ⟨bb, off, none⟩ ∧ ∀ j u, vs[j]? = some u → w.cell? ((⟨bb, off, none⟩ : Addr).add j) = some u) (hv1 : ∀ u ∈ vs, u.oneCell' = true)
    (c1 : (n + m) * by_ ≤ 1099511627776) (c2 : n + m ≤ 1099511627776) :
    ∃ v' w', (Builtin.append_ #[T, T] ty #[v, .slice A m c]).run P w = .ok v' w' ∧ ownsAt w' e sz v' (n + m) (us ++ vs) ∧ (∀ b, b < w.heap.size → vblk v ≠ some b → w'.heap[b]? = w.heap[b]?) ∧ w.heap.size ≤ w'.heap.size ∧ w'.os = w.os ∧ w'.tape = w.tape ∧ w'.output = w.output ∧
      ∀ g, vblk v' = some g → (w.heap.size ≤ g ∧ g < w'.heap.size) ∨ vblk v = some g := by
  have hzc : ∀ k, (Builtin.zeroCells z.cells k).size = k * sz := fun k => by rw [size_zeroCells, hzs]
  rcases Nat.eq_zero_or_pos m with hm | hm
  · subst hm
    have hvs : vs = [] := List.eq_nil_of_length_eq_zero (by simpa using hvl)
    subst hvs
    obtain ⟨A', c', hA'⟩ := owns_shape hown
    have hcap : n ≤ c' := by
      rcases hown.2 with ⟨q1, q2⟩ | ⟨g, o, cap, cur, q1, _, _, q2, _⟩
      · omega
      · rw [hA'] at q1; cases q1; exact q2
    refine ⟨v, w, by rw [hA']; exact append_zero hu hi hcap, by simpa using hown, fun _ _ _ => rfl, Nat.le_refl _, rfl, rfl, rfl, fun g hg => .inr hg⟩
  · obtain ⟨bb, off, rfl, hvc⟩ := hA hm
    have hlen : (us ++ vs).length = (n + m) * sz := by rw [List.length_append, hown.1, hvl, Nat.add_mul]
    have new : ∀ old, ownsAt (w.drew.alloc (.cells (us.toArray ++ vs.toArray ++ Builtin.zeroCells z.cells (grownCap w (n + m) old e - (n + m))) e)) e sz (.slice (some ⟨w.heap.size, 0, none⟩) (n + m) (grownCap w (n + m) old e)) (n + m) (us ++ vs) := fun old => by
      have hge := grownCap_ge w (n + m) old e
      have hcm := grownCap_le_maxLen w (n + m) old e (by unfold maxLen; omega)
      refine ownsAt_of (base := 0) ⟨hlen, .inr ⟨w.heap.size, _, _, rfl, Nat.zero_le _, heap_alloc_new w.drew _, hge, hcm, ?_, ?_⟩⟩
      · simp only [Array.size_append, List.size_toArray, hzc, hown.1, hvl, ← Nat.add_mul]
        congr 1
        omega
      · simp only [Array.toList_append, List.append_assoc]
        rw [← List.append_assoc, ← hlen]
        exact List.take_left
    rcases hown.2 with ⟨q1, q2⟩ | ⟨g, o, cap, cur, q1, _, q3, q4, q5, q6, q7⟩
    · subst q2
      have hus : us = [] := List.eq_nil_of_length_eq_zero (by simpa using hown.1)
      subst hus
      have hr := run_append_nil (P := P) w T ty e i z hu hi hz ⟨bb, off, none⟩ m c vs (by rw [hvl, his]) hvc hm (by omega) (by rw [hib, ← Nat.zero_add m]; omega)
      have hn := new 0
      simp only [Nat.zero_add, List.nil_append] at hn ⊢
      refine ⟨_, _, by rw [q1]; exact hr, by simpa using hn, fun b hb _ => Below.heap_alloc w.drew _ b hb, by simp, rfl, rfl, rfl, fun g hg => .inl ?_⟩
      simp [vblk] at hg
      subst hg
      simp
    · have hnl : (cur.toList.drop o).take (n * sz) = us := q7
      have hcl : cur.toList.length = cur.size := Array.length_toList
      have hnc := Nat.mul_le_mul_right sz q4
      by_cases hroom : n + m ≤ cap
      · have hmc : n * sz + m * sz ≤ cap * sz := by rw [← Nat.add_mul]; exact Nat.mul_le_mul_right _ hroom
        have hfit2 : o + n * i.size + vs.length ≤ cur.size := by rw [hvl, his]; omega
        have hr := run_append_off (P := P) (w := w) T ty e i hu hi g o n cap cur q3 ⟨bb, off, none⟩ m c vs (by rw [hvl, his]) hvc hv1 hroom hfit2
        refine ⟨_, _, by rw [q1]; exact hr, ⟨hlen, .inr ⟨g, o, cap, _, rfl, Nat.zero_le _, setRow_heap w g cur _ e _ q3, hroom, q5, ?_, ?_⟩⟩, fun b _ hne => setRow_other w g b _ fun e => hne (by rw [q1, e]; rfl), by simp, rfl, rfl, rfl, fun g' hg' => .inr (by rw [q1]; exact hg')⟩
        · simp only [List.size_toArray, List.length_append, List.length_take, List.length_drop, Array.length_toList]
          omega
        · show ((cur.toList.take (o + n * i.size) ++ vs ++ cur.toList.drop (o + n * i.size + vs.length)).drop o).take ((n + m) * sz) = _
          rw [his, List.append_assoc, List.drop_append_of_le_length (by rw [List.length_take]; omega), List.drop_take, Nat.add_sub_cancel_left, hnl, ← List.append_assoc, ← hlen]
          exact List.take_left
      · have holds : ∀ j u, us[j]? = some u → w.cell? ((⟨g, o, none⟩ : Addr).add j) = some u := fun j u hu' => by rw [Addr.add_mid]; exact owns_cells hown q1 j u hu'
        have hr := run_append_grow (P := P) w T ty e i z hu hi hz ⟨g, o, none⟩ n cap us (by rw [hown.1, his]) holds ⟨bb, off, none⟩ m c vs (by rw [hvl, his]) hvc (by omega) (by omega) (growslice_fits (by omega) (by rw [hib]; omega))
        refine ⟨_, _, by rw [q1]; exact hr, new cap, fun b hb _ => Below.heap_alloc w.drew _ b hb, by simp, rfl, rfl, rfl, fun g hg => .inl ?_⟩
        simp [vblk] at hg
        subst hg
        simp
theorem append_own (h : HR F W0 w L s Z) {T ty e : TypeId} {q r : Nat} (hq : L q = .none) {i : TypeInfo} {z : Value} {sz by_ : Nat} (hu : P.underlying T = some (.slice e)) (hi : P.info? e = some i) (hz : i.zero = some z)
    (his : i.size = sz) (hib : i.bytes = by_) (h0 : 0 < sz) (hzs : z.cells.size = sz) (hlive : (L r).live) {v : Value} {us : List Value} {rs ys : List (List D)}
    (hown : ownsAt w e sz v rs.length us) (hvb : ∀ g, vblk v = some g → vblk (s r) = some g) (hrows : RowsR w Z sz rs us)
    {A : Option Addr} {c : Nat} (hA : 0 < ys.length → ∃ sz b off, A = some ⟨b, off, none⟩ ∧ b < w.heap.size ∧ (∀ r ∈ ys, r.length = sz) ∧ ∀ i j d, rowAt ys i j = some d → ∃ u, w.cell? ⟨b, off + (i * sz + j), none⟩ = some u ∧ Rep w Z d u)
    (c1 : (rs.length + ys.length) * by_ ≤ 1099511627776) (c2 : rs.length + ys.length ≤ 1099511627776) (c3 : ∀ r ∈ ys, r.length = sz) (B : Blk) (hB : B = .sl e sz (rs ++ ys) ∨ B = .off e sz (rs ++ ys)) :
    ∃ v' w', (Builtin.append_ #[T, T] ty #[v, .slice A ys.length c]).run P w = .ok v' w' ∧ HR F W0 w' (up (up L r .dead) q B) (up s q v') Z ∧
      Ext w Z L s w' Z (up (up L r .dead) q B) (up s q v') ∧ ∃ A c, v' = .slice A (rs ++ ys).length c := by
  obtain ⟨vs, hvl, hvc, hv1, hvr⟩ : ∃ vs : List Value, vs.length = ys.length * sz ∧ (0 < ys.length → ∃ bb off, A = some ⟨bb, off, none⟩ ∧ ∀ j u, vs[j]? = some u → w.cell? ((⟨bb, off, none⟩ : Addr).add j) = some u) ∧ (∀ u ∈ vs, u.oneCell' = true) ∧ RowsR w Z sz ys vs := by
    rcases Nat.eq_zero_or_pos ys.length with hm | hm
    · have hys0 : ys = [] := List.eq_nil_of_length_eq_zero hm
      subst hys0
      exact ⟨[], by simp, fun h => by simp at h, fun u hu => by simp at hu, fun r hr => by simp at hr, by simp, fun i j d hd => by simp [rowAt] at hd⟩
    · obtain ⟨bb, off, rfl, vs, hvl, hvc, hv1, hvr⟩ := src_cells (w := w) (Z := Z) c3 hA hm
      exact ⟨vs, hvl, fun _ => ⟨bb, off, rfl, hvc⟩, hv1, hvr⟩
  obtain ⟨v', w', hr, ho', hfr, hsz, k1, k2, k3, hg⟩ := append_run (P := P) (ty := ty) (c := c) hu hi hz his hib h0 hzs hown hvl hvc hv1 c1 c2
  have hlr : rs.length + ys.length = (rs ++ ys).length := List.length_append.symm
  rw [hlr] at ho'
  obtain ⟨A', c', hv'⟩ := owns_shape ho'
  rcases hB with rfl | rfl
  · obtain ⟨H, E⟩ := h.of2 (w' := w') hlive hq (.sl e sz (rs ++ ys)) v' k1 k2 k3 hsz (fun b hb hne => hfr b hb fun e => hne b (hvb b e) rfl) (fun E => BlkR.of_rows h0 ho' ((hrows.append hvr).mono E.z E.w)) (fun g hg' => (hg g hg').imp id (hvb g))
    exact ⟨v', w', hr, H, E, A', c', hv'⟩
  · obtain ⟨H, E⟩ := h.of2 (w' := w') hlive hq (.off e sz (rs ++ ys)) v' k1 k2 k3 hsz (fun b hb hne => hfr b hb fun e => hne b (hvb b e) rfl) (fun E => BlkR.of_off h0 ho' ((hrows.append hvr).mono E.z E.w)) (fun g hg' => (hg g hg').imp id (hvb g))
    exact ⟨v', w', hr, H, E, A', c', hv'⟩
theorem oAppend_ok (h : HR F W0 w L s Z) {T ty : TypeId} {q : Nat} (hq : L q = .none) {a b : AV} {x y : Value} (ha : AVR w Z L s a x) (hb : AVR w Z L s b y) {out : Out} (ho : oAppend P L T a b q = some out) (hc : out.c) :
    ∃ v w' s' Z', (Builtin.append_ #[T, T] ty #[x, y]).run P w = .ok v w' ∧ HR F W0 w' (ups L out.ups) s' Z' ∧ Ext w Z L s w' Z' (ups L out.ups) s' ∧ AVR w' Z' (ups L out.ups) s' out.dst v := by
  unfold oAppend at ho
  split at ho
  · rename_i e hu
    split at ho
    · rename_i z sz by_ ys hinf hys
      obtain ⟨i, hi, hz, his, hib⟩ := inf_info hinf
      obtain ⟨A, c, rfl, hA⟩ := rowsOf_ok h hb hys
      split at ho
      · rename_i hh
        obtain ⟨h0, hzs, hone⟩ := hh
        have hzc : ∀ k, (Builtin.zeroCells z.cells k).size = k * sz := fun k => by rw [size_zeroCells, hzs]
        split at ho
        · -- a slice of one's own
          rename_i r
          split at ho
          · rename_i e' sz' xs hL
            split at ho
            · rename_i hh2
              obtain ⟨rfl, rfl, hrq⟩ := hh2
              simp at ho; subst ho
              obtain ⟨c1, c2, c3⟩ := hc
              have hlive : (L r).live := by rw [hL]; trivial
              have hx : x = s r := by
                cases ha with
                | own _ _ _ _ _ _ hx _ => exact hx
                | ownStill _ _ _ _ hd _ _ => rw [hL] at hd; cases hd
                | ownDead _ _ hd _ => rw [hL] at hd; cases hd
                | ownOff _ _ _ _ _ hd _ _ => rw [hL] at hd; cases hd
                | ownTr _ _ _ _ _ _ _ hd => rw [hL] at hd; cases hd
              subst hx
              have hbk := h.blk r
              rw [hL] at hbk
              obtain ⟨-, us, hown, hrows⟩ := hbk.rows
              obtain ⟨v, w', k1, k2, k3, k4⟩ := append_own (ty := ty) (c := c) (A := A) (rs := xs) (ys := ys) h hq hu hi hz his hib h0 hzs hlive hown (fun g hg => hg) hrows hA c1 c2 c3 (.sl e' sz' (xs ++ ys)) (.inl rfl)
              obtain ⟨A', c', hv⟩ := k4
              exact ⟨v, w', _, _, k1, k2, k3, .own q v e' sz' _ (up_same _ _ _) (up_same _ _ _).symm ⟨A', c', by rw [up_same]; exact hv⟩⟩
            · cases ho
          · rename_i e' sz' xs hL
            split at ho
            · rename_i hh2
              obtain ⟨rfl, rfl, hrq⟩ := hh2
              simp at ho; subst ho
              obtain ⟨c1, c2, c3⟩ := hc
              have hlive : (L r).live := by rw [hL]; trivial
              have hx : x = s r := by
                cases ha with
                | ownOff _ _ _ _ _ _ hx _ => exact hx
                | own _ _ _ _ _ hd _ _ => rw [hL] at hd; cases hd
                | ownStill _ _ _ _ hd _ _ => rw [hL] at hd; cases hd
                | ownDead _ _ hd _ => rw [hL] at hd; cases hd
                | ownTr _ _ _ _ _ _ _ hd => rw [hL] at hd; cases hd
              have hbk := h.blk r
              rw [hL] at hbk
              obtain ⟨-, us, hown, hrows⟩ := hbk.offRows
              subst hx
              obtain ⟨v, w', k1, k2, k3, k4⟩ := append_own (ty := ty) (c := c) (A := A) (rs := xs) (ys := ys) h hq hu hi hz his hib h0 hzs hlive hown (fun g hg => hg) hrows hA c1 c2 c3 (.off e' sz' (xs ++ ys)) (.inr rfl)
              obtain ⟨A3, c3', hv⟩ := k4
              exact ⟨v, w', _, _, k1, k2, k3, .ownOff q v e' sz' _ (up_same _ _ _) (up_same _ _ _).symm ⟨A3, c3', by rw [up_same]; exact hv⟩⟩
            · cases ho
          · cases ho
        · -- the end of a slice
          rename_i r lo hi'
          split at ho
          · rename_i e' sz' xs hL
            split at ho
            · rename_i hh2
              obtain ⟨rfl, rfl, hlt, rfl⟩ := hh2
              simp at ho; subst ho
              obtain ⟨c1, c2, c3⟩ := hc
              have hlive : (L r).live := by rw [hL]; trivial
              have hbk := h.blk r
              rw [hL] at hbk
              obtain ⟨-, us, hown, hrows⟩ := hbk.rows
              cases ha with
              | subStill _ _ _ _ _ _ hd => rw [hL] at hd; cases hd
              | subDead _ _ _ _ hd => rw [hL] at hd; cases hd
              | subTr _ _ _ _ _ _ _ _ _ hd => rw [hL] at hd; cases hd
              | subOff _ _ _ _ _ _ _ hd => rw [hL] at hd; cases hd
              | sub _ _ _ _ e2 sz2 xs2 hL2 hlo hhi A' n c' hx hn hcc hA' =>
              rw [hL] at hL2; cases hL2
              obtain ⟨g, o, N, C, hsr, rfl, hcap⟩ := hA' (by omega)
              subst hx
              obtain ⟨A2, C2, hA2⟩ := owns_shape hown
              rw [hsr] at hA2
              cases hA2
              rw [hsr] at hown
              have hdl : (xs.drop lo).length = xs.length - lo := List.length_drop
              have hrd : RowsR w Z sz' (xs.drop lo) (us.drop (lo * sz')) := ⟨fun r hr => hrows.1 r (List.mem_of_mem_drop hr), by rw [List.length_drop, List.length_drop, hown.1, ← Nat.sub_mul], fun i' j d hd => by
                obtain ⟨u, h1, h2⟩ := hrows.2.2 (lo + i') j d (by unfold rowAt at hd ⊢; rw [List.getElem?_drop] at hd; exact hd)
                exact ⟨u, by rw [List.getElem?_drop, ← Nat.add_assoc, ← Nat.add_mul]; exact h1, h2⟩⟩
              have hown2 : ownsAt w e' sz' (.slice (some ⟨g, o + lo * sz', none⟩) (xs.drop lo).length c') (xs.drop lo).length (us.drop (lo * sz')) := ownsAt_drop hown (by omega) (by omega) hcap (fun _ => rfl) (Nat.le_refl _)
              obtain ⟨v, w', k1, k2, k3, k4⟩ := append_own (ty := ty) (c := c) (A := A) (rs := xs.drop lo) (ys := ys) h hq hu hi hz his hib h0 hzs hlive hown2 (fun g' hg' => by rw [hsr]; exact hg') hrd hA (Nat.le_trans (Nat.mul_le_mul_right _ (by omega)) c1) (by omega) c3 (.off e' sz' (xs.drop lo ++ ys)) (.inr rfl)
              rw [hdl, ← hn] at k1
              obtain ⟨A3, c3', hv⟩ := k4
              exact ⟨v, w', _, _, k1, k2, k3, .ownOff q v e' sz' _ (up_same _ _ _) (up_same _ _ _).symm ⟨A3, c3', by rw [up_same]; exact hv⟩⟩
            · cases ho
          · cases ho
        · -- nil
          split at ho
          · rename_i hnil
            simp at ho; subst ho
            obtain ⟨c1, c2, c3⟩ := hc
            cases ha
            have hnil' := nilV_eq hnil
            subst hnil'
            rcases Nat.eq_zero_or_pos ys.length with hm | hm
            · have hys0 : ys = [] := List.eq_nil_of_length_eq_zero hm
              subst hys0
              obtain ⟨H, E, V⟩ := h.slice (r := q) (w' := w) e sz [] (.slice none 0 0) [] h0 (.fresh hq) (ownsAt_nil _ _ _) ⟨fun r hr => by simp at hr, by simp, fun i j d hd => by simp [rowAt] at hd⟩ (World.grownBy.refl _ none) (fun k hk => by cases hk) (fun g hg => by cases hg) (fun _ _ => rfl)
              exact ⟨_, _, _, _, append_zero hu hi (Nat.le_refl _), H, E, V⟩
            · obtain ⟨bb, off, rfl, vs, hvl, hvc, hv1, hvr⟩ := src_cells (w := w) (Z := Z) c3 hA hm
              have hr := run_append_nil (P := P) w T ty e i z hu hi hz ⟨bb, off, none⟩ ys.length c vs (by rw [hvl, his]) hvc hm (by omega) (by rw [hib]; omega)
              have hge := grownCap_ge w ys.length 0 e
              have hcm := grownCap_le_maxLen w ys.length 0 e (by unfold maxLen; omega)
              obtain ⟨H, E, V⟩ := h.laid hq (e := e) (sz := sz) (n := ys.length) (cap := grownCap w ys.length 0 e) (rows := ys) (cur := vs.toArray ++ Builtin.zeroCells z.cells (grownCap w ys.length 0 e - ys.length)) (w1 := w.drew) rfl rfl rfl rfl h0 rfl hge hcm (by
                simp only [Array.size_append, List.size_toArray, hzc, hvl, ← Nat.add_mul]
                congr 1
                omega) (xs := vs) (by
                simp only [Array.toList_append]
                rw [← hvl]
                exact List.take_left) hvr
              exact ⟨_, _, _, _, hr, H, E, V⟩
          · cases ho
        · cases ho
      · cases ho
    · cases ho
  · cases ho
end
end Go.Proofs.Ytkfjaeoehhakpaa
namespace Go.Proofs.Ytkfjaeoehhakpaa
open Go.RowKit
def flatRows (rows : List (List D)) : Prop := ∀ r ∈ rows, ∀ d ∈ r, ∃ x, d = .v x
def tkd (L : Nat → Blk) : TK → AV → Option (Prop × D)
  | .cell, .v x => some (True, .v x)
  | .sl _ sz cols, .v x => if nilV x = true then some (0 < sz ∧ cols.length = sz, .l sz []) else none
  | .sl e sz cols, .own k => match L k with
    | .tr .whole e' sz' cols' rows => some (e' = e ∧ sz' = sz ∧ cols' = cols, .l sz rows)
    | .sl e' sz' rows => some (e' = e ∧ sz' = sz ∧ cols = List.replicate sz TK.cell ∧ flatRows rows, .l sz rows)
    | _ => none
  | _, _ => none
def tkds (L : Nat → Blk) : List TK → List AV → Option (Prop × List D)
  | [], [] => some (True, [])
  | k :: ks, x :: xs => match tkd L k x, tkds L ks xs with | some (c, d), some (c', ds) => some (c ∧ c', d :: ds) | _, _ => none
  | _, _ => none
def tkRows (L : Nat → Blk) (cols : List TK) : List (List AV) → Option (Prop × List (List D))
  | [] => some (True, [])
  | r :: rs => match tkds L cols r, tkRows L cols rs with | some (c, d), some (c', ds) => some (c ∧ c', d :: ds) | _, _ => none
def ownOf : AV → Option Nat
  | .own k => some k
  | _ => none
def isTr (L : Nat → Blk) : AV → Bool
  | .own k => match L k with | .tr .. => true | _ => false
  | _ => false
def nodupB : List Nat → Bool
  | [] => true
  | k :: ks => !(ks.contains k) && nodupB ks
def deadL (ks : List Nat) : List (Nat × Blk) := ks.map fun k => (k, .dead)
section
variable {P : Program} {w w' : World} {Z : Nat → Prop} {L : Nat → Blk} {s : Nat → Value} {F : Nat → Prop} {W0 : Ent}
theorem nodupB_iff : ∀ {ks : List Nat}, nodupB ks = true → ks.Nodup
  | [], _ => List.nodup_nil
  | k :: ks, h => by
    simp only [nodupB, Bool.and_eq_true, Bool.not_eq_true', List.contains_eq_mem, decide_eq_false_iff_not] at h
    exact List.nodup_cons.2 ⟨h.1, nodupB_iff h.2⟩
theorem ups_deadL : ∀ (ks : List Nat) (L : Nat → Blk), ups L (deadL ks) = kills L ks
  | [], L => by funext k; simp [deadL, ups, kills]
  | r :: ks, L => by
    show ups (up L r .dead) (deadL ks) = _
    rw [ups_deadL ks]
    funext k
    simp only [kills, List.mem_cons, up]
    by_cases h1 : k ∈ ks <;> by_cases h2 : k = r <;> simp [h1, h2]
theorem own_moved {k : TK} {d : D} {u : Value} (h : Own w k d u) (hs : ∀ g, InF w k d u g → w'.heap[g]? = w.heap[g]?) : Own w' k d u ∧ ∀ g, InF w' k d u g → InF w k d u g :=
  ⟨h.move hs, fun _ hg => hg.same hs⟩
theorem tree_mk {e : TypeId} {sz : Nat} {cols : List TK} {rows : List (List D)} {v : Value} {xs : List Value} (h0 : 0 < sz) (hc : cols.length = sz) (hr : ∀ r ∈ rows, r.length = sz) (ho : ownsAt w' e sz v rows.length xs)
    (S : Nat → Nat → Nat → Prop) (kid : ∀ i j d k, rowAt rows i j = some d → cols[j]? = some k → ∃ u, xs[i * sz + j]? = some u ∧ Own w' k d u ∧ ∀ g, InF w' k d u g → S i j g)
    (hS : ∀ i j g, S i j g → vblk v ≠ some g) (hd : ∀ i j i' j' g, S i j g → S i' j' g → i = i' ∧ j = j') :
    BlkR w' Z L s (.tr .whole e sz cols rows) v ∧ ∀ g, Fp w' (.tr .whole e sz cols rows) v g → vblk v = some g ∨ ∃ i j, S i j g := by
  have col : ∀ i j d, rowAt rows i j = some d → ∃ k, cols[j]? = some k := fun i j d hd => by
    refine ⟨cols[j]'?_, List.getElem?_eq_getElem ?_⟩ <;>
    · rw [hc]
      unfold rowAt at hd
      cases hrow : rows[i]? with
      | none => simp [hrow] at hd
      | some row =>
        simp [hrow] at hd
        rw [← hr row (List.mem_of_getElem? hrow)]
        exact (List.getElem?_eq_some_iff.1 hd).1
  have hu : ∀ i j d, rowAt rows i j = some d → xs[i * sz + j]? = some (xs.getD (i * sz + j) undef) := fun i j d hd => by
    obtain ⟨k, hk⟩ := col i j d hd
    obtain ⟨u, hu, _⟩ := kid i j d k hd hk
    simp [List.getD, hu]
  have kid' : ∀ i j d k, rowAt rows i j = some d → cols[j]? = some k → Own w' k d (xs.getD (i * sz + j) undef) ∧ ∀ g, InF w' k d (xs.getD (i * sz + j) undef) g → S i j g := fun i j d k hd hk => by
    obtain ⟨u, hu, h2⟩ := kid i j d k hd hk
    have e : xs.getD (i * sz + j) undef = u := by simp [List.getD, hu]
    rw [e]
    exact h2
  refine ⟨⟨xs, fun i j => xs.getD (i * sz + j) undef, ⟨h0, hc, hr, ho, hu, fun i j d hd => ?_, fun i j d k _ hd hk => (kid' i j d k hd hk).1, fun i j d k g _ hd hk hg => hS i j g ((kid' i j d k hd hk).2 g hg), fun i j d k i' j' d' k' g _ _ a1 a2 a3 a4 a5 a6 => hd i j i' j' g ((kid' i j d k a1 a2).2 g a5) ((kid' i' j' d' k' a3 a4).2 g a6)⟩, fun i j q hq => by cases hq⟩, fun g hg => ?_⟩
  · obtain ⟨k, hk⟩ := col i j d hd
    exact (kid' i j d k hd hk).1.one
  · rcases hg with hg | ⟨i, j, d, k, u, _, hd, hk, hcell, hg⟩
    · exact .inl hg
    · have := own_cell ho (hu i j d hd)
      rw [hcell] at this
      cases this
      exact .inr ⟨i, j, (kid' i j d k hd hk).2 g hg⟩
theorem tkd_live {k : TK} {x : AV} {c : Prop} {d : D} (hd : tkd L k x = some (c, d)) {b : Nat} (hb : ownOf x = some b) : (L b).live := by
  cases x <;> simp only [ownOf] at hb <;> (try (cases hb; done))
  cases hb
  cases k with
  | cell => cases hd
  | sl e sz cols =>
    simp only [tkd] at hd
    split at hd
    · rename_i h; rw [h]; trivial
    · rename_i h; rw [h]; trivial
    · cases hd
theorem tkd_ok (h : HR F W0 w L s Z) {k : TK} {x : AV} {y : Value} {c : Prop} {d : D} (hx : AVR w Z L s x y) (ho : y.oneCell' = true) (hd : tkd L k x = some (c, d)) (hc : c) :
    Own w k d y ∧ ∀ g, InF w k d y g → ∃ b, ownOf x = some b ∧ (L b).live ∧ Fp w (L b) (s b) g := by
  unfold tkd at hd
  split at hd
  · cases hd
    cases hx
    exact ⟨.cell _ ho, fun g hg => by cases hg⟩
  · rename_i e sz cols x
    split at hd
    · rename_i hn
      cases hd
      cases hx
      rw [nilV_eq hn]
      refine ⟨.sl e sz cols [] _ [] (fun _ _ => undef) hc.1 hc.2 (fun r hr => by simp at hr) (ownsAt_nil _ _ _) (fun i j d h => by simp [rowAt] at h) (fun i j d k h => by simp [rowAt] at h) (fun i j d k g h => by simp [rowAt] at h) (fun i j d k i' j' d' k' g h => by simp [rowAt] at h), fun g hg => ?_⟩
      cases hg with
      | here _ _ _ _ _ _ h => cases h
      | down _ _ _ _ _ i j d k u g hd => simp [rowAt] at hd
    · cases hd
  · rename_i e sz cols b
    split at hd
    · rename_i e' sz' cols' rows hL
      cases hd
      obtain ⟨rfl, rfl, rfl⟩ := hc
      have hy : y = s b := by
        cases hx with
        | own _ _ _ _ _ hd _ _ => rw [hL] at hd; cases hd
        | ownStill _ _ _ _ hd _ _ => rw [hL] at hd; cases hd
        | ownTr _ _ _ _ _ _ _ _ hx _ => exact hx
        | ownDead _ _ hd _ => rw [hL] at hd; cases hd
        | ownOff _ _ _ _ _ hd _ _ => rw [hL] at hd; cases hd
      have hb := h.blk b
      rw [hL] at hb
      obtain ⟨xs, u, hT, -⟩ := hb
      rw [hy]
      refine ⟨hT.own fun _ _ => rfl, fun g hg => ⟨b, rfl, by rw [hL]; trivial, ?_⟩⟩
      rw [hL]
      exact InX.of (ex := fun _ _ => false) hg
    · rename_i e' sz' rows hL
      cases hd
      obtain ⟨rfl, rfl, rfl, hflat⟩ := hc
      have hy : y = s b := by
        cases hx with
        | own _ _ _ _ _ _ hx _ => exact hx
        | ownStill _ _ _ _ hd _ _ => rw [hL] at hd; cases hd
        | ownTr _ _ _ _ _ _ _ hd => rw [hL] at hd; cases hd
        | ownDead _ _ hd _ => rw [hL] at hd; cases hd
        | ownOff _ _ _ _ _ hd _ _ => rw [hL] at hd; cases hd
      have hb := h.blk b
      rw [hL] at hb
      obtain ⟨h0, xs, hown, hrows⟩ := hb.rows
      rw [hy]
      have cel : ∀ i j d, rowAt rows i j = some d → ∃ u, xs[i * sz' + j]? = some u ∧ Own w .cell d u := fun i j d hd => by
        obtain ⟨u, hu, hr⟩ := hrows.2.2 i j d hd
        refine ⟨u, hu, ?_⟩
        unfold rowAt at hd
        cases hrow : rows[i]? with
        | none => simp [hrow] at hd
        | some row =>
          simp [hrow] at hd
          obtain ⟨x, rfl⟩ := hflat row (List.mem_of_getElem? hrow) d (List.mem_of_getElem? hd)
          cases hr with
          | v _ h => exact .cell _ h
      have hcell : ∀ j k, (List.replicate sz' TK.cell)[j]? = some k → k = TK.cell := fun j k hk => (List.mem_replicate.1 (List.mem_of_getElem? hk)).2
      refine ⟨.sl e' sz' _ rows _ xs (fun i j => xs.getD (i * sz' + j) undef) h0 (by simp) hrows.1 hown (fun i j d hd => ?_) (fun i j d k hd hk => ?_) (fun i j d k g hd hk hg => ?_) (fun i j d k i' j' d' k' g a1 a2 a3 a4 a5 => ?_), fun g hg => ⟨b, rfl, by rw [hL]; trivial, ?_⟩⟩
      · obtain ⟨u, hu, _⟩ := cel i j d hd
        simp [List.getD, hu]
      · obtain ⟨u, hu, hcc⟩ := cel i j d hd
        rw [hcell j k hk]
        simp [List.getD, hu]
        exact hcc
      · rw [hcell j k hk] at hg; cases hg
      · rw [hcell j k a2] at a5; cases a5
      · rw [hL]
        cases hg with
        | here _ _ _ _ _ _ h => exact h
        | down _ _ _ _ _ i j d k u g hd hk hu hin => rw [hcell j k hk] at hin; cases hin
    · cases hd
  · cases hd
theorem tkds_ok (h : HR F W0 w L s Z) : ∀ {cols : List TK} {xs : List AV} {c : Prop} {ds : List D}, tkds L cols xs = some (c, ds) → c → ds.length = xs.length ∧ cols.length = xs.length ∧
    ∀ (j : Nat) x y d k, xs[j]? = some x → ds[j]? = some d → cols[j]? = some k → AVR w Z L s x y → y.oneCell' = true → Own w k d y ∧ ∀ g, InF w k d y g → ∃ b, ownOf x = some b ∧ (L b).live ∧ Fp w (L b) (s b) g
  | [], [], c, ds, hd, hc => by
    simp only [tkds] at hd
    cases hd
    exact ⟨rfl, rfl, fun j x y d k hx => by simp at hx⟩
  | k :: cols, x :: xs, c, ds, hd, hc => by
    simp only [tkds] at hd
    split at hd
    · rename_i c1 d1 c2 d2 h1 h2
      cases hd
      obtain ⟨k1, k2, k3⟩ := tkds_ok h h2 hc.2
      refine ⟨by simp [k1], by simp [k2], fun j x' y d k' hx hd hk hr ho => ?_⟩
      cases j with
      | zero =>
        simp at hx hd hk
        subst hx; subst hd; subst hk
        exact tkd_ok h hr ho h1 hc.1
      | succ j => exact k3 j x' y d k' (by simpa using hx) (by simpa using hd) (by simpa using hk) hr ho
    · cases hd
  | [], _ :: _, c, ds, hd, _ => by simp [tkds] at hd
  | _ :: _, [], c, ds, hd, _ => by simp [tkds] at hd
theorem tkds_live : ∀ {cols : List TK} {xs : List AV} {c : Prop} {ds : List D}, tkds L cols xs = some (c, ds) → ∀ x ∈ xs, ∀ b, ownOf x = some b → (L b).live
  | [], [], c, ds, hd => fun x hx => by simp at hx
  | k :: cols, x :: xs, c, ds, hd => by
    simp only [tkds] at hd
    split at hd
    · rename_i c1 d1 c2 d2 h1 h2
      intro y hy b hb
      rcases List.mem_cons.1 hy with rfl | hy
      · exact tkd_live h1 hb
      · exact tkds_live h2 y hy b hb
    · cases hd
  | [], _ :: _, c, ds, hd => by simp [tkds] at hd
  | _ :: _, [], c, ds, hd => by simp [tkds] at hd
theorem tkRows_ok (h : HR F W0 w L s Z) {cols : List TK} : ∀ {rows : List (List AV)} {c : Prop} {ds : List (List D)}, tkRows L cols rows = some (c, ds) → c → ds.length = rows.length ∧ (∀ r ∈ ds, r.length = cols.length) ∧
    ∀ (i j : Nat) x y d k, (rows[i]?).bind (·[j]?) = some x → rowAt ds i j = some d → cols[j]? = some k → AVR w Z L s x y → y.oneCell' = true → Own w k d y ∧ ∀ g, InF w k d y g → ∃ b, ownOf x = some b ∧ (L b).live ∧ Fp w (L b) (s b) g
  | [], c, ds, hd, hc => by
    simp only [tkRows] at hd
    cases hd
    exact ⟨rfl, fun r hr => by simp at hr, fun i j x y d k hx => by simp at hx⟩
  | r :: rows, c, ds, hd, hc => by
    simp only [tkRows] at hd
    split at hd
    · rename_i c1 d1 c2 d2 h1 h2
      cases hd
      obtain ⟨k1, k2, k3⟩ := tkRows_ok h h2 hc.2
      obtain ⟨l1, l2, l3⟩ := tkds_ok h h1 hc.1
      refine ⟨by simp [k1], fun r' hr => ?_, fun i j x y d k hx hd hk hr ho => ?_⟩
      · rcases List.mem_cons.1 hr with rfl | hr
        · omega
        · exact k2 r' hr
      · cases i with
        | zero => exact l3 j x y d k (by simpa using hx) (by simpa [rowAt] using hd) hk hr ho
        | succ i => exact k3 i j x y d k (by simpa using hx) (by simpa [rowAt] using hd) hk hr ho
    · cases hd
theorem tkRows_live {cols : List TK} : ∀ {rows : List (List AV)} {c : Prop} {ds : List (List D)}, tkRows L cols rows = some (c, ds) → ∀ x ∈ rows.flatten, ∀ b, ownOf x = some b → (L b).live
  | [], c, ds, hd => fun x hx => by simp at hx
  | r :: rows, c, ds, hd => by
    simp only [tkRows] at hd
    split at hd
    · rename_i c1 d1 c2 d2 h1 h2
      intro x hx b hb
      rw [List.flatten_cons, List.mem_append] at hx
      rcases hx with hx | hx
      · exact tkds_live h1 x hx b hb
      · exact tkRows_live h2 x hx b hb
    · cases hd
theorem filterMap_inj {α : Type} {f : α → Option Nat} : ∀ {l : List α}, (l.filterMap f).Nodup → ∀ {m m' : Nat} {a a' : α} {b : Nat}, l[m]? = some a → f a = some b → l[m']? = some a' → f a' = some b → m = m'
  | [], _, m, m', a, a', b, h, _, _, _ => by simp at h
  | x :: l, hn, m, m', a, a', b, h1, h2, h3, h4 => by
    have tl : (l.filterMap f).Nodup := by
      rw [List.filterMap_cons] at hn
      split at hn
      · exact hn
      · exact (List.nodup_cons.1 hn).2
    have no : ∀ (n : Nat) (c : α), l[n]? = some c → f c = some b → f x ≠ some b := fun n c hc hb hx => by
      rw [List.filterMap_cons, hx] at hn
      exact (List.nodup_cons.1 hn).1 (List.mem_filterMap.2 ⟨c, List.mem_of_getElem? hc, hb⟩)
    cases m with
    | zero =>
      cases m' with
      | zero => rfl
      | succ m' =>
        simp at h1 h3
        subst h1
        exact absurd h2 (no m' a' h3 h4)
    | succ m =>
      cases m' with
      | zero =>
        simp at h1 h3
        subst h3
        exact absurd h4 (no m a h1 h2)
      | succ m' =>
        have := filterMap_inj (m := m) (m' := m') tl (by simpa using h1) h2 (by simpa using h3) h4
        rw [this]
theorem flatten_at {α : Type} {sz : Nat} : ∀ {rows : List (List α)}, (∀ r ∈ rows, r.length = sz) → ∀ (i j : Nat) (x : α), (rows[i]?).bind (·[j]?) = some x → rows.flatten[i * sz + j]? = some x
  | [], _, i, j, x, h => by simp at h
  | r :: rows, hr, i, j, x, h => by
    have hrl := hr r (by simp)
    cases i with
    | zero =>
      simp at h
      rw [List.flatten_cons, Nat.zero_mul, Nat.zero_add, List.getElem?_append_left (List.getElem?_eq_some_iff.1 h).1]
      exact h
    | succ i =>
      rw [List.flatten_cons, List.getElem?_append_right (by rw [hrl, Nat.succ_mul]; omega)]
      have := flatten_at (rows := rows) (fun r' h' => hr r' (List.mem_cons_of_mem _ h')) i j x (by simpa using h)
      rw [← this]
      congr 1
      rw [hrl, Nat.succ_mul]
      omega
theorem pos_inj {sz i j i' j' : Nat} (hj : j < sz) (hj' : j' < sz) (h : i * sz + j = i' * sz + j') : i = i' ∧ j = j' := by
  have h1 : (i * sz + j) / sz = (i' * sz + j') / sz := by rw [h]
  have h0 : 0 < sz := by omega
  rw [Nat.add_comm, Nat.add_mul_div_right _ _ h0, Nat.div_eq_of_lt hj, Nat.add_comm (i' * sz), Nat.add_mul_div_right _ _ h0, Nat.div_eq_of_lt hj'] at h1
  have : i = i' := by omega
  subst this
  omega
theorem row_lt {sz : Nat} {rows : List (List D)} (hr : ∀ r ∈ rows, r.length = sz) {i j : Nat} {d : D} (hd : rowAt rows i j = some d) : i < rows.length ∧ j < sz := by
  unfold rowAt at hd
  cases hrow : rows[i]? with
  | none => simp [hrow] at hd
  | some row =>
    simp [hrow] at hd
    rw [← hr row (List.mem_of_getElem? hrow)]
    exact ⟨(List.getElem?_eq_some_iff.1 hrow).1, (List.getElem?_eq_some_iff.1 hd).1⟩
def oBuildTree (P : Program) (L : Nat → Blk) (T : TypeId) (n : Nat) (parts : List (Nat × AV)) (q : Nat) : Option Out :=
  match P.underlying T with
  | some (.slice e) => match inf P e with
    | some (some z, sz, _) => if 0 < sz ∧ z.cells.size = sz ∧ n * sz ≤ 16777216 ∧ z.cells.toList.all (·.oneCell') = true then
      match fillR sz (List.replicate n (z.cells.toList.map .v)) parts with
      | some rows => if nodupB (rows.flatten.filterMap ownOf) = true ∧ (colsOf P 8 e).length = sz then match tkRows L (colsOf P 8 e) rows with
        | some (c, ds) => some ⟨c, .own q, deadL (rows.flatten.filterMap ownOf) ++ [(q, .tr .whole e sz (colsOf P 8 e) ds)]⟩
        | none => none else none
      | none => none else none
    | _ => none
  | _ => none
theorem oBuildTree_ok (h : HR F W0 w L s Z) {T : TypeId} {n q : Nat} (hq : L q = .none) {ps : List (Nat × AV)} {qs : List (Nat × Value)} (hp : PRel w Z L s ps qs) {out : Out} (ho : oBuildTree P L T n ps q = some out) (hc : out.c) :
    ∃ v w' s', (Instr.buildSlice T n qs.toArray).run P w = .ok v w' ∧ HR F W0 w' (ups L out.ups) s' Z ∧ Ext w Z L s w' Z (ups L out.ups) s' ∧ AVR w' Z (ups L out.ups) s' out.dst v := by
  unfold oBuildTree at ho
  split at ho
  · rename_i e hu
    split at ho
    · rename_i z sz by_ hinf
      obtain ⟨i, hi, hz, his, _⟩ := inf_info hinf
      split at ho
      · rename_i hh
        obtain ⟨h0, hzs, hlim, hone⟩ := hh
        split at ho
        · rename_i rows hfill
          split at ho
          · rename_i hh2
            obtain ⟨hnd, hcols⟩ := hh2
            split at ho
            · rename_i c ds hds
              cases ho
              obtain ⟨vs, r1, r2, r3⟩ := fillR_ok (place := fun i => some (i * sz, sz)) (fun _ => rfl) hp (made_rel (L := L) (s := s) (Z := Z) (w := w) hone (n := n) h0 hzs) hfill
              simp at r3
              obtain ⟨k1, k2, k3⟩ := tkRows_ok h hds hc
              have hlive := tkRows_live hds
              have hnd := nodupB_iff hnd
              have hksl : ∀ b ∈ rows.flatten.filterMap ownOf, (L b).live := fun b hb => by
                obtain ⟨x, hx, hxb⟩ := List.mem_filterMap.1 hb
                exact hlive x hx b hxb
              have hqk : q ∉ rows.flatten.filterMap ownOf := fun hm => by have := hksl q hm; rw [hq] at this; exact this
              have hlen : vs.length = n * sz := by rw [r2.2.1, r3]
              have hdl : ds.length = n := by omega
              have hnew : (w.alloc (.cells vs.toArray e)).heap[w.heap.size]? = some (.cells vs.toArray e (0, 0)) := heap_alloc_new w _
              have hold : ∀ b, b < w.heap.size → (w.alloc (.cells vs.toArray e)).heap[b]? = w.heap[b]? := fun b hb => Below.heap_alloc w _ b hb
              have hrl : ∀ r ∈ ds, r.length = sz := fun r hr => by rw [k2 r hr, hcols]
              have hown : ownsAt (w.alloc (.cells vs.toArray e)) e sz (.slice (some ⟨w.heap.size, 0, none⟩) n n) ds.length vs := by
                rw [hdl]
                refine ownsAt_of (base := 0) ⟨hlen, .inr ⟨w.heap.size, n, vs.toArray, rfl, Nat.zero_le _, hnew, Nat.le_refl _, ?_, by simp [hlen], List.take_of_length_le (by simp; omega)⟩⟩
                have : n ≤ n * sz := Nat.le_mul_of_pos_right n h0
                unfold maxLen; omega
              have key := fun (Z' : Nat → Prop) (L' : Nat → Blk) (s' : Nat → Value) => tree_mk (w' := w.alloc (.cells vs.toArray e)) (Z := Z') (L := L') (s := s') h0 hcols hrl hown
                (fun i j g => ∃ x b, (rows[i]?).bind (·[j]?) = some x ∧ j < sz ∧ ownOf x = some b ∧ (L b).live ∧ Fp w (L b) (s b) g)
                (fun i j d k hd hk => by
                  obtain ⟨hi', hj⟩ := row_lt hrl hd
                  have hx : ∃ x, (rows[i]?).bind (·[j]?) = some x := by
                    have hi2 : i < rows.length := by omega
                    have hjl : j < rows[i].length := by rw [(r2.1 _ (List.getElem_mem hi2)).1]; exact hj
                    exact ⟨rows[i][j], by simp [List.getElem?_eq_getElem hi2, List.getElem?_eq_getElem hjl]⟩
                  obtain ⟨x, hx⟩ := hx
                  obtain ⟨y, hy, hr, ho⟩ := r2.2.2 i j x hx
                  obtain ⟨a1, a2⟩ := k3 i j x y d k hx hd hk hr ho
                  obtain ⟨b1, b2⟩ := own_moved (w' := w.alloc (.cells vs.toArray e)) a1 fun g hg => by
                    obtain ⟨b, _, hb2, hb3⟩ := a2 g hg
                    exact hold g (h.mineF b g hb2 hb3).2
                  refine ⟨y, hy, b1, fun g hg => ?_⟩
                  obtain ⟨b, hb1, hb2, hb3⟩ := a2 g (b2 g hg)
                  exact ⟨x, b, hx, hj, hb1, hb2, hb3⟩)
                (fun i j g ⟨x, b, _, _, _, hb2, hb3⟩ hv => by
                  have := (h.mineF b g hb2 hb3).2
                  simp [vblk] at hv
                  omega)
                (fun i j i' j' g ⟨x, b, hx, hj, hb1, hb2, hb3⟩ ⟨x', b', hx', hj', hb1', hb2', hb3'⟩ => by
                  have := h.sepF b b' g hb2 hb2' hb3 hb3'
                  subst this
                  have hrr : ∀ r ∈ rows, r.length = sz := fun r hr => (r2.1 r hr).1
                  exact pos_inj hj hj' (filterMap_inj hnd (flatten_at hrr i j x hx) hb1 (flatten_at hrr i' j' x' hx') hb1'))
              obtain ⟨H, E⟩ := h.join (w' := w.alloc (.cells vs.toArray e)) q (rows.flatten.filterMap ownOf) (.tr .whole e sz (colsOf P 8 e) ds) (.slice (some ⟨w.heap.size, 0, none⟩) n n) hqk (.fresh hq) (by intro _ _ hc; cases hc) rfl rfl rfl (by simp)
                (fun b hb _ => hold b hb) (fun _ => (key _ _ _).1) (fun _ g hg => by
                  rcases (key Z L s).2 g hg with hv | ⟨i, j, x, b, hx, _, hb1, hb2, hb3⟩
                  · left
                    simp [vblk] at hv
                    subst hv
                    simp
                  · right
                    refine ⟨b, .inr (List.mem_filterMap.2 ⟨x, ?_, hb1⟩), hb2, hb3⟩
                    obtain ⟨row, hr1, hr2⟩ := Option.bind_eq_some_iff.1 hx
                    exact List.mem_flatten.2 ⟨row, List.mem_of_getElem? hr1, List.mem_of_getElem? hr2⟩)
              refine ⟨.slice (some ⟨w.heap.size, 0, none⟩) n n, _, _, ?_, by rw [ups_append, ups_deadL]; exact H, by rw [ups_append, ups_deadL]; exact E, ?_⟩
              · simp only [Array.toArray_toList] at r1
                by_cases hn : n * sz = 0
                · have hvs : vs = [] := List.eq_nil_of_length_eq_zero (by omega)
                  have hmz : madeCells z.cells (n * sz) = #[] := by simp [madeCells, hn]
                  rw [hmz] at r1
                  have e0 : Array.map (fun _ => (default : Value)) (Array.range 0) = #[] := by simp
                  simp [Instr.buildSlice, run_underlying hu, sizeOf, typeInfo, hi, his, hn, e0, r1, newRow, newObj, Sem.run]
                · have hm : ¬ n * sz > 16777216 := by omega
                  have r1' : Instr.fill (fun i => some (i * sz, sz)) ((Array.range (n * sz)).map fun x => z.cells[x % z.cells.size]!) qs = some vs.toArray := r1
                  simp [Instr.buildSlice, run_underlying hu, sizeOf, typeInfo, zeroValue, hi, his, hz, hn, hm, r1', newRow, newObj, Sem.run]
              · rw [ups_append, ups_deadL]
                exact .ownTr q _ .whole e sz (colsOf P 8 e) ds (up_same _ _ _) (up_same _ _ _).symm ⟨_, _, by rw [up_same, hdl]⟩
            · cases ho
          · cases ho
        · cases ho
      · cases ho
    · cases ho
  · cases ho
def treeOf (L : Nat → Blk) (e : TypeId) (sz : Nat) (cols : List TK) : AV → Option (Prop × List Nat × List (List D))
  | .v x => if nilV x = true then some (0 < sz ∧ cols.length = sz, [], []) else none
  | .own r => match L r with
    | .tr .whole e' sz' cols' xs => some (e' = e ∧ sz' = sz ∧ cols' = cols, [r], xs)
    | .tr (.kid _) e' sz' cols' xs => some (e' = e ∧ sz' = sz ∧ cols' = cols, [r], xs)
    | .sl e' sz' xs => some (e' = e ∧ sz' = sz ∧ cols.length = sz ∧ xs = [], [r], [])
    | _ => none
  | _ => none
theorem treeOf_ok (h : HR F W0 w L s Z) {e : TypeId} {sz : Nat} {cols : List TK} {x : AV} {y : Value} (hx : AVR w Z L s x y) {c : Prop} {ks : List Nat} {rows : List (List D)} (ht : treeOf L e sz cols x = some (c, ks, rows)) (hc : c) :
    ∃ xs u, Tree w (fun _ _ => false) e sz cols rows y xs u ∧ (∀ g, InX w (fun _ _ => false) sz cols rows y g → ∃ b ∈ ks, (L b).live ∧ Fp w (L b) (s b) g) ∧ ∀ b ∈ ks, (L b).live := by
  unfold treeOf at ht
  split at ht
  · split at ht
    · rename_i hn
      cases ht
      cases hx
      rw [nilV_eq hn]
      have no : ∀ i j d, ¬ rowAt ([] : List (List D)) i j = some d := fun i j d h => by simp [rowAt] at h
      refine ⟨[], fun _ _ => undef, ⟨hc.1, hc.2, fun r hr => by simp at hr, ownsAt_nil _ _ _, fun i j d h => (no i j d h).elim, fun i j d h => (no i j d h).elim, fun i j d k _ h => (no i j d h).elim, fun i j d k g _ h => (no i j d h).elim, fun i j d k i' j' d' k' g _ _ h => (no i j d h).elim⟩, fun g hg => ?_, fun b hb => by simp at hb⟩
      rcases hg with hg | ⟨i, j, d, k, u, _, hd, _⟩
      · cases hg
      · exact (no i j d hd).elim
    · cases ht
  · rename_i r
    split at ht
    · rename_i e' sz' cols' xs hL
      cases ht
      obtain ⟨rfl, rfl, rfl⟩ := hc
      have hy : y = s r := by
        cases hx with
        | own _ _ _ _ _ hd _ _ => rw [hL] at hd; cases hd
        | ownStill _ _ _ _ hd _ _ => rw [hL] at hd; cases hd
        | ownTr _ _ _ _ _ _ _ _ hx _ => exact hx
        | ownDead _ _ hd _ => rw [hL] at hd; cases hd
        | ownOff _ _ _ _ _ hd _ _ => rw [hL] at hd; cases hd
      have hb := h.blk r
      rw [hL] at hb
      obtain ⟨us, u, hT, -⟩ := hb
      subst hy
      refine ⟨us, u, hT, fun g hg => ⟨r, by simp, by rw [hL]; trivial, by rw [hL]; exact hg⟩, fun b hb => ?_⟩
      rw [List.mem_singleton.1 hb, hL]; trivial
    · rename_i _ e' sz' cols' xs hL
      cases ht
      obtain ⟨rfl, rfl, rfl⟩ := hc
      have hy : y = s r := by
        cases hx with
        | own _ _ _ _ _ hd _ _ => rw [hL] at hd; cases hd
        | ownStill _ _ _ _ hd _ _ => rw [hL] at hd; cases hd
        | ownTr _ _ _ _ _ _ _ _ hx _ => exact hx
        | ownDead _ _ hd _ => rw [hL] at hd; cases hd
        | ownOff _ _ _ _ _ hd _ _ => rw [hL] at hd; cases hd
      have hb := h.blk r
      rw [hL] at hb
      obtain ⟨us, u, hT, -⟩ := hb
      subst hy
      refine ⟨us, u, hT, fun g hg => ⟨r, by simp, by rw [hL]; trivial, by rw [hL]; exact hg⟩, fun b hb => ?_⟩
      rw [List.mem_singleton.1 hb, hL]; trivial
    · rename_i e' sz' xs hL
      cases ht
      obtain ⟨rfl, rfl, hcl, rfl⟩ := hc
      have hy : y = s r := by
        cases hx with
        | own _ _ _ _ _ _ hx _ => exact hx
        | ownStill _ _ _ _ hd _ _ => rw [hL] at hd; cases hd
        | ownTr _ _ _ _ _ _ _ hd => rw [hL] at hd; cases hd
        | ownDead _ _ hd _ => rw [hL] at hd; cases hd
        | ownOff _ _ _ _ _ hd _ _ => rw [hL] at hd; cases hd
      have hb := h.blk r
      rw [hL] at hb
      obtain ⟨h0, us, hown, hrows⟩ := hb.rows
      subst hy
      have no : ∀ i j d, ¬ rowAt ([] : List (List D)) i j = some d := fun i j d h => by simp [rowAt] at h
      refine ⟨us, fun _ _ => undef, ⟨h0, hcl, fun r hr => by simp at hr, hown, fun i j d h => (no i j d h).elim, fun i j d h => (no i j d h).elim, fun i j d k _ h => (no i j d h).elim, fun i j d k g _ h => (no i j d h).elim, fun i j d k i' j' d' k' g _ _ h => (no i j d h).elim⟩, fun g hg => ?_, fun b hb => ?_⟩
      · rcases hg with hg | ⟨i, j, d, k, u, _, hd, _⟩
        · exact ⟨r, by simp, by rw [hL]; trivial, .root hg⟩
        · exact (no i j d hd).elim
      · rw [List.mem_singleton.1 hb, hL]; trivial
    · cases ht
  · cases ht
def oAppendTree (P : Program) (L : Nat → Blk) (T : TypeId) (x y : AV) (q : Nat) : Option Out :=
  match P.underlying T with
  | some (.slice e) => match inf P e with
    | some (some z, sz, by_) => if 0 < sz ∧ z.cells.size = sz then match treeOf L e sz (colsOf P 8 e) x, treeOf L e sz (colsOf P 8 e) y with
      | some (c1, k1, xs), some (c2, k2, ys) => if nodupB (k1 ++ k2) = true then some ⟨c1 ∧ c2 ∧ (xs.length + ys.length) * by_ ≤ 1099511627776 ∧ xs.length + ys.length ≤ 1099511627776, .own q, deadL (k1 ++ k2) ++ [(q, .tr .whole e sz (colsOf P 8 e) (xs ++ ys))]⟩ else none
      | _, _ => none
      else none
    | _ => none
  | _ => none
theorem tree_cell {ex : Nat → Nat → Bool} {e : TypeId} {sz : Nat} {cols : List TK} {rows : List (List D)} {v : Value} {xs : List Value} {u : Nat → Nat → Value} (hT : Tree w ex e sz cols rows v xs u) {i j : Nat} {d : D} {k : TK} {g : Nat} (he : ex i j = false) (hd : rowAt rows i j = some d) (hk : cols[j]? = some k) (hg : InF w k d (u i j) g) : InX w ex sz cols rows v g :=
  .inr ⟨i, j, d, k, _, he, hd, hk, own_cell hT.ho (hT.hu i j d hd), hg⟩
theorem oAppendTree_ok (h : HR F W0 w L s Z) {T ty : TypeId} {q : Nat} (hq : L q = .none) {a b : AV} {x y : Value} (ha : AVR w Z L s a x) (hb : AVR w Z L s b y) {out : Out} (ho : oAppendTree P L T a b q = some out) (hc : out.c) :
    ∃ v w' s', (Builtin.append_ #[T, T] ty #[x, y]).run P w = .ok v w' ∧ HR F W0 w' (ups L out.ups) s' Z ∧ Ext w Z L s w' Z (ups L out.ups) s' ∧ AVR w' Z (ups L out.ups) s' out.dst v := by
  unfold oAppendTree at ho
  split at ho
  · rename_i e hu
    split at ho
    · rename_i z sz by_ hinf
      obtain ⟨i, hi, hz, his, hib⟩ := inf_info hinf
      split at ho
      · rename_i hh
        obtain ⟨h0, hzs⟩ := hh
        split at ho
        · rename_i p1 k1 xs p2 k2 ys ht1 ht2
          split at ho
          · rename_i hnd
            cases ho
            obtain ⟨c1, c2, c3, c4⟩ := hc
            have hnd := nodupB_iff hnd
            obtain ⟨us, uu, hT1, hF1, hl1⟩ := treeOf_ok h ha ht1 c1
            obtain ⟨vs, uv, hT2, hF2, hl2⟩ := treeOf_ok h hb ht2 c2
            have hdisj : ∀ b1 ∈ k1, ∀ b2 ∈ k2, b1 ≠ b2 := fun b1 h1 b2 h2 => (List.nodup_append.1 hnd).2.2 b1 h1 b2 h2
            have hlive : ∀ b ∈ k1 ++ k2, (L b).live := fun b hb => (List.mem_append.1 hb).elim (hl1 b) (hl2 b)
            have hqk : q ∉ k1 ++ k2 := fun hm => by have := hlive q hm; rw [hq] at this; exact this
            have apart : ∀ g, InX w (fun _ _ => false) sz (colsOf P 8 e) xs x g → InX w (fun _ _ => false) sz (colsOf P 8 e) ys y g → False := fun g g1 g2 => by
              obtain ⟨b1, m1, l1, f1⟩ := hF1 g g1
              obtain ⟨b2, m2, l2, f2⟩ := hF2 g g2
              exact hdisj b1 m1 b2 m2 (h.sepF b1 b2 g l1 l2 f1 f2)
            have lt1 : ∀ g, InX w (fun _ _ => false) sz (colsOf P 8 e) xs x g → g < w.heap.size := fun g g1 => by
              obtain ⟨b1, m1, l1, f1⟩ := hF1 g g1
              exact (h.mineF b1 g l1 f1).2
            have lt2 : ∀ g, InX w (fun _ _ => false) sz (colsOf P 8 e) ys y g → g < w.heap.size := fun g g1 => by
              obtain ⟨b1, m1, l1, f1⟩ := hF2 g g1
              exact (h.mineF b1 g l1 f1).2
            obtain ⟨A2, cc2, hy⟩ := owns_shape hT2.ho
            have hread : 0 < ys.length → ∃ bb off, A2 = some ⟨bb, off, none⟩ ∧ ∀ j u, vs[j]? = some u → w.cell? ((⟨bb, off, none⟩ : Addr).add j) = some u := fun hm => by
              rcases hT2.ho.2 with ⟨q1, q2⟩ | ⟨g, o, cap, cur, q1, _⟩
              · omega
              · rw [hy] at q1
                cases q1
                exact ⟨g, o, rfl, fun j u hu' => by rw [Addr.add_mid]; exact owns_cells hT2.ho hy j u hu'⟩
            have hv1 : ∀ u ∈ vs, u.oneCell' = true := fun u hm => by
              obtain ⟨m, hm', rfl⟩ := List.mem_iff_getElem.1 hm
              have hl := hT2.ho.1
              have hmd : m / sz < ys.length := Nat.div_lt_of_lt_mul (by rw [Nat.mul_comm, ← hl]; exact hm')
              have hmm : m % sz < sz := Nat.mod_lt _ h0
              have hrow := hT2.hr ys[m / sz] (List.getElem_mem hmd)
              have hd : rowAt ys (m / sz) (m % sz) = some (ys[m / sz][m % sz]'(by rw [hrow]; exact hmm)) := by
                unfold rowAt
                simp [List.getElem?_eq_getElem hmd, List.getElem?_eq_getElem (show m % sz < ys[m / sz].length by rw [hrow]; exact hmm)]
              have e1 := hT2.hu _ _ _ hd
              have e2 := hT2.one _ _ _ hd
              rw [show m / sz * sz + m % sz = m by rw [Nat.mul_comm]; exact Nat.div_add_mod m sz, List.getElem?_eq_getElem hm'] at e1
              rw [Option.some.inj e1]
              exact e2
            obtain ⟨v, w', hrun, hown, hsame, hsz, hos, htape, hout, hvb⟩ := append_run (P := P) (ty := ty) hu hi hz his hib h0 hzs hT1.ho (A := A2) (m := ys.length) (c := cc2) hT2.ho.1 hread hv1 c3 c4
            have hfr1 : ∀ i' j d k, rowAt xs i' j = some d → (colsOf P 8 e)[j]? = some k → ∀ g, InF w k d (uu i' j) g → w'.heap[g]? = w.heap[g]? := fun i' j d k hd hk g hg =>
              hsame g (lt1 g (tree_cell hT1 rfl hd hk hg)) (hT1.h1 i' j d k g rfl hd hk hg)
            have hfr2 : ∀ i' j d k, rowAt ys i' j = some d → (colsOf P 8 e)[j]? = some k → ∀ g, InF w k d (uv i' j) g → w'.heap[g]? = w.heap[g]? := fun i' j d k hd hk g hg =>
              hsame g (lt2 g (tree_cell hT2 rfl hd hk hg)) fun hx => apart g (.inl hx) (tree_cell hT2 rfl hd hk hg)
            have hrl : ∀ r ∈ xs ++ ys, r.length = sz := fun r hr => (List.mem_append.1 hr).elim (hT1.hr r) (hT2.hr r)
            have split_ : ∀ i' j d, rowAt (xs ++ ys) i' j = some d → (i' < xs.length ∧ rowAt xs i' j = some d) ∨ (xs.length ≤ i' ∧ rowAt ys (i' - xs.length) j = some d) := fun i' j d hd => by
              unfold rowAt at hd ⊢
              by_cases hi' : i' < xs.length
              · rw [List.getElem?_append_left hi'] at hd; exact .inl ⟨hi', hd⟩
              · rw [List.getElem?_append_right (by omega)] at hd; exact .inr ⟨by omega, hd⟩
            have key := fun (Z' : Nat → Prop) (L' : Nat → Blk) (s' : Nat → Value) => tree_mk (w' := w') (Z := Z') (L := L') (s := s') (v := v) h0 hT1.hc hrl (by rw [List.length_append]; exact hown)
              (fun i' j g => ∃ d k, (colsOf P 8 e)[j]? = some k ∧ ((i' < xs.length ∧ rowAt xs i' j = some d ∧ InF w k d (uu i' j) g) ∨ (xs.length ≤ i' ∧ rowAt ys (i' - xs.length) j = some d ∧ InF w k d (uv (i' - xs.length) j) g)))
              (fun i' j d k hd hk => by
                rcases split_ i' j d hd with ⟨hi', hd'⟩ | ⟨hi', hd'⟩
                · obtain ⟨b1, b2⟩ := own_moved (hT1.hk i' j d k rfl hd' hk) (hfr1 i' j d k hd' hk)
                  refine ⟨_, ?_, b1, fun g hg => ⟨d, k, hk, .inl ⟨hi', hd', b2 g hg⟩⟩⟩
                  have hj := (row_lt hT1.hr hd').2
                  have := hT1.hu i' j d hd'
                  rw [List.getElem?_append_left (List.getElem?_eq_some_iff.1 this).1]
                  exact this
                · obtain ⟨b1, b2⟩ := own_moved (hT2.hk _ j d k rfl hd' hk) (hfr2 _ j d k hd' hk)
                  refine ⟨_, ?_, b1, fun g hg => ⟨d, k, hk, .inr ⟨hi', hd', b2 g hg⟩⟩⟩
                  have := hT2.hu _ j d hd'
                  have hle : xs.length * sz ≤ i' * sz := Nat.mul_le_mul_right _ hi'
                  rw [List.getElem?_append_right (by rw [hT1.ho.1]; omega), hT1.ho.1, ← this]
                  congr 1
                  rw [Nat.sub_mul]
                  omega)
              (fun i' j g ⟨d, k, hk, hc⟩ hv => by
                rcases hc with ⟨_, hd, hg⟩ | ⟨_, hd, hg⟩
                · rcases hvb g hv with h1 | h1
                  · have := lt1 g (tree_cell hT1 rfl hd hk hg); omega
                  · exact hT1.h1 _ _ _ _ g rfl hd hk hg h1
                · rcases hvb g hv with h1 | h1
                  · have := lt2 g (tree_cell hT2 rfl hd hk hg); omega
                  · exact apart g (.inl h1) (tree_cell hT2 rfl hd hk hg))
              (fun i' j i2 j2 g ⟨d, k, hk, hc⟩ ⟨d2, k2, hk2, hc2⟩ => by
                rcases hc with ⟨_, hd, hg⟩ | ⟨_, hd, hg⟩ <;> rcases hc2 with ⟨_, hd2, hg2⟩ | ⟨_, hd2, hg2⟩
                · exact hT1.h2 _ _ _ _ _ _ _ _ g rfl rfl hd hk hd2 hk2 hg hg2
                · exact (apart g (tree_cell hT1 rfl hd hk hg) (tree_cell hT2 rfl hd2 hk2 hg2)).elim
                · exact (apart g (tree_cell hT1 rfl hd2 hk2 hg2) (tree_cell hT2 rfl hd hk hg)).elim
                · obtain ⟨a1, a2⟩ := hT2.h2 _ _ _ _ _ _ _ _ g rfl rfl hd hk hd2 hk2 hg hg2
                  exact ⟨by omega, a2⟩)
            obtain ⟨H, E⟩ := h.join (w' := w') q (k1 ++ k2) (.tr .whole e sz (colsOf P 8 e) (xs ++ ys)) v hqk (.fresh hq) (by intro _ _ hc; cases hc) hos htape hout hsz
              (fun b hb hne => hsame b hb fun hv => by
                obtain ⟨b1, m1, l1, f1⟩ := hF1 b (.inl hv)
                exact hne b1 (.inr (List.mem_append.2 (.inl m1))) l1 b f1 rfl)
              (fun _ => (key _ _ _).1) (fun _ g hg => by
                have old : InX w (fun _ _ => false) sz (colsOf P 8 e) xs x g ∨ InX w (fun _ _ => false) sz (colsOf P 8 e) ys y g → ∃ k, (k = q ∨ k ∈ k1 ++ k2) ∧ (L k).live ∧ Fp w (L k) (s k) g := fun hh => by
                  rcases hh with hh | hh
                  · obtain ⟨b1, m1, l1, f1⟩ := hF1 g hh; exact ⟨b1, .inr (List.mem_append.2 (.inl m1)), l1, f1⟩
                  · obtain ⟨b1, m1, l1, f1⟩ := hF2 g hh; exact ⟨b1, .inr (List.mem_append.2 (.inr m1)), l1, f1⟩
                rcases (key Z L s).2 g hg with hv | ⟨i', j, d, k, hk, hc⟩
                · rcases hvb g hv with h1 | h1
                  · exact .inl h1
                  · exact .inr (old (.inl (.inl h1)))
                · right
                  rcases hc with ⟨_, hd, hg⟩ | ⟨_, hd, hg⟩
                  · exact old (.inl (tree_cell hT1 rfl hd hk hg))
                  · exact old (.inr (tree_cell hT2 rfl hd hk hg)))
            obtain ⟨A', c', hv'⟩ := owns_shape hown
            refine ⟨v, w', up s q v, by rw [hy]; exact hrun, by rw [ups_append, ups_deadL]; exact H, by rw [ups_append, ups_deadL]; exact E, ?_⟩
            rw [ups_append, ups_deadL]
            exact .ownTr q _ .whole e sz (colsOf P 8 e) (xs ++ ys) (up_same _ _ _) (up_same _ _ _).symm ⟨A', c', by rw [up_same, List.length_append]; exact hv'⟩
          · cases ho
        · cases ho
      · cases ho
    · cases ho
  · cases ho
def oStoreTree (P : Program) (L : Nat → Blk) (T : TypeId) (x : AV) : AV → Option Out
  | .eptr r i j => match L r with
    | .tr .whole e sz cols rows => match tkds L ((cols.drop j).take x.cells.length) x.cells with
      | some (c, ds) => if x.cells.length = szOf P T ∧ j + x.cells.length ≤ sz ∧ nodupB (r :: x.cells.filterMap ownOf) = true ∧ x.cells.all AV.one = true then
          some ⟨c ∧ i < rows.length, .v undef, deadL (x.cells.filterMap ownOf) ++ [(r, .tr .whole e sz cols (rows.set i (putAt (rows.getD i []) j ds)))]⟩ else none
      | none => none
    | .tr (.hole i' j' _) e sz cols rows => match tkds L ((cols.drop j).take x.cells.length) x.cells with
      | some (c, ds) => if (i' = i ∧ j' = j ∧ 0 < x.cells.length) ∧ x.cells.length = szOf P T ∧ j + x.cells.length ≤ sz ∧ nodupB (r :: x.cells.filterMap ownOf) = true ∧ x.cells.all AV.one = true then
          some ⟨c ∧ i < rows.length, .v undef, deadL (x.cells.filterMap ownOf) ++ [(r, .tr .whole e sz cols (rows.set i (putAt (rows.getD i []) j ds)))]⟩ else none
      | none => none
    | _ => none
  | _ => none
theorem rowAt_put {sz : Nat} {rows : List (List D)} (hr : ∀ r ∈ rows, r.length = sz) {i j : Nat} (hi : i < rows.length) {ds : List D} (hj : j + ds.length ≤ sz) (i' j' : Nat) :
    rowAt (rows.set i (putAt (rows.getD i []) j ds)) i' j' = if i' = i ∧ j ≤ j' ∧ j' < j + ds.length then ds[j' - j]? else rowAt rows i' j' := by
  have hrow : (rows.getD i []).length = sz := by
    simp only [List.getD, List.getElem?_eq_getElem hi, Option.getD_some]
    exact hr _ (List.getElem_mem hi)
  unfold rowAt
  by_cases e : i' = i
  · subst e
    rw [List.getElem?_set_self hi, Option.bind_some, putAt_get (by omega)]
    by_cases h : j ≤ j' ∧ j' < j + ds.length
    · rw [if_pos h, if_pos ⟨rfl, h⟩]
    · rw [if_neg h, if_neg (fun k => h k.2)]
      simp [List.getD, List.getElem?_eq_getElem hi]
  · rw [List.getElem?_set_ne (fun k => e k.symm), if_neg (fun k => e k.1)]
theorem storeTree_core (h : HR F W0 w L s Z) {T : TypeId} {a : AV} {x y : Value} {r i j : Nat} (ha : AVR w Z L s a x) (hp : AVR w Z L s (.eptr r i j) y) {st : TS} {e : TypeId} {sz : Nat} {cols : List TK} {rows : List (List D)} (hL : L r = .tr st e sz cols rows)
    {c : Prop} {ds : List D} (hds : tkds L ((cols.drop j).take a.cells.length) a.cells = some (c, ds)) (hn : a.cells.length = szOf P T) (hj : j + a.cells.length ≤ sz) (hnd : nodupB (r :: a.cells.filterMap ownOf) = true) (hone : a.cells.all AV.one = true) (hc : c) (hi : i < rows.length)
    (hex : ∀ i' j', ¬ (i' = i ∧ j ≤ j' ∧ j' < j + a.cells.length) → st.ex i' j' = false) (h0 : 0 < szOf P T) :
    ∃ w', (Instr.storeAt T y x).run P w = .ok () w' ∧ HR F W0 w' (ups L (deadL (a.cells.filterMap ownOf) ++ [(r, .tr .whole e sz cols (rows.set i (putAt (rows.getD i []) j ds)))])) s Z ∧ Ext w Z L s w' Z (ups L (deadL (a.cells.filterMap ownOf) ++ [(r, .tr .whole e sz cols (rows.set i (putAt (rows.getD i []) j ds)))])) s := by
  have hnd := nodupB_iff hnd
  obtain ⟨hrk, hnd2⟩ := List.nodup_cons.1 hnd
  obtain ⟨us, hx, hul, hcu⟩ := ha.cellsOf hone
  obtain ⟨k1, k2, k3⟩ := tkds_ok h hds hc
  have hlive := tkds_live hds
  have hexf : ∀ i' j', ¬ (i' = i ∧ j ≤ j' ∧ j' < j + ds.length) → st.ex i' j' = false := fun i' j' hh => hex i' j' (by omega)
  have hb := h.blk r
  rw [hL] at hb
  obtain ⟨xs, u, hT, -⟩ := hb
  have hLr : (L r).live := by rw [hL]; trivial
  have huone : ∀ v ∈ us, v.oneCell' = true := fun v hv => by
    obtain ⟨m, hm, hmv⟩ := List.mem_iff_getElem.1 hv
    exact (hcu m _ v (List.getElem?_eq_getElem (show m < a.cells.length by omega)) (by rw [List.getElem?_eq_getElem hm, hmv])).2
  cases hp with
  | eptrDead _ _ _ _ hd _ => rw [hL] at hd; cases hd
  | eptrStill _ _ _ _ _ _ hd _ => rw [hL] at hd; cases hd
  | eptr _ _ _ _ _ _ _ hd => rw [hL] at hd; cases hd
  | eptrOff _ _ _ _ _ _ _ hd => rw [hL] at hd; cases hd
  | eptrTr _ _ _ _ st' e' sz' cols' rows' hL' g o n cp hs hy =>
    rw [hL] at hL'; cases hL'
    subst hy
    rcases hT.ho.2 with ⟨q1, _⟩ | ⟨g', o', cap, cur, q1, q2, q3, q4, q5, q6, q7⟩
    · rw [hs] at q1; cases q1
    · obtain ⟨rfl, rfl⟩ : g' = g ∧ o' = o := by rw [hs] at q1; cases q1; exact ⟨rfl, rfl⟩
      have hfit : i * sz + j + us.length ≤ rows.length * sz := by
        have := Nat.mul_le_mul_right sz (show i + 1 ≤ rows.length from hi)
        rw [Nat.succ_mul] at this
        omega
      obtain ⟨hput2, hroom⟩ := ownsAt_put hT.ho q1 q3 (k := i * sz + j) (us := us) hfit
      have hrun := storeAt_run (P := P) (T := T) q3 hx (by omega) (by omega) (o := o' + (i * sz + j)) (by omega) huone
      have hvb : vblk (s r) = some g' := by rw [hs]; rfl
      have hsame : ∀ b, b ≠ g' → (w.setRow g' (putAt cur.toList (o' + (i * sz + j)) us).toArray).heap[b]? = w.heap[b]? := fun b hb => setRow_other w g' b _ hb
      have hxl := hT.ho.1
      have hat := rowAt_put hT.hr hi (j := j) (ds := ds) (by omega)
      have hrl : ∀ r' ∈ rows.set i (putAt (rows.getD i []) j ds), r'.length = sz := fun r' hr' => by
        rcases List.mem_or_eq_of_mem_set hr' with hr' | rfl
        · exact hT.hr r' hr'
        · have hrow : (rows.getD i []).length = sz := by
            simp only [List.getD, List.getElem?_eq_getElem hi, Option.getD_some]
            exact hT.hr _ (List.getElem_mem hi)
          rw [putAt_len (by omega)]
          exact hrow
      have hxs : ∀ i' j', j' < sz → (putAt xs (i * sz + j) us)[i' * sz + j']? = if i' = i ∧ j ≤ j' ∧ j' < j + ds.length then us[j' - j]? else xs[i' * sz + j']? := fun i' j' hj' => by
        rw [putAt_get (by omega)]
        by_cases e : i' = i
        · subst e
          by_cases hh : j ≤ j' ∧ j' < j + ds.length
          · rw [if_pos ⟨by omega, by omega⟩, if_pos ⟨rfl, hh⟩]
            congr 1
            omega
          · rw [if_neg (by omega), if_neg (fun k => hh k.2)]
        · rw [if_neg (row_apart (m := us.length) (fun k => e k) hj' (by omega)), if_neg (fun k => e k.1)]
      have hown : ownsAt (w.setRow g' (putAt cur.toList (o' + (i * sz + j)) us).toArray) e sz (s r) (rows.set i (putAt (rows.getD i []) j ds)).length (putAt xs (i * sz + j) us) := by
        rw [List.length_set]
        exact hput2
      have colat : ∀ j' k, j ≤ j' → j' < j + ds.length → cols[j']? = some k → ((cols.drop j).take a.cells.length)[j' - j]? = some k := fun j' k h1 h2 hk => by
        rw [List.getElem?_take, if_pos (by omega), List.getElem?_drop, ← hk]
        congr 1
        omega
      have key := fun (Z' : Nat → Prop) (L' : Nat → Blk) (s' : Nat → Value) => tree_mk (w' := w.setRow g' (putAt cur.toList (o' + (i * sz + j)) us).toArray) (Z := Z') (L := L') (s := s') (v := s r) hT.h0 hT.hc hrl hown
        (fun i' j' g => ∃ d k, cols[j']? = some k ∧ ((¬ (i' = i ∧ j ≤ j' ∧ j' < j + ds.length) ∧ rowAt rows i' j' = some d ∧ InF w k d (u i' j') g) ∨ ((i' = i ∧ j ≤ j' ∧ j' < j + ds.length) ∧ ∃ x b, a.cells[j' - j]? = some x ∧ ownOf x = some b ∧ (L b).live ∧ Fp w (L b) (s b) g)))
        (fun i' j' d k hd hk => by
          have hj' := (row_lt hrl hd).2
          rw [hat] at hd
          rw [hxs i' j' hj']
          by_cases hh : i' = i ∧ j ≤ j' ∧ j' < j + ds.length
          · rw [if_pos hh] at hd
            rw [if_pos hh]
            have hm : j' - j < a.cells.length := by omega
            obtain ⟨o1, o2⟩ := hcu (j' - j) _ _ (List.getElem?_eq_getElem hm) (List.getElem?_eq_getElem (show j' - j < us.length by omega))
            obtain ⟨a1, a2⟩ := k3 (j' - j) _ _ d k (List.getElem?_eq_getElem hm) hd (colat j' k hh.2.1 hh.2.2 hk) o1 o2
            obtain ⟨b1, b2⟩ := own_moved (w' := w.setRow g' (putAt cur.toList (o' + (i * sz + j)) us).toArray) a1 fun g hg => hsame g fun e => by
              obtain ⟨b, hb1, hb2, hb3⟩ := a2 g hg
              have := h.sepF b r g hb2 hLr hb3 (.root (by rw [hvb, e]))
              subst this
              exact hrk (List.mem_filterMap.2 ⟨_, List.getElem_mem hm, hb1⟩)
            refine ⟨_, List.getElem?_eq_getElem (show j' - j < us.length by omega), b1, fun g hg => ?_⟩
            obtain ⟨b, hb1, hb2, hb3⟩ := a2 g (b2 g hg)
            exact ⟨d, k, hk, .inr ⟨hh, _, b, List.getElem?_eq_getElem hm, hb1, hb2, hb3⟩⟩
          · rw [if_neg hh] at hd
            rw [if_neg hh]
            obtain ⟨b1, b2⟩ := own_moved (w' := w.setRow g' (putAt cur.toList (o' + (i * sz + j)) us).toArray) (hT.hk i' j' d k (hexf i' j' hh) hd hk) fun g hg => hsame g fun e => hT.h1 i' j' d k g (hexf i' j' hh) hd hk hg (by rw [hvb, e])
            exact ⟨_, hT.hu i' j' d hd, b1, fun g hg => ⟨d, k, hk, .inl ⟨hh, hd, b2 g hg⟩⟩⟩)
        (fun i' j' g ⟨d, k, hk, hc⟩ hv => by
          rcases hc with ⟨hh, hd, hg⟩ | ⟨_, x, b, hx1, hb1, hb2, hb3⟩
          · exact hT.h1 i' j' d k g (hexf i' j' hh) hd hk hg hv
          · have := h.sepF b r g hb2 hLr hb3 (.root hv)
            subst this
            exact hrk (List.mem_filterMap.2 ⟨_, List.mem_of_getElem? hx1, hb1⟩))
        (fun i1 j1 i2 j2 g ⟨d, k, hk, hc⟩ ⟨d2, k2, hk2, hc2⟩ => by
          have no : ∀ i' j' d k, ¬ (i' = i ∧ j ≤ j' ∧ j' < j + ds.length) → rowAt rows i' j' = some d → cols[j']? = some k → InF w k d (u i' j') g → ∀ x b m, a.cells[m]? = some x → ownOf x = some b → (L b).live → Fp w (L b) (s b) g → False := fun i' j' d k hh hd hk hg x b m hx1 hb1 hb2 hb3 => by
            have := h.sepF b r g hb2 hLr hb3 (by rw [hL]; exact tree_cell hT (hexf i' j' hh) hd hk hg)
            subst this
            exact hrk (List.mem_filterMap.2 ⟨_, List.mem_of_getElem? hx1, hb1⟩)
          rcases hc with ⟨hh, hd, hg⟩ | ⟨hh, x, b, hx1, hb1, hb2, hb3⟩ <;> rcases hc2 with ⟨hh', hd', hg'⟩ | ⟨hh', x', b', hx1', hb1', hb2', hb3'⟩
          · exact hT.h2 _ _ _ _ _ _ _ _ g (hexf _ _ hh) (hexf _ _ hh') hd hk hd' hk2 hg hg'
          · exact (no _ _ _ _ hh hd hk hg _ _ _ hx1' hb1' hb2' hb3').elim
          · exact (no _ _ _ _ hh' hd' hk2 hg' _ _ _ hx1 hb1 hb2 hb3).elim
          · have := h.sepF b b' g hb2 hb2' hb3 hb3'
            subst this
            have := filterMap_inj hnd2 hx1 hb1 hx1' hb1'
            omega)
      obtain ⟨H, E⟩ := h.join (w' := w.setRow g' (putAt cur.toList (o' + (i * sz + j)) us).toArray) r (a.cells.filterMap ownOf) (.tr .whole e sz cols (rows.set i (putAt (rows.getD i []) j ds))) (s r) hrk
        (.tr st e sz cols rows _ hL (.inl ⟨_, rfl⟩) (by simp) rfl) (by intro _ _ hc; cases hc) rfl rfl rfl (by simp)
        (fun b hb hne => hsame b (hne r (.inl rfl) hLr g' (.root hvb))) (fun _ => (key _ _ _).1) (fun _ g hg => by
          right
          rcases (key Z L s).2 g hg with hv | ⟨i', j', d, k, hk, hc⟩
          · exact ⟨r, .inl rfl, hLr, .root hv⟩
          · rcases hc with ⟨hh, hd, hg⟩ | ⟨_, x, b, hx1, hb1, hb2, hb3⟩
            · exact ⟨r, .inl rfl, hLr, by rw [hL]; exact tree_cell hT (hexf i' j' hh) hd hk hg⟩
            · exact ⟨b, .inr (List.mem_filterMap.2 ⟨_, List.mem_of_getElem? hx1, hb1⟩), hb2, hb3⟩)
      rw [up_self] at H E
      exact ⟨_, hrun, by rw [ups_append, ups_deadL]; exact H, by rw [ups_append, ups_deadL]; exact E⟩
theorem oStoreTree_ok (h : HR F W0 w L s Z) {T : TypeId} {a p : AV} {x y : Value} (ha : AVR w Z L s a x) (hp : AVR w Z L s p y) {out : Out} (ho : oStoreTree P L T a p = some out) (hc : out.c) (h0 : 0 < szOf P T) :
    ∃ w', (Instr.storeAt T y x).run P w = .ok () w' ∧ HR F W0 w' (ups L out.ups) s Z ∧ Ext w Z L s w' Z (ups L out.ups) s ∧ out.dst = .v undef := by
  unfold oStoreTree at ho
  split at ho
  · rename_i r i j
    split at ho
    · rename_i e sz cols rows hL
      split at ho
      · rename_i c ds hds
        split at ho
        · rename_i hh
          obtain ⟨hn, hj, hnd, hone⟩ := hh
          cases ho
          obtain ⟨hc, hi⟩ := hc
          obtain ⟨w', h1, h2, h3⟩ := storeTree_core h ha hp hL hds hn hj hnd hone hc hi (fun _ _ _ => rfl) h0
          exact ⟨w', h1, h2, h3, rfl⟩
        · cases ho
      · cases ho
    · rename_i i' j' q e sz cols rows hL
      split at ho
      · rename_i c ds hds
        split at ho
        · rename_i hh
          obtain ⟨⟨rfl, rfl, hpos⟩, hn, hj, hnd, hone⟩ := hh
          cases ho
          obtain ⟨hc, hi⟩ := hc
          obtain ⟨w', h1, h2, h3⟩ := storeTree_core h ha hp hL hds hn hj hnd hone hc hi (fun a b hab => by
            cases he : TS.ex (.hole i' j' q) a b with
            | false => rfl
            | true => simp [TS.ex] at he; omega) h0
          exact ⟨w', h1, h2, h3, rfl⟩
        · cases ho
      · cases ho
    · cases ho
  · cases ho
def oLoadKid (P : Program) (L : Nat → Blk) (T : TypeId) (p : AV) (q : Nat) : Option Out :=
  match p with
  | .eptr r i j => match L r with
    | .tr .whole e sz cols rows => match P.underlying T, cols[j]? with
      | some (.slice _), some (.sl e2 sz2 cols2) => some ⟨i < rows.length, .own q, [(r, .tr (.hole i j q) e sz cols rows), (q, .tr (.kid r) e2 sz2 cols2 ((rows.getD i []).getD j (.v undef)).toL)]⟩
      | _, _ => none
    | .tr (.hole i' j' k) _ _ _ _ => match P.underlying T, L k with
      | some (.slice _), .tr _ _ _ _ _ => if i' = i ∧ j' = j then some ⟨True, .own k, []⟩ else none
      | _, _ => none
    | _ => none
  | _ => none
theorem Own.tree {e : TypeId} {sz : Nat} {cols : List TK} {d : D} {v : Value} (h : Own w (.sl e sz cols) d v) : ∃ rows xs u, d = .l sz rows ∧ Tree w (fun _ _ => false) e sz cols rows v xs u := by
  cases h with
  | sl _ _ _ rows _ xs u h0 hc hr ho hu hk h1 h2 =>
    refine ⟨rows, xs, u, rfl, h0, hc, hr, ho, hu, fun i j d hd => ?_, fun i j d k _ => hk i j d k, fun i j d k g _ => h1 i j d k g, fun i j d k i' j' d' k' g _ _ => h2 i j d k i' j' d' k' g⟩
    have hj := (row_lt hr hd).2
    exact (hk i j d _ hd (List.getElem?_eq_getElem (show j < cols.length by omega))).one
theorem InX.in {e : TypeId} {sz : Nat} {cols : List TK} {rows : List (List D)} {v : Value} {g : Nat} (h : InX w (fun _ _ => false) sz cols rows v g) : InF w (.sl e sz cols) (.l sz rows) v g := by
  rcases h with h | ⟨i, j, d, k, u, _, hd, hk, hu, hg⟩
  · exact .here _ _ _ _ _ _ h
  · exact .down _ _ _ _ _ i j d k u g hd hk hu hg
theorem oLoadKid_ok (h : HR F W0 w L s Z) {T : TypeId} {p : AV} {x : Value} (hp : AVR w Z L s p x) {q : Nat} (hq : L q = .none) {out : Out} (ho : oLoadKid P L T p q = some out) (hc : out.c) :
    ∃ v s', (Instr.loadAt T x).run P w = .ok v w ∧ HR F W0 w (ups L out.ups) s' Z ∧ Ext w Z L s w Z (ups L out.ups) s' ∧ AVR w Z (ups L out.ups) s' out.dst v := by
  unfold oLoadKid at ho
  split at ho
  · rename_i r i j
    split at ho
    · rename_i e sz cols rows hL
      split at ho
      · rename_i te e2 sz2 cols2 hu hcol
        cases ho
        have hi : i < rows.length := hc
        have hb := h.blk r
        rw [hL] at hb
        obtain ⟨xs, u, hT, -⟩ := hb
        have hLr : (L r).live := by rw [hL]; trivial
        have hrq : r ≠ q := fun e => by rw [e, hq] at hLr; exact hLr
        have hj : j < sz := by rw [← hT.hc]; exact (List.getElem?_eq_some_iff.1 hcol).1
        have hrowl : (rows.getD i []).length = sz := by
          simp only [List.getD, List.getElem?_eq_getElem hi, Option.getD_some]
          exact hT.hr _ (List.getElem_mem hi)
        have hd : rowAt rows i j = some ((rows.getD i []).getD j (.v undef)) := by
          unfold rowAt
          simp only [List.getD, List.getElem?_eq_getElem hi, Option.getD_some, Option.bind_some]
          rw [List.getElem?_eq_getElem (by simpa [List.getD, List.getElem?_eq_getElem hi] using (by omega : j < (rows.getD i []).length))]
          rfl
        generalize (rows.getD i []).getD j (.v undef) = d at hd
        have hown := hT.hk i j d _ rfl hd hcol
        obtain ⟨rows2, xs2, u2, rfl, hT2⟩ := hown.tree
        have hcell := own_cell hT.ho (hT.hu i j _ hd)
        have hex : ∀ a b, TS.ex (.hole i j q) a b = true ↔ a = i ∧ b = j := fun a b => by simp [TS.ex]
        have hexf : ∀ a b, TS.ex (.hole i j q) a b = false → ¬ (a = i ∧ b = j) := fun a b hf hh => by rw [(hex a b).2 hh] at hf; cases hf
        have E : Ext w Z L s w Z (up (up L r (.tr (.hole i j q) e sz cols rows)) q (.tr (.kid r) e2 sz2 cols2 rows2)) (up s q (u i j)) := by
          refine ⟨fun _ h => h, fun _ _ => rfl, fun k => ?_, fun k sz' rows' h1 h2 => ?_⟩
          · by_cases e' : k = q
            · subst e'; exact .fresh hq
            · rw [up_ne _ _ e', up_ne _ _ e']
              by_cases e'' : k = r
              · subst e''; rw [up_same]; exact .tr .whole e sz cols rows rows hL (.inl ⟨_, rfl⟩) rfl rfl
              · rw [up_ne _ _ e'']; exact Like.refl _ _
          · by_cases e' : k = q
            · subst e'; rw [up_same] at h2; cases h2
            · rw [up_ne _ _ e'] at h2
              by_cases e'' : k = r
              · subst e''; rw [up_same] at h2; cases h2
              · rw [up_ne _ _ e''] at h2; rw [h2] at h1; exact h1.elim
        have src : ∀ k g, (up (up L r (.tr (.hole i j q) e sz cols rows)) q (.tr (.kid r) e2 sz2 cols2 rows2) k).live → Fp w (up (up L r (.tr (.hole i j q) e sz cols rows)) q (.tr (.kid r) e2 sz2 cols2 rows2) k) (up s q (u i j) k) g →
            (k = q ∧ Fp w (L r) (s r) g ∧ InF w (.sl e2 sz2 cols2) (.l sz2 rows2) (u i j) g) ∨ (k = r ∧ Fp w (L r) (s r) g ∧ InX w (TS.ex (.hole i j q)) sz cols rows (s r) g) ∨ (k ≠ q ∧ k ≠ r ∧ (L k).live ∧ Fp w (L k) (s k) g) := fun k g hl hg => by
          by_cases e' : k = q
          · subst e'
            rw [up_same, up_same] at hg
            have := InX.in (e := e2) hg
            exact .inl ⟨rfl, by rw [hL]; exact tree_cell hT rfl hd hcol this, this⟩
          · rw [up_ne _ _ e'] at hl
            rw [up_ne _ _ e', up_ne _ _ e'] at hg
            by_cases e'' : k = r
            · subst e''
              rw [up_same] at hg
              refine .inr (.inl ⟨rfl, ?_, hg⟩)
              rw [hL]
              rcases hg with hg | ⟨a, b, d, k, y, _, h1, h2, h3, h4⟩
              · exact .inl hg
              · exact .inr ⟨a, b, d, k, y, rfl, h1, h2, h3, h4⟩
            · rw [up_ne _ _ e''] at hl hg
              exact .inr (.inr ⟨e', e'', hl, hg⟩)
        have disj : ∀ g, InF w (.sl e2 sz2 cols2) (.l sz2 rows2) (u i j) g → InX w (TS.ex (.hole i j q)) sz cols rows (s r) g → False := fun g g1 g2 => by
          rcases g2 with g2 | ⟨a, b, d', k', y, he, h1, h2, h3, h4⟩
          · exact hT.h1 i j _ _ g rfl hd hcol g1 g2
          · have := own_cell hT.ho (hT.hu a b _ h1)
            rw [h3] at this
            cases this
            exact hexf a b he (hT.h2 a b _ _ i j _ _ g rfl rfl h1 h2 hd hcol h4 g1)
        refine ⟨u i j, up s q (u i j), ?_, ⟨fun k => ?_, fun k k' g l1 l2 g1 g2 => ?_, fun k g l1 g1 => ?_, fun k g l1 g1 => ?_, h.zin, h.kept, h.zsrc, h.zhas⟩, E, ?_⟩
        · cases hp with
          | eptrDead _ _ _ _ hd _ => rw [hL] at hd; cases hd
          | eptrStill _ _ _ _ _ _ hd _ => rw [hL] at hd; cases hd
          | eptr _ _ _ _ _ _ _ hd => rw [hL] at hd; cases hd
          | eptrOff _ _ _ _ _ _ _ hd => rw [hL] at hd; cases hd
          | eptrTr _ _ _ _ st' e' sz' cols' rows' hL' g o n cp hs hy =>
            subst hy
            rw [hL] at hL'; cases hL'
            rw [hs] at hcell
            exact run_loadAt_one T g (o + (i * sz + j)) _ _ hu rfl hcell
        · show BlkR w Z _ _ (up (up L r (.tr (.hole i j q) e sz cols rows)) q (.tr (.kid r) e2 sz2 cols2 rows2) k) (up s q (u i j) k)
          by_cases e' : k = q
          · subst e'
            rw [up_same, up_same]
            exact ⟨xs2, u2, hT2, fun a b c hc => by cases hc⟩
          · rw [up_ne _ _ e', up_ne _ _ e']
            by_cases e'' : k = r
            · subst e''
              rw [up_same]
              refine ⟨xs, u, ⟨hT.h0, hT.hc, hT.hr, hT.ho, hT.hu, hT.one, fun a b d k _ => hT.hk a b d k rfl, fun a b d k g _ => hT.h1 a b d k g rfl, fun a b d k a' b' d' k' g _ _ => hT.h2 a b d k a' b' d' k' g rfl rfl⟩, fun a b c hc => ?_⟩
              cases hc
              refine ⟨⟨_, e2, sz2, cols2, hd, hcol⟩, ?_, fun _ => ?_⟩
              · show up (up L k (.tr (.hole i j q) e sz cols rows)) q (.tr (.kid k) e2 sz2 cols2 rows2) q ≠ .none
                rw [up_same]; intro hc; cases hc
              · show u i j = up s q (u i j) q
                rw [up_same]
            · rw [up_ne _ _ e'']
              exact (h.blk k).mono E fun _ _ _ => rfl
        · rcases src k g l1 g1 with ⟨rfl, f1, i1⟩ | ⟨rfl, f1, i1⟩ | ⟨n1, n2, l1', f1⟩ <;> rcases src k' g l2 g2 with ⟨rfl, f2, i2⟩ | ⟨rfl, f2, i2⟩ | ⟨m1, m2, l2', f2⟩
          · rfl
          · exact (disj g i1 i2).elim
          · exact absurd (h.sepF _ _ g hLr l2' f1 f2).symm m2
          · exact (disj g i2 i1).elim
          · rfl
          · exact absurd (h.sepF _ _ g hLr l2' f1 f2).symm m2
          · exact absurd (h.sepF _ _ g l1' hLr f1 f2) n2
          · exact absurd (h.sepF _ _ g l1' hLr f1 f2) n2
          · exact h.sepF _ _ g l1' l2' f1 f2
        · rcases src k g l1 g1 with ⟨rfl, f1, i1⟩ | ⟨rfl, f1, i1⟩ | ⟨n1, n2, l1', f1⟩
          · exact h.nzF _ g hLr f1
          · exact h.nzF _ g hLr f1
          · exact h.nzF _ g l1' f1
        · rcases src k g l1 g1 with ⟨rfl, f1, i1⟩ | ⟨rfl, f1, i1⟩ | ⟨n1, n2, l1', f1⟩
          · exact h.mineF _ g hLr f1
          · exact h.mineF _ g hLr f1
          · exact h.mineF _ g l1' f1
        · obtain ⟨A, c, hA⟩ := owns_shape hT2.ho
          exact .ownTr q _ (.kid r) e2 sz2 cols2 rows2 (up_same _ _ _) (up_same _ _ _).symm ⟨A, c, by rw [up_same]; exact hA⟩
      · cases ho
    · rename_i i' j' k e sz cols rows hL
      split at ho
      · rename_i te st2 e2 sz2 cols2 rows2 hu hLk
        split at ho
        · rename_i hh
          obtain ⟨rfl, rfl⟩ := hh
          cases ho
          have hb := h.blk r
          rw [hL] at hb
          obtain ⟨xs, u, hT, hhole⟩ := hb
          obtain ⟨⟨d, _, _, _, hd, hcol⟩, _, hus⟩ := hhole i' j' k rfl
          have hus := hus (by rw [hLk]; trivial)
          have hcell := own_cell hT.ho (hT.hu i' j' d hd)
          have hbk := h.blk k
          rw [hLk] at hbk
          obtain ⟨xs2, u2, hT2, -⟩ := hbk
          obtain ⟨A, c, hA⟩ := owns_shape hT2.ho
          cases hp with
          | eptrDead _ _ _ _ hd _ => rw [hL] at hd; cases hd
          | eptrStill _ _ _ _ _ _ hd _ => rw [hL] at hd; cases hd
          | eptr _ _ _ _ _ _ _ hd => rw [hL] at hd; cases hd
          | eptrOff _ _ _ _ _ _ _ hd => rw [hL] at hd; cases hd
          | eptrTr _ _ _ _ st' e' sz' cols' rows' hL' g o n cp hs hy =>
            subst hy
            rw [hL] at hL'; cases hL'
            rw [hs] at hcell
            exact ⟨u i' j', s, run_loadAt_one T g (o + (i' * sz + j')) _ _ hu rfl hcell, h, Ext.refl _ _ _ _, .ownTr k _ st2 e2 sz2 cols2 rows2 hLk hus ⟨A, c, hA⟩⟩
        · cases ho
      · cases ho
    · cases ho
  · cases ho
theorem HR.close (h : HR F W0 w L s Z) {k r i j : Nat} {e e2 : TypeId} {sz sz2 : Nat} {cols cols2 : List TK} {rows rows2 : List (List D)} (hLk : L k = .tr (.kid r) e2 sz2 cols2 rows2) (hLr : L r = .tr (.hole i j k) e sz cols rows) (hcol : cols[j]? = some (.sl e2 sz2 cols2)) :
    HR F W0 w (ups L [(k, .dead), (r, .tr .whole e sz cols (rows.set i (putAt (rows.getD i []) j [.l sz2 rows2])))]) s Z ∧ Ext w Z L s w Z (ups L [(k, .dead), (r, .tr .whole e sz cols (rows.set i (putAt (rows.getD i []) j [.l sz2 rows2])))]) s := by
  have hlk : (L k).live := by rw [hLk]; trivial
  have hlr : (L r).live := by rw [hLr]; trivial
  have hkr : k ≠ r := fun e => by rw [e, hLr] at hLk; cases hLk
  have hbk := h.blk k
  rw [hLk] at hbk
  obtain ⟨xs2, u2, hT2, -⟩ := hbk
  have hbr := h.blk r
  rw [hLr] at hbr
  obtain ⟨xs, u, hT, hlink⟩ := hbr
  obtain ⟨⟨d0, ke, ks, kc, hd0, hk0⟩, -, hu0⟩ := hlink i j k rfl
  have hu0 : u i j = s k := hu0 hlk
  have hi : i < rows.length := (row_lt hT.hr hd0).1
  have hj : j < sz := (row_lt hT.hr hd0).2
  have o1 : Own w (.sl e2 sz2 cols2) (.l sz2 rows2) (s k) := hT2.own fun _ _ => rfl
  have o2 : ∀ g, InF w (.sl e2 sz2 cols2) (.l sz2 rows2) (s k) g → Fp w (L k) (s k) g := fun g hg => by
    rw [hLk]; exact InX.of (ex := fun _ _ => false) hg
  have fpr : ∀ b, InX w (TS.ex (.hole i j k)) sz cols rows (s r) b → Fp w (L r) (s r) b := fun b hb => by rw [hLr]; exact hb
  have notk : ∀ b, Fp w (L r) (s r) b → ¬ Fp w (L k) (s k) b := fun b h1 h2 => hkr (h.sepF k r b hlk hlr h2 h1)
  have hexf : ∀ a b, ¬ (a = i ∧ b = j) → TS.ex (.hole i j k) a b = false := fun a b hh => by
    cases he : TS.ex (.hole i j k) a b with
    | false => rfl
    | true => simp [TS.ex] at he; exact absurd he hh
  have hat := rowAt_put hT.hr hi (j := j) (ds := [D.l sz2 rows2]) (by simp only [List.length_singleton]; omega)
  have hrl : ∀ r' ∈ rows.set i (putAt (rows.getD i []) j [D.l sz2 rows2]), r'.length = sz := fun r' hr' => by
    rcases List.mem_or_eq_of_mem_set hr' with hr' | rfl
    · exact hT.hr r' hr'
    · have hrow : (rows.getD i []).length = sz := by
        simp only [List.getD, List.getElem?_eq_getElem hi, Option.getD_some]
        exact hT.hr _ (List.getElem_mem hi)
      rw [putAt_len (by rw [hrow]; simp only [List.length_singleton]; omega)]
      exact hrow
  have hown' : ownsAt w e sz (s r) (rows.set i (putAt (rows.getD i []) j [D.l sz2 rows2])).length xs := by
    rw [List.length_set]
    exact hT.ho
  have oldc : ∀ a b d c, ¬ (a = i ∧ b = j) → rowAt rows a b = some d → cols[b]? = some c → ∀ g, InF w c d (u a b) g → InX w (TS.ex (.hole i j k)) sz cols rows (s r) g := fun a b d c hn hd hc g hg => tree_cell hT (hexf a b hn) hd hc hg
  have key := fun (Z' : Nat → Prop) (L' : Nat → Blk) (s' : Nat → Value) => tree_mk (w' := w) (Z := Z') (L := L') (s := s') (v := s r) hT.h0 hT.hc hrl hown'
    (fun a b g => (a = i ∧ b = j ∧ Fp w (L k) (s k) g) ∨ (¬ (a = i ∧ b = j) ∧ ∃ d c, rowAt rows a b = some d ∧ cols[b]? = some c ∧ InF w c d (u a b) g))
    (fun a b d c hd hk => by
      rw [hat] at hd
      by_cases hh : a = i ∧ b = j
      · obtain ⟨rfl, rfl⟩ := hh
        rw [if_pos ⟨rfl, Nat.le_refl _, by simp⟩] at hd
        simp at hd
        subst hd
        rw [hcol] at hk; cases hk
        refine ⟨u a b, hT.hu a b _ hd0, by rw [hu0]; exact o1, fun g hg => .inl ⟨rfl, rfl, ?_⟩⟩
        rw [hu0] at hg
        exact o2 g hg
      · rw [if_neg (by simp only [List.length_singleton]; omega)] at hd
        exact ⟨_, hT.hu a b d hd, hT.hk a b d c (hexf a b hh) hd hk, fun g hg => .inr ⟨hh, d, c, hd, hk, hg⟩⟩)
    (fun a b g hS hv => by
      rcases hS with ⟨_, _, hf⟩ | ⟨hn, d, c, hd, hk, hg⟩
      · exact notk g (.root hv) hf
      · exact hT.h1 a b d c g (hexf a b hn) hd hk hg hv)
    (fun a b a' b' g hS hS' => by
      have no : ∀ a b d c, ¬ (a = i ∧ b = j) → rowAt rows a b = some d → cols[b]? = some c → InF w c d (u a b) g → Fp w (L k) (s k) g → False := fun a b d c hn hd hk hg hf =>
        notk g (fpr g (oldc a b d c hn hd hk g hg)) hf
      rcases hS with ⟨e1, e2, hf⟩ | ⟨hn, d, c, hd, hk, hg⟩ <;> rcases hS' with ⟨e3, e4, hf'⟩ | ⟨hn', d', c2, hd', hk', hg'⟩
      · exact ⟨by rw [e1, e3], by rw [e2, e4]⟩
      · exact (no a' b' d' c2 hn' hd' hk' hg' hf).elim
      · exact (no a b d c hn hd hk hg hf').elim
      · exact hT.h2 a b d c a' b' d' c2 g (hexf a b hn) (hexf a' b' hn') hd hk hd' hk' hg hg')
  obtain ⟨H, E⟩ := h.join (w' := w) r [k] (.tr .whole e sz cols (rows.set i (putAt (rows.getD i []) j [D.l sz2 rows2]))) (s r) (by simpa using hkr.symm)
    (.tr (.hole i j k) e sz cols rows _ hLr (.inl ⟨_, rfl⟩) (by simp) rfl) (by intro _ _ hc; cases hc) rfl rfl rfl (Nat.le_refl _)
    (fun b hb hne => rfl) (fun _ => (key _ _ _).1) (fun _ g hg => by
      rcases (key Z L s).2 g hg with hv | ⟨a, b, hS⟩
      · exact .inr ⟨r, .inl rfl, hlr, .root hv⟩
      · rcases hS with ⟨_, _, hf⟩ | ⟨hn, d, c, hd, hk, hg⟩
        · exact .inr ⟨k, .inr (by simp), hlk, hf⟩
        · exact .inr ⟨r, .inl rfl, hlr, fpr g (oldc a b d c hn hd hk g hg)⟩)
  rw [up_self, ← up_kills] at H E
  exact ⟨H, E⟩
def oLenQ (P : Program) (L : Nat → Blk) (T : TypeId) (x : AV) : Option Out := match x with
  | .own k => match L k with
    | .tr (.kid r) e2 sz2 cols2 rows2 => match L r with
      | .tr (.hole i j k') e sz cols rows => match oLen P L T (.own k) with
        | some o => if k' = k then some ⟨cols[j]? = some (.sl e2 sz2 cols2), o.dst, [(k, .dead), (r, .tr .whole e sz cols (rows.set i (putAt (rows.getD i []) j [.l sz2 rows2])))]⟩ else none
        | none => none
      | _ => none
    | _ => oLen P L T (.own k)
  | x => oLen P L T x
theorem oLenQ_ok (h : HR F W0 w L s Z) {T ty : TypeId} {p : AV} {x : Value} (hp : AVR w Z L s p x) {out : Out} (ho : oLenQ P L T p = some out) (hc : out.c) :
    ∃ v, (Builtin.len_ #[T] ty #[x]).run P w = .ok v w ∧ HR F W0 w (ups L out.ups) s Z ∧ Ext w Z L s w Z (ups L out.ups) s ∧ AVR w Z (ups L out.ups) s out.dst v := by
  have plain : oLen P L T p = some out → ∃ v, (Builtin.len_ #[T] ty #[x]).run P w = .ok v w ∧ HR F W0 w (ups L out.ups) s Z ∧ Ext w Z L s w Z (ups L out.ups) s ∧ AVR w Z (ups L out.ups) s out.dst v := fun ho => by
    obtain ⟨v, h1, h2, h3⟩ := oLen_ok (ty := ty) h hp ho
    have e : ups L out.ups = L := by rw [h3]; rfl
    exact ⟨v, h1, by rw [e]; exact h, by rw [e]; exact Ext.refl _ _ _ _, by rw [e]; exact h2⟩
  unfold oLenQ at ho
  split at ho
  · rename_i k
    split at ho
    · rename_i r e2 sz2 cols2 rows2 hLk
      split at ho
      · rename_i i j k' e sz cols rows hLr
        split at ho
        · rename_i o hol
          split at ho
          · rename_i hk
            subst hk
            cases ho
            obtain ⟨v, h1, h2, h3⟩ := oLen_ok (ty := ty) h hp hol
            obtain ⟨H, E⟩ := h.close hLk hLr hc
            exact ⟨v, h1, H, E, h2.mono E⟩
          · cases ho
        · cases ho
      · cases ho
    · exact plain ho
  · exact plain ho
def takeCells (q : Nat) : List TK → List D → Option (List AV × List (Nat × Blk))
  | [], [] => some ([], [])
  | .cell :: ks, .v x :: ds => match takeCells q ks ds with | some (cs, bs) => some (.v x :: cs, bs) | none => none
  | .sl e2 sz2 cols2 :: ks, .l _ rows2 :: ds => match takeCells q ks ds with | some (cs, []) => some (.own q :: cs, [(q, .tr .whole e2 sz2 cols2 rows2)]) | _ => none
  | _, _ => none
theorem takeCells_nil {q : Nat} : ∀ {ks : List TK} {ds : List D} {cs : List AV}, takeCells q ks ds = some (cs, []) → cs.length = ks.length ∧ ∀ (b : Nat) (c : AV), cs[b]? = some c → ∃ x, ks[b]? = some TK.cell ∧ ds[b]? = some (D.v x) ∧ c = AV.v x
  | [], [], cs, h => by simp [takeCells] at h; subst h; exact ⟨rfl, fun b c hc => by simp at hc⟩
  | .cell :: ks, .v x :: ds, cs, h => by
    simp only [takeCells] at h
    split at h
    · rename_i cs' bs' h'
      cases h
      obtain ⟨h1, h2⟩ := takeCells_nil h'
      refine ⟨by simp [h1], fun b c hc => ?_⟩
      cases b with
      | zero => simp at hc; exact ⟨x, rfl, rfl, hc.symm⟩
      | succ b => simpa using h2 b c (by simpa using hc)
    · cases h
  | .sl _ _ _ :: ks, .l _ rows2 :: ds, cs, h => by
    simp only [takeCells] at h
    split at h <;> cases h
  | [], _ :: _, _, h => by simp [takeCells] at h
  | .cell :: _, [], _, h => by simp [takeCells] at h
  | .sl _ _ _ :: _, [], _, h => by simp [takeCells] at h
  | .cell :: _, .l _ _ :: _, _, h => by simp [takeCells] at h
  | .sl _ _ _ :: _, .v _ :: _, _, h => by simp [takeCells] at h
theorem takeCells_one {q : Nat} : ∀ {ks : List TK} {ds : List D} {cs : List AV} {e2 : TypeId} {sz2 : Nat} {cols2 : List TK} {rows2 : List (List D)}, takeCells q ks ds = some (cs, [(q, .tr .whole e2 sz2 cols2 rows2)]) →
    cs.length = ks.length ∧ ∃ (j s' : Nat), ks[j]? = some (TK.sl e2 sz2 cols2) ∧ ds[j]? = some (D.l s' rows2) ∧ ∀ (b : Nat) (c : AV), cs[b]? = some c → (b = j ∧ c = AV.own q) ∨ (b ≠ j ∧ ∃ x, ks[b]? = some TK.cell ∧ ds[b]? = some (D.v x) ∧ c = AV.v x)
  | [], [], cs, e2, sz2, cols2, rows2, h => by simp [takeCells] at h
  | .cell :: ks, .v x :: ds, cs, e2, sz2, cols2, rows2, h => by
    simp only [takeCells] at h
    split at h
    · rename_i cs' bs' h'
      cases h
      obtain ⟨h1, j, s', h2, h3, h4⟩ := takeCells_one h'
      refine ⟨by simp [h1], j + 1, s', by simpa using h2, by simpa using h3, fun b c hc => ?_⟩
      cases b with
      | zero => simp at hc; exact .inr ⟨by omega, x, rfl, rfl, hc.symm⟩
      | succ b =>
        rcases h4 b c (by simpa using hc) with ⟨a1, a2⟩ | ⟨a1, y, a2, a3, a4⟩
        · exact .inl ⟨by omega, a2⟩
        · exact .inr ⟨by omega, y, by simpa using a2, by simpa using a3, a4⟩
    · cases h
  | .sl _ _ _ :: ks, .l s' rows :: ds, cs, e2, sz2, cols2, rows2, h => by
    simp only [takeCells] at h
    split at h
    · rename_i cs' h'
      cases h
      obtain ⟨h1, h2⟩ := takeCells_nil h'
      refine ⟨by simp [h1], 0, s', rfl, rfl, fun b c hc => ?_⟩
      cases b with
      | zero => simp at hc; exact .inl ⟨rfl, hc.symm⟩
      | succ b =>
        obtain ⟨y, a2, a3, a4⟩ := h2 b c (by simpa using hc)
        exact .inr ⟨by omega, y, by simpa using a2, by simpa using a3, a4⟩
    · cases h
  | [], _ :: _, _, _, _, _, _, h => by simp [takeCells] at h
  | .cell :: _, [], _, _, _, _, _, h => by simp [takeCells] at h
  | .sl _ _ _ :: _, [], _, _, _, _, _, h => by simp [takeCells] at h
  | .cell :: _, .l _ _ :: _, _, _, _, _, _, h => by simp [takeCells] at h
  | .sl _ _ _ :: _, .v _ :: _, _, _, _, _, _, h => by simp [takeCells] at h
def oLoadRow (P : Program) (L : Nat → Blk) (T : TypeId) (p : AV) (q : Nat) : Option Out := match p with
  | .eptr r i j => match L r with
    | .tr st e sz cols rows => if isSt P T = true then (if st.atRow i = true ∧ j = 0 ∧ szOf P T = sz then match takeCells q cols (rows.getD i []) with
        | some (cs, [(q', .tr .whole e2 sz2 cols2 rows2)]) => if q' = q then some ⟨i < rows.length, .agg cs, [(r, .tr (.gone (i + 1)) e sz cols rows), (q, .tr .whole e2 sz2 cols2 rows2)]⟩ else none
        | _ => none else none)
      else if isCell P T = true then (if st.ex i j = false then match cols[j]?, (rows.getD i []).getD j (.v undef) with
        | some .cell, .v x => some ⟨i < rows.length, .v x, []⟩
        | _, _ => none else none) else none
    | _ => none
  | _ => none
theorem oLoadRow_ok (h : HR F W0 w L s Z) {T : TypeId} {p : AV} {x : Value} (hp : AVR w Z L s p x) {q : Nat} (hq : L q = .none) {out : Out} (ho : oLoadRow P L T p q = some out) (hc : out.c) :
    ∃ v s', (Instr.loadAt T x).run P w = .ok v w ∧ HR F W0 w (ups L out.ups) s' Z ∧ Ext w Z L s w Z (ups L out.ups) s' ∧ AVR w Z (ups L out.ups) s' out.dst v := by
  unfold oLoadRow at ho
  split at ho
  · rename_i r i j
    split at ho
    · rename_i st e sz cols rows hL
      have hb := h.blk r
      rw [hL] at hb
      obtain ⟨xs, u, hT, -⟩ := hb
      have hLr : (L r).live := by rw [hL]; trivial
      have hrq : r ≠ q := fun e => by rw [e, hq] at hLr; exact hLr
      have hrowl : i < rows.length → (rows.getD i []).length = sz := fun hi => by
        simp only [List.getD, List.getElem?_eq_getElem hi, Option.getD_some]
        exact hT.hr _ (List.getElem_mem hi)
      have hat : ∀ (b : Nat) d, i < rows.length → (rows.getD i [])[b]? = some d → rowAt rows i b = some d := fun b d hi hd => by
        unfold rowAt
        simp only [List.getD, List.getElem?_eq_getElem hi, Option.getD_some] at hd
        rw [List.getElem?_eq_getElem hi, Option.bind_some]
        exact hd
      have hptr : ∃ g o n c, s r = .slice (some ⟨g, o, none⟩) n c ∧ x = .pointer (some ⟨g, o + (i * sz + j), none⟩) := by
        cases hp with
        | eptrDead _ _ _ _ hd _ => rw [hL] at hd; cases hd
        | eptrStill _ _ _ _ _ _ hd _ => rw [hL] at hd; cases hd
        | eptr _ _ _ _ _ _ _ hd => rw [hL] at hd; cases hd
        | eptrOff _ _ _ _ _ _ _ hd => rw [hL] at hd; cases hd
        | eptrTr _ _ _ _ st' e' sz' cols' rows' hL' g o n cp hs hy => rw [hL] at hL'; cases hL'; exact ⟨g, o, n, cp, hs, hy⟩
      obtain ⟨g, o, n, cp, hsr, rfl⟩ := hptr
      split at ho
      · rename_i hst
        obtain ⟨fs, hu⟩ := isSt_desc hst
        split at ho
        · rename_i hh
          obtain ⟨hrow, rfl, hsz⟩ := hh
          split at ho
          · rename_i cs q' e2 sz2 cols2 rows2 htk
            split at ho
            · rename_i hq'
              subst hq'
              cases ho
              have hi : i < rows.length := hc
              obtain ⟨hcl, j, s', hcol, hdj, hcs⟩ := takeCells_one htk
              have hex0 : ∀ b, st.ex i b = false := fun b => by
                cases st with
                | whole => rfl
                | gone m => simp [TS.atRow] at hrow; simp [TS.ex, hrow]
                | hole => simp [TS.atRow] at hrow
                | kid => rfl
              have hmono : ∀ a b, TS.ex (.gone (i + 1)) a b = false → st.ex a b = false := fun a b hab => by
                have hab : ¬ a < i + 1 := by simpa [TS.ex] using hab
                cases st with
                | whole => rfl
                | gone m =>
                  simp [TS.atRow] at hrow
                  simp [TS.ex]
                  omega
                | hole => simp [TS.atRow] at hrow
                | kid => rfl
              have hd := hat j _ hi hdj
              have hown := hT.hk i j _ _ (hex0 j) hd hcol
              obtain ⟨rows2', xs2, u2, hd2, hT2⟩ := hown.tree
              cases hd2
              have E : Ext w Z L s w Z (up (up L r (.tr (.gone (i + 1)) e sz cols rows)) q' (.tr .whole e2 sz2 cols2 rows2)) (up s q' (u i j)) := by
                refine ⟨fun _ h => h, fun _ _ => rfl, fun k => ?_, fun k sz' rows' h1 h2 => ?_⟩
                · by_cases e' : k = q'
                  · subst e'; exact .fresh hq
                  · rw [up_ne _ _ e', up_ne _ _ e']
                    by_cases e'' : k = r
                    · subst e''; rw [up_same]; exact .tr st e sz cols rows rows hL (.inl ⟨_, rfl⟩) rfl rfl
                    · rw [up_ne _ _ e'']; exact Like.refl _ _
                · by_cases e' : k = q'
                  · subst e'; rw [up_same] at h2; cases h2
                  · rw [up_ne _ _ e'] at h2
                    by_cases e'' : k = r
                    · subst e''; rw [up_same] at h2; cases h2
                    · rw [up_ne _ _ e''] at h2; rw [h2] at h1; exact h1.elim
              have src : ∀ k g, (up (up L r (.tr (.gone (i + 1)) e sz cols rows)) q' (.tr .whole e2 sz2 cols2 rows2) k).live → Fp w (up (up L r (.tr (.gone (i + 1)) e sz cols rows)) q' (.tr .whole e2 sz2 cols2 rows2) k) (up s q' (u i j) k) g →
                  (k = q' ∧ Fp w (L r) (s r) g ∧ InF w (.sl e2 sz2 cols2) (.l sz2 rows2) (u i j) g) ∨ (k = r ∧ Fp w (L r) (s r) g ∧ InX w (TS.ex (.gone (i + 1))) sz cols rows (s r) g) ∨ (k ≠ q' ∧ k ≠ r ∧ (L k).live ∧ Fp w (L k) (s k) g) := fun k g hl hg => by
                by_cases e' : k = q'
                · subst e'
                  rw [up_same, up_same] at hg
                  have := InX.in (e := e2) hg
                  exact .inl ⟨rfl, by rw [hL]; exact tree_cell hT (hex0 j) hd hcol this, this⟩
                · rw [up_ne _ _ e'] at hl
                  rw [up_ne _ _ e', up_ne _ _ e'] at hg
                  by_cases e'' : k = r
                  · subst e''
                    rw [up_same] at hg
                    refine .inr (.inl ⟨rfl, ?_, hg⟩)
                    rw [hL]
                    rcases hg with hg | ⟨a, b, d, k, y, he, h1, h2, h3, h4⟩
                    · exact .inl hg
                    · exact .inr ⟨a, b, d, k, y, hmono a b he, h1, h2, h3, h4⟩
                  · rw [up_ne _ _ e''] at hl hg
                    exact .inr (.inr ⟨e', e'', hl, hg⟩)
              have disj : ∀ g, InF w (.sl e2 sz2 cols2) (.l sz2 rows2) (u i j) g → InX w (TS.ex (.gone (i + 1))) sz cols rows (s r) g → False := fun g g1 g2 => by
                rcases g2 with g2 | ⟨a, b, d', k', y, he, h1, h2, h3, h4⟩
                · exact hT.h1 i j _ _ g (hex0 j) hd hcol g1 g2
                · have := own_cell hT.ho (hT.hu a b _ h1)
                  rw [h3] at this
                  cases this
                  have := (hT.h2 a b _ _ i j _ _ g (hmono a b he) (hex0 j) h1 h2 hd hcol h4 g1).1
                  have he : ¬ a < i + 1 := by simpa [TS.ex] using he
                  omega
              have hvl : ∀ (b : Nat) d, (rows.getD i [])[b]? = some d → w.cell? ⟨g, o + i * sz + b, none⟩ = some (u i b) := fun b d hd => by
                have := own_cell hT.ho (hT.hu i b d (hat b d hi hd))
                rw [hsr] at this
                rw [Nat.add_assoc]
                exact this
              refine ⟨.agg ((List.range sz).map (u i)).toArray, up s q' (u i j), ?_, ⟨fun k => ?_, fun k k' g l1 l2 g1 g2 => ?_, fun k g l1 g1 => ?_, fun k g l1 g1 => ?_, h.zin, h.kept, h.zsrc, h.zhas⟩, E, ?_⟩
              · rw [Nat.add_zero]
                refine run_loadAt_mid w g (o + i * sz) T _ _ (fun b y hy => ?_) hu rfl ?_
                · rw [List.getElem?_map] at hy
                  by_cases hb : b < sz
                  · rw [List.getElem?_range hb] at hy
                    simp at hy
                    rw [← hy]
                    exact hvl b _ (List.getElem?_eq_getElem (by rw [hrowl hi]; exact hb))
                  · rw [List.getElem?_eq_none (by simpa using hb)] at hy; cases hy
                · rw [List.length_map, List.length_range, ← hsz]
                  unfold szOf inf
                  cases hi : P.info? T with
                  | none => simp [Program.underlying, hi] at hu
                  | some i => simp
              · show BlkR w Z _ _ (up (up L r (.tr (.gone (i + 1)) e sz cols rows)) q' (.tr .whole e2 sz2 cols2 rows2) k) (up s q' (u i j) k)
                by_cases e' : k = q'
                · subst e'
                  rw [up_same, up_same]
                  exact ⟨xs2, u2, hT2, fun a b c hc => by cases hc⟩
                · rw [up_ne _ _ e', up_ne _ _ e']
                  by_cases e'' : k = r
                  · subst e''
                    rw [up_same]
                    exact ⟨xs, u, ⟨hT.h0, hT.hc, hT.hr, hT.ho, hT.hu, hT.one, fun a b d k he => hT.hk a b d k (hmono a b he), fun a b d k g he => hT.h1 a b d k g (hmono a b he), fun a b d k a' b' d' k' g he he' => hT.h2 a b d k a' b' d' k' g (hmono a b he) (hmono a' b' he')⟩, fun a b c hc => by cases hc⟩
                  · rw [up_ne _ _ e'']
                    exact (h.blk k).mono E fun _ _ _ => rfl
              · rcases src k g l1 g1 with ⟨rfl, f1, i1⟩ | ⟨rfl, f1, i1⟩ | ⟨n1, n2, l1', f1⟩ <;> rcases src k' g l2 g2 with ⟨rfl, f2, i2⟩ | ⟨rfl, f2, i2⟩ | ⟨m1, m2, l2', f2⟩
                · rfl
                · exact (disj g i1 i2).elim
                · exact absurd (h.sepF _ _ g hLr l2' f1 f2).symm m2
                · exact (disj g i2 i1).elim
                · rfl
                · exact absurd (h.sepF _ _ g hLr l2' f1 f2).symm m2
                · exact absurd (h.sepF _ _ g l1' hLr f1 f2) n2
                · exact absurd (h.sepF _ _ g l1' hLr f1 f2) n2
                · exact h.sepF _ _ g l1' l2' f1 f2
              · rcases src k g l1 g1 with ⟨rfl, f1, i1⟩ | ⟨rfl, f1, i1⟩ | ⟨n1, n2, l1', f1⟩
                · exact h.nzF _ g hLr f1
                · exact h.nzF _ g hLr f1
                · exact h.nzF _ g l1' f1
              · rcases src k g l1 g1 with ⟨rfl, f1, i1⟩ | ⟨rfl, f1, i1⟩ | ⟨n1, n2, l1', f1⟩
                · exact h.mineF _ g hLr f1
                · exact h.mineF _ g hLr f1
                · exact h.mineF _ g l1' f1
              · refine .agg _ _ (by rw [List.length_map, List.length_range, hcl, hT.hc]) fun b c y hc' hy => ?_
                have hb : b < sz := by
                  have := (List.getElem?_eq_some_iff.1 hc').1
                  rw [hcl, hT.hc] at this
                  exact this
                rw [List.getElem?_map, List.getElem?_range hb] at hy
                simp at hy
                subst hy
                rcases hcs b c hc' with ⟨rfl, rfl⟩ | ⟨_, z, k1, k2, rfl⟩
                · obtain ⟨A, c, hA⟩ := owns_shape hT2.ho
                  exact .ownTr q' _ .whole e2 sz2 cols2 rows2 (up_same _ _ _) (up_same _ _ _).symm ⟨A, c, by rw [up_same]; exact hA⟩
                · have ho := hT.hk i b _ _ (hex0 b) (hat b _ hi k2) k1
                  cases ho
                  exact .v _
            · cases ho
          · cases ho
        · cases ho
      · split at ho
        · rename_i hcell
          obtain ⟨dd, hu, hd⟩ := isCell_desc hcell
          split at ho
          · rename_i hex
            split at ho
            · rename_i y hcol hdj
              cases ho
              have hi : i < rows.length := hc
              have hj : j < sz := by rw [← hT.hc]; exact (List.getElem?_eq_some_iff.1 hcol).1
              have hd' : (rows.getD i [])[j]? = some (.v y) := by
                rw [List.getD, List.getElem?_eq_getElem (by rw [hrowl hi]; exact hj)] at hdj
                rw [List.getElem?_eq_getElem (by rw [hrowl hi]; exact hj)]
                simpa using hdj
              have ho := hT.hk i j _ _ hex (hat j _ hi hd') hcol
              have hcl := own_cell hT.ho (hT.hu i j _ (hat j _ hi hd'))
              rw [hsr] at hcl
              have hy : u i j = y := by cases ho; rfl
              refine ⟨y, s, run_loadAt_one T g (o + (i * sz + j)) _ dd hu hd (by rw [← hy]; exact hcl), h, Ext.refl _ _ _ _, .v _⟩
            · cases ho
          · cases ho
        · cases ho
    · cases ho
  · cases ho
end
end Go.Proofs.Ytkfjaeoehhakpaa
namespace Go.Proofs.Ytkfjaeoehhakpaa
open Go.RowKit
abbrev Abs := List AV → (Nat → Blk) → Nat → Option Out
section
variable {P : Program} {w : World} {Z : Nat → Prop} {L : Nat → Blk} {s : Nat → Value} {F : Nat → Prop} {W0 : Ent}
def ARel (w : World) (Z : Nat → Prop) (L : Nat → Blk) (s : Nat → Value) (xs : List AV) (ys : List Value) : Prop :=
  ys.length = xs.length ∧ ∀ (i : Nat) x y, xs[i]? = some x → ys[i]? = some y → AVR w Z L s x y
def AV.ids : AV → List Nat
  | .own r | .sub r _ _ | .ptr r _ | .eptr r _ _ => [r]
  | .agg cs => idsL cs
  | .tup cs => idsL cs
  | _ => []
where idsL : List AV → List Nat
  | [] => []
  | c :: cs => AV.ids c ++ idsL cs
def blkIds : Blk → List Nat
  | .var _ cs => AV.ids.idsL cs
  | .tr (.hole _ _ q) _ _ _ _ => [q]
  | .tr (.kid r) _ _ _ _ => [r]
  | _ => []
def foot (L : Nat → Blk) (xs : List AV) : List Nat := (AV.ids.idsL xs).flatMap fun r => r :: blkIds (L r)
structure CallOk (P : Program) (f : FuncId) (abs : Abs) : Prop where
  there : ∃ fn c, P.funcs[f]? = some fn ∧ (fn.name == "runtime.NumGoroutine") = false ∧ fn.body = some c
  does : ∀ (F : Nat → Prop) (W0 : Ent) (w : World) (L : Nat → Blk) (s : Nat → Value) (Z : Nat → Prop) (args : List AV) (vs : List Value) (q : Nat) (out : Out),
    HR F W0 w L s Z → ARel w Z L s args vs → abs args L q = some out → out.c → (∀ k, q ≤ k → k < q + 16 → L k = .none) →
    Calls P f vs.toArray w fun e w' => ∃ v s' Z', e = .returned v ∧ HR F W0 w' (ups L out.ups) s' Z' ∧ Ext w Z L s w' Z' (ups L out.ups) s' ∧ AVR w' Z' (ups L out.ups) s' out.dst v
  near : ∀ (L L' : Nat → Blk) (args : List AV) (q : Nat), (∀ r ∈ foot L args, L' r = L r) → abs args L' q = abs args L q
  writes : ∀ (L : Nat → Blk) (args : List AV) (q : Nat) (out : Out), abs args L q = some out → ∀ p ∈ out.ups, p.1 ∈ foot L args ∨ (q ≤ p.1 ∧ p.1 < q + 16)
def evA (tm : List AV) : Operand → AV
  | .tmp t => tm.getD t (.v undef)
  | .const v => .v v
  | .global g => .v (.pointer (some ⟨g, 0, none⟩))
  | .func f => .v (.func (.func f) #[] #[])
structure TR (w : World) (Z : Nat → Prop) (L : Nat → Blk) (s : Nat → Value) (tm : List AV) (a : Act) : Prop where
  len : a.tmps.size = tm.length
  rel : ∀ (i : Nat) x y, tm[i]? = some x → a.tmps[i]? = some y → AVR w Z L s x y
  defers : a.defers = []
theorem TR.eval {tm : List AV} {a : Act} (h : TR w Z L s tm a) (x : Operand) : AVR w Z L s (evA tm x) (a.eval x) := by
  cases x with
  | tmp t =>
    simp only [evA, Act.eval]
    by_cases ht : t < tm.length
    · have h1 : tm[t]? = some tm[t] := List.getElem?_eq_getElem ht
      have h2 : a.tmps[t]? = some (a.tmps[t]'(by rw [h.len]; exact ht)) := Array.getElem?_eq_getElem (by rw [h.len]; exact ht)
      have := h.rel t _ _ h1 h2
      simpa [List.getD, Array.getD, h1, h.len, ht] using this
    · have h1 : tm[t]? = none := List.getElem?_eq_none (Nat.le_of_not_lt ht)
      have h3 : ¬ t < a.tmps.size := by rw [h.len]; exact ht
      simp only [List.getD, h1, Array.getD, dif_neg h3, Option.getD_none]
      exact .v _
  | const v => exact .v v
  | global g => exact .v _
  | func f => exact .v _
def putT (tm : List AV) (d : Option Tmp) (x : AV) : List AV := match d with | some t => tm.set t x | none => tm
theorem TR.put {tm : List AV} {a : Act} (h : TR w Z L s tm a) {x : AV} {y : Value} (hx : AVR w Z L s x y) (d : Option Tmp) : TR w Z L s (putT tm d x) (a.put d y) := by
  cases d with
  | none => exact h
  | some t =>
    refine ⟨by simp [putT, Act.put, h.len], fun i u v hu hv => ?_, h.defers⟩
    simp only [putT] at hu
    simp only [Act.put] at hv
    by_cases e : t = i
    · subst e
      have h1 := (List.getElem?_eq_some_iff.1 hu).1
      rw [List.length_set] at h1
      rw [List.getElem?_set_self h1] at hu
      rw [Array.getElem?_setIfInBounds_self_of_lt (by rw [h.len]; exact h1)] at hv
      cases hu
      cases hv
      exact hx
    · rw [List.getElem?_set_ne e] at hu
      rw [Array.getElem?_setIfInBounds_ne e] at hv
      exact h.rel i u v hu hv
theorem TR.mono {tm : List AV} {a : Act} (h : TR w Z L s tm a) {w' : World} {Z' : Nat → Prop} {L' : Nat → Blk} {s' : Nat → Value} (E : Ext w Z L s w' Z' L' s') : TR w' Z' L' s' tm a :=
  ⟨h.len, fun i x y hx hy => (h.rel i x y hx hy).mono E, h.defers⟩
def oNil (L : Nat → Blk) (x : AV) : Option Out := match x with
  | .ptr r off => match L r with | .var _ _ => some ⟨True, .ptr r off, []⟩ | _ => none
  | .eptr r i j => match L r with | .sl _ _ _ => some ⟨True, .eptr r i j, []⟩ | .tr .. => some ⟨True, .eptr r i j, []⟩ | .off .. => some ⟨True, .eptr r i j, []⟩ | _ => none
  | .rptr cells => some ⟨True, .rptr cells, []⟩
  | .v (.pointer (some a)) => some ⟨True, .v (.pointer (some a)), []⟩
  | _ => none
theorem oNil_ok {x : AV} {y : Value} (hx : AVR w Z L s x y) {out : Out} (ho : oNil L x = some out) : (∃ a, y = .pointer (some a)) ∧ AVR w Z L s out.dst y ∧ out.ups = [] := by
  cases hx <;> simp only [oNil] at ho
  case v =>
    split at ho
    all_goals first
      | (cases ho; done)
      | (rename_i e; cases e; cases ho; exact ⟨⟨_, rfl⟩, .v _, rfl⟩)
      | (rename_i e; cases e; done)
  case ptr r off T cs h g hs hy =>
    rw [h] at ho; simp at ho; subst ho; subst hy
    exact ⟨⟨_, rfl⟩, .ptr r off _ T cs h g hs rfl, rfl⟩
  case ptrDead r off h ho' => rw [h] at ho; cases ho
  case eptr r i j e sz rows h g o n c hs hy =>
    rw [h] at ho; simp at ho; subst ho; subst hy
    exact ⟨⟨_, rfl⟩, .eptr r i j _ e sz rows h g o n c hs rfl, rfl⟩
  case eptrTr r i j st e sz cols rows h g o n c hs hy =>
    rw [h] at ho; simp at ho; subst ho; subst hy
    exact ⟨⟨_, rfl⟩, .eptrTr r i j _ st e sz cols rows h g o n c hs rfl, rfl⟩
  case eptrOff r i j e sz rows h g o n c hs hy =>
    rw [h] at ho; simp at ho; subst ho; subst hy
    exact ⟨⟨_, rfl⟩, .eptrOff r i j _ e sz rows h g o n c hs rfl, rfl⟩
  case eptrStill r i j sz rows h ho' => rw [h] at ho; cases ho
  case eptrDead r i j h ho' => rw [h] at ho; cases ho
  case rptr cells b off u hz h1 h2 =>
    simp at ho; subst ho
    exact ⟨⟨_, rfl⟩, .rptr cells b off u hz h1 h2, rfl⟩
  all_goals cases ho
def oMin (x y : AV) : Option Out := match x, y with
  | .v (.int k a), .v (.int _ b) => some ⟨True, .v (.int k (if b < a then b else a)), []⟩
  | _, _ => none
theorem oMin_ok {T T' ty : TypeId} {p q : AV} {x y : Value} (hp : AVR w Z L s p x) (hq : AVR w Z L s q y) {out : Out} (ho : oMin p q = some out) :
    ∃ v, (Builtin.min_ #[T, T'] ty #[x, y]).run P w = .ok v w ∧ AVR w Z L s out.dst v ∧ out.ups = [] := by
  unfold oMin at ho
  split at ho
  · simp at ho; subst ho
    cases hp
    cases hq
    exact ⟨_, by simp [Builtin.min_, Builtin.min2], .v _, rfl⟩
  · cases ho
def oMin3 (x y z : AV) : Option Out := match x, y, z with
  | .v (.int k a), .v (.int _ b), .v (.int _ c) => some ⟨True, .v (.int k (if c < (if b < a then b else a) then c else (if b < a then b else a))), []⟩
  | _, _, _ => none
theorem oMin3_ok {T T' T2 ty : TypeId} {p q r : AV} {x y z : Value} (hp : AVR w Z L s p x) (hq : AVR w Z L s q y) (hr : AVR w Z L s r z) {out : Out} (ho : oMin3 p q r = some out) :
    ∃ v, (Builtin.min_ #[T, T', T2] ty #[x, y, z]).run P w = .ok v w ∧ AVR w Z L s out.dst v ∧ out.ups = [] := by
  unfold oMin3 at ho
  split at ho
  · simp at ho; subst ho
    cases hp
    cases hq
    cases hr
    exact ⟨_, by simp [Builtin.min_, Builtin.min2], .v _, rfl⟩
  · cases ho
def oMax (x y : AV) : Option Out := match x, y with
  | .v (.int k a), .v (.int _ b) => some ⟨True, .v (.int k (if b > a then b else a)), []⟩
  | _, _ => none
theorem oMax_ok {T T' ty : TypeId} {p q : AV} {x y : Value} (hp : AVR w Z L s p x) (hq : AVR w Z L s q y) {out : Out} (ho : oMax p q = some out) :
    ∃ v, (Builtin.max_ #[T, T'] ty #[x, y]).run P w = .ok v w ∧ AVR w Z L s out.dst v ∧ out.ups = [] := by
  unfold oMax at ho
  split at ho
  · simp at ho; subst ho
    cases hp
    cases hq
    exact ⟨_, by simp [Builtin.max_, Builtin.max2], .v _, rfl⟩
  · cases ho
def oCopy (P : Program) (L : Nat → Blk) (T : TypeId) (x y : AV) : Option Out := match P.underlying T, x with
  | some (.slice e), .own r => match L r, rowsOf L y with
    | .sl e' sz xs, some ys => if e' = e ∧ szOf P e = 1 ∧ sz = 1 then some ⟨ys.length = xs.length ∧ ∀ r ∈ ys, r.length = 1, .v (.int .i64 (ys.length : Int)), [(r, .sl e sz ys)]⟩ else none
    | _, _ => none
  | some (.slice e), .sub r lo hi => match L r, rowsOf L y with
    | .sl e' sz xs, some ys => if e' = e ∧ szOf P e = 1 ∧ sz = 1 then some ⟨lo + ys.length ≤ hi ∧ ∀ r ∈ ys, r.length = 1, .v (.int .i64 (ys.length : Int)), [(r, .sl e sz (xs.take lo ++ (ys ++ xs.drop (lo + ys.length))))]⟩ else none
    | _, _ => none
  | _, _ => none
theorem RowsR.col {rows : List (List D)} {xs : List Value} (h : RowsR w Z 1 rows xs) {i j : Nat} {d : D} (hd : rowAt rows i j = some d) : j = 0 := by
  unfold rowAt at hd
  cases hr : rows[i]? with
  | none => simp [hr] at hd
  | some r =>
    have h1 := h.1 r (List.mem_of_getElem? hr)
    simp [hr] at hd
    have := (List.getElem?_eq_some_iff.1 hd).1
    omega
theorem RowsR.take1 {rows : List (List D)} {xs : List Value} (h : RowsR w Z 1 rows xs) (k : Nat) : RowsR w Z 1 (rows.take k) (xs.take k) := by
  refine ⟨fun r hr => h.1 r (List.mem_of_mem_take hr), by rw [List.length_take, List.length_take, h.2.1, Nat.mul_one, Nat.mul_one], fun i j d hd => ?_⟩
  have hi : i < k ∧ rowAt rows i j = some d := by
    unfold rowAt at hd ⊢
    rw [List.getElem?_take] at hd
    split at hd
    · exact ⟨by assumption, hd⟩
    · simp at hd
  obtain ⟨u, hu, hr⟩ := h.2.2 i j d hi.2
  have hj := h.col hi.2
  exact ⟨u, by rw [List.getElem?_take, if_pos (by omega)]; exact hu, hr⟩
theorem RowsR.drop1 {rows : List (List D)} {xs : List Value} (h : RowsR w Z 1 rows xs) (k : Nat) : RowsR w Z 1 (rows.drop k) (xs.drop k) := by
  refine ⟨fun r hr => h.1 r (List.mem_of_mem_drop hr), by rw [List.length_drop, List.length_drop, h.2.1, Nat.mul_one, Nat.mul_one], fun i j d hd => ?_⟩
  have hi : rowAt rows (k + i) j = some d := by
    unfold rowAt at hd ⊢
    rw [List.getElem?_drop] at hd
    exact hd
  obtain ⟨u, hu, hr⟩ := h.2.2 (k + i) j d hi
  exact ⟨u, by rw [List.getElem?_drop, ← hu]; congr 1; omega, hr⟩
theorem run_copy_off (dT sT ty e : TypeId) (i : TypeInfo) (hu : P.underlying dT = some (.slice e)) (hi : P.info? e = some i) (h1s : i.size = 1)
    (g o dn dCap n : Nat) (cur : Array Value) (hg : w.heap[g]? = some (.cells cur e (0, 0)))
    (a : Addr) (sCap : Nat) (news : List Value) (hl : news.length = n) (hle : n ≤ dn) (hnews : ∀ j u, news[j]? = some u → w.cell? (a.add j) = some u) (h1 : ∀ u ∈ news, u.oneCell' = true) (hfit : o + news.length ≤ cur.size) :
    (Builtin.copy_ #[dT, sT] ty #[.slice (some ⟨g, o, none⟩) dn dCap, .slice (some a) n sCap]).run P w =
      .ok (.int .i64 (n : Int)) (w.setRow g (cur.toList.take o ++ news ++ cur.toList.drop (o + news.length)).toArray) := by
  subst hl
  have hld := run_loadCells_list (P := P) (w := w) a news hnews
  have hst := run_storeCells_at P g o e news 0 cur w hg (by simpa using hfit) h1
  simp only [Nat.add_zero] at hst
  have hmin : min news.length dn = news.length := Nat.min_eq_left hle
  simp [Builtin.copy_, run_underlying hu, Builtin.lenOf, Builtin.firstCells, sizeOf, typeInfo, hi, h1s, hld, hst, goInt, hmin]
theorem oCopy_ok (h : HR F W0 w L s Z) {T T' ty : TypeId} {a b : AV} {x y : Value} (ha : AVR w Z L s a x) (hb : AVR w Z L s b y) {out : Out} (ho : oCopy P L T a b = some out) (hc : out.c) :
    ∃ v w', (Builtin.copy_ #[T, T'] ty #[x, y]).run P w = .ok v w' ∧ HR F W0 w' (ups L out.ups) s Z ∧ Ext w Z L s w' Z (ups L out.ups) s ∧ AVR w' Z (ups L out.ups) s out.dst v := by
  unfold oCopy at ho
  split at ho
  · rename_i e r hu
    split at ho
    · rename_i e' sz xs ys hL hys
      split at ho
      · rename_i hh
        obtain ⟨rfl, hsz, rfl⟩ := hh
        simp at ho; subst ho
        obtain ⟨c1, c3⟩ := hc
        obtain ⟨i, hi, his⟩ := szOf_info hsz (by omega)
        obtain ⟨A, c, rfl, hA⟩ := rowsOf_ok h hb hys
        have hlive : (L r).live := by rw [hL]; trivial
        have hx : x = s r := by
          cases ha with
          | own _ _ _ _ _ _ hx _ => exact hx
          | ownStill _ _ _ _ hd _ _ => rw [hL] at hd; cases hd
          | ownDead _ _ hd _ => rw [hL] at hd; cases hd
          | ownOff _ _ _ _ _ hd _ _ => rw [hL] at hd; cases hd
          | ownTr _ _ _ _ _ _ _ hd => rw [hL] at hd; cases hd
        subst hx
        have hbk := h.blk r
        rw [hL] at hbk
        obtain ⟨-, us, hown, hrows⟩ := hbk.rows
        rcases Nat.eq_zero_or_pos ys.length with hm | hm
        · have hys0 : ys = [] := List.eq_nil_of_length_eq_zero hm
          have hxs0 : xs = [] := List.eq_nil_of_length_eq_zero (by omega)
          subst hys0
          subst hxs0
          obtain ⟨A', c', hA'⟩ := owns_shape hown
          have e1 : up L r (.sl e' 1 []) = L := by rw [← hL]; exact up_self _ _
          refine ⟨_, w, by rw [hA']; exact run_copy_none (P := P) w T T' ty e' A' A 0 c' 0 c hu (by simp [hi, his]) rfl, ?_, ?_, .v _⟩
          · show HR F W0 w (up L r (.sl e' 1 [])) s Z
            rw [e1]; exact h
          · show Ext w Z L s w Z (up L r (.sl e' 1 [])) s
            rw [e1]; exact Ext.refl _ _ _ _
        · obtain ⟨bb, off, rfl, vs, hvl, hvc, hv1, hvr⟩ := src_cells (w := w) (Z := Z) c3 hA hm
          clear hA
          rcases hown.2 with ⟨q1, q2⟩ | ⟨g, o, cap, cur, q1, q2, q3, q4, q5, q6, q7⟩
          · omega
          · have hvl' : vs.length = ys.length := by omega
            obtain ⟨hput, hroom⟩ := ownsAt_put hown q1 q3 (k := 0) (us := vs) (by omega)
            rw [Nat.add_zero] at hput hroom
            have hp : putAt us 0 vs = vs := by unfold putAt; rw [List.take_zero, List.nil_append, List.drop_of_length_le (by rw [hown.1]; omega), List.append_nil]
            rw [hp] at hput
            have hr := run_copy_off (P := P) (w := w) T T' ty e' i hu hi his g o ys.length cap ys.length cur q3 ⟨bb, off, none⟩ c vs hvl' (Nat.le_refl _) hvc hv1 hroom
            have hvb : vblk (s r) = some g := by rw [q1]; rfl
            have hE : Ext w Z L s (w.setRow g (putAt cur.toList o vs).toArray) Z (up L r (.sl e' 1 ys)) (up s r (s r)) :=
              Ext.of1 (fun _ h => h) (fun b hb => setRow_other w g b _ fun e => h.nz r g hlive hvb (e ▸ hb)) (.sl e' 1 xs ys hL rfl c1 rfl) (fun _ _ _ h2 => by cases h2)
            have key := h.of r (.sl e' 1 ys) (s r) hE rfl rfl rfl (by simp) (fun b _ hne => setRow_other w g b _ (hne g hlive hvb)) (BlkR.of_rows (xs := vs) (by omega) (by rw [c1]; exact hput) (hvr.mono hE.z hE.w)) (fun _ g2 hg2 => .inr ⟨hlive, hg2⟩) (fun b hb => .inl hb)
            rw [up_self] at key hE
            exact ⟨_, _, by rw [q1, ← c1]; exact hr, key, hE, .v _⟩
      · cases ho
    · cases ho
  · rename_i e r lo hi hu
    split at ho
    · rename_i e' sz xs ys hL hys
      split at ho
      · rename_i hh
        obtain ⟨rfl, hsz, rfl⟩ := hh
        simp at ho; subst ho
        obtain ⟨c1, c3⟩ := hc
        obtain ⟨i, hi', his⟩ := szOf_info hsz (by omega)
        obtain ⟨A, c, rfl, hA⟩ := rowsOf_ok h hb hys
        have hlive : (L r).live := by rw [hL]; trivial
        obtain ⟨A2, n2, k2, hx, hn2, hhi, hsub⟩ : ∃ A2 n2 k2, x = .slice A2 n2 k2 ∧ n2 = hi - lo ∧ hi ≤ xs.length ∧ (0 < n2 → ∃ g o N C, s r = .slice (some ⟨g, o, none⟩) N C ∧ A2 = some ⟨g, o + lo * 1, none⟩) := by
          cases ha with
          | subTr _ _ _ _ _ _ _ _ _ hd => rw [hL] at hd; cases hd
          | subOff _ _ _ _ _ _ _ hd => rw [hL] at hd; cases hd
          | sub _ _ _ _ e2 sz2 rows2 h2 hlo hhi A2 n2 c2 hx hn hc hA2 =>
            rw [hL] at h2
            cases h2
            exact ⟨A2, n2, c2, hx, hn, hhi, fun h0 => by obtain ⟨g, o, N, C, e1, e2, _⟩ := hA2 h0; exact ⟨g, o, N, C, e1, e2⟩⟩
          | subStill _ _ _ _ _ _ hd _ _ _ => rw [hL] at hd; cases hd
          | subDead _ _ _ _ hd _ => rw [hL] at hd; cases hd
        subst hx
        have hbk := h.blk r
        rw [hL] at hbk
        obtain ⟨-, us, hown, hrows⟩ := hbk.rows
        rcases Nat.eq_zero_or_pos ys.length with hm | hm
        · have hys0 : ys = [] := List.eq_nil_of_length_eq_zero hm
          subst hys0
          have e1 : up L r (.sl e' 1 (xs.take lo ++ ([] ++ xs.drop (lo + ([] : List (List D)).length)))) = L := by
            rw [List.nil_append, List.length_nil, Nat.add_zero, List.take_append_drop, ← hL]; exact up_self _ _
          refine ⟨_, w, run_copy_none (P := P) w T T' ty e' A2 A n2 k2 0 c hu (by simp [hi', his]) (Nat.zero_min _), ?_, ?_, .v _⟩
          · show HR F W0 w (up L r _) s Z
            rw [e1]; exact h
          · show Ext w Z L s w Z (up L r _) s
            rw [e1]; exact Ext.refl _ _ _ _
        · obtain ⟨bb, off, rfl, vs, hvl, hvc, hv1, hvr⟩ := src_cells (w := w) (Z := Z) c3 hA hm
          clear hA
          obtain ⟨g0, o0, N, C, hs0, rfl⟩ := hsub (by omega)
          rcases hown.2 with ⟨q1, q2⟩ | ⟨g, o, cap, cur, q1, q2, q3, q4, q5, q6, q7⟩
          · omega
          · rw [hs0] at q1
            cases q1
            have hvl' : vs.length = ys.length := by omega
            have hxl := hrows.2.1
            obtain ⟨hput, hroom⟩ := ownsAt_put hown hs0 q3 (k := lo * 1) (us := vs) (by omega)
            have hr := run_copy_off (P := P) (w := w) T T' ty e' i hu hi' his g0 (o0 + lo * 1) n2 k2 ys.length cur q3 ⟨bb, off, none⟩ c vs hvl' (by omega) hvc hv1 hroom
            have hvb : vblk (s r) = some g0 := by rw [hs0]; rfl
            have hlen : (xs.take lo ++ (ys ++ xs.drop (lo + ys.length))).length = xs.length := by
              simp only [List.length_append, List.length_take, List.length_drop]; omega
            have hE : Ext w Z L s (w.setRow g0 (putAt cur.toList (o0 + lo * 1) vs).toArray) Z (up L r (.sl e' 1 (xs.take lo ++ (ys ++ xs.drop (lo + ys.length))))) (up s r (s r)) :=
              Ext.of1 (fun _ h => h) (fun b hb => setRow_other w g0 b _ fun e => h.nz r g0 hlive hvb (e ▸ hb)) (.sl e' 1 xs _ hL rfl hlen rfl) (fun _ _ _ h2 => by cases h2)
            have hp : putAt us (lo * 1) vs = us.take lo ++ (vs ++ us.drop (lo + ys.length)) := by unfold putAt; rw [Nat.mul_one, hvl', List.append_assoc]
            rw [hp] at hput
            have hrow2 := ((hrows.take1 lo).append (hvr.append (hrows.drop1 (lo + ys.length)))).mono hE.z hE.w
            have key := h.of r (.sl e' 1 (xs.take lo ++ (ys ++ xs.drop (lo + ys.length)))) (s r) hE rfl rfl rfl (by simp) (fun b _ hne => setRow_other w g0 b _ (hne g0 hlive hvb)) (BlkR.of_rows (xs := us.take lo ++ (vs ++ us.drop (lo + ys.length))) (by omega) (by rw [hlen]; exact hput) hrow2) (fun _ g2 hg2 => .inr ⟨hlive, hg2⟩) (fun b hb => .inl hb)
            rw [up_self] at key hE
            exact ⟨_, _, hr, key, hE, .v _⟩
      · cases ho
    · cases ho
  · cases ho
def isTrP (L : Nat → Blk) : AV → Bool
  | .eptr r _ _ => match L r with | .tr .. => true | _ => false
  | _ => false
def oLoadQ (P : Program) (L : Nat → Blk) (T : TypeId) (x : AV) (q : Nat) : Option Out := if isTrP L x = true then (match P.underlying T with | some (.slice _) => oLoadKid P L T x q | _ => oLoadRow P L T x q) else oLoad P L T x
def oStoreQ (P : Program) (L : Nat → Blk) (T : TypeId) (x p : AV) : Option Out := if isTrP L p = true then oStoreTree P L T x p else oStore P L T x p
def TK.isSl : TK → Bool
  | .cell => false
  | .sl _ _ _ => true
def nilTk : List TK → List AV → Bool
  | .sl _ _ _ :: ks, .v x :: xs => nilV x && nilTk ks xs
  | .cell :: ks, _ :: xs => nilTk ks xs
  | [], [] => true
  | _, _ => false
def nilsB (P : Program) (T : TypeId) (ps : List (Nat × AV)) : Bool := match P.underlying T with
  | some (.slice e) => (colsOf P 8 e).any (TK.isSl) && (!ps.isEmpty && ps.all fun p => nilTk (colsOf P 8 e) p.2.cells)
  | _ => false
def treeMode (G : List (FuncId × Abs)) : Bool := match G with
  | a :: b :: _ => a.1 == b.1
  | _ => false
def AV.isOwn : AV → Bool
  | .own _ => true
  | _ => false
def oBuildSliceQ (P : Program) (md : Bool) (L : Nat → Blk) (T : TypeId) (n : Nat) (ps : List (Nat × AV)) (q : Nat) : Option Out := if ((ps.any fun p => p.2.cells.any (isTr L)) || nilsB P T ps || (md && ps.any fun p => p.2.cells.any AV.isOwn)) = true then oBuildTree P L T n ps q else oBuildSlice P L T n ps q
def oAppendQ (P : Program) (L : Nat → Blk) (T : TypeId) (x y : AV) (q : Nat) : Option Out := if isTr L y = true then oAppendTree P L T x y q else oAppend P L T x y q
section
variable {P : Program} {w : World}
theorem wrapZ_id {x : Int} (h1 : -9223372036854775808 ≤ x) (h2 : x ≤ 9223372036854775807) : IntKind.i64.wrap x = x := by
  rw [IntKind.wrap_i64]
  omega
theorem appendZ_nil (t u ty e : TypeId) (i : TypeInfo) (z : Value) {kk : IntKind} (ht : P.underlying t = some (.slice e)) (hu : P.underlying u = some (.int kk)) (hi : P.info? e = some i) (hz : i.zero = some z) (hsz : 0 < i.size)
    (m : Nat) (h0 : 0 < m) (h63 : (m : Int) ≤ 9223372036854775807) (h48 : m * i.bytes ≤ 281474976710656) :
    (Builtin.append_ #[t, u] ty #[.slice none 0 0, .int .i64 (m : Int)]).run P w =
      .ok (.slice (some ⟨w.heap.size, 0, none⟩) m (grownCap w m 0 e)) (w.drew.alloc (.cells (Builtin.zeroCells z.cells m ++ Builtin.zeroCells z.cells (grownCap w m 0 e - m)) e)) := by
  have hn : m ≠ 0 := by omega
  have hw : IntKind.i64.wrap (m : Int) = (m : Int) := wrapZ_id (by omega) (by omega)
  have h63' : ¬ (9223372036854775807 < (m : Int)) := by omega
  have h48' : ¬ (281474976710656 < Builtin.nextslicecap m 0 * i.bytes) := by rw [nextslicecap_zero h0]; omega
  have h48'' : ¬ (281474976710656 < (m : Int) * (i.bytes : Int)) := by
    rw [← Int.natCast_mul]; omega
  have hlt : ¬ ((m : Int) < 0) := by omega
  have hs0 : ¬ (m * i.size = 0) := Nat.ne_of_gt (Nat.mul_pos h0 hsz)
  simp [Builtin.append_, run_underlying ht, run_underlying hu, asInt, asIntOf, hw, hlt, h48'', sizeOf, typeInfo, zeroValue, hi, hz, Builtin.lenOf, hn, h63', h48', hs0, Question.forced, run_firstCells_none, newRow, grownCap]
theorem appendZ_grow (t u ty e : TypeId) (i : TypeInfo) (z : Value) {kk : IntKind} (ht : P.underlying t = some (.slice e)) (hu : P.underlying u = some (.int kk)) (hi : P.info? e = some i) (hz : i.zero = some z) (hsz : 0 < i.size)
    (b : Addr) (sLen sCap : Nat) (olds : List Value) (hlo : olds.length = sLen * i.size) (holds : ∀ j v, olds[j]? = some v → w.cell? (b.add j) = some v)
    (m : Nat) (h0 : 0 < m) (hg : sCap < sLen + m) (h63 : ((sLen + m : Nat) : Int) ≤ 9223372036854775807) (hfit : Builtin.nextslicecap (sLen + m) sCap * i.bytes ≤ 281474976710656) (h48 : m * i.bytes ≤ 281474976710656) :
    (Builtin.append_ #[t, u] ty #[.slice (some b) sLen sCap, .int .i64 (m : Int)]).run P w =
      .ok (.slice (some ⟨w.heap.size, 0, none⟩) (sLen + m) (grownCap w (sLen + m) sCap e))
        (w.drew.alloc (.cells (olds.toArray ++ Builtin.zeroCells z.cells m ++ Builtin.zeroCells z.cells (grownCap w (sLen + m) sCap e - (sLen + m))) e)) := by
  have hn : ¬ (sLen + m ≤ sCap) := by omega
  have hm : m ≠ 0 := by omega
  have hw : IntKind.i64.wrap (m : Int) = (m : Int) := wrapZ_id (by omega) (by omega)
  have h63' : ¬ (9223372036854775807 < ((sLen : Int) + (m : Int))) := by omega
  have h48' : ¬ (281474976710656 < Builtin.nextslicecap (sLen + m) sCap * i.bytes) := by omega
  have h48'' : ¬ (281474976710656 < (m : Int) * (i.bytes : Int)) := by
    rw [← Int.natCast_mul]; omega
  have hlt : ¬ ((m : Int) < 0) := by omega
  have hs0 : ¬ (m * i.size = 0) := Nat.ne_of_gt (Nat.mul_pos h0 hsz)
  have hfo := run_firstCells_some (P := P) w.drew i.size sLen b sLen sCap olds hlo (by simpa using holds)
  simp [Builtin.append_, run_underlying ht, run_underlying hu, asInt, asIntOf, hw, hlt, h48'', sizeOf, typeInfo, zeroValue, hi, hz, Builtin.lenOf, hn, hm, h63', h48', hs0, Question.forced, hfo, newRow, grownCap]
theorem appendZ_room (t u ty e : TypeId) (i : TypeInfo) (z : Value) {kk : IntKind} (ht : P.underlying t = some (.slice e)) (hu : P.underlying u = some (.int kk)) (hi : P.info? e = some i) (hz : i.zero = some z) (hsz : 0 < i.size)
    (g o sLen sCap : Nat) (cur : Array Value) (hg : w.heap[g]? = some (.cells cur e (0, 0)))
    (m : Nat) (h0 : 0 < m) (h63 : (m : Int) ≤ 9223372036854775807) (h48 : m * i.bytes ≤ 281474976710656) (h1 : ∀ u ∈ (Builtin.zeroCells z.cells m).toList, u.oneCell' = true)
    (hroom : sLen + m ≤ sCap) (hfit : o + sLen * i.size + (Builtin.zeroCells z.cells m).toList.length ≤ cur.size) :
    (Builtin.append_ #[t, u] ty #[.slice (some ⟨g, o, none⟩) sLen sCap, .int .i64 (m : Int)]).run P w =
      .ok (.slice (some ⟨g, o, none⟩) (sLen + m) sCap) (w.setRow g (cur.toList.take (o + sLen * i.size) ++ (Builtin.zeroCells z.cells m).toList ++ cur.toList.drop (o + sLen * i.size + (Builtin.zeroCells z.cells m).toList.length)).toArray) := by
  have hm : m ≠ 0 := by omega
  have hw : IntKind.i64.wrap (m : Int) = (m : Int) := wrapZ_id (by omega) (by omega)
  have h48'' : ¬ (281474976710656 < (m : Int) * (i.bytes : Int)) := by
    rw [← Int.natCast_mul]; omega
  have hlt : ¬ ((m : Int) < 0) := by omega
  have hs0 : ¬ (m * i.size = 0) := Nat.ne_of_gt (Nat.mul_pos h0 hsz)
  have hst := run_storeCells_at P g (o + sLen * i.size) e (Builtin.zeroCells z.cells m).toList 0 cur w hg (by simpa using hfit) h1
  simp only [Nat.add_zero] at hst
  simp [Builtin.append_, run_underlying ht, run_underlying hu, asInt, asIntOf, hw, hlt, h48'', sizeOf, typeInfo, zeroValue, hi, hz, Builtin.lenOf, hroom, hm, hs0, Addr.add_lit, hst]
end
def oAppendZ (P : Program) (L : Nat → Blk) (T T' : TypeId) (x y : AV) (q : Nat) : Option Out :=
  match P.underlying T, P.underlying T', y with
  | some (.slice e), some (.int _), .v (.int .i64 n) => match inf P e with
    | some (some z, sz, by_) => if 0 < sz ∧ z.cells.size = sz ∧ z.cells.toList.all (·.oneCell') = true then match x with
      | .own r => match L r with
        | .sl e' sz' xs => if e' = e ∧ sz' = sz ∧ r ≠ q then some ⟨1 ≤ n ∧ (xs.length + n.toNat) * by_ ≤ 1099511627776 ∧ xs.length + n.toNat ≤ 1099511627776, .own q, [(r, .dead), (q, .sl e sz (xs ++ List.replicate n.toNat (z.cells.toList.map D.v)))]⟩ else none
        | _ => none
      | _ => none
      else none
    | _ => none
  | _, _, _ => none
theorem oAppendZ_ok (h : HR F W0 w L s Z) {T T' ty : TypeId} {q : Nat} (hq : L q = .none) {a b : AV} {x y : Value} (ha : AVR w Z L s a x) (hb : AVR w Z L s b y) {out : Out} (ho : oAppendZ P L T T' a b q = some out) (hc : out.c) :
    ∃ v w' s' Z', (Builtin.append_ #[T, T'] ty #[x, y]).run P w = .ok v w' ∧ HR F W0 w' (ups L out.ups) s' Z' ∧ Ext w Z L s w' Z' (ups L out.ups) s' ∧ AVR w' Z' (ups L out.ups) s' out.dst v := by
  unfold oAppendZ at ho
  split at ho
  · rename_i e kk n hu hu2
    split at ho
    · rename_i z sz by_ hinf
      obtain ⟨i, hi, hz, his, hib⟩ := inf_info hinf
      split at ho
      · rename_i hh
        obtain ⟨h0, hzs, hone⟩ := hh
        have hzc : ∀ k, (Builtin.zeroCells z.cells k).size = k * sz := fun k => by rw [size_zeroCells, hzs]
        split at ho
        · rename_i r
          split at ho
          · rename_i e' sz' xs hL
            split at ho
            · rename_i hh2
              obtain ⟨rfl, rfl, hrq⟩ := hh2
              simp at ho; subst ho
              obtain ⟨c0, c1, c2⟩ := hc
              cases hb
              obtain ⟨m, rfl⟩ : ∃ m : Nat, n = (m : Int) := ⟨n.toNat, by omega⟩
              rw [Int.toNat_natCast] at c1 c2 ⊢
              have hm : 0 < m := by omega
              have hlive : (L r).live := by rw [hL]; trivial
              have hx : x = s r := by
                cases ha with
                | own _ _ _ _ _ _ hx _ => exact hx
                | ownStill _ _ _ _ hd _ _ => rw [hL] at hd; cases hd
                | ownDead _ _ hd _ => rw [hL] at hd; cases hd
                | ownOff _ _ _ _ _ hd _ _ => rw [hL] at hd; cases hd
                | ownTr _ _ _ _ _ _ _ hd => rw [hL] at hd; cases hd
              subst hx
              have hbk := h.blk r
              rw [hL] at hbk
              obtain ⟨-, us, hown, hrows⟩ := hbk.rows
              obtain ⟨vs, hvs⟩ : ∃ vs, vs = (Builtin.zeroCells z.cells m).toList := ⟨_, rfl⟩
              obtain ⟨ys, hys⟩ : ∃ ys, ys = List.replicate m (z.cells.toList.map D.v) := ⟨_, rfl⟩
              have hyl : ys.length = m := by rw [hys, List.length_replicate]
              have hvl : vs.length = m * sz' := by rw [hvs, Array.length_toList, hzc]
              have hmv : ∀ (k : Nat), k < m * sz' → vs[k]? = z.cells.toList[k % sz']? := fun k hk => by
                have e1 : Builtin.zeroCells z.cells m = madeCells z.cells (m * z.cells.size) := rfl
                rw [hvs, e1, hzs]
                rcases madeCells_get z.cells (m * sz') k hk with h | h
                · rw [h, hzs]; simp
                · omega
              have hv1 : ∀ u ∈ vs, u.oneCell' = true := fun u hu' => by
                obtain ⟨k, hk⟩ := List.mem_iff_getElem?.1 hu'
                have hkl : k < m * sz' := by rw [← hvl]; exact (List.getElem?_eq_some_iff.1 hk).1
                rw [hmv k hkl] at hk
                have := List.all_eq_true.1 hone u (List.mem_of_getElem? hk)
                simpa using this
              have hvr : RowsR w Z sz' ys vs := by
                have hrl : (z.cells.toList.map D.v).length = sz' := by rw [List.length_map, ← hzs]; simp
                refine ⟨fun r hr => ?_, by rw [hvl, hyl], fun i' j d hd' => ?_⟩
                · rw [hys] at hr
                  obtain ⟨_, rfl⟩ := List.mem_replicate.1 hr; exact hrl
                · unfold rowAt at hd'
                  rw [hys, List.getElem?_replicate] at hd'
                  split at hd'
                  · rename_i hi'
                    rw [Option.bind_some] at hd'
                    have hj : j < sz' := by rw [← hrl]; exact (List.getElem?_eq_some_iff.1 hd').1
                    have hlt := mul_lt_of hi' hj
                    have hmod : (i' * sz' + j) % sz' = j := by rw [Nat.add_comm, Nat.add_mul_mod_self_right, Nat.mod_eq_of_lt hj]
                    rw [List.getElem?_map] at hd'
                    obtain ⟨u, hu', rfl⟩ := Option.map_eq_some_iff.1 hd'
                    refine ⟨u, by rw [hmv _ hlt, hmod]; exact hu', .v u (by have := List.all_eq_true.1 hone u (List.mem_of_getElem? hu'); simpa using this)⟩
                  · simp at hd'
              rw [← hys] at *
              have hlen : (us ++ vs).length = (xs.length + m) * i.size := by rw [List.length_append, hown.1, hvl, his, Nat.add_mul]
              have hall : RowsR w Z sz' (xs ++ ys) (us ++ vs) := hrows.append hvr
              have hll : (xs ++ ys).length = xs.length + m := by rw [List.length_append, hyl]
              have fin : ∀ (v : Value) (w' : World), (Builtin.append_ #[T, T'] ty #[s r, .int .i64 (m : Int)]).run P w = .ok v w' →
                  HR F W0 w' (up (up L r .dead) q (.sl e' sz' (xs ++ ys))) (up s q v) Z → Ext w Z L s w' Z (up (up L r .dead) q (.sl e' sz' (xs ++ ys))) (up s q v) → (∃ A c, v = .slice A (xs ++ ys).length c) →
                  ∃ v w' s' Z', (Builtin.append_ #[T, T'] ty #[s r, .int .i64 (m : Int)]).run P w = .ok v w' ∧ HR F W0 w' (ups L [(r, .dead), (q, .sl e' sz' (xs ++ ys))]) s' Z' ∧ Ext w Z L s w' Z' (ups L [(r, .dead), (q, .sl e' sz' (xs ++ ys))]) s' ∧ AVR w' Z' (ups L [(r, .dead), (q, .sl e' sz' (xs ++ ys))]) s' (.own q) v := by
                intro v w' k1 k2 k3 k4
                obtain ⟨A', c', hv⟩ := k4
                exact ⟨v, w', _, _, k1, k2, k3, .own q v e' sz' _ (up_same _ _ _) (up_same _ _ _).symm ⟨A', c', by rw [up_same]; exact hv⟩⟩
              have new : ∀ old, old < xs.length + m → ∃ w', w' = w.drew.alloc (.cells (us.toArray ++ Builtin.zeroCells z.cells m ++ Builtin.zeroCells z.cells (grownCap w (xs.length + m) old e' - (xs.length + m))) e') ∧
                  HR F W0 w' (up (up L r .dead) q (.sl e' sz' (xs ++ ys))) (up s q (.slice (some ⟨w.heap.size, 0, none⟩) (xs.length + m) (grownCap w (xs.length + m) old e'))) Z ∧
                  Ext w Z L s w' Z (up (up L r .dead) q (.sl e' sz' (xs ++ ys))) (up s q (.slice (some ⟨w.heap.size, 0, none⟩) (xs.length + m) (grownCap w (xs.length + m) old e'))) := by
                intro old hold
                have hge := grownCap_ge w (xs.length + m) old e'
                have hcm := grownCap_le_maxLen w (xs.length + m) old e' (by unfold maxLen; omega)
                refine ⟨_, rfl, h.of2 hlive hq _ _ rfl rfl rfl (by simp) (fun b hb _ => Below.heap_alloc w.drew _ b hb) (fun E => BlkR.of_rows h0 (ownsAt_of (base := 0) ⟨by rw [hlen, hll, his], .inr ⟨w.heap.size, _, _, by rw [hll], Nat.zero_le _, heap_alloc_new w.drew _, by rw [hll]; exact hge, hcm, ?_, ?_⟩⟩) (hall.mono E.z E.w)) (fun g hg => .inl ?_)⟩
                · simp only [Array.size_append, List.size_toArray, hzc, hown.1, ← Nat.add_mul]
                  congr 1
                  omega
                · simp only [Array.toList_append, List.append_assoc]
                  rw [← hvs, ← List.append_assoc, hll, ← his, ← hlen]
                  exact List.take_left
                · simp [vblk] at hg
                  subst hg
                  simp
              rcases hown.2 with ⟨q1, q2⟩ | ⟨g, o, cap, cur, q1, _, q3, q4, q5, q6, q7⟩
              · have hxs : xs = [] := List.eq_nil_of_length_eq_zero q2
                subst hxs
                have hus : us = [] := List.eq_nil_of_length_eq_zero (by simpa using hown.1)
                subst hus
                obtain ⟨w', rfl, H, E⟩ := new 0 (by simp; omega)
                simp only [List.length_nil, Nat.zero_add, List.nil_append] at H E c1 c2
                have hr := appendZ_nil (P := P) (w := w) T T' ty e' i z hu hu2 hi hz (by omega) m hm (by omega) (by rw [hib]; omega)
                refine fin _ _ (by rw [q1]; exact hr) ?_ ?_ ⟨some ⟨w.heap.size, 0, none⟩, grownCap w m 0 e', by rw [List.nil_append, hyl]⟩
                · simpa using H
                · simpa using E
              · by_cases hroom : xs.length + m ≤ cap
                · have hnc : xs.length * sz' + m * sz' ≤ cap * sz' := by rw [← Nat.add_mul]; exact Nat.mul_le_mul_right _ hroom
                  have hfit2 : o + xs.length * i.size + vs.length ≤ cur.size := by rw [hvl, his]; omega
                  have hr := appendZ_room (P := P) (w := w) T T' ty e' i z hu hu2 hi hz (by omega) g o xs.length cap cur q3 m hm (by omega) (by rw [hib]; have : m * by_ ≤ (xs.length + m) * by_ := Nat.mul_le_mul_right _ (by omega); omega) (by rw [← hvs]; exact hv1) hroom (by rw [← hvs]; exact hfit2)
                  rw [← hvs, his] at hr
                  have hro := ownsAt_room hown.1 q3 q4 q5 q6 q7 hvl hroom
                  obtain ⟨H, E⟩ := h.of2 (w' := w.setRow g (cur.toList.take (o + xs.length * sz') ++ vs ++ cur.toList.drop (o + xs.length * sz' + vs.length)).toArray) hlive hq (.sl e' sz' (xs ++ ys)) (.slice (some ⟨g, o, none⟩) (xs.length + m) cap) rfl rfl rfl (by simp) (fun b _ hne => setRow_other w g b _ (hne g (by rw [q1]; rfl))) (fun E => BlkR.of_rows h0 (by rw [hll]; exact hro) (hall.mono E.z E.w)) (fun g' hg' => .inr (by rw [q1]; exact hg'))
                  exact fin _ _ (by rw [q1]; exact hr) H E ⟨_, _, by rw [hll]⟩
                · have holds : ∀ j u, us[j]? = some u → w.cell? ((⟨g, o, none⟩ : Addr).add j) = some u := fun j u hu' => by rw [Addr.add_mid]; exact owns_cells hown q1 j u hu'
                  obtain ⟨w', rfl, H, E⟩ := new cap (by omega)
                  have hr := appendZ_grow (P := P) (w := w) T T' ty e' i z hu hu2 hi hz (by omega) ⟨g, o, none⟩ xs.length cap us (by rw [hown.1, his]) holds m hm (by omega) (by omega) (growslice_fits (by omega) (by rw [hib]; omega)) (by rw [hib]; have : m * by_ ≤ (xs.length + m) * by_ := Nat.mul_le_mul_right _ (by omega); omega)
                  exact fin _ _ (by rw [q1]; exact hr) H E ⟨_, _, by rw [hll]⟩
            · cases ho
          · cases ho
        · cases ho
      · cases ho
    · cases ho
  · cases ho
theorem RowsR.dropped {sz : Nat} {rows : List (List D)} {us : List Value} (h : RowsR w Z sz rows us) (a : Nat) : RowsR w Z sz (rows.drop a) (us.drop (a * sz)) :=
  ⟨fun r hr => h.1 r (List.mem_of_mem_drop hr), by rw [List.length_drop, List.length_drop, h.2.1, ← Nat.sub_mul], fun i' j d hd => by
    obtain ⟨u, h1, h2⟩ := h.2.2 (a + i') j d (by unfold rowAt at hd ⊢; rw [List.getElem?_drop] at hd; exact hd)
    exact ⟨u, by rw [List.getElem?_drop, ← Nat.add_assoc, ← Nat.add_mul]; exact h1, h2⟩⟩
theorem slice_end {T e : TypeId} {sz : Nat} {rows : List (List D)} {us : List Value} {r : Nat} {x : Value} (hown : ownsAt w e sz (s r) rows.length us) (hx : x = s r) (hu : P.underlying T = some (.slice e)) (hs1 : szOf P e = sz) (h0 : 0 < sz) {a : Nat} {lo' hi' : Option Value}
    (hlo : (lo' = none ∧ a = 0) ∨ ∃ k n, lo' = some (.int k n) ∧ 0 ≤ n ∧ a = n.toNat) (hhi' : hi' = none) (hle : a ≤ rows.length) :
    ∃ v, (Instr.sliceAt T x lo' hi' none).run P w = .ok v w ∧ ownsAt w e sz v (rows.drop a).length (us.drop (a * sz)) ∧ ∀ g, vblk v = some g → vblk (s r) = some g := by
  subst hx
  have hdl : (rows.drop a).length = rows.length - a := List.length_drop
  rcases hown.2 with ⟨q1, q2⟩ | ⟨g, o, cap, cur, q1, _, q3, q4, q5, q6, q7⟩
  · have ha : a = 0 := by omega
    subst ha
    have hrun := slice_run (w := w) (A := none) (len := 0) (cap := 0) hu hs1 h0 hlo (hi' := hi') (.inl ⟨hhi', rfl⟩) (Nat.le_refl _) (Nat.le_refl _) (Nat.le_refl _)
    refine ⟨_, by rw [q1]; exact hrun, ?_, fun g hg => by simp [vblk] at hg⟩
    rw [hdl, q2, Nat.zero_mul, List.drop_zero]
    have h2 := hown
    rw [q1, q2] at h2
    simpa using h2
  · have hrun := slice_run (w := w) (A := some ⟨g, o, none⟩) (len := rows.length) (cap := cap) hu hs1 h0 hlo (hi' := hi') (.inl ⟨hhi', rfl⟩) hle (Nat.le_refl _) q4
    obtain ⟨o2, ho2, ho3, hv2⟩ : ∃ o2, (0 < cap - a → o2 = o + a * sz) ∧ o2 ≤ o + a * sz ∧ (if cap = a then some (⟨g, o, none⟩ : Addr) else (some (⟨g, o, none⟩ : Addr)).map (·.add (a * sz))) = some ⟨g, o2, none⟩ := by
      by_cases hca : cap = a
      · exact ⟨o, fun h => by omega, Nat.le_add_right _ _, by rw [if_pos hca]⟩
      · refine ⟨o + a * sz, fun _ => rfl, Nat.le_refl _, ?_⟩
        rw [if_neg hca]
        simp [Addr.add_mid]
    rw [hv2, ← hdl] at hrun
    have h2 := hown
    rw [q1] at h2
    exact ⟨_, by rw [q1]; exact hrun, ownsAt_drop h2 (lo := a) (m := (rows.drop a).length) (by omega) (by omega) (by omega) ho2 ho3, fun g' hg' => by rw [q1]; exact hg'⟩
def oSliceQ (P : Program) (L : Nat → Blk) (T : TypeId) (x : AV) (lo hi : Option AV) (q : Nat) : Option Out := match x with
  | .own r => match L r with
    | .off e sz rows => match P.underlying T, loOf lo, hi with
      | some (.slice e'), some (c1, a), none => if e' = e ∧ szOf P e = sz ∧ 0 < sz then some ⟨c1 ∧ a ≤ rows.length, .own q, [(r, .dead), (q, .off e sz (rows.drop a))]⟩ else none
      | _, _, _ => none
    | _ => oSlice P L T x lo hi
  | _ => oSlice P L T x lo hi
theorem oSliceQ_ok (h : HR F W0 w L s Z) {T : TypeId} {p : AV} {lo hi : Option AV} {q : Nat} (hq : L q = .none) {x : Value} {lo' hi' : Option Value} (hp : AVR w Z L s p x) (hlo : ORel w Z L s lo lo') (hhi : ORel w Z L s hi hi') {out : Out} (ho : oSliceQ P L T p lo hi q = some out) (hc : out.c) :
    ∃ v s', (Instr.sliceAt T x lo' hi' none).run P w = .ok v w ∧ HR F W0 w (ups L out.ups) s' Z ∧ Ext w Z L s w Z (ups L out.ups) s' ∧ AVR w Z (ups L out.ups) s' out.dst v := by
  have plain : oSlice P L T p lo hi = some out → ∃ v s', (Instr.sliceAt T x lo' hi' none).run P w = .ok v w ∧ HR F W0 w (ups L out.ups) s' Z ∧ Ext w Z L s w Z (ups L out.ups) s' ∧ AVR w Z (ups L out.ups) s' out.dst v := fun ho => by
    obtain ⟨v, h1, h2, h3⟩ := oSlice_ok h hp hlo hhi ho hc
    have e : ups L out.ups = L := by rw [h3]; rfl
    exact ⟨v, s, h1, by rw [e]; exact h, by rw [e]; exact Ext.refl _ _ _ _, by rw [e]; exact h2⟩
  unfold oSliceQ at ho
  split at ho
  · rename_i r
    split at ho
    · rename_i e sz rows hL
      split at ho
      · rename_i e' c1 a hu hl1
        split at ho
        · rename_i hh
          obtain ⟨rfl, hs1, h0⟩ := hh
          simp at ho; subst ho
          obtain ⟨k1, k2⟩ := hc
          have hlive : (L r).live := by rw [hL]; trivial
          have hx : x = s r := by
            cases hp with
            | ownOff _ _ _ _ _ _ hx _ => exact hx
            | own _ _ _ _ _ hd _ _ => rw [hL] at hd; cases hd
            | ownStill _ _ _ _ hd _ _ => rw [hL] at hd; cases hd
            | ownDead _ _ hd _ => rw [hL] at hd; cases hd
            | ownTr _ _ _ _ _ _ _ hd => rw [hL] at hd; cases hd
          have hhi' : hi' = none := by cases hi' with | none => rfl | some _ => exact hhi.elim
          have hbk := h.blk r
          rw [hL] at hbk
          obtain ⟨-, us, hown, hrows⟩ := hbk.offRows
          obtain ⟨v, hrun, ho', hvb⟩ := slice_end (T := T) hown (s := s) (r := r) rfl hu hs1 h0 (lo_run hlo hl1 k1) (hi' := hi') hhi' k2
          have hrd := RowsR.dropped hrows a
          obtain ⟨A2, c2, hv2⟩ := owns_shape ho'
          obtain ⟨H, E⟩ := h.of2 hlive hq (.off e' sz (rows.drop a)) v rfl rfl rfl (Nat.le_refl _) (fun _ _ _ => rfl)
            (fun E => BlkR.of_off h0 ho' (hrd.mono E.z E.w)) (fun g' hg' => .inr (hvb g' hg'))
          rw [hx]
          exact ⟨v, _, hrun, H, E, .ownOff q _ e' sz _ (up_same _ _ _) (up_same _ _ _).symm ⟨A2, c2, by rw [up_same]; exact hv2⟩⟩
        · cases ho
      · cases ho
    · exact plain ho
  · exact plain ho
def endMode (G : List (FuncId × Abs)) : Bool := match G with
  | a :: b :: c :: _ => a.1 == c.1 && !(a.1 == b.1)
  | _ => false
def oSliceEnd (P : Program) (L : Nat → Blk) (T : TypeId) (x : AV) (lo hi : Option AV) (q : Nat) : Option Out := match x with
  | .own r => match L r with
    | .sl e sz rows => match P.underlying T, loOf lo, hi with
      | some (.slice e'), some (c1, a), none => if e' = e ∧ szOf P e = sz ∧ 0 < sz then some ⟨c1 ∧ a ≤ rows.length, .own q, [(r, .dead), (q, .sl e sz (rows.drop a))]⟩ else none
      | _, _, _ => none
    | .tr st e sz cols rows => match P.underlying T, loOf lo, hi with
      | some (.slice e'), some (c1, a), none => if e' = e ∧ szOf P e = sz ∧ 0 < sz ∧ st.cutB a = true then some ⟨c1 ∧ a ≤ rows.length, .own q, [(r, .dead), (q, .tr .whole e sz cols (rows.drop a))]⟩ else none
      | _, _, _ => none
    | _ => oSliceQ P L T x lo hi q
  | _ => oSliceQ P L T x lo hi q
def oSliceE (P : Program) (md : Bool) (L : Nat → Blk) (T : TypeId) (x : AV) (lo hi : Option AV) (q : Nat) : Option Out := match hi with
  | none => if md = true then oSliceEnd P L T x lo none q else oSliceQ P L T x lo none q
  | some z => oSliceQ P L T x lo (some z) q
theorem oSliceE_ok (h : HR F W0 w L s Z) {md : Bool} {T : TypeId} {p : AV} {lo hi : Option AV} {q : Nat} (hq : L q = .none) {x : Value} {lo' hi' : Option Value} (hp : AVR w Z L s p x) (hlo : ORel w Z L s lo lo') (hhi : ORel w Z L s hi hi') {out : Out} (ho : oSliceE P md L T p lo hi q = some out) (hc : out.c) :
    ∃ v s', (Instr.sliceAt T x lo' hi' none).run P w = .ok v w ∧ HR F W0 w (ups L out.ups) s' Z ∧ Ext w Z L s w Z (ups L out.ups) s' ∧ AVR w Z (ups L out.ups) s' out.dst v := by
  unfold oSliceE at ho
  split at ho
  case h_2 => exact oSliceQ_ok h hq hp hlo hhi ho hc
  split at ho
  · unfold oSliceEnd at ho
    split at ho
    · rename_i r
      split at ho
      · rename_i e sz rows hL
        split at ho
        · rename_i e' c1 a hu hl1 _
          split at ho
          · rename_i hh
            obtain ⟨rfl, hs1, h0⟩ := hh
            have hlive : (L r).live := by rw [hL]; trivial
            have hx : x = s r := by
              cases hp with
              | own _ _ _ _ _ _ hx _ => exact hx
              | ownOff _ _ _ _ _ hd _ _ => rw [hL] at hd; cases hd
              | ownStill _ _ _ _ hd _ _ => rw [hL] at hd; cases hd
              | ownDead _ _ hd _ => rw [hL] at hd; cases hd
              | ownTr _ _ _ _ _ _ _ hd => rw [hL] at hd; cases hd
            have hhi' : hi' = none := by cases hi' with | none => rfl | some _ => exact hhi.elim
            have hbk := h.blk r
            rw [hL] at hbk
            obtain ⟨-, us, hown, hrows⟩ := hbk.rows
            simp at ho; subst ho
            obtain ⟨k1, k2⟩ := hc
            obtain ⟨v, hrun, ho', hvb⟩ := slice_end (T := T) hown (s := s) (r := r) rfl hu hs1 h0 (lo_run hlo hl1 k1) (hi' := hi') hhi' k2
            have hrd := RowsR.dropped hrows a
            obtain ⟨A2, c2, hv2⟩ := owns_shape ho'
            obtain ⟨H, E⟩ := h.of2 hlive hq (.sl e' sz (rows.drop a)) v rfl rfl rfl (Nat.le_refl _) (fun _ _ _ => rfl)
              (fun E => BlkR.of_rows h0 ho' (hrd.mono E.z E.w)) (fun g' hg' => .inr (hvb g' hg'))
            rw [hx]
            exact ⟨v, _, hrun, H, E, .own q _ e' sz _ (up_same _ _ _) (up_same _ _ _).symm ⟨A2, c2, by rw [up_same]; exact hv2⟩⟩
          · cases ho
        · cases ho
      · rename_i st e sz cols rows hL
        split at ho
        · rename_i e' c1 a hu hl1 _
          split at ho
          · rename_i hh
            obtain ⟨rfl, hs1, h0, hcut⟩ := hh
            simp at ho; subst ho
            obtain ⟨k1, k2⟩ := hc
            have hlive : (L r).live := by rw [hL]; trivial
            have hrq : q ∉ [r] := fun e => by
              rw [List.mem_singleton] at e
              rw [← e, hq] at hlive; exact hlive
            have hx : x = s r := by
              cases hp with
              | own _ _ _ _ _ hd _ _ => rw [hL] at hd; cases hd
              | ownOff _ _ _ _ _ hd _ _ => rw [hL] at hd; cases hd
              | ownStill _ _ _ _ hd _ _ => rw [hL] at hd; cases hd
              | ownDead _ _ hd _ => rw [hL] at hd; cases hd
              | ownTr _ _ _ _ _ _ _ _ hx _ => exact hx
            have hhi' : hi' = none := by cases hi' with | none => rfl | some _ => exact hhi.elim
            have hbk := h.blk r
            rw [hL] at hbk
            obtain ⟨xs, u, hT, -⟩ := hbk
            obtain ⟨v, hrun, ho', hvb⟩ := slice_end (T := T) hT.ho (s := s) (r := r) rfl hu hs1 h0 (lo_run hlo hl1 k1) (hi' := hi') hhi' k2
            have hex := TS.cut_ex hcut
            have hat : ∀ i j d, rowAt (rows.drop a) i j = some d → rowAt rows (a + i) j = some d := fun i j d hd => by
              unfold rowAt at hd ⊢; rw [List.getElem?_drop] at hd; exact hd
            have hT2 : Tree w (fun _ _ => false) e' sz cols (rows.drop a) v (xs.drop (a * sz)) (fun i j => u (a + i) j) :=
              ⟨hT.h0, hT.hc, fun r hr => hT.hr r (List.mem_of_mem_drop hr), ho', fun i j d hd => by
                  have := hT.hu (a + i) j d (hat i j d hd)
                  rw [List.getElem?_drop, ← this]
                  congr 1
                  rw [Nat.add_mul]; omega,
                fun i j d hd => hT.one (a + i) j d (hat i j d hd),
                fun i j d k _ hd hk => hT.hk (a + i) j d k (hex i j) (hat i j d hd) hk,
                fun i j d k g _ hd hk hg hv => hT.h1 (a + i) j d k g (hex i j) (hat i j d hd) hk hg (hvb g hv),
                fun i j d k i' j' d' k' g _ _ hd hk hd' hk' hg hg' => by
                  have := hT.h2 (a + i) j d k (a + i') j' d' k' g (hex i j) (hex i' j') (hat i j d hd) hk (hat i' j' d' hd') hk' hg hg'
                  omega⟩
            have hfp : ∀ g, InX w (fun _ _ => false) sz cols (rows.drop a) v g → Fp w (L r) (s r) g := fun g hg => by
              rw [hL]
              rcases hg with hg | ⟨i, j, d, k, y, _, hd, hk, hy, hg⟩
              · exact .inl (hvb g hg)
              · have := own_cell hT2.ho (hT2.hu i j d hd)
                rw [hy] at this
                cases this
                exact tree_cell hT (hex i j) (hat i j d hd) hk hg
            obtain ⟨A2, c2, hv2⟩ := owns_shape ho'
            obtain ⟨H, E⟩ := h.join (w' := w) q [r] (.tr .whole e' sz cols (rows.drop a)) v hrq (.fresh hq) (by intro _ _ hc; cases hc) rfl rfl rfl (Nat.le_refl _) (fun _ _ _ => rfl)
              (fun E => ⟨_, _, hT2, fun i j q hq => by cases hq⟩) (fun _ g hg => .inr ⟨r, .inr (by simp), hlive, hfp g hg⟩)
            rw [← up_kills] at H E
            rw [hx]
            exact ⟨v, _, hrun, H, E, .ownTr q _ .whole e' sz cols _ (up_same _ _ _) (up_same _ _ _).symm ⟨A2, c2, by rw [up_same]; exact hv2⟩⟩
          · cases ho
        · cases ho
      · exact oSliceQ_ok h hq hp hlo hhi ho hc
    · exact oSliceQ_ok h hq hp hlo hhi ho hc
  · exact oSliceQ_ok h hq hp hlo hhi ho hc
def oOp (P : Program) (G : List (FuncId × Abs)) (o : Op) (ev : Operand → AV) (L : Nat → Blk) (q : Nat) : Option Out :=
  match o with
  | .move x | .assign x => some ⟨True, ev x, []⟩
  | .alloc T => oAlloc P T q
  | .box T x => oBox T (ev x) q
  | .build T ps => oBuild P T (ps.toList.map fun p => (p.1, ev p.2))
  | .buildSlice T n ps => oBuildSliceQ P (treeMode G) L T n (ps.toList.map fun p => (p.1, ev p.2)) q
  | .load T x => oLoadQ P L T (ev x) q
  | .store T a x => if 0 < szOf P T then oStoreQ P L T (ev x) (ev a) else none
  | .binOp op T x y _ => oBin P op T (ev x) (ev y)
  | .unOp op _ x => oUn op (ev x)
  | .convert a b x => oConvert P L a b (ev x)
  | .makeSlice T a b => oMake P T (ev a) (ev b) q
  | .slice T x lo hi none => oSliceE P (endMode G) L T (ev x) (lo.map ev) (hi.map ev) q
  | .fieldAddr T x f => oFieldAddr P L T (ev x) f
  | .field T x f => oField P T (ev x) f
  | .indexAddr T x i => oIndexAddr P L T (ev x) (ev i)
  | .extract x i => oExtract (ev x) i
  | .nilCheck x => oNil L (ev x)
  | .call c => match c.callee with
    | .value (.func f) => match G.find? (fun p => p.1 == f) with
      | some p => p.2 (c.args.toList.map ev) L q
      | none => none
    | .builtin .len => match c.args.toList, c.argTypes.toList with
      | [x], [T] => oLenQ P L T (ev x)
      | _, _ => none
    | .builtin .append => match c.args.toList, c.argTypes.toList with
      | [x, y], [T, T'] => if T = T' then oAppendQ P L T (ev x) (ev y) q else oAppendZ P L T T' (ev x) (ev y) q
      | _, _ => none
    | .builtin .min => match c.args.toList, c.argTypes.toList with
      | [x, y], [_, _] => oMin (ev x) (ev y)
      | [x, y, z], [_, _, _] => oMin3 (ev x) (ev y) (ev z)
      | _, _ => none
    | .builtin .copy => match c.args.toList, c.argTypes.toList with
      | [x, y], [T, _] => oCopy P L T (ev x) (ev y)
      | _, _ => none
    | .builtin .max => match c.args.toList, c.argTypes.toList with
      | [x, y], [_, _] => oMax (ev x) (ev y)
      | _, _ => none
    | _ => none
  | _ => none
def Stays (P : Program) (F : Nat → Prop) (W0 : Ent) (w : World) (Z : Nat → Prop) (L : Nat → Blk) (s : Nat → Value) (o : Oper) (a : Act) (out : Out) (K : Act → World → Prop) (Q : Exit → Act → World → Prop) : Prop :=
  (∀ v w' s' Z', HR F W0 w' (ups L out.ups) s' Z' → Ext w Z L s w' Z' (ups L out.ups) s' → AVR w' Z' (ups L out.ups) s' out.dst v → K (a.put o.dst v) w') → o.wp P a w K Q
theorem pure_stays (h : HR F W0 w L s Z) {o : Oper} {a : Act} {out : Out} {K : Act → World → Prop} {Q : Exit → Act → World → Prop}
    (hr : ∃ v, (execOp a.eval o).run P w = .ok (.value v) w ∧ AVR w Z L s out.dst v ∧ out.ups = []) : Stays P F W0 w Z L s o a out K Q := by
  obtain ⟨v, h1, h2, h3⟩ := hr
  intro hK
  unfold Oper.wp
  rw [h1, Oper.upon_value]
  have e : ups L out.ups = L := by rw [h3]; rfl
  exact hK v w s Z (by rw [e]; exact h) (by rw [e]; exact Ext.refl _ _ _ _) (by rw [e]; exact h2)
theorem made_stays {o : Oper} {a : Act} {out : Out} {K : Act → World → Prop} {Q : Exit → Act → World → Prop}
    (hr : ∃ v w' s' Z', (execOp a.eval o).run P w = .ok (.value v) w' ∧ HR F W0 w' (ups L out.ups) s' Z' ∧ Ext w Z L s w' Z' (ups L out.ups) s' ∧ AVR w' Z' (ups L out.ups) s' out.dst v) : Stays P F W0 w Z L s o a out K Q := by
  obtain ⟨v, w', s', Z', h1, h2, h3, h4⟩ := hr
  intro hK
  unfold Oper.wp
  rw [h1, Oper.upon_value]
  exact hK v w' s' Z' h2 h3 h4
theorem PRel.of_parts {tm : List AV} {a : Act} (h : TR w Z L s tm a) : ∀ ps : List (Nat × Operand), PRel w Z L s (ps.map fun p => (p.1, evA tm p.2)) (ps.map fun p => (p.1, a.eval p.2))
  | [] => trivial
  | p :: ps => ⟨rfl, h.eval p.2, PRel.of_parts h ps⟩
theorem ARel.of_args {tm : List AV} {a : Act} (h : TR w Z L s tm a) (xs : List Operand) : ARel w Z L s (xs.map (evA tm)) (xs.map a.eval) :=
  ⟨by simp, fun i x y hx hy => by
    rw [List.getElem?_map] at hx hy
    cases hz : xs[i]? with
    | none => simp [hz] at hx
    | some z => simp [hz] at hx hy; subst hx; subst hy; exact h.eval z⟩
theorem ORel.of_opt {tm : List AV} {a : Act} (h : TR w Z L s tm a) (x : Option Operand) : ORel w Z L s (x.map (evA tm)) (x.map a.eval) := by
  cases x with
  | none => trivial
  | some x => exact h.eval x
theorem run_value {e : Sem Value} {v : Value} {w' : World} (h : e.run P w = .ok v w') : (do pure (Next.value (← e)) : Sem Next).run P w = .ok (.value v) w' := by
  rw [Sem.run_bind, h]
  rfl
theorem oOp_ok {G : List (FuncId × Abs)} (hG : ∀ p ∈ G, CallOk P p.1 p.2) (h : HR F W0 w L s Z) {tm : List AV} {a : Act} (ht : TR w Z L s tm a) {q : Nat} (hq : ∀ k, q ≤ k → k < q + 16 → L k = .none) {o : Oper} {out : Out}
    (ho : oOp P G o.op (evA tm) L q = some out) (hc : out.c) (K : Act → World → Prop) (Q : Exit → Act → World → Prop) : Stays P F W0 w Z L s o a out K Q := by
  have hq0 := hq q (Nat.le_refl _) (by omega)
  unfold oOp at ho
  split at ho <;> rename_i hop
  case h_1 x => simp at ho; subst ho; exact pure_stays h ⟨_, by simp [execOp, hop], ht.eval _, rfl⟩
  case h_2 x => simp at ho; subst ho; exact pure_stays h ⟨_, by simp [execOp, hop], ht.eval _, rfl⟩
  case h_3 T =>
    obtain ⟨v, w', s', h1, h2, h3, h4⟩ := oAlloc_ok h hq0 ho
    exact made_stays ⟨v, w', s', Z, by simp only [execOp, hop]; exact run_value h1, h2, h3, h4⟩
  case h_4 T x =>
    obtain ⟨v, w', s', h1, h2, h3, h4⟩ := oBox_ok (P := P) h hq0 (ht.eval x) ho
    exact made_stays ⟨v, w', s', Z, by simp only [execOp, hop]; exact run_value h1, h2, h3, h4⟩
  case h_5 T ps =>
    obtain ⟨v, h1, h2, h3⟩ := oBuild_ok (PRel.of_parts ht ps.toList) ho
    have e : (ps.toList.map fun p => (p.1, a.eval p.2)).toArray = ps.map fun (i, x) => (i, a.eval x) := by apply Array.ext'; simp
    rw [e] at h1
    exact pure_stays h ⟨v, by simp only [execOp, hop]; exact run_value h1, h2, h3⟩
  case h_6 T n ps =>
    have : ∃ v w' s' Z', (Instr.buildSlice T n (ps.toList.map fun p => (p.1, a.eval p.2)).toArray).run P w = .ok v w' ∧ HR F W0 w' (ups L out.ups) s' Z' ∧ Ext w Z L s w' Z' (ups L out.ups) s' ∧ AVR w' Z' (ups L out.ups) s' out.dst v := by
      unfold oBuildSliceQ at ho
      split at ho
      · obtain ⟨v, w', s', h1, h2, h3, h4⟩ := oBuildTree_ok h hq0 (PRel.of_parts ht ps.toList) ho hc
        exact ⟨v, w', s', Z, h1, h2, h3, h4⟩
      · exact oBuildSlice_ok h hq0 (PRel.of_parts ht ps.toList) ho
    obtain ⟨v, w', s', Z', h1, h2, h3, h4⟩ := this
    have e : (ps.toList.map fun p => (p.1, a.eval p.2)).toArray = ps.map fun (i, x) => (i, a.eval x) := by apply Array.ext'; simp
    rw [e] at h1
    exact made_stays ⟨v, w', s', Z', by simp only [execOp, hop]; exact run_value h1, h2, h3, h4⟩
  case h_7 T x =>
    simp only [oLoadQ] at ho
    split at ho
    · have : ∃ v s', (Instr.loadAt T (a.eval x)).run P w = .ok v w ∧ HR F W0 w (ups L out.ups) s' Z ∧ Ext w Z L s w Z (ups L out.ups) s' ∧ AVR w Z (ups L out.ups) s' out.dst v := by
        split at ho
        · exact oLoadKid_ok h (ht.eval x) hq0 ho hc
        · exact oLoadRow_ok h (ht.eval x) hq0 ho hc
      obtain ⟨v, s', h1, h2, h3, h4⟩ := this
      exact made_stays ⟨v, w, s', Z, by simp only [execOp, hop]; exact run_value h1, h2, h3, h4⟩
    · obtain ⟨v, h1, h2, h3⟩ := oLoad_ok h (ht.eval x) ho hc
      exact pure_stays h ⟨v, by simp only [execOp, hop]; exact run_value h1, h2, h3⟩
  case h_8 T x y =>
    split at ho
    · rename_i h0
      have : ∃ w' Z', (Instr.storeAt T (a.eval x) (a.eval y)).run P w = .ok () w' ∧ HR F W0 w' (ups L out.ups) s Z' ∧ Ext w Z L s w' Z' (ups L out.ups) s ∧ out.dst = .v undef := by
        unfold oStoreQ at ho
        split at ho
        · obtain ⟨w', h1, h2, h3, h4⟩ := oStoreTree_ok h (ht.eval y) (ht.eval x) ho hc h0
          exact ⟨w', Z, h1, h2, h3, h4⟩
        · exact oStore_ok h (ht.eval y) (ht.eval x) ho hc h0
      obtain ⟨w', Z', h1, h2, h3, h4⟩ := this
      intro hK
      unfold Oper.wp
      have : (execOp a.eval o).run P w = .ok .skip w' := by
        simp only [execOp, hop]
        rw [Sem.run_bind, h1]
        rfl
      rw [this, Oper.upon_skip]
      exact hK undef w' s Z' h2 h3 (by rw [h4]; exact .v _)
    · cases ho
  case h_9 op T x y _ =>
    obtain ⟨v, h1, h2, h3⟩ := oBin_ok (T := T) (xo := x) (yo := y) (P := P) (ht.eval x) (ht.eval y) ho hc
    exact pure_stays h ⟨v, by simp only [execOp, hop]; exact run_value h1, h2, h3⟩
  case h_10 op _ x =>
    obtain ⟨v, h1, h2, h3⟩ := oUn_ok (P := P) (ht.eval x) ho
    exact pure_stays h ⟨v, by simp only [execOp, hop]; exact run_value h1, h2, h3⟩
  case h_11 p r x =>
    obtain ⟨v, h1, h2, h3⟩ := oConvert_ok h (ht.eval x) ho hc
    exact pure_stays h ⟨v, by simp only [execOp, hop]; exact run_value h1, h2, h3⟩
  case h_12 T x y =>
    obtain ⟨v, w', s', h1, h2, h3, h4⟩ := oMake_ok h hq0 (ht.eval x) (ht.eval y) ho hc
    exact made_stays ⟨v, w', s', Z, by simp only [execOp, hop]; exact run_value h1, h2, h3, h4⟩
  case h_13 T x lo hi =>
    obtain ⟨v, s', h1, h2, h3, h4⟩ := oSliceE_ok h hq0 (ht.eval x) (ORel.of_opt ht lo) (ORel.of_opt ht hi) ho hc
    exact made_stays ⟨v, w, s', Z, by simp only [execOp, hop]; exact run_value h1, h2, h3, h4⟩
  case h_14 T x f =>
    obtain ⟨v, h1, h2, h3⟩ := oFieldAddr_ok (ht.eval x) ho
    exact pure_stays h ⟨v, by simp only [execOp, hop]; exact run_value h1, h2, h3⟩
  case h_15 T x f =>
    obtain ⟨v, h1, h2, h3⟩ := oField_ok (ht.eval x) ho
    exact pure_stays h ⟨v, by simp only [execOp, hop]; exact run_value h1, h2, h3⟩
  case h_16 T x i =>
    obtain ⟨v, h1, h2, h3⟩ := oIndexAddr_ok h (ht.eval x) (ht.eval i) ho hc
    exact pure_stays h ⟨v, by simp only [execOp, hop]; exact run_value h1, h2, h3⟩
  case h_17 x i =>
    obtain ⟨v, h1, h2, h3⟩ := oExtract_ok (P := P) (ht.eval x) ho
    exact pure_stays h ⟨v, by simp only [execOp, hop]; exact run_value h1, h2, h3⟩
  case h_18 x =>
    obtain ⟨⟨p, hp⟩, h2, h3⟩ := oNil_ok (ht.eval x) ho
    exact pure_stays h ⟨_, by simp only [execOp, hop]; rw [hp]; rfl, by rw [hp] at h2; exact h2, h3⟩
  case h_19 c =>
    obtain ⟨callee, args, argTypes⟩ := c
    dsimp only at ho
    split at ho
    · rename_i f
      split at ho
      · rename_i p hp
        have hmem := List.mem_of_find?_eq_some hp
        have hf : p.1 = f := by simpa using List.find?_some hp
        have C := hG p hmem
        rw [hf] at C
        intro hK
        obtain ⟨fn, c, hfn, hname, hbody⟩ := C.there
        unfold Oper.wp
        have hrun : (execOp a.eval o).run P w = .ok (.enter f (args.toList.map a.eval).toArray) w := by
          have e : (args.toList.map a.eval).toArray = args.map a.eval := by apply Array.ext'; simp
          rw [e]
          simp only [execOp, hop, resolve, Act.eval, Deferred.ofValue, Sem.run_bind, Sem.run_pure, Result.andThen_ok, invoke]
          have hname' : fn.name ≠ "runtime.NumGoroutine" := by simpa using hname
          simp [callFunc, hfn, hname', hbody]
        rw [hrun, Oper.upon_enter]
        refine (C.does F W0 w L s Z _ _ q out h (ARel.of_args ht args.toList) ho hc hq).mono ?_
        rintro e w' ⟨v, s', Z', rfl, h1, h2, h3⟩
        exact hK v w' s' Z' h1 h2 h3
      · cases ho
    · split at ho
      · rename_i x T hx hT
        obtain ⟨v, h1, h2, h3, h4⟩ := oLenQ_ok (ty := o.type) h (ht.eval x) ho hc
        have e1 : args = #[x] := by apply Array.ext'; simpa using hx
        have e2 : argTypes = #[T] := by apply Array.ext'; simpa using hT
        subst e1
        subst e2
        exact made_stays ⟨v, w, s, Z, by simp only [execOp, hop, resolve, invoke, builtin, Sem.run_bind, Sem.run_pure, Result.andThen_ok, List.map_toArray, List.map_cons, List.map_nil, h1], h2, h3, h4⟩
      · cases ho
    · split at ho
      · rename_i x y T T' hx hT
        split at ho
        · rename_i hTT
          subst hTT
          have : ∃ v w' s' Z', (Builtin.append_ #[T, T] o.type #[a.eval x, a.eval y]).run P w = .ok v w' ∧ HR F W0 w' (ups L out.ups) s' Z' ∧ Ext w Z L s w' Z' (ups L out.ups) s' ∧ AVR w' Z' (ups L out.ups) s' out.dst v := by
            unfold oAppendQ at ho
            split at ho
            · obtain ⟨v, w', s', h1, h2, h3, h4⟩ := oAppendTree_ok (ty := o.type) h hq0 (ht.eval x) (ht.eval y) ho hc
              exact ⟨v, w', s', Z, h1, h2, h3, h4⟩
            · exact oAppend_ok (ty := o.type) h hq0 (ht.eval x) (ht.eval y) ho hc
          obtain ⟨v, w', s', Z', h1, h2, h3, h4⟩ := this
          have e1 : args = #[x, y] := by apply Array.ext'; simpa using hx
          have e2 : argTypes = #[T, T] := by apply Array.ext'; simpa using hT
          subst e1
          subst e2
          exact made_stays ⟨v, w', s', Z', by simp only [execOp, hop, resolve, invoke, builtin, Sem.run_bind, Sem.run_pure, Result.andThen_ok, List.map_toArray, List.map_cons, List.map_nil, h1], h2, h3, h4⟩
        · obtain ⟨v, w', s', Z', h1, h2, h3, h4⟩ := oAppendZ_ok (ty := o.type) h hq0 (ht.eval x) (ht.eval y) ho hc
          have e1 : args = #[x, y] := by apply Array.ext'; simpa using hx
          have e2 : argTypes = #[T, T'] := by apply Array.ext'; simpa using hT
          subst e1
          subst e2
          exact made_stays ⟨v, w', s', Z', by simp only [execOp, hop, resolve, invoke, builtin, Sem.run_bind, Sem.run_pure, Result.andThen_ok, List.map_toArray, List.map_cons, List.map_nil, h1], h2, h3, h4⟩
      · cases ho
    · split at ho
      · rename_i x y T T' hx hT
        obtain ⟨v, h1, h2, h3⟩ := oMin_ok (P := P) (T := T) (T' := T') (ty := o.type) (ht.eval x) (ht.eval y) ho
        have e1 : args = #[x, y] := by apply Array.ext'; simpa using hx
        have e2 : argTypes = #[T, T'] := by apply Array.ext'; simpa using hT
        subst e1
        subst e2
        exact pure_stays h ⟨v, by simp only [execOp, hop, resolve, invoke, builtin, Sem.run_bind, Sem.run_pure, Result.andThen_ok, List.map_toArray, List.map_cons, List.map_nil, h1], h2, h3⟩
      · rename_i x y z T T' T2 hx hT
        obtain ⟨v, h1, h2, h3⟩ := oMin3_ok (P := P) (T := T) (T' := T') (T2 := T2) (ty := o.type) (ht.eval x) (ht.eval y) (ht.eval z) ho
        have e1 : args = #[x, y, z] := by apply Array.ext'; simpa using hx
        have e2 : argTypes = #[T, T', T2] := by apply Array.ext'; simpa using hT
        subst e1
        subst e2
        exact pure_stays h ⟨v, by simp only [execOp, hop, resolve, invoke, builtin, Sem.run_bind, Sem.run_pure, Result.andThen_ok, List.map_toArray, List.map_cons, List.map_nil, h1], h2, h3⟩
      · cases ho
    · split at ho
      · rename_i x y T T' hx hT
        obtain ⟨v, w', h1, h2, h3, h4⟩ := oCopy_ok (T' := T') (ty := o.type) h (ht.eval x) (ht.eval y) ho hc
        have e1 : args = #[x, y] := by apply Array.ext'; simpa using hx
        have e2 : argTypes = #[T, T'] := by apply Array.ext'; simpa using hT
        subst e1
        subst e2
        exact made_stays ⟨v, w', s, Z, by simp only [execOp, hop, resolve, invoke, builtin, Sem.run_bind, Sem.run_pure, Result.andThen_ok, List.map_toArray, List.map_cons, List.map_nil, h1], h2, h3, h4⟩
      · cases ho
    · split at ho
      · rename_i x y T T' hx hT
        obtain ⟨v, h1, h2, h3⟩ := oMax_ok (P := P) (T := T) (T' := T') (ty := o.type) (ht.eval x) (ht.eval y) ho
        have e1 : args = #[x, y] := by apply Array.ext'; simpa using hx
        have e2 : argTypes = #[T, T'] := by apply Array.ext'; simpa using hT
        subst e1
        subst e2
        exact pure_stays h ⟨v, by simp only [execOp, hop, resolve, invoke, builtin, Sem.run_bind, Sem.run_pure, Result.andThen_ok, List.map_toArray, List.map_cons, List.map_nil, h1], h2, h3⟩
      · cases ho
    · cases ho
  case h_20 => cases ho
end
end Go.Proofs.Ytkfjaeoehhakpaa
