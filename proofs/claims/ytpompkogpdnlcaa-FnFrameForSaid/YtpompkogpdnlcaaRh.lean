import Derived.Test.YtpompkogpdnlcaaRg
import Derived.Laws.AppendOwn
import Derived.Laws.MakeOwn
import Derived.Laws.Tables
namespace Go.Proofs.Ytpompkogpdnlcaa
open Go.RowKit

section
variable {P : Program} {w : World} {Z : Nat → Prop} {L : Nat → Blk} {s : Nat → Value} {F : Nat → Prop} {W0 : Ent}

theorem up_self {α : Type} (f : Nat → α) (r : Nat) : up f r (f r) = f := by
  funext k
  by_cases h : k = r
  · subst h; exact up_same _ _ _
  · exact up_ne _ _ h

theorem AVR.isOne {a : AV} {x : Value} (h : AVR w Z L s a x) (ho : a.one = true) : x.oneCell' = true := by
  cases h with
  | any => cases ho
  | v x => exact ho
  | l _ _ _ h => exact h.one
  | own _ _ _ _ _ _ hx hn => obtain ⟨A, c, hA⟩ := hn; rw [hx, hA]; rfl
  | ownStill _ _ _ _ _ _ ho => exact ho
  | ownDead _ _ _ ho => exact ho
  | sub _ _ _ _ _ _ _ _ _ _ _ _ _ hx => rw [hx]; rfl
  | subStill _ _ _ _ _ _ _ _ _ hx => exact hx.one
  | subDead _ _ _ _ _ ho => exact ho
  | ptr _ _ _ _ _ _ _ _ hx => rw [hx]; rfl
  | ptrDead _ _ _ _ ho => exact ho
  | eptr _ _ _ _ _ _ _ _ _ _ _ _ hx => rw [hx]; rfl
  | eptrStill _ _ _ _ _ _ _ ho => exact ho
  | eptrDead _ _ _ _ _ ho => exact ho
  | rptr => rfl
  | agg => cases ho
  | tup => cases ho

theorem oneCell_cells {x : Value} (h : x.oneCell' = true) : x.cells = #[x] := by cases x <;> first | rfl | cases h

/-- the cells of a value -/
theorem AVR.cellsOf {a : AV} {x : Value} (h : AVR w Z L s a x) (ho : a.cells.all AV.one = true) :
    ∃ vs : List Value, x.cells = vs.toArray ∧ vs.length = a.cells.length ∧ ∀ (i : Nat) b y, a.cells[i]? = some b → vs[i]? = some y → AVR w Z L s b y ∧ y.oneCell' = true := by
  have single : a.cells = [a] → ∃ vs : List Value, x.cells = vs.toArray ∧ vs.length = a.cells.length ∧ ∀ (i : Nat) b y, a.cells[i]? = some b → vs[i]? = some y → AVR w Z L s b y ∧ y.oneCell' = true := by
    intro hc
    have h1 : a.one = true := by rw [hc] at ho; simpa using ho
    have h2 := h.isOne h1
    refine ⟨[x], oneCell_cells h2, by rw [hc]; rfl, fun i b y hb hy => ?_⟩
    rw [hc] at hb
    cases i with
    | zero => simp at hb hy; subst hb; subst hy; exact ⟨h, h2⟩
    | succ i => simp at hb
  cases h with
  | agg cs vs hl hcs =>
    refine ⟨vs, rfl, hl, fun i b y hb hy => ⟨hcs i b y hb hy, (hcs i b y hb hy).isOne ?_⟩⟩
    exact List.all_eq_true.1 ho b (List.mem_of_getElem? hb)
  | _ => exact single rfl

/-- what is to be done by an operation that may write -/
def Does (e : World → Prop → Prop) : Prop := True

theorem oAlloc_ok (h : HR F W0 w L s Z) {T : TypeId} {q : Nat} (hq : L q = .none) {out : Out} (ho : oAlloc P T q = some out) :
    ∃ v w' s', (Instr.alloc T true (.tuple #[])).run P w = .ok v w' ∧ HR F W0 w' (ups L out.ups) s' Z ∧ Ext w Z L s w' Z (ups L out.ups) s' ∧ AVR w' Z (ups L out.ups) s' out.dst v := by
  unfold oAlloc at ho
  split at ho
  · rename_i z n b hinf
    split at ho
    · rename_i hone
      simp at ho; subst ho
      unfold inf at hinf
      cases hi : P.info? T with
      | none => simp [hi] at hinf
      | some i =>
        simp [hi] at hinf
        obtain ⟨hz, _, _⟩ := hinf
        obtain ⟨h1, h2, h3⟩ := h.newVar hq T (z.cells.toList.map .v) z.cells.toList (by simp) (fun j x y hx hy => by
          rw [List.getElem?_map, hy] at hx
          simp at hx; subst hx
          exact ⟨.v y, List.all_eq_true.1 hone y (List.mem_of_getElem? hy)⟩)
        refine ⟨_, _, _, ?_, h1, h2, h3⟩
        simp [Instr.alloc, zeroValue, typeInfo, hi, hz, newVar, newRow, newObj, Sem.run]
    · cases ho
  · cases ho

theorem oBox_ok (h : HR F W0 w L s Z) {T : TypeId} {q : Nat} (hq : L q = .none) {a : AV} {x : Value} (ha : AVR w Z L s a x) {out : Out} (ho : oBox T a q = some out) :
    ∃ v w' s', (Instr.box T x).run P w = .ok v w' ∧ HR F W0 w' (ups L out.ups) s' Z ∧ Ext w Z L s w' Z (ups L out.ups) s' ∧ AVR w' Z (ups L out.ups) s' out.dst v := by
  unfold oBox at ho
  split at ho
  · rename_i hone
    simp at ho; subst ho
    obtain ⟨vs, hv, hl, hc⟩ := ha.cellsOf (by simpa using hone)
    obtain ⟨h1, h2, h3⟩ := h.newVar hq T a.cells vs hl hc
    refine ⟨_, _, _, ?_, h1, h2, h3⟩
    simp [Instr.box, newVar, newRow, newObj, Sem.run, hv]
  · cases ho

theorem putAt_get {α : Type} {cs xs : List α} {off : Nat} (h : off + xs.length ≤ cs.length) (i : Nat) : (putAt cs off xs)[i]? = if off ≤ i ∧ i < off + xs.length then xs[i - off]? else cs[i]? := by
  unfold putAt
  have ht : (cs.take off).length = off := by rw [List.length_take]; omega
  by_cases h1 : i < off
  · rw [if_neg (by omega), List.append_assoc, List.getElem?_append_left (by omega), List.getElem?_take, if_pos h1]
  · by_cases h2 : i < off + xs.length
    · rw [if_pos (by omega), List.append_assoc, List.getElem?_append_right (by omega), ht, List.getElem?_append_left (by omega)]
    · rw [if_neg (by omega), List.getElem?_append_right (by rw [List.length_append]; omega), List.length_append, ht, List.getElem?_drop]
      congr 1
      omega
theorem putAt_len {α : Type} {cs xs : List α} {off : Nat} (h : off + xs.length ≤ cs.length) : (putAt cs off xs).length = cs.length := by
  unfold putAt
  simp
  omega

/-- a store into a block -/
theorem storeAt_run {T : TypeId} {g o : Nat} {cur : Array Value} {T' : TypeId} {x : Value} {vs : List Value} (hg : w.heap[g]? = some (.cells cur T' (0, 0))) (hx : x.cells = vs.toArray) (hsz : vs.length = szOf P T) (h0 : 0 < vs.length) (hl : o + vs.length ≤ cur.size)
    (h1 : ∀ v ∈ vs, v.oneCell' = true) :
    (Instr.storeAt T (.pointer (some ⟨g, o, none⟩)) x).run P w = .ok () (w.setRow g (putAt cur.toList o vs).toArray) := by
  obtain ⟨i, hi, his⟩ := szOf_info (P := P) (t := T) rfl (by omega)
  have := run_storeCells_at (P := P) g o T' vs 0 cur w hg (by omega) h1
  simp only [Nat.add_zero] at this
  simp [Instr.storeAt, Instr.sureAddr, storeVar, sizeOf, typeInfo, hi, hx, hsz, his, this, putAt]

theorem setRow_kept (w : World) (g : Nat) (cs : Array Value) : (w.setRow g cs).os = w.os ∧ (w.setRow g cs).tape = w.tape ∧ (w.setRow g cs).output = w.output := ⟨rfl, rfl, rfl⟩

theorem oStore_var (h : HR F W0 w L s Z) {T T' : TypeId} {r off : Nat} {cs : List AV} (hL : L r = .var T' cs) {a p : AV} {x y : Value} (ha : AVR w Z L s a x) (hp : p = .ptr r off) (hpy : AVR w Z L s p y)
    (hn : a.cells.length = szOf P T) (h0 : 0 < a.cells.length) (hle : off + a.cells.length ≤ cs.length) (hone : a.cells.all AV.one = true) :
    ∃ w', (Instr.storeAt T y x).run P w = .ok () w' ∧ HR F W0 w' (up L r (.var T' (putAt cs off a.cells))) s Z ∧ Ext w Z L s w' Z (up L r (.var T' (putAt cs off a.cells))) s := by
  subst hp
  have hb := h.blk r
  rw [hL] at hb
  obtain ⟨g, vs, hs, hg, hl, hcs⟩ := hb
  obtain rfl : y = .pointer (some ⟨g, off, none⟩) := by
    cases hpy with
    | ptr _ _ _ _ _ _ g' hs' hx => rw [hs] at hs'; cases hs'; exact hx
    | ptrDead _ _ _ hd _ => rw [hL] at hd; cases hd
  obtain ⟨us, hx, hul, hcu⟩ := ha.cellsOf hone
  have huone : ∀ v ∈ us, v.oneCell' = true := fun v hv => by
    obtain ⟨i, hi, hiv⟩ := List.mem_iff_getElem.1 hv
    exact (hcu i _ v (List.getElem?_eq_getElem (show i < a.cells.length by omega)) (by rw [List.getElem?_eq_getElem hi, hiv])).2
  have hrun := storeAt_run (P := P) (T := T) hg hx (by omega) (by omega) (o := off) (by simp; omega) huone
  have hlive : (L r).live := by rw [hL]; trivial
  have hE : Ext w Z L s (w.setRow g (putAt vs off us).toArray) Z (up L r (.var T' (putAt cs off a.cells))) (up s r (s r)) := by
    refine Ext.of1 (fun _ h => h) (fun b hb => setRow_other w g b _ fun e => h.nz r g hlive (by rw [hs]; rfl) (e ▸ hb)) (.var T' cs _ hL rfl rfl) (fun _ _ _ _ _ h1 => by rw [hL] at h1; cases h1)
  refine ⟨_, by simpa using hrun, ?_, ?_⟩
  · have key := h.of r (.var T' (putAt cs off a.cells)) (s r) hE rfl rfl rfl (by simp) (fun b _ hne => setRow_other w g b _ (hne g hlive (by rw [hs]; rfl))) ?_ (fun _ g' hg' => .inr ⟨hlive, hg'⟩) (fun b hb => .inl hb)
    · rw [up_self] at key; exact key
    · refine ⟨g, putAt vs off us, hs, setRow_heap w g _ _ _ _ hg, by rw [putAt_len (by omega), putAt_len (by omega), hl], fun i b c hb hc => ?_⟩
      rw [putAt_get (by omega)] at hb hc
      rw [hul] at hc
      split at hb
      · rename_i hin
        rw [if_pos hin] at hc
        exact ⟨(hcu _ b c hb hc).1.mono hE, (hcu _ b c hb hc).2⟩
      · rename_i hout
        rw [if_neg hout] at hc
        exact ⟨(hcs i b c hb hc).1.mono hE, (hcs i b c hb hc).2⟩
  · rw [up_self] at hE; exact hE

/-- a slice of one's own turns no more -/
theorem HR.freeze (h : HR F W0 w L s Z) {r : Nat} {e : TypeId} {sz : Nat} {rows : List (List D)} (hL : L r = .sl e sz rows) :
    ∃ Z', HR F W0 w (up L r (.still sz rows)) s Z' ∧ Ext w Z L s w Z' (up L r (.still sz rows)) s := by
  have hlive : (L r).live := by rw [hL]; trivial
  have hb := h.blk r
  rw [hL] at hb
  obtain ⟨hsz, xs, hown, h1, h2, h3⟩ := hb.rows
  have hrep : Rep w (fun b => Z b ∨ vblk (s r) = some b) (.l sz rows) (s r) := by
    rcases hown.2 with ⟨q1, q2⟩ | ⟨g, cap, cur, q1, _, q3, q4, _⟩
    · have : rows = [] := List.eq_nil_of_length_eq_zero q2
      rw [q1, this]; exact .e _ _ _
    · have hx : ∀ i j d, rowAt rows i j = some d → (xs.getD (i * sz + j) undef) = (xs.getD (i * sz + j) undef) ∧ ∃ u, xs[i * sz + j]? = some u ∧ Rep w Z d u := fun i j d hd => ⟨rfl, h3 i j d hd⟩
      have := Rep.l (w := w) (Z := fun b => Z b ∨ vblk (s r) = some b) sz rows g 0 rows.length cap (fun i j => xs.getD (i * sz + j) undef) rfl q4 h1 (.inr (by rw [q1]; rfl)) (fun i j d hd => by
          obtain ⟨u, hu, _⟩ := h3 i j d hd
          rw [Nat.zero_add, owns_cells hown q1 _ u hu]
          simp [List.getD, hu]) (fun i j d hd => by
          obtain ⟨u, hu, hr⟩ := h3 i j d hd
          simp [List.getD, hu]
          exact hr.mono (fun _ h => .inl h) (fun _ _ => rfl))
      rw [← q1] at this
      exact this
  have hE : Ext w Z L s w (fun b => Z b ∨ vblk (s r) = some b) (up L r (.still sz rows)) (up s r (s r)) := by
    refine Ext.of1 (fun _ h => .inl h) (fun _ _ => rfl) (.freeze e sz rows rows hL rfl rfl rfl) (fun e' sz' rows' sz2 rows2 h1 h2 => by cases h2; exact hrep)
  refine ⟨_, ?_, by rw [up_self] at hE; exact hE⟩
  have key := h.of r (.still sz rows) (s r) hE rfl rfl rfl (Nat.le_refl _) (fun _ _ _ => rfl) hrep (fun hl => hl.elim) (fun b hb => hb.elim .inl fun hb => .inr (.inr ⟨fun h => h, hlive, hb⟩))
  rw [up_self] at key; exact key
end
end Go.Proofs.Ytpompkogpdnlcaa
