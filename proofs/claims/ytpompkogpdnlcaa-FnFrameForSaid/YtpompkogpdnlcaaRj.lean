import Derived.Test.YtpompkogpdnlcaaRi
namespace Go.Proofs.Ytpompkogpdnlcaa
open Go.RowKit

section
variable {P : Program} {w : World} {Z : Nat → Prop} {L : Nat → Blk} {s : Nat → Value} {F : Nat → Prop} {W0 : Ent}

/-- parts, and what they are in the model -/
def PRel (w : World) (Z : Nat → Prop) (L : Nat → Blk) (s : Nat → Value) : List (Nat × AV) → List (Nat × Value) → Prop
  | [], [] => True
  | (i, a) :: ps, (j, x) :: qs => i = j ∧ AVR w Z L s a x ∧ PRel w Z L s ps qs
  | _, _ => False

theorem foldl_put (l : List Value) : ∀ (k off : Nat) (cells : Array Value), off + k + l.length ≤ cells.size →
    ((l.zipIdx k).foldl (fun (cs : Array Value) p => cs.setIfInBounds (off + p.2) p.1) cells).toList = putAt cells.toList (off + k) l := by
  induction l with
  | nil => intro k off cells _; simp [putAt]
  | cons c l ih =>
    intro k off cells h
    simp only [List.length_cons] at h
    rw [List.zipIdx_cons, List.foldl_cons, ih (k + 1) off (cells.setIfInBounds (off + k) c) (by simp; omega)]
    have hl : cells.size = cells.toList.length := Array.length_toList.symm
    apply List.ext_getElem?
    intro i
    rw [putAt_get (by simp; omega), putAt_get (by simp; omega), Array.toList_setIfInBounds]
    by_cases h1 : off + (k + 1) ≤ i ∧ i < off + (k + 1) + l.length
    · rw [if_pos h1, if_pos (by simp; omega)]
      obtain ⟨j, rfl⟩ : ∃ j, i = off + k + (j + 1) := ⟨i - (off + k) - 1, by omega⟩
      rw [show off + k + (j + 1) - (off + (k + 1)) = j by omega, show off + k + (j + 1) - (off + k) = j + 1 by omega]
      simp
    · rw [if_neg h1]
      by_cases h2 : i = off + k
      · subst h2
        rw [if_pos (by simp), Nat.sub_self, List.getElem?_set_self (by omega)]
        rfl
      · rw [if_neg (by simp; omega), List.getElem?_set_ne (by omega)]

/-- cells, and what they are in the model -/
def CRel (w : World) (Z : Nat → Prop) (L : Nat → Blk) (s : Nat → Value) (cs : List AV) (vs : List Value) : Prop :=
  vs.length = cs.length ∧ ∀ (i : Nat) x y, cs[i]? = some x → vs[i]? = some y → AVR w Z L s x y ∧ y.oneCell' = true

theorem CRel.put {cs : List AV} {vs : List Value} (h : CRel w Z L s cs vs) {xs : List AV} {us : List Value} (k : CRel w Z L s xs us) {off : Nat} (hl : off + xs.length ≤ cs.length) : CRel w Z L s (putAt cs off xs) (putAt vs off us) := by
  obtain ⟨h1, h2⟩ := h
  obtain ⟨k1, k2⟩ := k
  refine ⟨by rw [putAt_len (by omega), putAt_len hl, h1], fun i x y hx hy => ?_⟩
  rw [putAt_get hl] at hx
  rw [putAt_get (by omega), k1] at hy
  split at hx
  · rename_i hin; rw [if_pos hin] at hy; exact k2 _ x y hx hy
  · rename_i hout; rw [if_neg hout] at hy; exact h2 i x y hx hy

theorem fillPut_step (v : Value) (off size : Nat) (cells : Array Value) (place : Nat → Option (Nat × Nat)) (i : Nat) (rest : List (Nat × Value)) (hp : place i = some (off, size)) (hs : v.cells.size = size) (hf : off + v.cells.size ≤ cells.size) :
    Instr.fill place cells ((i, v) :: rest) = Instr.fill place (putAt cells.toList off v.cells.toList).toArray rest := by
  have e : (v.cells.zipIdx.foldl (fun (cs : Array Value) p => cs.setIfInBounds (off + p.2) p.1) cells) = (putAt cells.toList off v.cells.toList).toArray := by
    rw [← Array.foldl_toList, Array.toList_zipIdx]
    have := foldl_put v.cells.toList 0 off cells (by simp; omega)
    rw [Nat.add_zero] at this
    rw [← this, Array.toArray_toList]
  simp only [Instr.fill, hp]
  rw [if_neg (by simp only [Bool.or_eq_true, decide_eq_true_eq]; rintro (h | h); exact h hs; omega)]
  exact congrArg (fun c => Instr.fill place c rest) e

theorem fillA_ok {fs : Array Field} {place : Nat → Option (Nat × Nat)} (hpl : ∀ (i : Nat) f, fs[i]? = some f → place i = some (f.offset, szOf P f.type)) :
    ∀ {ps : List (Nat × AV)} {qs : List (Nat × Value)} {cs cs' : List AV} {vs : List Value}, PRel w Z L s ps qs → CRel w Z L s cs vs → fillA P fs cs ps = some cs' → ∃ vs', Instr.fill place vs.toArray qs = some vs'.toArray ∧ CRel w Z L s cs' vs'
  | [], [], cs, cs', vs, _, hc, h => by
    simp [fillA] at h; subst h
    exact ⟨vs, rfl, hc⟩
  | (i, a) :: ps, (j, x) :: qs, cs, cs', vs, hp, hc, h => by
    obtain ⟨rfl, ha, hr⟩ := hp
    simp only [fillA] at h
    split at h
    · rename_i f hf
      split at h
      · rename_i hh
        obtain ⟨h1, h2, h3⟩ := hh
        obtain ⟨us, hx, hul, hcu⟩ := ha.cellsOf h3
        have hcl := hc.1
        rw [fillPut_step x f.offset (szOf P f.type) vs.toArray place i qs (hpl i f hf) (by rw [hx]; simp; omega) (by rw [hx]; simp; omega), hx]
        exact fillA_ok hpl hr (hc.put ⟨hul, hcu⟩ h2) h
      · cases h
    · cases h
  | [], _ :: _, _, _, _, h, _, _ => h.elim
  | _ :: _, [], _, _, _, h, _, _ => h.elim

theorem places_ok : ∀ (fs : List Field), (fs.all fun f => (inf P f.type).isSome) = true → ∃ pl, fs.mapM (fun f => (P.info? f.type).map fun i => (f.offset, i.size)) = some pl ∧ pl.length = fs.length ∧ ∀ (i : Nat) f, fs[i]? = some f → pl[i]? = some (f.offset, szOf P f.type)
  | [], _ => ⟨[], rfl, rfl, fun i f h => by simp at h⟩
  | f :: fs, h => by
    simp only [List.all_cons, Bool.and_eq_true] at h
    obtain ⟨pl, h1, h2, h3⟩ := places_ok fs h.2
    cases hi : P.info? f.type with
    | none => simp [inf, hi] at h
    | some i =>
      refine ⟨(f.offset, i.size) :: pl, by simp [List.mapM_cons, hi, h1], by simp [h2], fun k g hk => ?_⟩
      cases k with
      | zero => simp at hk; subst hk; simp [szOf, inf, hi]
      | succ k => simpa using h3 k g (by simpa using hk)

theorem zeros_rel {z : Value} (h : z.cells.toList.all (·.oneCell') = true) : CRel w Z L s (z.cells.toList.map .v) z.cells.toList :=
  ⟨by simp, fun i x y hx hy => by
    rw [List.getElem?_map, hy] at hx
    simp at hx; subst hx
    exact ⟨.v y, List.all_eq_true.1 h y (List.mem_of_getElem? hy)⟩⟩

theorem oBuild_ok {T : TypeId} {ps : List (Nat × AV)} {qs : List (Nat × Value)} (hp : PRel w Z L s ps qs) {out : Out} (ho : oBuild P T ps = some out) :
    ∃ v, (Instr.build T qs.toArray).run P w = .ok v w ∧ AVR w Z L s out.dst v ∧ out.ups = [] := by
  unfold oBuild at ho
  split at ho
  · rename_i fs z n b hu hinf
    split at ho
    · rename_i hall
      obtain ⟨hall, hone⟩ := hall
      split at ho
      · rename_i cs' hf
        simp at ho; subst ho
        obtain ⟨pl, h1, h2, h3⟩ := places_ok (P := P) fs.toList hall
        obtain ⟨vs', hv, hc⟩ := fillA_ok (place := (pl.toArray[·]?)) (fun i f hf => by simpa using h3 i f (by simpa using hf)) hp (zeros_rel hone) hf
        unfold inf at hinf
        cases hi : P.info? T with
        | none => simp [hi] at hinf
        | some i =>
          simp [hi] at hinf
          obtain ⟨hz, _, _⟩ := hinf
          refine ⟨.agg vs'.toArray, run_build w T _ _ ?_, .agg _ _ hc.1 fun i x y hx hy => (hc.2 i x y hx hy).1, rfl⟩
          simp only [Array.toArray_toList] at hv
          simp only [Program.built, hi, hu, hz, h1]
          exact hv
      · cases ho
    · cases ho
  · cases ho
end
end Go.Proofs.Ytpompkogpdnlcaa
