import Derived.Test.YtpompkogpdnlcaaRd
import Derived.Deep.MidRow
namespace Go.Proofs.Ytpompkogpdnlcaa
open Go.RowKit

section
variable {P : Program} {w : World} {Z : Nat → Prop} {L : Nat → Blk} {s : Nat → Value} {F : Nat → Prop} {W0 : Ent}

theorem szOf_info {t : TypeId} {n : Nat} (h : szOf P t = n) (hn : 0 < n) : ∃ i, P.info? t = some i ∧ i.size = n := by
  unfold szOf inf at h
  cases hi : P.info? t with
  | none => simp [hi] at h; omega
  | some i => exact ⟨i, rfl, by simpa [hi] using h⟩
theorem isSt_desc {t : TypeId} (h : isSt P t = true) : ∃ fs, P.underlying t = some (.struct fs) := by
  unfold isSt at h
  split at h
  · rename_i fs hu; exact ⟨fs, hu⟩
  · cases h

/-- cells that read as data, seen by their kinds -/
theorem views_rel {ks : List CK} {ds : List D} {us : List Value} (h : viewsOk ks ds) (hu : ∀ (k : Nat) d, ds[k]? = some d → ∃ x, us[k]? = some x ∧ Rep w Z d x) :
    ∀ (i : Nat) x y, (views ks ds)[i]? = some x → (us.take ks.length)[i]? = some y → AVR w Z L s x y := by
  induction ks generalizing ds us with
  | nil => intro i x y hx; simp [views] at hx
  | cons k ks ih =>
    obtain ⟨h1, h2, h3⟩ := h
    obtain ⟨d, ds, rfl⟩ := List.exists_cons_of_ne_nil h1
    obtain ⟨u0, hu0, hr0⟩ := hu 0 d rfl
    obtain ⟨u, us, rfl⟩ : ∃ u us', us = u :: us' := by cases us with | nil => simp at hu0 | cons a b => exact ⟨a, b, rfl⟩
    obtain rfl : u = u0 := by simpa using hu0
    intro i x y hx hy
    cases i with
    | zero =>
      simp [views] at hx
      simp at hy
      subst hx
      subst hy
      simp at h2
      cases k with
      | int kk => simp only [CK.ok] at h2; rw [h2] at hr0; cases hr0; exact .v _
      | bool => simp only [CK.ok] at h2; rw [h2] at hr0; cases hr0; exact .v _
      | str => simp only [CK.ok] at h2; rw [h2] at hr0; cases hr0; exact .v _
      | sl sz => simp only [CK.ok] at h2; rw [h2] at hr0; exact .l _ _ _ hr0
      | other => exact h2.elim
    | succ i =>
      simp [views] at hx
      simp at hy
      exact ih h3 (fun k d hk => by simpa using hu (k + 1) d (by simpa using hk)) i x y hx (by simpa using hy)
theorem views_len (ks : List CK) (ds : List D) : (views ks ds).length = ks.length := by
  induction ks generalizing ds with
  | nil => rfl
  | cons k ks ih => simp [views, ih]
theorem viewsOk_len {ks : List CK} {ds : List D} (h : viewsOk ks ds) : ks.length ≤ ds.length := by
  induction ks generalizing ds with
  | nil => simp
  | cons k ks ih =>
    obtain ⟨h1, _, h3⟩ := h
    obtain ⟨d, ds, rfl⟩ := List.exists_cons_of_ne_nil h1
    have := ih h3
    simp at this ⊢; omega

theorem run_loadAt_one (t : TypeId) (b o : Nat) (x : Value) (d : TypeDesc) (hu : P.underlying t = some d) (hd : d.isRow = false) (h : w.cell? ⟨b, o, none⟩ = some x) :
    (Instr.loadAt t (.pointer (some ⟨b, o, none⟩))).run P w = .ok x w := by
  have hagg : (isAgg t).run P w = .ok false w := by
    unfold isAgg
    rw [Sem.run_bind, run_underlying hu w]
    cases d <;> simp_all
  simp [Instr.loadAt, Instr.sureAddr, loadVar, Sem.run_bind, hagg, load, Sem.run, h]

theorem isCell_desc {t : TypeId} (h : isCell P t = true) : ∃ d, P.underlying t = some d ∧ d.isRow = false := by
  unfold isCell at h
  split at h
  · rename_i d hu; exact ⟨d, hu, by cases d <;> simp_all [isRow']⟩
  · cases h

/-- a row of still cells is read -/
theorem rowLoad_ok {T : TypeId} {cells : List D} {out : Out} (h : rowLoad P T cells = some out) (hc : out.c) {b off : Nat} {us : List Value}
    (hcell : ∀ (k : Nat) x, us[k]? = some x → w.cell? ⟨b, off + k, none⟩ = some x) (hrep : ∀ (k : Nat) d, cells[k]? = some d → ∃ x, us[k]? = some x ∧ Rep w Z d x) :
    ∃ v, (Instr.loadAt T (.pointer (some ⟨b, off, none⟩))).run P w = .ok v w ∧ AVR w Z L s out.dst v := by
  unfold rowLoad at h
  split at h
  · rename_i hst
    split at h
    · rename_i hlen
      simp at h
      subst h
      obtain ⟨fs, hu⟩ := isSt_desc hst
      have hl := viewsOk_len hc
      have hul : cells.length ≤ us.length := by
        rcases Nat.lt_or_ge us.length cells.length with h0 | h0
        · obtain ⟨x, hx, _⟩ := hrep us.length _ (List.getElem?_eq_getElem h0)
          rw [List.getElem?_eq_none (Nat.le_refl _)] at hx; cases hx
        · exact h0
      have htl : (us.take (ckOf P T).length).length = (ckOf P T).length := by rw [List.length_take]; omega
      refine ⟨.agg (us.take (ckOf P T).length).toArray, ?_, .agg _ _ (by rw [views_len, htl]) (views_rel hc hrep)⟩
      refine run_loadAt_mid w b off T (us.take (ckOf P T).length) _ (fun j x hx => ?_) hu rfl ?_
      · rw [List.getElem?_take] at hx
        split at hx
        · exact hcell j x hx
        · cases hx
      · rw [htl, hlen]
        unfold szOf inf
        cases hi : P.info? T with
        | none =>
          have : szOf P T = 0 := by simp [szOf, inf, hi]
          simp [Program.underlying, hi] at hu
        | some i => simp
    · cases h
  · split at h
    · rename_i hst
      obtain ⟨dd, hu, hd⟩ := isCell_desc hst
      split at h
      · rename_i k hk
        simp at h
        subst h
        obtain ⟨h1, h2, _⟩ := hc
        obtain ⟨d, ds, rfl⟩ := List.exists_cons_of_ne_nil h1
        obtain ⟨x, hx, hr⟩ := hrep 0 d rfl
        refine ⟨x, ?_, ?_⟩
        · have := hcell 0 x hx
          exact run_loadAt_one T b off x dd hu hd (by simpa using this)
        · have := views_rel (L := L) (s := s) (ks := [k]) (ds := d :: ds) (us := us) ⟨h1, h2, trivial⟩ hrep 0 (k.av d) x (by simp [views]) (by cases us with | nil => simp at hx | cons a b => simpa using hx)
          simpa using this
      · cases h
    · cases h

theorem cells_get {g o : Nat} {cur : Array Value} {T : TypeId} {fr : Nat × Nat} (h : w.heap[g]? = some (.cells cur T fr)) : w.cell? ⟨g, o, none⟩ = cur[o]? := by simp [World.cell?, h]

/-- a live slice's block -/
theorem owns_cells {base e sz n : Nat} {v : Value} {xs : List Value} (h : w.ownsRow base e sz v n xs) {g c m : Nat} (hv : v = .slice (some ⟨g, 0, none⟩) m c) (j : Nat) (u : Value) (hu : xs[j]? = some u) : w.cell? ⟨g, j, none⟩ = some u := by
  have := h.cells (g := g) (by rw [hv]; rfl) j u hu
  rwa [Addr.add_mid, Nat.zero_add] at this

theorem oLoad_ok (h : HR F W0 w L s Z) {T : TypeId} {p : AV} {x : Value} (hp : AVR w Z L s p x) {out : Out} (ho : oLoad P L T p = some out) (hc : out.c) :
    ∃ v, (Instr.loadAt T x).run P w = .ok v w ∧ AVR w Z L s out.dst v ∧ out.ups = [] := by
  unfold oLoad at ho
  split at ho
  · -- a variable
    rename_i r off
    split at ho
    · rename_i T' cs hL
      have hb := h.blk r
      rw [hL] at hb
      obtain ⟨g, vs, hs, hg, hl, hcs⟩ := hb
      obtain rfl : x = .pointer (some ⟨g, off, none⟩) := by
        cases hp with
        | ptr _ _ _ _ _ _ g' hs' hx => rw [hs] at hs'; cases hs'; exact hx
        | ptrDead _ _ _ hd _ => rw [hL] at hd; cases hd
      split at ho
      · rename_i hst
        split at ho
        · rename_i hn
          simp at ho
          subst ho
          obtain ⟨fs, hu⟩ := isSt_desc hst
          refine ⟨.agg ((vs.drop off).take (szOf P T)).toArray, ?_, .agg _ _ (by simp [hl]) (fun i x y hx hy => ?_), rfl⟩
          · refine run_loadAt_mid w g off T _ _ (fun j y hy => ?_) hu rfl ?_
            · rw [List.getElem?_take] at hy
              split at hy
              · rw [List.getElem?_drop] at hy
                rw [cells_get hg]
                simpa using hy
              · cases hy
            · rw [List.length_take, List.length_drop, hl]
              unfold szOf inf at hn ⊢
              cases hi : P.info? T with
              | none => simp [Program.underlying, hi] at hu
              | some i => simp [hi] at hn ⊢; omega
          · rw [List.getElem?_take] at hx hy
            split at hx
            · rename_i hi
              rw [if_pos hi] at hy
              rw [List.getElem?_drop] at hx hy
              exact (hcs _ x y hx hy).1
            · cases hx
        · cases ho
      · split at ho
        · rename_i hst
          obtain ⟨dd, hu, hd⟩ := isCell_desc hst
          split at ho
          · rename_i y hy
            simp at ho
            subst ho
            have hlt : off < vs.length := by rw [hl]; exact (List.getElem?_eq_some_iff.1 hy).1
            refine ⟨vs[off], ?_, (hcs off y vs[off] hy (List.getElem?_eq_getElem hlt)).1, rfl⟩
            refine run_loadAt_one T g off _ dd hu hd ?_
            rw [cells_get hg]
            simp [hlt]
          · cases ho
        · cases ho
    · cases ho
  · -- still cells
    rename_i cells
    have hu0 : out.ups = [] := by
      unfold rowLoad at ho
      split at ho
      · split at ho
        · simp at ho; subst ho; rfl
        · cases ho
      · split at ho
        · split at ho
          · simp at ho; subst ho; rfl
          · cases ho
        · cases ho
    cases hp with
    | rptr _ b off u hz hcell hrep =>
      obtain ⟨v, h1, h2⟩ := rowLoad_ok (L := L) (s := s) (us := (List.range cells.length).map u) ho hc (b := b) (off := off) (fun k x hx => by
        rw [List.getElem?_map] at hx
        by_cases hk : k < cells.length
        · rw [List.getElem?_range hk] at hx
          simp at hx
          rw [hcell k _ (List.getElem?_eq_getElem hk), hx]
        · rw [List.getElem?_eq_none (by simpa using hk)] at hx; cases hx) (fun k d hd => by
        have hk := (List.getElem?_eq_some_iff.1 hd).1
        exact ⟨u k, by rw [List.getElem?_map, List.getElem?_range hk]; rfl, hrep k d hd⟩)
      exact ⟨v, h1, h2, hu0⟩
  · -- a row of a slice of one's own
    rename_i r i j
    split at ho
    · rename_i e sz rows hL
      have hb := h.blk r
      rw [hL] at hb
      obtain ⟨hsz, xs, hown, h1, h2, h3⟩ := hb.rows
      split at ho
      · rename_i o hro
        simp at ho
        subst ho
        obtain ⟨hi, hc'⟩ := hc
        cases hp with
        | eptrDead _ _ _ _ hd _ => rw [hL] at hd; cases hd
        | eptrStill _ _ _ _ _ _ hd _ => rw [hL] at hd; cases hd
        | eptr _ _ _ _ e' sz' rows' hL' g n c hs hx =>
          rw [hL] at hL'; cases hL'
          subst hx
          obtain ⟨v, h1, h2⟩ := rowLoad_ok (L := L) (s := s) (us := xs.drop (i * sz + j)) hro hc' (b := g) (off := i * sz + j) (fun k y hy => by
            rw [List.getElem?_drop] at hy
            exact owns_cells hown hs _ y hy) (fun k d hd => by
            rw [List.getElem?_drop] at hd
            obtain ⟨y, hy, hr⟩ := h3 i (j + k) d (by
              unfold rowAt
              rw [List.getElem?_eq_getElem hi]
              simp [List.getD, List.getElem?_eq_getElem hi] at hd
              simpa using hd)
            exact ⟨y, by rw [List.getElem?_drop]; rw [← hy]; congr 1; omega, hr⟩)
          exact ⟨v, h1, h2, rfl⟩
      · cases ho
    · cases ho
  · cases ho
end
end Go.Proofs.Ytpompkogpdnlcaa
