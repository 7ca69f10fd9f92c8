import Derived.Test.YtpompkogpdnlcaaRe
namespace Go.Proofs.Ytpompkogpdnlcaa
open Go.RowKit

section
variable {P : Program} {w : World} {Z : Nat → Prop} {L : Nat → Blk} {s : Nat → Value} {F : Nat → Prop} {W0 : Ent}

theorem idx_run {T e : TypeId} {sz : Nat} (hu : P.underlying T = some (.slice e)) (hs : szOf P e = sz) (h0 : 0 < sz) (b off len c : Nat) (k : IntKind) (n : Int) (h1 : 0 ≤ n) (h2 : n < (len : Int)) :
    (Instr.indexAt T (.slice (some ⟨b, off, none⟩) len c) (.int k n)).run P w = .ok (.pointer (some ⟨b, off + n.toNat * sz, none⟩)) w := by
  obtain ⟨i, hi, his⟩ := szOf_info hs h0
  have hadd : (⟨b, off, none⟩ : Addr).add (n.toNat * sz) = ⟨b, off + n.toNat * sz, none⟩ := Addr.add_mid _ _ _
  simp [Instr.indexAt, asIntOf, run_underlying hu, sizeOf, typeInfo, hi, his, h1, h2, hadd]

theorem idx_rep {T e : TypeId} {sz : Nat} (hu : P.underlying T = some (.slice e)) (hs : szOf P e = sz) (h0 : 0 < sz) {rows : List (List D)} {x : Value} (hx : Rep w Z (.l sz rows) x) (k : IntKind) (n : Int) (h1 : 0 ≤ n) (h2 : n < (rows.length : Int)) :
    ∃ v, (Instr.indexAt T x (.int k n)).run P w = .ok v w ∧ AVR w Z L s (.rptr (rows.getD n.toNat [])) v := by
  cases hx with
  | e => simp at h2; omega
  | l _ _ b off len c u hn hc hs' hz hcell hrep =>
    have hlt : n.toNat < rows.length := by omega
    refine ⟨_, idx_run hu hs h0 b off len c k n h1 (by omega), ?_⟩
    have e : ∀ (j : Nat) d, (rows.getD n.toNat [])[j]? = some d → rowAt rows n.toNat j = some d := fun j d h => by
      unfold rowAt
      rw [List.getElem?_eq_getElem hlt]
      simpa [List.getD, List.getElem?_eq_getElem hlt] using h
    refine .rptr _ b _ (fun j => u n.toNat j) hz (fun j d h => ?_) (fun j d h => hrep _ _ d (e j d h))
    rw [← hcell _ _ d (e j d h)]
    congr 2
    omega

theorem oIndexAddr_ok (h : HR F W0 w L s Z) {T : TypeId} {p i : AV} {x y : Value} (hp : AVR w Z L s p x) (hi : AVR w Z L s i y) {out : Out} (ho : oIndexAddr P L T p i = some out) (hc : out.c) :
    ∃ v, (Instr.indexAt T x y).run P w = .ok v w ∧ AVR w Z L s out.dst v ∧ out.ups = [] := by
  unfold oIndexAddr at ho
  split at ho
  · rename_i e k n hu
    cases hi
    split at ho
    · split at ho
      · rename_i sz rows hs
        simp at ho; subst ho
        obtain ⟨v, h1, h2⟩ := idx_rep (L := L) (s := s) hu hs.1 hs.2 (by cases hp with | l _ _ _ h => exact h) k n hc.1 hc.2
        exact ⟨v, h1, h2, rfl⟩
      · cases ho
    · rename_i r
      have hb := h.blk r
      split at ho
      · rename_i e' sz rows hL
        rw [hL] at hb
        obtain ⟨hsz, xs, hown, hr⟩ := hb.rows
        split at ho
        · rename_i hs
          simp at ho; subst ho
          obtain ⟨hc1, hc2⟩ := hc
          have hx : x = s r := by
            cases hp with
            | own _ _ _ _ _ _ hx _ => exact hx
            | ownStill _ _ _ _ hd _ _ => rw [hL] at hd; cases hd
            | ownDead _ _ hd _ => rw [hL] at hd; cases hd
          subst hx
          rcases hown.2 with ⟨h0, h1⟩ | ⟨g, cap, cur, hv, _⟩
          · omega
          · rw [hv]
            refine ⟨_, idx_run hu hs.1 hs.2 g 0 rows.length cap k n hc1 hc2, .eptr r n.toNat 0 _ e' sz rows hL g _ _ hv (by simp), rfl⟩
        · cases ho
      · rename_i sz rows hL
        rw [hL] at hb
        split at ho
        · rename_i hs
          simp at ho; subst ho
          have hx : x = s r := by
            cases hp with
            | own _ _ _ _ _ hd _ _ => rw [hL] at hd; cases hd
            | ownStill _ _ _ _ hd hx _ => exact hx
            | ownDead _ _ hd _ => rw [hL] at hd; cases hd
          subst hx
          obtain ⟨v, h1, h2⟩ := idx_rep (L := L) (s := s) hu hs.1 hs.2 hb k n hc.1 hc.2
          exact ⟨v, h1, h2, rfl⟩
        · cases ho
      · cases ho
    · rename_i r lo hi
      have hb := h.blk r
      split at ho
      · rename_i e' sz rows hL
        split at ho
        · rename_i hs
          simp at ho; subst ho
          obtain ⟨hc1, hc2⟩ := hc
          cases hp with
          | subStill _ _ _ _ _ _ hd => rw [hL] at hd; cases hd
          | subDead _ _ _ _ hd => rw [hL] at hd; cases hd
          | sub _ _ _ _ e2 sz2 rows2 hL2 hlo hhi A N C hx hN hC hA =>
            rw [hL] at hL2; cases hL2
            subst hx
            obtain ⟨g, N', C', hsr, rfl⟩ := hA (by omega)
            refine ⟨_, idx_run hu hs.1 hs.2 g _ N C k n hc1 (by omega), .eptr r (lo + n.toNat) 0 _ e' sz rows hL g _ _ hsr (by rw [Nat.add_mul, Nat.add_zero]), rfl⟩
        · cases ho
      · rename_i sz rows hL
        split at ho
        · rename_i hs
          simp at ho; subst ho
          obtain ⟨hc1, hc2⟩ := hc
          cases hp with
          | sub _ _ _ _ _ _ _ hd => rw [hL] at hd; cases hd
          | subDead _ _ _ _ hd => rw [hL] at hd; cases hd
          | subStill _ _ _ _ sz2 rows2 hL2 hlo hhi hx =>
            rw [hL] at hL2; cases hL2
            obtain ⟨v, h1, h2⟩ := idx_rep (L := L) (s := s) hu hs.1 hs.2 hx k n hc1 (by rw [List.length_drop, List.length_take]; omega)
            have e : ((rows.take hi).drop lo).getD n.toNat [] = rows.getD (lo + n.toNat) [] := by
              simp only [List.getD, List.getElem?_drop, List.getElem?_take]
              rw [if_pos (by omega)]
            rw [e] at h2
            exact ⟨v, h1, h2, rfl⟩
        · cases ho
      · cases ho
    · cases ho
  · cases ho

theorem oFieldAddr_ok {T : TypeId} {p : AV} {f : Nat} {x : Value} (hp : AVR w Z L s p x) {out : Out} (ho : oFieldAddr P L T p f = some out) :
    ∃ v, (Instr.fieldAt T x f).run P w = .ok v w ∧ AVR w Z L s out.dst v ∧ out.ups = [] := by
  unfold oFieldAddr at ho
  split at ho
  · rename_i o t hf
    unfold fieldOf at hf
    split at hf
    · rename_i fs hu
      split at hf
      · rename_i fd hfd
        simp at hf
        obtain ⟨rfl, rfl⟩ := hf
        split at ho
        · cases ho
        · rename_i hn0
          obtain ⟨i, hi, his⟩ := szOf_info (P := P) (t := fd.type) rfl (by omega)
          have run : ∀ b off, (Instr.fieldAt T (.pointer (some ⟨b, off, none⟩)) f).run P w = .ok (.pointer (some ⟨b, off + fd.offset, none⟩)) w := fun b off => by
            have hne : ¬ i.size = 0 := by omega
            simp [Instr.fieldAt, run_underlying hu, hfd, Instr.sureAddr, fieldPlace, sizeOf, typeInfo, hi, hne, Addr.add_mid]
          split at ho
          · rename_i r off
            split at ho
            · rename_i hL0
              simp at ho; subst ho
              cases hp with
              | ptrDead _ _ _ hd => rw [hd] at hL0; cases hL0
              | ptr _ _ _ T' cs hL g hs hx => subst hx; exact ⟨_, run g off, .ptr r _ _ T' cs hL g hs rfl, rfl⟩
            · cases ho
          · rename_i r i' j
            split at ho
            · rename_i hL0
              simp at ho; subst ho
              cases hp with
              | eptrDead _ _ _ _ hd => rw [hd] at hL0; cases hL0
              | eptrStill _ _ _ _ _ _ hd => rw [hd] at hL0; cases hL0
              | eptr _ _ _ _ e sz rows hL g n c hs hx => subst hx; exact ⟨_, run g _, .eptr r i' _ _ e sz rows hL g n c hs (by rw [Nat.add_assoc]), rfl⟩
            · cases ho
          · rename_i cells
            simp at ho; subst ho
            cases hp with
            | rptr _ b off u hz hcell hrep =>
              refine ⟨_, run b off, .rptr _ b _ (fun k => u (fd.offset + k)) hz (fun k d h => ?_) (fun k d h => ?_), rfl⟩
              · rw [List.getElem?_drop] at h
                rw [Nat.add_assoc]
                exact hcell _ d h
              · rw [List.getElem?_drop] at h
                exact hrep _ d h
          · cases ho
      · cases hf
    · cases hf
  · cases ho

theorem oField_ok {T : TypeId} {p : AV} {f : Nat} {x : Value} (hp : AVR w Z L s p x) {out : Out} (ho : oField P T p f = some out) :
    ∃ v, (Instr.field T x f).run P w = .ok v w ∧ AVR w Z L s out.dst v ∧ out.ups = [] := by
  unfold oField at ho
  split at ho
  · rename_i o t cs hf
    unfold fieldOf at hf
    split at hf
    · rename_i fs hu
      split at hf
      · rename_i fd hfd
        simp at hf
        obtain ⟨rfl, rfl⟩ := hf
        cases hp with
        | agg _ vs hl hcs =>
          split at ho
          · rename_i hst
            obtain ⟨fs', hu'⟩ := isSt_desc hst
            split at ho
            · rename_i hn
              simp at ho; subst ho
              have hinfo : ∃ i, P.info? fd.type = some i := by
                cases hi : P.info? fd.type with
                | none => simp [Program.underlying, hi] at hu'
                | some i => exact ⟨i, rfl⟩
              obtain ⟨i, hi⟩ := hinfo
              have hsz : szOf P fd.type = i.size := by simp [szOf, inf, hi]
              rw [hsz] at hn ⊢
              refine ⟨.agg ((vs.drop fd.offset).take i.size).toArray, ?_, .agg _ _ (by simp [hl]) (fun j a b h1 h2 => ?_), rfl⟩
              · have hagg : (isAgg fd.type).run P w = .ok true w := by
                  unfold isAgg
                  rw [Sem.run_bind, run_underlying hu' w]
                  simp
                simp [Instr.field, run_underlying hu, hfd, asAgg, part, hagg, sizeOf, typeInfo, hi]
              · rw [List.getElem?_take] at h1 h2
                split at h1
                · rename_i hj
                  rw [if_pos hj] at h2
                  rw [List.getElem?_drop] at h1 h2
                  exact hcs _ a b h1 h2
                · cases h1
            · cases ho
          · split at ho
            · rename_i hst
              obtain ⟨dd, hu', hd⟩ := isCell_desc hst
              split at ho
              · rename_i y hy
                simp at ho; subst ho
                have hlt : fd.offset < vs.length := by rw [hl]; exact (List.getElem?_eq_some_iff.1 hy).1
                refine ⟨vs[fd.offset], ?_, hcs _ y _ hy (List.getElem?_eq_getElem hlt), rfl⟩
                have hagg : (isAgg fd.type).run P w = .ok false w := by
                  unfold isAgg
                  rw [Sem.run_bind, run_underlying hu' w]
                  cases dd <;> simp_all
                simp [Instr.field, run_underlying hu, hfd, asAgg, part, hagg, List.getElem?_eq_getElem hlt]
              · cases ho
            · cases ho
      · cases hf
    · cases hf
  · cases ho

theorem oExtract_ok {p : AV} {i : Nat} {x : Value} (hp : AVR w Z L s p x) {out : Out} (ho : oExtract p i = some out) :
    ∃ v, (Instr.extract x i).run P w = .ok v w ∧ AVR w Z L s out.dst v ∧ out.ups = [] := by
  unfold oExtract at ho
  split at ho
  · rename_i cs
    split at ho
    · rename_i y hy
      simp at ho; subst ho
      cases hp with
      | tup _ vs hl hcs =>
        have hlt : i < vs.length := by rw [hl]; exact (List.getElem?_eq_some_iff.1 hy).1
        exact ⟨vs[i], by simp [Instr.extract, List.getElem?_eq_getElem hlt], hcs _ y _ hy (List.getElem?_eq_getElem hlt), rfl⟩
    · cases ho
  · cases ho
end
end Go.Proofs.Ytpompkogpdnlcaa
