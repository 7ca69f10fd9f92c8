import Derived.Test.YtpompkogpdnlcaaRh
namespace Go.Proofs.Ytpompkogpdnlcaa
open Go.RowKit

section
variable {P : Program} {w : World} {Z : Nat → Prop} {L : Nat → Blk} {s : Nat → Value} {F : Nat → Prop} {W0 : Ent}

theorem ups_append (L : Nat → Blk) (a b : List (Nat × Blk)) : ups L (a ++ b) = ups (ups L a) b := by
  induction a generalizing L with
  | nil => rfl
  | cons p a ih => exact ih _

/-- L is L0, but that some slices turn no more -/
def Froze (L0 L : Nat → Blk) : Prop := ∀ r, L r = L0 r ∨ ∃ e sz rows, L0 r = .sl e sz rows ∧ L r = .still sz rows

theorem HR.frz1 (h : HR F W0 w L s Z) {L0 : Nat → Blk} (hF : Froze L0 L) {r : Nat} {e : TypeId} {sz : Nat} {rows : List (List D)} (h0 : L0 r = .sl e sz rows) :
    ∃ Z', HR F W0 w (up L r (.still sz rows)) s Z' ∧ Ext w Z L s w Z' (up L r (.still sz rows)) s ∧ Froze L0 (up L r (.still sz rows)) := by
  have hF' : Froze L0 (up L r (.still sz rows)) := fun k => by
    by_cases hk : k = r
    · subst hk; exact .inr ⟨e, sz, rows, h0, up_same _ _ _⟩
    · rw [up_ne _ _ hk]; exact hF k
  rcases hF r with h1 | ⟨e', sz', rows', h1, h2⟩
  · obtain ⟨Z', a, b⟩ := h.freeze (h1.trans h0)
    exact ⟨Z', a, b, hF'⟩
  · rw [h0] at h1; cases h1
    rw [show up L r (.still sz rows) = L by rw [← h2]; exact up_self _ _] at hF' ⊢
    exact ⟨Z, h, Ext.refl _ _ _ _, hF'⟩

theorem HR.frz {L0 : Nat → Blk} (xs : List AV) : ∀ {L : Nat → Blk} {Z : Nat → Prop}, HR F W0 w L s Z → Froze L0 L →
    ∃ Z', HR F W0 w (ups L (frz L0 xs)) s Z' ∧ Ext w Z L s w Z' (ups L (frz L0 xs)) s ∧ Froze L0 (ups L (frz L0 xs)) := by
  induction xs with
  | nil => intro L Z h hF; exact ⟨Z, h, Ext.refl _ _ _ _, hF⟩
  | cons x xs ih =>
    intro L Z h hF
    have go : ∀ r e sz rows, L0 r = .sl e sz rows → ∃ Z', HR F W0 w (ups L ((r, .still sz rows) :: Proofs.Ytpompkogpdnlcaa.frz L0 xs)) s Z' ∧ Ext w Z L s w Z' (ups L ((r, .still sz rows) :: Proofs.Ytpompkogpdnlcaa.frz L0 xs)) s ∧ Froze L0 (ups L ((r, .still sz rows) :: Proofs.Ytpompkogpdnlcaa.frz L0 xs)) := by
      intro r e sz rows h0
      obtain ⟨Z1, a, b, c⟩ := h.frz1 hF h0
      obtain ⟨Z2, a2, b2, c2⟩ := ih a c
      exact ⟨Z2, a2, b.trans b2, c2⟩
    cases x with
    | own r =>
      simp only [Proofs.Ytpompkogpdnlcaa.frz]
      split
      · rename_i e sz rows h0; exact go r e sz rows h0
      · exact ih h hF
    | sub r lo hi =>
      simp only [Proofs.Ytpompkogpdnlcaa.frz]
      split
      · rename_i e sz rows h0; exact go r e sz rows h0
      · exact ih h hF
    | _ => exact ih h hF

theorem dk_ok (h : HR F W0 w L s Z) {k : CK} {x : AV} {y : Value} (hx : AVR w Z L s x y) (ho : x.one = true) {d : D} (hd : dk L k x = some d) : Rep w Z d y := by
  have own : ∀ r sz rows, L r = .still sz rows → x = .own r → Rep w Z (.l sz rows) y := by
    intro r sz rows hL e
    subst e
    have hb := h.blk r
    rw [hL] at hb
    cases hx with
    | own _ _ _ _ _ hd _ _ => rw [hL] at hd; cases hd
    | ownStill _ _ _ _ _ hx _ => rw [hx]; exact hb
    | ownDead _ _ hd _ => rw [hL] at hd; cases hd
  have sub : ∀ r lo hi sz rows, L r = .still sz rows → x = .sub r lo hi → Rep w Z (.l sz ((rows.take hi).drop lo)) y := by
    intro r lo hi sz rows hL e
    subst e
    cases hx with
    | sub _ _ _ _ _ _ _ hd => rw [hL] at hd; cases hd
    | subDead _ _ _ _ hd => rw [hL] at hd; cases hd
    | subStill _ _ _ _ _ _ hL' _ _ hx => rw [hL] at hL'; cases hL'; exact hx
  unfold dk at hd
  split at hd
  · split at hd
    · rename_i hnil; simp at hd; subst hd; cases hx; rw [nilV_eq hnil]; exact .e _ _ _
    · cases hd
  · simp at hd; subst hd; cases hx; exact .v _ ho
  · simp at hd; subst hd; cases hx with | l _ _ _ h => exact h
  · split at hd
    · rename_i hL; simp at hd; subst hd; exact own _ _ _ hL rfl
    · cases hd
  · split at hd
    · rename_i hL; simp at hd; subst hd; exact sub _ _ _ _ _ hL rfl
    · cases hd
  · cases hd

theorem dks_ok (h : HR F W0 w L s Z) {ks : List CK} {xs : List AV} {ds : List D} (hd : dks L ks xs = some ds) {ys : List Value} (hl : ys.length = xs.length)
    (hx : ∀ (i : Nat) x y, xs[i]? = some x → ys[i]? = some y → AVR w Z L s x y ∧ y.oneCell' = true) (hone : xs.all AV.one = true) :
    ds.length = xs.length ∧ ∀ (i : Nat) d, ds[i]? = some d → ∃ y, ys[i]? = some y ∧ Rep w Z d y := by
  induction ks generalizing xs ds ys with
  | nil =>
    cases xs with
    | nil => simp [dks] at hd; subst hd; exact ⟨rfl, fun i d h => by simp at h⟩
    | cons x xs => simp [dks] at hd
  | cons k ks ih =>
    cases xs with
    | nil => simp [dks] at hd
    | cons x xs =>
      cases ys with
      | nil => simp at hl
      | cons y ys =>
        simp only [dks] at hd
        split at hd
        · rename_i d ds' h1 h2
          simp at hd; subst hd
          simp only [List.all_cons, Bool.and_eq_true] at hone
          obtain ⟨l1, l2⟩ := ih h2 (ys := ys) (by simpa using hl) (fun i a b ha hb => hx (i + 1) a b (by simpa using ha) (by simpa using hb)) hone.2
          refine ⟨by simp [l1], fun i dd hi => ?_⟩
          cases i with
          | zero => simp at hi; subst hi; exact ⟨y, rfl, dk_ok h (hx 0 x y rfl rfl).1 hone.1 h1⟩
          | succ i => obtain ⟨u, hu, hr⟩ := l2 i dd (by simpa using hi); exact ⟨u, by simpa using hu, hr⟩
        · cases hd

theorem row_apart {i i' j j' sz m : Nat} (hi : i' ≠ i) (hj : j' < sz) (hm : j + m ≤ sz) : ¬ (i * sz + j ≤ i' * sz + j' ∧ i' * sz + j' < i * sz + j + m) := by
  rintro ⟨h1, h2⟩
  rcases Nat.lt_or_ge i' i with h | h
  · have := Nat.mul_le_mul_right sz (show i' + 1 ≤ i from h)
    rw [Nat.succ_mul] at this
    omega
  · have := Nat.mul_le_mul_right sz (show i + 1 ≤ i' by omega)
    rw [Nat.succ_mul] at this
    omega

/-- data is put into a row -/
theorem RowsR.put {sz : Nat} {rows : List (List D)} {xs : List Value} (h : RowsR w Z sz rows xs) {i j : Nat} (hi : i < rows.length) {ds : List D} {us : List Value} (hl : us.length = ds.length) (hj : j + ds.length ≤ sz)
    (hd : ∀ (k : Nat) d, ds[k]? = some d → ∃ u, us[k]? = some u ∧ Rep w Z d u) : RowsR w Z sz (rows.set i (putAt (rows.getD i []) j ds)) (putAt xs (i * sz + j) us) := by
  obtain ⟨h1, h2, h3⟩ := h
  have hrow : (rows.getD i []).length = sz := by
    simp only [List.getD, List.getElem?_eq_getElem hi, Option.getD_some]
    exact h1 _ (List.getElem_mem hi)
  have hfit : i * sz + j + us.length ≤ xs.length := by
    have := Nat.mul_le_mul_right sz (show i + 1 ≤ rows.length from hi)
    rw [Nat.succ_mul] at this
    omega
  refine ⟨fun r hr => ?_, by rw [putAt_len hfit, List.length_set, h2], fun i' j' d hdd => ?_⟩
  · rcases List.mem_or_eq_of_mem_set hr with hr | rfl
    · exact h1 r hr
    · rw [putAt_len (by omega), hrow]
  · unfold rowAt at hdd
    rw [putAt_get hfit]
    by_cases e : i' = i
    · subst e
      rw [List.getElem?_set_self hi] at hdd
      simp only [Option.bind_some] at hdd
      rw [putAt_get (by omega)] at hdd
      split at hdd
      · rename_i hin
        rw [if_pos (by omega)]
        obtain ⟨u, hu, hr⟩ := hd _ d hdd
        exact ⟨u, by rw [← hu]; congr 1; omega, hr⟩
      · rename_i hout
        rw [if_neg (by omega)]
        refine h3 i' j' d ?_
        unfold rowAt
        rw [List.getElem?_eq_getElem hi]
        simpa [List.getD, List.getElem?_eq_getElem hi] using hdd
    · rw [List.getElem?_set_ne (fun h => e h.symm)] at hdd
      have hj' : j' < sz := by
        cases hr : rows[i']? with
        | none => simp [hr] at hdd
        | some r =>
          simp [hr] at hdd
          have := (List.getElem?_eq_some_iff.1 hdd).1
          rw [h1 r (List.mem_of_getElem? hr)] at this
          exact this
      rw [if_neg (by rw [hl]; exact row_apart e hj' hj)]
      exact h3 i' j' d hdd

theorem take_putAt {α : Type} {cs xs : List α} {off n : Nat} (h : off + xs.length ≤ n) (hn : n ≤ cs.length) : (putAt cs off xs).take n = putAt (cs.take n) off xs := by
  apply List.ext_getElem?
  intro i
  rw [List.getElem?_take, putAt_get (by omega), putAt_get (by rw [List.length_take]; omega), List.getElem?_take]
  by_cases hi : i < n
  · simp only [hi, if_true]
  · simp only [hi, if_false]
    rw [if_neg (by omega)]

theorem oStore_ok (h : HR F W0 w L s Z) {T : TypeId} {a p : AV} {x y : Value} (ha : AVR w Z L s a x) (hp : AVR w Z L s p y) {out : Out} (ho : oStore P L T a p = some out) (hc : out.c) (h0 : 0 < szOf P T) :
    ∃ w' Z', (Instr.storeAt T y x).run P w = .ok () w' ∧ HR F W0 w' (ups L out.ups) s Z' ∧ Ext w Z L s w' Z' (ups L out.ups) s ∧ out.dst = .v undef := by
  unfold oStore at ho
  split at ho
  · rename_i r off
    split at ho
    · rename_i T' cs hL
      split at ho
      · rename_i hh
        simp at ho; subst ho
        obtain ⟨w', h1, h2, h3⟩ := oStore_var h (T := T) hL ha rfl hp hh.1 (by omega) hh.2.1 hh.2.2
        exact ⟨w', Z, h1, h2, h3, rfl⟩
      · cases ho
    · cases ho
  · rename_i r i j
    split at ho
    · rename_i e sz rows hL1
      split at ho
      · rename_i ds hds
        split at ho
        · rename_i hh
          obtain ⟨hn, hj, hone⟩ := hh
          have ho := Option.some.inj ho
          subst ho
          obtain ⟨Z1, H1, E1, -⟩ := h.frz (L0 := L) a.cells (fun r => .inl rfl)
          have hp1 := hp.mono E1
          obtain ⟨us, hx, hul, hcu⟩ := ha.cellsOf hone
          have hcu1 : ∀ (i : Nat) b y, a.cells[i]? = some b → us[i]? = some y → AVR w Z1 (ups L (frz L a.cells)) s b y ∧ y.oneCell' = true := fun i b y h1 h2 => ⟨(hcu i b y h1 h2).1.mono E1, (hcu i b y h1 h2).2⟩
          obtain ⟨hdl, hdr⟩ := dks_ok H1 hds hul hcu1 hone
          have huone : ∀ v ∈ us, v.oneCell' = true := fun v hv => by
            obtain ⟨i, hi, hiv⟩ := List.mem_iff_getElem.1 hv
            exact (hcu i _ v (List.getElem?_eq_getElem (show i < a.cells.length by omega)) (by rw [List.getElem?_eq_getElem hi, hiv])).2
          have hb := H1.blk r
          rw [hL1] at hb
          obtain ⟨hsz, xs, hown, hrows⟩ := hb.rows
          cases hp1 with
          | eptrDead _ _ _ _ hd _ => rw [hL1] at hd; cases hd
          | eptrStill _ _ _ _ _ _ hd _ => rw [hL1] at hd; cases hd
          | eptr _ _ _ _ e' sz' rows' hL' g n c hs hy =>
            rw [hL1] at hL'; cases hL'
            subst hy
            have hc' : i < rows.length := hc
            rcases hown.2 with ⟨q1, _⟩ | ⟨g', cap, cur, q1, q2, q3, q4, q5, q6, q7⟩
            · rw [hs] at q1; cases q1
            · obtain rfl : g' = g := by rw [hs] at q1; cases q1; rfl
              have hcurl : rows.length * sz ≤ cur.toList.length := by rw [show cur.toList.length = cur.size from Array.length_toList, q6]; exact Nat.mul_le_mul_right _ q4
              have hfit : i * sz + j + us.length ≤ rows.length * sz := by
                have := Nat.mul_le_mul_right sz (show i + 1 ≤ rows.length from hc')
                rw [Nat.succ_mul] at this
                omega
              have hrun := storeAt_run (P := P) (T := T) q3 hx (by omega) (by omega) (o := i * sz + j) (by rw [show cur.size = cur.toList.length from Array.length_toList.symm]; omega) huone
              have hlive : (ups L (frz L a.cells) r).live := by rw [hL1]; trivial
              have hvb : vblk (s r) = some g' := by rw [hs]; rfl
              have hE : Ext w Z1 (ups L (frz L a.cells)) s (w.setRow g' (putAt cur.toList (i * sz + j) us).toArray) Z1 (up (ups L (frz L a.cells)) r (.sl e sz (rows.set i (putAt (rows.getD i []) j ds)))) (up s r (s r)) := by
                refine Ext.of1 (fun _ h => h) (fun b hb => setRow_other w g' b _ fun e => H1.nz r g' hlive hvb (e ▸ hb)) (.sl e sz rows _ hL1 rfl (by simp) rfl) (fun _ _ _ _ _ h1 h2 => by cases h2)
              have key := H1.of r (.sl e sz (rows.set i (putAt (rows.getD i []) j ds))) (s r) hE rfl rfl rfl (by simp) (fun b _ hne => setRow_other w g' b _ (hne g' hlive hvb)) ?_ (fun _ g2 hg2 => .inr ⟨hlive, hg2⟩) (fun b hb => .inl hb)
              · rw [up_self] at key hE
                refine ⟨_, Z1, hrun, ?_, ?_, rfl⟩
                · rw [ups_append]; exact key
                · rw [ups_append]; exact E1.trans hE
              · have hput := hrows.put (i := i) (j := j) hc' (ds := ds) (us := us) (by omega) hj hdr
                refine BlkR.of_rows hsz (xs := putAt xs (i * sz + j) us) ⟨by rw [hput.2.1], .inr ⟨g', cap, _, ?_, q2, setRow_heap w g' _ _ _ _ q3, by rw [List.length_set]; exact q4, q5, ?_, ?_⟩⟩ (hput.mono hE.z hE.w)
                · rw [q1, List.length_set]
                · rw [List.size_toArray, putAt_len (by omega), show cur.toList.length = cur.size from Array.length_toList, q6]
                · rw [List.length_set]
                  show (putAt cur.toList (i * sz + j) us).take (rows.length * sz) = _
                  rw [take_putAt hfit hcurl, q7]
        · cases ho
      · cases ho
    · cases ho
  · cases ho
end
end Go.Proofs.Ytpompkogpdnlcaa
