import Derived.Test.YtkfjaeoehhakpaaR3
namespace Go.Proofs.Ytkfjaeoehhakpaa
open Go.RowKit
abbrev PC := List AV → Option (Prop × AV × List Blk)
def hpAt (q : Nat) : List Blk → HP
  | [] => []
  | b :: bs => (q, b) :: hpAt (q + 1) bs
def sh (q : Nat) : Nat → Option Nat := fun r => some (q + r)
def nrm (L : Nat → Blk) : AV → AV
  | .own r => match L r with | .sl _ sz rows | .still sz rows => .l sz rows | .tr .whole _ sz _ rows => .l sz rows | .off _ sz rows => .l sz rows | .dead => .mute | _ => .any
  | .sub r lo hi => match L r with | .sl _ sz rows | .still sz rows => .l sz ((rows.take hi).drop lo) | .tr .whole _ sz _ rows => .l sz ((rows.take hi).drop lo) | .off _ sz rows => .l sz ((rows.take hi).drop lo) | _ => .any
  | .v x => if nilV x = true then .l 1 [] else .v x
  | .l sz rows => .l sz rows
  | .agg cs => .agg (nrmL L cs)
  | .mute => .mute
  | _ => .any
where nrmL (L : Nat → Blk) : List AV → List AV
  | [] => []
  | c :: cs => nrm L c :: nrmL L cs
def pureAbs (g : PC) : Abs := fun args L q => match g (args.map (nrm L)) with
  | some (c, r, bs) => if bs.length ≤ 16 then some ⟨c, r.ren (sh q), hpAt q bs⟩ else none
  | none => none
def flatB : Blk → Prop
  | .sl _ _ rows => ∀ r ∈ rows, ∀ d ∈ r, ∃ x, d = .v x
  | .tr .whole _ _ _ _ => True
  | _ => False
def flatA : AV → Bool
  | .v _ | .own _ | .sub _ _ _ => true
  | .agg cs => flatL cs
  | .tup cs => flatL cs
  | _ => false
where flatL : List AV → Bool
  | [] => true
  | c :: cs => flatA c && flatL cs
def Zold (w : World) : Nat → Prop := fun b => b < w.heap.size
structure PureOk (P : Program) (f : FuncId) (g : PC) : Prop where
  there : ∃ fn c, P.funcs[f]? = some fn ∧ (fn.name == "runtime.NumGoroutine") = false ∧ fn.body = some c
  does : ∀ (w : World) (args : List AV) (vs : List Value) (c : Prop) (r : AV) (bs : List Blk), ARel w (Zold w) (fun _ => .none) (fun _ => nilS) args vs → g args = some (c, r, bs) → c →
    (flatA r = true ∧ (∀ b ∈ bs, flatB b) ∧ (∀ k ∈ r.ids, k < bs.length)) ∧
    Calls P f vs.toArray w fun e w' => ∃ v s Z, e = .returned v ∧ HR (fun _ => False) ⟨w, Zold w⟩ w' (lk (hpAt 0 bs)) s Z ∧ AVR w' Z (lk (hpAt 0 bs)) s r v
section
variable {P : Program} {w : World} {Z : Nat → Prop} {L : Nat → Blk} {s : Nat → Value} {F : Nat → Prop} {W0 : Ent}
theorem nrmL_map (L : Nat → Blk) : ∀ cs : List AV, nrm.nrmL L cs = cs.map (nrm L)
  | [] => rfl
  | c :: cs => by rw [nrm.nrmL, nrmL_map L cs]; rfl
theorem lk_hpAt : ∀ (bs : List Blk) (q k : Nat), lk (hpAt q bs) k = if q ≤ k then bs.getD (k - q) .none else .none
  | [], q, k => by simp [hpAt, lk]
  | b :: bs, q, k => by
    simp only [hpAt, lk]
    rw [lk_hpAt bs (q + 1) k]
    by_cases h1 : k = q
    · subst h1; simp
    · rw [if_neg h1]
      by_cases h2 : q ≤ k
      · rw [if_pos h2, if_pos (by omega), show k - q = (k - (q + 1)) + 1 by omega]
        simp
      · rw [if_neg h2, if_neg (by omega)]
theorem ups_hpAt : ∀ (bs : List Blk) (q k : Nat) (L : Nat → Blk), ups L (hpAt q bs) k = if q ≤ k ∧ k < q + bs.length then bs.getD (k - q) .none else L k
  | [], q, k, L => by
    rw [if_neg (by simp only [List.length_nil]; omega)]
    rfl
  | b :: bs, q, k, L => by
    simp only [hpAt, ups]
    rw [ups_hpAt bs (q + 1) k]
    by_cases h1 : k = q
    · subst h1; rw [if_neg (by omega), up_same, if_pos (by simp)]; simp
    · by_cases h2 : q + 1 ≤ k ∧ k < q + 1 + bs.length
      · rw [if_pos h2, if_pos (by simp; omega), show k - q = (k - (q + 1)) + 1 by omega]
        simp
      · rw [if_neg h2, up_ne _ _ h1, if_neg (by simp only [List.length_cons]; omega)]
theorem nrm_ok (h : HR F W0 w L s Z) {a : AV} {x : Value} (hx : AVR w Z L s a x) : AVR w (Zold w) (fun _ => .none) (fun _ => nilS) (nrm L a) x := by
  have zz : ∀ b, Z b → Zold w b := fun b hb => h.zin b hb
  have fl : ∀ r e sz rows, L r = .sl e sz rows → Rep w (Zold w) (.l sz rows) (s r) := fun r e sz rows hL => by
    obtain ⟨Z', H, E⟩ := h.freeze hL
    have := H.blk r
    rw [up_same] at this
    exact Rep.mono this (fun b hb => H.zin b hb) (fun _ _ => rfl)
  have fo : ∀ r e sz rows, L r = .off e sz rows → Rep w (Zold w) (.l sz rows) (s r) := fun r e sz rows hL => by
    obtain ⟨Z', H, E⟩ := h.freezeO hL
    have := H.blk r
    rw [up_same] at this
    exact Rep.mono this (fun b hb => H.zin b hb) (fun _ _ => rfl)
  have st : ∀ r sz rows, L r = .still sz rows → Rep w (Zold w) (.l sz rows) (s r) := fun r sz rows hL => by
    have := h.blk r
    rw [hL] at this
    exact Rep.mono this zz (fun _ _ => rfl)
  have tre : ∀ r e sz cols rows, L r = .tr .whole e sz cols rows → Rep w (Zold w) (.l sz rows) (s r) := fun r e sz cols rows hL => by
    have := h.blk r
    rw [hL] at this
    obtain ⟨xs, u, hT, -⟩ := this
    refine (hT.own fun _ _ => rfl).rep fun g hg => (h.mineF r g (by rw [hL]; trivial) ?_).2
    rw [hL]
    exact InX.of (ex := fun _ _ => false) hg
  induction hx with
  | any x => exact .any x
  | mute x h => exact .mute x h
  | v x =>
    simp only [nrm]
    split
    · rename_i hn; rw [nilV_eq hn]; exact .l _ _ _ (.e _ _ _)
    · exact .v x
  | l sz rows x h => exact .l _ _ _ (h.mono zz (fun _ _ => rfl))
  | own r x e sz rows hL hx hn => simp only [nrm, hL]; rw [hx]; exact .l _ _ _ (fl r e sz rows hL)
  | ownOff r x e sz rows hL hx hn => simp only [nrm, hL]; rw [hx]; exact .l _ _ _ (fo r e sz rows hL)
  | ownStill r x sz rows hL hx ho => simp only [nrm, hL]; rw [hx]; exact .l _ _ _ (st r sz rows hL)
  | ownDead r x hL ho => simp only [nrm, hL]; exact .mute x ho
  | ownTr r x st e sz cols rows hL hx hn =>
    cases st with
    | whole => simp only [nrm, hL]; rw [hx]; exact .l _ _ _ (tre r e sz cols rows hL)
    | _ => simp only [nrm, hL]; exact .any x
  | subOff r lo hi x e sz rows hL h1 h2 A n c hx hn hc hA =>
    simp only [nrm, hL]
    rw [hx]
    refine .l _ _ _ ((fo r e sz rows hL).cut h1 h2 hn hc fun h0 => ?_)
    obtain ⟨g, o, N, C, hs, hA'⟩ := hA h0
    exact ⟨g, o, N, C, hs, hA'⟩
  | subTr r lo hi x st e sz cols rows hL h1 h2 A n c hx hn hc hA =>
    cases st with
    | whole =>
      simp only [nrm, hL]
      rw [hx]
      refine .l _ _ _ ((tre r e sz cols rows hL).cut h1 h2 hn hc fun h0 => ?_)
      obtain ⟨g, o, N, C, hs, hA', _⟩ := hA h0
      exact ⟨g, o, N, C, hs, hA'⟩
    | _ => simp only [nrm, hL]; exact .any x
  | sub r lo hi x e sz rows hL h1 h2 A n c hx hn hc hA =>
    simp only [nrm, hL]
    rw [hx]
    refine .l _ _ _ ((fl r e sz rows hL).cut h1 h2 hn hc fun h0 => ?_)
    obtain ⟨g, o, N, C, hs, hA', _⟩ := hA h0
    exact ⟨g, o, N, C, hs, hA'⟩
  | subStill r lo hi x sz rows hL h1 h2 hx => simp only [nrm, hL]; exact .l _ _ _ (hx.mono zz (fun _ _ => rfl))
  | subDead r lo hi x hL ho => simp only [nrm, hL]; exact .any x
  | agg cs vs hl _ ih =>
    simp only [nrm]
    rw [nrmL_map]
    refine .agg _ vs (by simp [hl]) fun i a b ha hb => ?_
    rw [List.getElem?_map] at ha
    cases hc : cs[i]? with
    | none => simp [hc] at ha
    | some c => simp [hc] at ha; subst ha; exact ih i c b hc hb
  | _ => exact .any _
theorem nrm_near {L L' : Nat → Blk} {x : AV} (h : ∀ r ∈ x.ids, L' r = L r) : nrm L' x = nrm L x := by
  have go : ∀ (n : Nat) (x : AV), SizeOf.sizeOf x ≤ n → (∀ r ∈ x.ids, L' r = L r) → nrm L' x = nrm L x := by
    intro n
    induction n with
    | zero => intro x hx; cases x <;> simp at hx <;> omega
    | succ n ih =>
      intro x hx h
      cases x with
      | own r => simp only [nrm]; rw [h r (by simp [AV.ids])]
      | sub r lo hi => simp only [nrm]; rw [h r (by simp [AV.ids])]
      | agg cs =>
        simp only [nrm]
        rw [nrmL_map, nrmL_map]
        congr 1
        refine List.map_congr_left fun c hc => ih c ?_ fun r hr => h r (by simp only [AV.ids]; exact (memL _ _).2 ⟨c, hc, hr⟩)
        have := List.sizeOf_lt_of_mem hc
        simp at hx
        omega
      | _ => rfl
  exact go _ x (Nat.le_refl _) h
theorem flat_rep {w w' : World} {Z Z' : Nat → Prop} {x : Value} {d : D} (hd : ∃ x, d = .v x) (h : Rep w Z d x) : Rep w' Z' d x := by
  obtain ⟨y, rfl⟩ := hd
  cases h with
  | v x ho => exact .v _ ho
theorem flatL_mem : ∀ {cs : List AV}, flatA.flatL cs = true → ∀ c ∈ cs, flatA c = true
  | [], _, c, hc => by simp at hc
  | c :: cs, hf, d, hd => by
    simp only [flatA.flatL, Bool.and_eq_true] at hf
    rcases List.mem_cons.1 hd with rfl | hd
    · exact hf.1
    · exact flatL_mem hf.2 d hd
theorem flat_avr {w' : World} {Z' : Nat → Prop} {L' : Nat → Blk} {s' : Nat → Value} {q : Nat} : ∀ {a : AV} {x : Value}, AVR w Z L s a x → flatA a = true → (∀ r ∈ a.ids, L' (q + r) = L r ∧ s' (q + r) = s r ∧ ∀ sz rows, L r ≠ .still sz rows) → AVR w' Z' L' s' (a.ren (sh q)) x := by
  intro a x h
  induction h with
  | v x => intro _ _; exact .v x
  | own r x e sz rows hL hx hn =>
    intro _ hh
    obtain ⟨h1, h2, h3⟩ := hh r (by simp [AV.ids])
    exact .own _ x e sz rows (by rw [h1, hL]) (by rw [h2, hx]) (by rw [h2]; exact hn)
  | ownOff r x e sz rows hL hx hn =>
    intro _ hh
    obtain ⟨h1, h2, h3⟩ := hh r (by simp [AV.ids])
    exact .ownOff _ x e sz rows (by rw [h1, hL]) (by rw [h2, hx]) (by rw [h2]; exact hn)
  | ownTr r x st e sz cols rows hL hx hn =>
    intro _ hh
    obtain ⟨h1, h2, h3⟩ := hh r (by simp [AV.ids])
    exact .ownTr _ x st e sz cols rows (by rw [h1, hL]) (by rw [h2, hx]) (by rw [h2]; exact hn)
  | ownStill r x sz rows hL hx ho =>
    intro _ hh
    obtain ⟨h1, h2, h3⟩ := hh r (by simp [AV.ids])
    exact .ownStill _ x sz rows (by rw [h1, hL]) (by rw [h2, hx]) ho
  | ownDead r x hL ho =>
    intro _ hh
    obtain ⟨h1, h2, h3⟩ := hh r (by simp [AV.ids])
    exact .ownDead _ x (by rw [h1, hL]) ho
  | sub r lo hi x e sz rows hL a b A n c hx hn hc hA =>
    intro _ hh
    obtain ⟨h1, h2, h3⟩ := hh r (by simp [AV.ids])
    exact .sub _ lo hi x e sz rows (by rw [h1, hL]) a b A n c hx hn hc (by rw [h2]; exact hA)
  | subOff r lo hi x e sz rows hL a b A n c hx hn hc hA =>
    intro _ hh
    obtain ⟨h1, h2, h3⟩ := hh r (by simp [AV.ids])
    exact .subOff _ lo hi x e sz rows (by rw [h1, hL]) a b A n c hx hn hc (by rw [h2]; exact hA)
  | subTr r lo hi x st e sz cols rows hL a b A n c hx hn hc hA =>
    intro _ hh
    obtain ⟨h1, h2, h3⟩ := hh r (by simp [AV.ids])
    exact .subTr _ lo hi x st e sz cols rows (by rw [h1, hL]) a b A n c hx hn hc (by rw [h2]; exact hA)
  | subStill r lo hi x sz rows hL a b hx =>
    intro _ hh
    exact absurd hL ((hh r (by simp [AV.ids])).2.2 _ _)
  | subDead r lo hi x hL ho =>
    intro _ hh
    obtain ⟨h1, h2, h3⟩ := hh r (by simp [AV.ids])
    exact .subDead _ lo hi x (by rw [h1, hL]) ho
  | agg cs vs hl _ ih =>
    intro hf hh
    simp only [AV.ren]
    rw [renL_map]
    have hfl : ∀ c ∈ cs, flatA c = true := flatL_mem (by simpa only [flatA] using hf)
    refine .agg _ vs (by simp [hl]) fun i a b ha hb => ?_
    rw [List.getElem?_map] at ha
    cases hc : cs[i]? with
    | none => simp [hc] at ha
    | some c =>
      simp [hc] at ha; subst ha
      have hm := List.mem_of_getElem? hc
      exact ih i c b hc hb (hfl c hm) fun r hr => hh r (by simp only [AV.ids]; exact (memL _ _).2 ⟨c, hm, hr⟩)
  | tup cs vs hl _ ih =>
    intro hf hh
    simp only [AV.ren]
    rw [renL_map]
    have hfl : ∀ c ∈ cs, flatA c = true := flatL_mem (by simpa only [flatA] using hf)
    refine .tup _ vs (by simp [hl]) fun i a b ha hb => ?_
    rw [List.getElem?_map] at ha
    cases hc : cs[i]? with
    | none => simp [hc] at ha
    | some c =>
      simp [hc] at ha; subst ha
      have hm := List.mem_of_getElem? hc
      exact ih i c b hc hb (hfl c hm) fun r hr => hh r (by simp only [AV.ids]; exact (memL _ _).2 ⟨c, hm, hr⟩)
  | _ => intro hf; cases hf
theorem PureOk.call {f : FuncId} {g : PC} (C : PureOk P f g) : CallOk P f (pureAbs g) := by
  refine ⟨C.there, fun F W0 w L s Z args vs q out hH hargs hab hc hfree => ?_, fun L L' args q hn => ?_, fun L args q out hab p hp => ?_⟩
  · unfold pureAbs at hab
    split at hab
    · rename_i c r bs hg
      split at hab
      · rename_i hlen
        simp at hab; subst hab
        have hargs' : ARel w (Zold w) (fun _ => .none) (fun _ => nilS) (args.map (nrm L)) vs := ⟨by simp [hargs.1], fun i x y hx hy => by
          rw [List.getElem?_map] at hx
          cases hz : args[i]? with
          | none => simp [hz] at hx
          | some z => simp [hz] at hx; subst hx; exact nrm_ok hH (hargs.2 i z y hz hy)⟩
        obtain ⟨⟨hf1, hf2, hf3⟩, hcall⟩ := C.does w _ vs c r bs hargs' hg hc
        refine hcall.mono ?_
        rintro e w' ⟨v, s1, Z1, rfl, H1, hr⟩
        let L' := ups L (hpAt q bs)
        let s' : Nat → Value := fun k => if q ≤ k ∧ k < q + bs.length then s1 (k - q) else s k
        have hL' : ∀ k, L' k = if q ≤ k ∧ k < q + bs.length then bs.getD (k - q) .none else L k := fun k => ups_hpAt bs q k L
        have hold : ∀ k, ¬ (q ≤ k ∧ k < q + bs.length) → L' k = L k ∧ s' k = s k := fun k hk => ⟨by rw [hL', if_neg hk], by simp only [s']; rw [if_neg hk]⟩
        have hnew : ∀ k, k < bs.length → L' (q + k) = bs.getD k .none ∧ s' (q + k) = s1 k ∧ lk (hpAt 0 bs) k = bs.getD k .none := fun k hk => ⟨by rw [hL', if_pos (by omega), Nat.add_sub_cancel_left], by simp only [s']; rw [if_pos (by omega), Nat.add_sub_cancel_left], by rw [lk_hpAt]; simp⟩
        have hw : ∀ b, b < w.heap.size → w'.heap[b]? = w.heap[b]? := fun b hb => H1.kept.block b hb fun h => h
        have hE : Ext w Z L s w' Z L' s' := by
          refine ⟨fun _ h => h, fun b hb => hw b (hH.zin b hb), fun k => ?_, fun k sz' rows' h1 h2 => ?_⟩
          · by_cases hk : q ≤ k ∧ k < q + bs.length
            · exact .fresh (hfree k hk.1 (by omega))
            · rw [(hold k hk).1, (hold k hk).2]; exact Like.refl _ _
          · by_cases hk : q ≤ k ∧ k < q + bs.length
            · rw [hfree k hk.1 (by omega)] at h1; exact h1.elim
            · rw [(hold k hk).1] at h2; rw [h2] at h1; exact h1.elim
        have hgb : ∀ k, k < bs.length → flatB (bs.getD k .none) := fun k hk => by
          simp only [List.getD, List.getElem?_eq_getElem hk, Option.getD_some]
          exact hf2 _ (List.getElem_mem hk)
        have hnb : ∀ k, k < bs.length → BlkR w' Z L' s' (bs.getD k .none) (s1 k) := fun k hk => by
          have h1 := H1.blk k
          rw [(hnew k hk).2.2] at h1
          have h2 := hgb k hk
          generalize bs.getD k .none = b at h1 h2
          cases b with
          | sl e sz rows =>
            obtain ⟨k1, k2, xs, k3, k4⟩ := h1
            refine ⟨k1, k2, xs, k3, fun i j d hd => ?_⟩
            obtain ⟨u, hu, hr⟩ := k4 i j d hd
            refine ⟨u, hu, flat_rep ?_ hr⟩
            unfold rowAt at hd
            cases hrow : rows[i]? with
            | none => simp [hrow] at hd
            | some row => simp [hrow] at hd; exact h2 row (List.mem_of_getElem? hrow) d (List.mem_of_getElem? hd)
          | tr st e sz cols rows =>
            cases st with
            | whole => obtain ⟨xs, u, k1, -⟩ := h1; exact ⟨xs, u, k1, fun i j q hq => by cases hq⟩
            | _ => exact h2.elim
          | _ => exact h2.elim
        have oldF : ∀ k g, (L k).live → Fp w' (L k) (s k) g → Fp w (L k) (s k) g := fun k g hl hg => hg.same fun g' hg' => hw g' (hH.mineF k g' hl hg').2
        have split_ : ∀ k, (q ≤ k ∧ k < q + bs.length ∧ ∃ j, k = q + j ∧ j < bs.length) ∨ ¬ (q ≤ k ∧ k < q + bs.length) := fun k => by
          by_cases hk : q ≤ k ∧ k < q + bs.length
          · exact .inl ⟨hk.1, hk.2, k - q, by omega, by omega⟩
          · exact .inr hk
        have hnew_ge : ∀ j g, j < bs.length → (L' (q + j)).live → Fp w' (L' (q + j)) (s' (q + j)) g → w.heap.size ≤ g ∧ g < w'.heap.size := fun j g hj hl hg => by
          rw [(hnew j hj).2.1] at hg
          rw [(hnew j hj).1, ← (hnew j hj).2.2] at hl hg
          have := H1.mineF j g hl hg
          exact ⟨this.1.resolve_left fun h => h, this.2⟩
        refine ⟨v, s', Z, rfl, ⟨fun k => ?_, fun k k' g l1 l2 g1 g2 => ?_, fun k g l1 g1 => ?_, fun k g l1 g1 => ?_, fun b hb => Nat.lt_of_lt_of_le (hH.zin b hb) H1.kept.size, ?_, hH.zsrc, hH.zhas⟩, hE, flat_avr hr hf1 fun k hk => ?_⟩
        · rcases split_ k with ⟨_, _, j, rfl, hj⟩ | hk
          · rw [(hnew j hj).2.1, show ups L (hpAt q bs) (q + j) = bs.getD j .none from (hnew j hj).1]
            exact hnb j hj
          · rw [(hold k hk).2, show ups L (hpAt q bs) k = L k from (hold k hk).1]
            exact (hH.blk k).mono hE fun hl g hg => hw g (hH.mineF k g hl hg).2
        · rcases split_ k with ⟨_, _, j, rfl, hj⟩ | hk <;> rcases split_ k' with ⟨_, _, j', rfl, hj'⟩ | hk'
          · have e1 := (hnew j hj)
            have e2 := (hnew j' hj')
            have l1' : (lk (hpAt 0 bs) j).live := by rw [e1.2.2, ← e1.1]; exact l1
            have l2' : (lk (hpAt 0 bs) j').live := by rw [e2.2.2, ← e2.1]; exact l2
            have g1' : Fp w' (lk (hpAt 0 bs) j) (s1 j) g := by rw [e1.2.2, ← e1.1, ← e1.2.1]; exact g1
            have g2' : Fp w' (lk (hpAt 0 bs) j') (s1 j') g := by rw [e2.2.2, ← e2.1, ← e2.2.1]; exact g2
            rw [H1.sepF j j' g l1' l2' g1' g2']
          · have h1 := hnew_ge j g hj l1 g1
            have e2 := hold k' hk'
            have l2' : (L k').live := by rw [← e2.1]; exact l2
            have g2' : Fp w' (L k') (s k') g := by rw [← e2.1, ← e2.2]; exact g2
            have := (hH.mineF k' g l2' (oldF k' g l2' g2')).2
            omega
          · have h1 := hnew_ge j' g hj' l2 g2
            have e2 := hold k hk
            have l1' : (L k).live := by rw [← e2.1]; exact l1
            have g1' : Fp w' (L k) (s k) g := by rw [← e2.1, ← e2.2]; exact g1
            have := (hH.mineF k g l1' (oldF k g l1' g1')).2
            omega
          · have e1 := hold k hk
            have e2 := hold k' hk'
            have l1' : (L k).live := by rw [← e1.1]; exact l1
            have g1' : Fp w' (L k) (s k) g := by rw [← e1.1, ← e1.2]; exact g1
            have l2' : (L k').live := by rw [← e2.1]; exact l2
            have g2' : Fp w' (L k') (s k') g := by rw [← e2.1, ← e2.2]; exact g2
            exact hH.sepF k k' g l1' l2' (oldF k g l1' g1') (oldF k' g l2' g2')
        · rcases split_ k with ⟨_, _, j, rfl, hj⟩ | hk
          · intro hz
            have h1 := hnew_ge j g hj l1 g1
            have := hH.zin g hz
            omega
          · have e1 := hold k hk
            have l1' : (L k).live := by rw [← e1.1]; exact l1
            have g1' : Fp w' (L k) (s k) g := by rw [← e1.1, ← e1.2]; exact g1
            exact hH.nzF k g l1' (oldF k g l1' g1')
        · rcases split_ k with ⟨_, _, j, rfl, hj⟩ | hk
          · have h1 := hnew_ge j g hj l1 g1
            exact ⟨.inr (Nat.le_trans hH.kept.size h1.1), h1.2⟩
          · have e1 := hold k hk
            have l1' : (L k).live := by rw [← e1.1]; exact l1
            have g1' : Fp w' (L k) (s k) g := by rw [← e1.1, ← e1.2]; exact g1
            have := hH.mineF k g l1' (oldF k g l1' g1')
            exact ⟨this.1, Nat.lt_of_lt_of_le this.2 H1.kept.size⟩
        · have k0 := hH.kept
          have k1 := H1.kept
          exact ⟨k1.os.trans k0.os, k1.tape.trans k0.tape, k1.output.trans k0.output, Nat.le_trans k0.size k1.size, fun b hb hF => (hw b (Nat.lt_of_lt_of_le hb k0.size)).trans (k0.block b hb hF)⟩
        · have hk' := hf3 k hk
          have e1 := hnew k hk'
          refine ⟨by rw [show ups L (hpAt q bs) (q + k) = _ from e1.1, e1.2.2], e1.2.1, fun sz rows hst => ?_⟩
          have := hgb k hk'
          rw [← e1.2.2, hst] at this
          exact this
      · cases hab
    · cases hab
  · unfold pureAbs
    have : args.map (nrm L') = args.map (nrm L) := List.map_congr_left fun x hx => nrm_near fun r hr => hn r (List.mem_flatMap.2 ⟨r, (memL _ _).2 ⟨x, hx, hr⟩, by simp⟩)
    rw [this]
  · unfold pureAbs at hab
    split at hab
    · rename_i c r bs hg
      split at hab
      · rename_i hlen
        simp at hab; subst hab
        right
        have key : ∀ (bs : List Blk) (q : Nat) p, p ∈ hpAt q bs → q ≤ p.1 ∧ p.1 < q + bs.length := by
          intro bs
          induction bs with
          | nil => intro q p hp; simp [hpAt] at hp
          | cons b bs ih =>
            intro q p hp
            simp only [hpAt, List.mem_cons] at hp
            rcases hp with rfl | hp
            · simp
            · have := ih (q + 1) p hp
              simp; omega
        have := key bs q p hp
        omega
      · cases hab
    · cases hab
def Done (P : Program) (fn : Func) (r : AV) (bs : List Blk) : Post := fun e tm hp _ => match e with
  | .normal => ∃ xs p, resL P hp tm fn.results.toList = some xs ∧ Fits [packA xs] hp [r] (hpAt 0 bs) p
  | .ret => ∃ xs p, resL P hp tm fn.results.toList = some xs ∧ Fits [packA xs] hp [r] (hpAt 0 bs) p
  | _ => False
theorem PureOk.of_vc {G : List (FuncId × Abs)} (hG : ∀ p ∈ G, CallOk P p.1 p.2) (hm : P.follows .mixedOrders = true) {f : FuncId} {fn : Func} {c : Code} {g : PC} (hf : P.funcs[f]? = some fn) (hname : (fn.name == "runtime.NumGoroutine") = false) (hb : fn.body = some c)
    (h : ∀ args cnd r bs, g args = some (cnd, r, bs) → cnd → (flatA r = true ∧ (∀ b ∈ bs, flatB b) ∧ (∀ k ∈ r.ids, k < bs.length)) ∧ ∃ args' : List AV, args'.length = args.length ∧ (∀ w vs, ARel w (Zold w) (fun _ => .none) (fun _ => nilS) args vs → ARel w (Zold w) (fun _ => .none) (fun _ => nilS) args' vs) ∧
      vc P G [] c (Done P fn r bs) (args' ++ List.replicate (fn.ntmps - args'.length) (.v undef)) [] 0) : PureOk P f g := by
  refine ⟨⟨fn, c, hf, hname, hb⟩, fun w args vs cnd r bs hargs hg hc => ?_⟩
  obtain ⟨hflat, args', hl, hconv, hvc⟩ := h args cnd r bs hg hc
  refine ⟨hflat, calls_of_wp hf hb ?_⟩
  have ha := hconv w vs hargs
  refine vc_ok (S := []) rfl (F := fun _ => False) (W0 := ⟨w, Zold w⟩) hG hm c _ _ [] 0 _ w _ hvc ⟨fun _ => nilS, Zold w, ⟨fun r => trivial, fun r r' g h1 => h1.elim, fun r g h1 => h1.elim, fun r g h1 => h1.elim, fun b hb => hb, ⟨rfl, rfl, rfl, Nat.le_refl _, fun _ _ _ => rfl⟩, fun b hb => .inl hb, fun b hb => hb⟩, ⟨?_, fun i x y hx hy => ?_, rfl⟩, fun k _ => rfl, fun p hp => by simp at hp⟩ fun e tm' hp' n' a' w' hk hB => ?_
  · simp [ha.1]
  · by_cases hi : i < args'.length
    · rw [List.getElem?_append_left hi] at hx
      rw [Array.getElem?_append_left (by simp [ha.1]; exact hi)] at hy
      exact ha.2 i x y hx (by simpa using hy)
    · rw [List.getElem?_append_right (by omega)] at hx
      rw [Array.getElem?_append_right (by simp [ha.1]; omega)] at hy
      rw [List.getElem?_replicate] at hx
      rw [Array.getElem?_replicate] at hy
      split at hx
      · simp at hx; subst hx
        split at hy
        · simp at hy; subst hy; exact .v _
        · cases hy
      · cases hx
  · obtain ⟨s, Z, h1, h2, h3, -⟩ := hB
    have fin : (∃ xs p, resL P hp' tm' fn.results.toList = some xs ∧ Fits [packA xs] hp' [r] (hpAt 0 bs) p) → a'.defers = [] ∧ ∃ v, (results fn a'.tmps).run P w' = .ok v w' ∧ ∃ v' s Z, Ending.returned v = .returned v' ∧ HR (fun _ => False) ⟨w, Zold w⟩ w' (lk (hpAt 0 bs)) s Z ∧ AVR w' Z (lk (hpAt 0 bs)) s r v' := by
      rintro ⟨xs, p, hx, hfit⟩
      obtain ⟨v, k1, k2⟩ := res_ok (P := P) h1 h2 hx
      exact ⟨h2.defers, v, k1, v, sRen (rn p) s, Z, rfl, h1.fits hfit, AVR.fits hfit (i := 0) rfl fun z hz => by simp at hz; subst hz; exact k2⟩
    cases e with
    | normal => exact fin hk
    | ret => exact fin hk
    | _ => exact hk.elim
end
end Go.Proofs.Ytkfjaeoehhakpaa
namespace Go.Proofs.Ytkfjaeoehhakpaa
open Go.RowKit
def seqK (P : Program) (G : List (FuncId × Abs)) (S0 : List Nat) (b : Code) (K : Post) : Post := fun e tm hp n => match e with | .normal => vc P G S0 b K tm hp n | e => K e tm hp n
def blkK (id : Nat) (K : Post) : Post := fun e tm hp n => match e with | .exit j => if j = id then K .normal tm hp n else K (.exit j) tm hp n | e => K e tm hp n
def regK (l : List Oper) (dr : Bool) (n : Nat) (K : Post) : List AV → HP → List FP → Prop := fun tm hp fps => (if dr then drawOk l.toArray n fps = true else True) ∧ K .normal tm hp (n + 16 * l.length)
def condK (x : Option Bool) (P : Program) (G : List (FuncId × Abs)) (S0 : List Nat) (c : Operand) (a b : Code) (K : Post) (tm : List AV) (hp : HP) (n : Nat) : Prop := match x with
  | some x => if x = true then vc P G S0 a K (refn tm c true) hp n else vc P G S0 b K (refn tm c false) hp n
  | none => False
def gateK (g : Gate) (P : Program) (G : List (FuncId × Abs)) (ds : List (Option Tmp)) (dr : Bool) (o : Oper) (rest : List Oper) (q : Nat) (tm : List AV) (hp : HP) (acc : List FP) (K : List AV → HP → List FP → Prop) : Prop := match g with
  | .go => vcEx P G ds dr o rest q tm hp acc K
  | .skip => vcOps P G ds dr rest (q + 16) (putT tm o.dst (.v undef)) hp (acc ++ [fpD P G dr o tm hp ⟨True, .v undef, []⟩]) K
  | .ask t b want => if b = want then vcEx P G ds dr o rest q (tm.set t (.v (.bool want))) hp acc K
      else vcOps P G ds dr rest (q + 16) (putT (tm.set t (.v (.bool (!want)))) o.dst (.v undef)) hp (acc ++ [fpD P G dr o (tm.set t (.v (.bool (!want)))) hp ⟨True, .v undef, []⟩]) K
  | .stuck => False
def pickK (x : Option Bool) (P : Program) (G : List (FuncId × Abs)) (ds : List (Option Tmp)) (dr : Bool) (c a b : Operand) (o : Oper) (rest : List Oper) (q : Nat) (tm : List AV) (hp : HP) (acc : List FP) (K : List AV → HP → List FP → Prop) : Prop := match x with
  | some x => if x = true then vcOps P G ds dr rest (q + 16) (putT (refn tm c true) o.dst (evA (refn tm c true) a)) hp (acc ++ [fpD P G dr o (refn tm c true) hp ⟨True, evA (refn tm c true) a, []⟩]) K
      else vcOps P G ds dr rest (q + 16) (putT (refn tm c false) o.dst (evA (refn tm c false) b)) hp (acc ++ [fpD P G dr o (refn tm c false) hp ⟨True, evA (refn tm c false) b, []⟩]) K
  | none => False
def exK (out : Option Out) (P : Program) (G : List (FuncId × Abs)) (ds : List (Option Tmp)) (dr : Bool) (o : Oper) (rest : List Oper) (q : Nat) (tm : List AV) (hp : HP) (acc : List FP) (K : List AV → HP → List FP → Prop) : Prop := match out with
  | some out => out.c ∧ (out.ups.all fun p => decide (p.1 < q + 16)) = true ∧ vcOps P G ds dr rest (q + 16) (putT tm o.dst out.dst) (upsl hp out.ups) (acc ++ [fpD P G dr o tm hp out]) K
  | none => False
def callK (abs : Option (FuncId × Abs)) (args : List AV) (L : Nat → Blk) (q : Nat) : Option Out := match abs with | some p => p.2 args L q | none => none
def gateV (t : Nat) (want : Bool) (x : AV) : Gate := match x with
  | .v (.bool b) => .ask t b want
  | .v (.tuple _) => .skip
  | _ => .stuck
def gateS (x : Option Nat) (tm : List AV) (want : Bool) : Gate := match x with
  | none => .skip
  | some t => gateV t want (tm.getD t (.v undef))
theorem gate_none (ds : List (Option Tmp)) (tm : List AV) : gate ds tm none = .go := rfl
theorem gate_some (ds : List (Option Tmp)) (tm : List AV) (j : Nat) (want : Bool) : gate ds tm (some (j, want)) = gateS (ds.getD j none) tm want := rfl
theorem gateS_none (tm : List AV) (want : Bool) : gateS none tm want = .skip := rfl
theorem gateS_some (t : Nat) (tm : List AV) (want : Bool) : gateS (some t) tm want = gateV t want (tm.getD t (.v undef)) := rfl
theorem gateV_bool (t : Nat) (b want : Bool) : gateV t want (.v (.bool b)) = .ask t b want := rfl
theorem gateV_undef (t : Nat) (want : Bool) : gateV t want (.v undef) = .skip := rfl
section
variable (P : Program) (G : List (FuncId × Abs)) (S0 : List Nat) (K : Post) (tm : List AV) (hp : HP) (n : Nat) (a b : Code)
theorem e_skip : vc P G S0 .skip K tm hp n = K .normal tm hp n := by rw [vc]
theorem e_label (l : Nat) : vc P G S0 (.label l) K tm hp n = K .normal tm hp n := by rw [vc]
theorem e_ret : vc P G S0 .ret K tm hp n = K .ret tm hp n := by rw [vc]
theorem e_exit (id : Nat) : vc P G S0 (.exit id) K tm hp n = K (.exit id) tm hp n := by rw [vc]
theorem e_seq : vc P G S0 (.seq a b) K tm hp n = vc P G S0 a (seqK P G S0 b K) tm hp n := by rw [vc]; rfl
theorem e_cond (c : Operand) : vc P G S0 (.cond c a b) K tm hp n = condK (boolOf (evA tm c)) P G S0 c a b K tm hp n := by rw [vc]; rfl
theorem e_block (id : Nat) : vc P G S0 (.block id a) K tm hp n = vc P G S0 a (blkK id K) tm hp n := by rw [vc]; rfl
theorem e_region (id : Nat) (l : List Oper) (dr : Bool) : vc P G S0 (.region id l.toArray dr) K tm hp n = vcOps P G (dstsOf l) dr l n tm hp [] (regK l dr n K) := by rw [vc_region]; rfl
theorem seqK_normal : seqK P G S0 b K .normal tm hp n = vc P G S0 b K tm hp n := rfl
theorem seqK_ret : seqK P G S0 b K .ret tm hp n = K .ret tm hp n := rfl
theorem seqK_exit (id : Nat) : seqK P G S0 b K (.exit id) tm hp n = K (.exit id) tm hp n := rfl
theorem blkK_normal (id : Nat) : blkK id K .normal tm hp n = K .normal tm hp n := rfl
theorem blkK_ret (id : Nat) : blkK id K .ret tm hp n = K .ret tm hp n := rfl
theorem blkK_exit (id j : Nat) : blkK id K (.exit j) tm hp n = if j = id then K .normal tm hp n else K (.exit j) tm hp n := rfl
theorem condK_some (x : Bool) (c : Operand) : condK (some x) P G S0 c a b K tm hp n = if x = true then vc P G S0 a K (refn tm c true) hp n else vc P G S0 b K (refn tm c false) hp n := rfl
theorem regK_true (l : List Oper) (fps : List FP) : regK l true n K tm hp fps = (drawOk l.toArray n fps = true ∧ K .normal tm hp (n + 16 * l.length)) := by simp [regK]
theorem regK_false (l : List Oper) (fps : List FP) : regK l false n K tm hp fps = K .normal tm hp (n + 16 * l.length) := by simp [regK]
end
section
variable (P : Program) (G : List (FuncId × Abs)) (ds : List (Option Tmp)) (dr : Bool) (o : Oper) (rest : List Oper) (q : Nat) (tm : List AV) (hp : HP) (acc : List FP) (K : List AV → HP → List FP → Prop)
theorem e_nil : vcOps P G ds dr [] q tm hp acc K = K tm hp acc := by rw [vcOps]
theorem e_cons : vcOps P G ds dr (o :: rest) q tm hp acc K = gateK (gate ds tm o.guard) P G ds dr o rest q tm hp acc K := by rw [vcOps]; rfl
theorem gateK_go : gateK .go P G ds dr o rest q tm hp acc K = vcEx P G ds dr o rest q tm hp acc K := rfl
theorem gateK_skip : gateK .skip P G ds dr o rest q tm hp acc K = vcOps P G ds dr rest (q + 16) (putT tm o.dst (.v undef)) hp (acc ++ [fpD P G dr o tm hp ⟨True, .v undef, []⟩]) K := rfl
theorem gateK_ask (t : Nat) (b want : Bool) : gateK (.ask t b want) P G ds dr o rest q tm hp acc K = if b = want then vcEx P G ds dr o rest q (tm.set t (.v (.bool want))) hp acc K
      else vcOps P G ds dr rest (q + 16) (putT (tm.set t (.v (.bool (!want)))) o.dst (.v undef)) hp (acc ++ [fpD P G dr o (tm.set t (.v (.bool (!want)))) hp ⟨True, .v undef, []⟩]) K := rfl
theorem pickK_some (c a b : Operand) (x : Bool) : pickK (some x) P G ds dr c a b o rest q tm hp acc K = if x = true then vcOps P G ds dr rest (q + 16) (putT (refn tm c true) o.dst (evA (refn tm c true) a)) hp (acc ++ [fpD P G dr o (refn tm c true) hp ⟨True, evA (refn tm c true) a, []⟩]) K
      else vcOps P G ds dr rest (q + 16) (putT (refn tm c false) o.dst (evA (refn tm c false) b)) hp (acc ++ [fpD P G dr o (refn tm c false) hp ⟨True, evA (refn tm c false) b, []⟩]) K := rfl
theorem exK_some (c : Prop) (d : AV) (u : List (Nat × Blk)) : exK (some ⟨c, d, u⟩) P G ds dr o rest q tm hp acc K = (c ∧ (u.all fun p => decide (p.1 < q + 16)) = true ∧ vcOps P G ds dr rest (q + 16) (putT tm o.dst d) (upsl hp u) (acc ++ [fpD P G dr o tm hp ⟨c, d, u⟩]) K) := rfl
variable (d : Option Tmp) (ty : TypeId) (pos : String) (af : Array Edge) (gd : Option (Nat × Bool))
theorem x_pick (c a b : Operand) : vcEx P G ds dr ⟨d, .pick c a b, ty, pos, af, gd⟩ rest q tm hp acc K = pickK (boolOf (evA tm c)) P G ds dr c a b ⟨d, .pick c a b, ty, pos, af, gd⟩ rest q tm hp acc K := by rw [vcEx]; rfl
theorem x_move (x : Operand) : vcEx P G ds dr ⟨d, .move x, ty, pos, af, gd⟩ rest q tm hp acc K = exK (some ⟨True, evA tm x, []⟩) P G ds dr ⟨d, .move x, ty, pos, af, gd⟩ rest q tm hp acc K := by rw [vcEx]; rfl
theorem x_assign (x : Operand) : vcEx P G ds dr ⟨d, .assign x, ty, pos, af, gd⟩ rest q tm hp acc K = exK (some ⟨True, evA tm x, []⟩) P G ds dr ⟨d, .assign x, ty, pos, af, gd⟩ rest q tm hp acc K := by rw [vcEx]; rfl
theorem x_alloc (T : TypeId) : vcEx P G ds dr ⟨d, .alloc T, ty, pos, af, gd⟩ rest q tm hp acc K = exK (oAlloc P T q) P G ds dr ⟨d, .alloc T, ty, pos, af, gd⟩ rest q tm hp acc K := by rw [vcEx]; rfl
theorem x_box (T : TypeId) (x : Operand) : vcEx P G ds dr ⟨d, .box T x, ty, pos, af, gd⟩ rest q tm hp acc K = exK (oBox T (evA tm x) q) P G ds dr ⟨d, .box T x, ty, pos, af, gd⟩ rest q tm hp acc K := by rw [vcEx]; rfl
theorem x_build (T : TypeId) (ps : Array (Nat × Operand)) : vcEx P G ds dr ⟨d, .build T ps, ty, pos, af, gd⟩ rest q tm hp acc K = exK (oBuild P T (ps.toList.map fun p => (p.1, evA tm p.2))) P G ds dr ⟨d, .build T ps, ty, pos, af, gd⟩ rest q tm hp acc K := by rw [vcEx]; rfl
theorem x_buildSlice (T : TypeId) (m : Nat) (ps : Array (Nat × Operand)) : vcEx P G ds dr ⟨d, .buildSlice T m ps, ty, pos, af, gd⟩ rest q tm hp acc K = exK (oBuildSliceQ P (treeMode G) (lk hp) T m (ps.toList.map fun p => (p.1, evA tm p.2)) q) P G ds dr ⟨d, .buildSlice T m ps, ty, pos, af, gd⟩ rest q tm hp acc K := by rw [vcEx]; rfl
theorem x_load (T : TypeId) (x : Operand) : vcEx P G ds dr ⟨d, .load T x, ty, pos, af, gd⟩ rest q tm hp acc K = exK (oLoadQ P (lk hp) T (evA tm x) q) P G ds dr ⟨d, .load T x, ty, pos, af, gd⟩ rest q tm hp acc K := by rw [vcEx]; rfl
theorem x_store (T : TypeId) (x y : Operand) : vcEx P G ds dr ⟨d, .store T x y, ty, pos, af, gd⟩ rest q tm hp acc K = exK (if 0 < szOf P T then oStoreQ P (lk hp) T (evA tm y) (evA tm x) else none) P G ds dr ⟨d, .store T x y, ty, pos, af, gd⟩ rest q tm hp acc K := by rw [vcEx]; rfl
theorem x_binOp (op : BinOp) (T T' : TypeId) (x y : Operand) : vcEx P G ds dr ⟨d, .binOp op T x y T', ty, pos, af, gd⟩ rest q tm hp acc K = exK (oBin P op T (evA tm x) (evA tm y)) P G ds dr ⟨d, .binOp op T x y T', ty, pos, af, gd⟩ rest q tm hp acc K := by rw [vcEx]; rfl
theorem x_unOp (op : UnOp) (T : TypeId) (x : Operand) : vcEx P G ds dr ⟨d, .unOp op T x, ty, pos, af, gd⟩ rest q tm hp acc K = exK (oUn op (evA tm x)) P G ds dr ⟨d, .unOp op T x, ty, pos, af, gd⟩ rest q tm hp acc K := by rw [vcEx]; rfl
theorem x_convert (T T' : TypeId) (x : Operand) : vcEx P G ds dr ⟨d, .convert T T' x, ty, pos, af, gd⟩ rest q tm hp acc K = exK (oConvert P (lk hp) T T' (evA tm x)) P G ds dr ⟨d, .convert T T' x, ty, pos, af, gd⟩ rest q tm hp acc K := by rw [vcEx]; rfl
theorem x_makeSlice (T : TypeId) (x y : Operand) : vcEx P G ds dr ⟨d, .makeSlice T x y, ty, pos, af, gd⟩ rest q tm hp acc K = exK (oMake P T (evA tm x) (evA tm y) q) P G ds dr ⟨d, .makeSlice T x y, ty, pos, af, gd⟩ rest q tm hp acc K := by rw [vcEx]; rfl
theorem x_slice (T : TypeId) (x : Operand) (lo hi : Option Operand) : vcEx P G ds dr ⟨d, .slice T x lo hi none, ty, pos, af, gd⟩ rest q tm hp acc K = exK (oSliceE P (endMode G) (lk hp) T (evA tm x) (lo.map (evA tm)) (hi.map (evA tm)) q) P G ds dr ⟨d, .slice T x lo hi none, ty, pos, af, gd⟩ rest q tm hp acc K := by rw [vcEx]; rfl
theorem x_fieldAddr (T : TypeId) (x : Operand) (f : Nat) : vcEx P G ds dr ⟨d, .fieldAddr T x f, ty, pos, af, gd⟩ rest q tm hp acc K = exK (oFieldAddr P (lk hp) T (evA tm x) f) P G ds dr ⟨d, .fieldAddr T x f, ty, pos, af, gd⟩ rest q tm hp acc K := by rw [vcEx]; rfl
theorem x_field (T : TypeId) (x : Operand) (f : Nat) : vcEx P G ds dr ⟨d, .field T x f, ty, pos, af, gd⟩ rest q tm hp acc K = exK (oField P T (evA tm x) f) P G ds dr ⟨d, .field T x f, ty, pos, af, gd⟩ rest q tm hp acc K := by rw [vcEx]; rfl
theorem x_indexAddr (T : TypeId) (x i : Operand) : vcEx P G ds dr ⟨d, .indexAddr T x i, ty, pos, af, gd⟩ rest q tm hp acc K = exK (oIndexAddr P (lk hp) T (evA tm x) (evA tm i)) P G ds dr ⟨d, .indexAddr T x i, ty, pos, af, gd⟩ rest q tm hp acc K := by rw [vcEx]; rfl
theorem x_nilCheck (x : Operand) : vcEx P G ds dr ⟨d, .nilCheck x, ty, pos, af, gd⟩ rest q tm hp acc K = exK (oNil (lk hp) (evA tm x)) P G ds dr ⟨d, .nilCheck x, ty, pos, af, gd⟩ rest q tm hp acc K := by rw [vcEx]; rfl
theorem x_extract (x : Operand) (i : Nat) : vcEx P G ds dr ⟨d, .extract x i, ty, pos, af, gd⟩ rest q tm hp acc K = exK (oExtract (evA tm x) i) P G ds dr ⟨d, .extract x i, ty, pos, af, gd⟩ rest q tm hp acc K := by rw [vcEx]; rfl
theorem x_call (f : FuncId) (args : Array Operand) (ts : Array TypeId) : vcEx P G ds dr ⟨d, .call ⟨.value (.func f), args, ts⟩, ty, pos, af, gd⟩ rest q tm hp acc K = exK (callK (G.find? fun p => p.1 == f) (args.toList.map (evA tm)) (lk hp) q) P G ds dr ⟨d, .call ⟨.value (.func f), args, ts⟩, ty, pos, af, gd⟩ rest q tm hp acc K := by rw [vcEx]; rfl
theorem x_len (x : Operand) (T : TypeId) : vcEx P G ds dr ⟨d, .call ⟨.builtin .len, #[x], #[T]⟩, ty, pos, af, gd⟩ rest q tm hp acc K = exK (oLenQ P (lk hp) T (evA tm x)) P G ds dr ⟨d, .call ⟨.builtin .len, #[x], #[T]⟩, ty, pos, af, gd⟩ rest q tm hp acc K := by rw [vcEx]; rfl
theorem x_min (x y : Operand) (T T' : TypeId) : vcEx P G ds dr ⟨d, .call ⟨.builtin .min, #[x, y], #[T, T']⟩, ty, pos, af, gd⟩ rest q tm hp acc K = exK (oMin (evA tm x) (evA tm y)) P G ds dr ⟨d, .call ⟨.builtin .min, #[x, y], #[T, T']⟩, ty, pos, af, gd⟩ rest q tm hp acc K := by rw [vcEx]; rfl
theorem x_min3 (x y z : Operand) (T T' T2 : TypeId) : vcEx P G ds dr ⟨d, .call ⟨.builtin .min, #[x, y, z], #[T, T', T2]⟩, ty, pos, af, gd⟩ rest q tm hp acc K = exK (oMin3 (evA tm x) (evA tm y) (evA tm z)) P G ds dr ⟨d, .call ⟨.builtin .min, #[x, y, z], #[T, T', T2]⟩, ty, pos, af, gd⟩ rest q tm hp acc K := by rw [vcEx]; rfl
theorem x_max (x y : Operand) (T T' : TypeId) : vcEx P G ds dr ⟨d, .call ⟨.builtin .max, #[x, y], #[T, T']⟩, ty, pos, af, gd⟩ rest q tm hp acc K = exK (oMax (evA tm x) (evA tm y)) P G ds dr ⟨d, .call ⟨.builtin .max, #[x, y], #[T, T']⟩, ty, pos, af, gd⟩ rest q tm hp acc K := by rw [vcEx]; rfl
theorem x_copy (x y : Operand) (T T' : TypeId) : vcEx P G ds dr ⟨d, .call ⟨.builtin .copy, #[x, y], #[T, T']⟩, ty, pos, af, gd⟩ rest q tm hp acc K = exK (oCopy P (lk hp) T (evA tm x) (evA tm y)) P G ds dr ⟨d, .call ⟨.builtin .copy, #[x, y], #[T, T']⟩, ty, pos, af, gd⟩ rest q tm hp acc K := by rw [vcEx]; rfl
theorem x_append (x y : Operand) (T : TypeId) : vcEx P G ds dr ⟨d, .call ⟨.builtin .append, #[x, y], #[T, T]⟩, ty, pos, af, gd⟩ rest q tm hp acc K = exK (oAppendQ P (lk hp) T (evA tm x) (evA tm y) q) P G ds dr ⟨d, .call ⟨.builtin .append, #[x, y], #[T, T]⟩, ty, pos, af, gd⟩ rest q tm hp acc K := by
  rw [vcEx]
  simp only [oOp, if_true]
  rfl
theorem x_appendZ (x y : Operand) (T T' : TypeId) (hT : T ≠ T') : vcEx P G ds dr ⟨d, .call ⟨.builtin .append, #[x, y], #[T, T']⟩, ty, pos, af, gd⟩ rest q tm hp acc K = exK (oAppendZ P (lk hp) T T' (evA tm x) (evA tm y) q) P G ds dr ⟨d, .call ⟨.builtin .append, #[x, y], #[T, T']⟩, ty, pos, af, gd⟩ rest q tm hp acc K := by
  rw [vcEx]
  simp only [oOp, if_neg hT]
  rfl
end
theorem callK_some (f : FuncId) (abs : Abs) (args : List AV) (L : Nat → Blk) (q : Nat) : callK (some (f, abs)) args L q = abs args L q := rfl
theorem done_ret (P : Program) (fn : Func) (r : AV) (bs : List Blk) (tm : List AV) (hp : HP) (n : Nat) : Done P fn r bs .ret tm hp n = ∃ xs p, resL P hp tm fn.results.toList = some xs ∧ Fits [packA xs] hp [r] (hpAt 0 bs) p := rfl
theorem done_normal (P : Program) (fn : Func) (r : AV) (bs : List Blk) (tm : List AV) (hp : HP) (n : Nat) : Done P fn r bs .normal tm hp n = ∃ xs p, resL P hp tm fn.results.toList = some xs ∧ Fits [packA xs] hp [r] (hpAt 0 bs) p := rfl
end Go.Proofs.Ytkfjaeoehhakpaa
namespace Go.Proofs.Ytkfjaeoehhakpaa
open Go.RowKit
abbrev OC := List AV → List Blk → Option (Prop × AV × List Blk × List Blk)
def uniq : List Nat → List Nat
  | [] => []
  | r :: rs => r :: (uniq rs).filter fun k => k != r
def idxOf : List Nat → Nat → Nat
  | [], _ => 0
  | r :: rs, k => if k = r then 0 else idxOf rs k + 1
def bk (ids : List Nat) (q : Nat) (i : Nat) : Nat := if i < ids.length then ids.getD i 0 else q + (i - ids.length)
def Blk.liveB : Blk → Bool
  | .var .. | .sl .. | .tr .. | .off .. => true
  | _ => false
def zipB : List Nat → List Blk → HP
  | r :: rs, b :: bs => (r, b) :: zipB rs bs
  | _, _ => []
def ownAbs (g : OC) : Abs := fun args L q =>
  match g (args.map (AV.ren fun r => some (idxOf (uniq (AV.ids.idsL args)) r))) ((uniq (AV.ids.idsL args)).map L) with
  | some (c, r, B1, bs) =>
    if ((uniq (AV.ids.idsL args)).all fun k => (L k).liveB && (blkIds (L k)).isEmpty) = true ∧ bs.length ≤ 16 then some ⟨c, r.ren fun i => some (bk (uniq (AV.ids.idsL args)) q i), zipB (uniq (AV.ids.idsL args)) B1 ++ hpAt q bs⟩ else none
  | none => none
def likeB : Blk → Blk → Prop
  | .var T cs, .var T' cs' => T = T' ∧ cs'.length = cs.length
  | .sl e sz rows, .sl e' sz' rows' => e = e' ∧ sz = sz' ∧ rows'.length = rows.length
  | .tr st e sz cols rows, .tr st' e' sz' cols' rows' => st = st' ∧ e = e' ∧ sz = sz' ∧ cols = cols' ∧ rows'.length = rows.length
  | _, .dead => True
  | _, _ => False
def likeBs : List Blk → List Blk → Prop
  | [], [] => True
  | a :: xs, b :: bs => likeB a b ∧ likeBs xs bs
  | _, _ => False
structure OwnOk (P : Program) (f : FuncId) (g : OC) : Prop where
  there : ∃ fn c, P.funcs[f]? = some fn ∧ (fn.name == "runtime.NumGoroutine") = false ∧ fn.body = some c
  does : ∀ (w : World) (F Z0 : Nat → Prop) (s0 : Nat → Value) (args : List AV) (vs : List Value) (B0 : List Blk) (c : Prop) (r : AV) (B1 bs : List Blk), HR F ⟨w, Z0⟩ w (lk (hpAt 0 B0)) s0 Z0 → ARel w Z0 (lk (hpAt 0 B0)) s0 args vs →
    (∀ b ∈ B0, b.liveB = true) → g args B0 = some (c, r, B1, bs) → c →
    (likeBs B0 B1 ∧ (∀ b ∈ B1 ++ bs, (b.liveB = true ∨ b = .dead) ∧ blkIds b = []) ∧ (∀ k ∈ r.ids, k < B1.length + bs.length)) ∧
    Calls P f vs.toArray w fun e w' => ∃ v s Z, e = .returned v ∧ HR F ⟨w, Z0⟩ w' (lk (hpAt 0 (B1 ++ bs))) s Z ∧ (∀ i, i < B0.length → s i = s0 i) ∧ AVR w' Z (lk (hpAt 0 (B1 ++ bs))) s r v
section
variable {P : Program} {w : World} {Z : Nat → Prop} {L L' : Nat → Blk} {s s' : Nat → Value} {F : Nat → Prop} {W0 : Ent}
theorem AVR.moved {m : Nat → Nat} {a : AV} {x : Value} (h : AVR w Z L s a x) : (∀ r ∈ a.ids, L' (m r) = L r ∧ s' (m r) = s r) → AVR w Z L' s' (a.ren fun r => some (m r)) x := by
  induction h with
  | any x => intro _; exact .any x
  | mute x h => intro _; exact .mute x h
  | v x => intro _; exact .v x
  | l sz rows x h => intro _; exact .l sz rows x h
  | own r x e sz rows hL hx hn => intro hh; obtain ⟨h1, h2⟩ := hh r (by simp [AV.ids]); exact .own _ x e sz rows (by rw [h1, hL]) (by rw [h2, hx]) (by rw [h2]; exact hn)
  | ownOff r x e sz rows hL hx hn => intro hh; obtain ⟨h1, h2⟩ := hh r (by simp [AV.ids]); exact .ownOff _ x e sz rows (by rw [h1, hL]) (by rw [h2, hx]) (by rw [h2]; exact hn)
  | ownTr r x st e sz cols rows hL hx hn => intro hh; obtain ⟨h1, h2⟩ := hh r (by simp [AV.ids]); exact .ownTr _ x st e sz cols rows (by rw [h1, hL]) (by rw [h2, hx]) (by rw [h2]; exact hn)
  | subTr r lo hi x st e sz cols rows hL a b A n c hx hn hc hA => intro hh; obtain ⟨h1, h2⟩ := hh r (by simp [AV.ids]); exact .subTr _ lo hi x st e sz cols rows (by rw [h1, hL]) a b A n c hx hn hc (by rw [h2]; exact hA)
  | subOff r lo hi x e sz rows hL a b A n c hx hn hc hA => intro hh; obtain ⟨h1, h2⟩ := hh r (by simp [AV.ids]); exact .subOff _ lo hi x e sz rows (by rw [h1, hL]) a b A n c hx hn hc (by rw [h2]; exact hA)
  | eptrOff r i j x e sz rows hL g o n c hs hx => intro hh; obtain ⟨h1, h2⟩ := hh r (by simp [AV.ids]); exact .eptrOff _ i j x e sz rows (by rw [h1, hL]) g o n c (by rw [h2]; exact hs) hx
  | eptrTr r i j x st e sz cols rows hL g o n c hs hx => intro hh; obtain ⟨h1, h2⟩ := hh r (by simp [AV.ids]); exact .eptrTr _ i j x st e sz cols rows (by rw [h1, hL]) g o n c (by rw [h2]; exact hs) hx
  | ownStill r x sz rows hL hx ho => intro hh; obtain ⟨h1, h2⟩ := hh r (by simp [AV.ids]); exact .ownStill _ x sz rows (by rw [h1, hL]) (by rw [h2, hx]) ho
  | ownDead r x hL ho => intro hh; obtain ⟨h1, h2⟩ := hh r (by simp [AV.ids]); exact .ownDead _ x (by rw [h1, hL]) ho
  | sub r lo hi x e sz rows hL h1 h2 A n c hx hn hc hA => intro hh; obtain ⟨k1, k2⟩ := hh r (by simp [AV.ids]); exact .sub _ lo hi x e sz rows (by rw [k1, hL]) h1 h2 A n c hx hn hc (by rw [k2]; exact hA)
  | subStill r lo hi x sz rows hL h1 h2 hx => intro hh; obtain ⟨k1, k2⟩ := hh r (by simp [AV.ids]); exact .subStill _ lo hi x sz rows (by rw [k1, hL]) h1 h2 hx
  | subDead r lo hi x hL ho => intro hh; obtain ⟨k1, k2⟩ := hh r (by simp [AV.ids]); exact .subDead _ lo hi x (by rw [k1, hL]) ho
  | ptr r off x T cs hL g hs hx => intro hh; obtain ⟨k1, k2⟩ := hh r (by simp [AV.ids]); exact .ptr _ off x T cs (by rw [k1, hL]) g (by rw [k2, hs]) hx
  | ptrDead r off x hL ho => intro hh; obtain ⟨k1, k2⟩ := hh r (by simp [AV.ids]); exact .ptrDead _ off x (by rw [k1, hL]) ho
  | eptr r i j x e sz rows hL g o n c hs hx => intro hh; obtain ⟨k1, k2⟩ := hh r (by simp [AV.ids]); exact .eptr _ i j x e sz rows (by rw [k1, hL]) g o n c (by rw [k2, hs]) hx
  | eptrStill r i j x sz rows hL ho => intro hh; obtain ⟨k1, k2⟩ := hh r (by simp [AV.ids]); exact .eptrStill _ i j x sz rows (by rw [k1, hL]) ho
  | eptrDead r i j x hL ho => intro hh; obtain ⟨k1, k2⟩ := hh r (by simp [AV.ids]); exact .eptrDead _ i j x (by rw [k1, hL]) ho
  | rptr cells b off u h1 h2 h3 => intro _; exact .rptr cells b off u h1 h2 h3
  | agg cs vs hl _ ih =>
    intro hh
    simp only [AV.ren]
    rw [renL_map]
    refine .agg _ vs (by simp [hl]) fun i a b ha hb => ?_
    rw [List.getElem?_map] at ha
    cases hc : cs[i]? with
    | none => simp [hc] at ha
    | some c => simp [hc] at ha; subst ha; exact ih i c b hc hb fun r hr => hh r (by simp only [AV.ids]; exact (memL _ _).2 ⟨c, List.mem_of_getElem? hc, hr⟩)
  | tup cs vs hl _ ih =>
    intro hh
    simp only [AV.ren]
    rw [renL_map]
    refine .tup _ vs (by simp [hl]) fun i a b ha hb => ?_
    rw [List.getElem?_map] at ha
    cases hc : cs[i]? with
    | none => simp [hc] at ha
    | some c => simp [hc] at ha; subst ha; exact ih i c b hc hb fun r hr => hh r (by simp only [AV.ids]; exact (memL _ _).2 ⟨c, List.mem_of_getElem? hc, hr⟩)
theorem ren_noids {f : Nat → Option Nat} : ∀ (n : Nat) (a : AV), SizeOf.sizeOf a ≤ n → a.ids = [] → a.ren f = a := by
  intro n
  induction n with
  | zero => intro a ha; cases a <;> simp at ha <;> omega
  | succ n ih =>
    intro a ha h
    have list : ∀ cs : List AV, (∀ c ∈ cs, SizeOf.sizeOf c ≤ n) → AV.ids.idsL cs = [] → AV.ren.renL f cs = cs := by
      intro cs hcs hids
      rw [renL_map]
      rw [List.map_congr_left (g := id) fun c hc => ih c (hcs c hc) (by
        rcases hi : c.ids with _ | ⟨r, t⟩
        · rfl
        · have : r ∈ AV.ids.idsL cs := (memL _ _).2 ⟨c, hc, by rw [hi]; simp⟩
          rw [hids] at this; cases this)]
      simp
    cases a with
    | own r => simp [AV.ids] at h
    | sub r lo hi => simp [AV.ids] at h
    | ptr r o => simp [AV.ids] at h
    | eptr r i j => simp [AV.ids] at h
    | agg cs =>
      simp only [AV.ids] at h
      simp only [AV.ren]
      rw [list cs (fun c hc => by have := List.sizeOf_lt_of_mem hc; simp at ha; omega) h]
    | tup cs =>
      simp only [AV.ids] at h
      simp only [AV.ren]
      rw [list cs (fun c hc => by have := List.sizeOf_lt_of_mem hc; simp at ha; omega) h]
    | _ => rfl
theorem AVR.noids {a : AV} {x : Value} (h : AVR w Z L s a x) (hi : a.ids = []) : AVR w Z L' s' a x := by
  have := h.moved (m := id) (L' := L') (s' := s') fun r hr => by rw [hi] at hr; cases hr
  rwa [ren_noids _ a (Nat.le_refl _) hi] at this
theorem BlkR.noids {b : Blk} {v : Value} (h : BlkR w Z L s b v) (hi : blkIds b = []) : BlkR w Z L' s' b v := by
  cases b with
  | var T cs =>
    obtain ⟨g, vs, h1, h2, h3, h4⟩ := h
    refine ⟨g, vs, h1, h2, h3, fun i x y hx hy => ⟨(h4 i x y hx hy).1.noids ?_, (h4 i x y hx hy).2⟩⟩
    simp only [blkIds] at hi
    rcases hx' : x.ids with _ | ⟨r, t⟩
    · rfl
    · have : r ∈ AV.ids.idsL cs := (memL _ _).2 ⟨x, List.mem_of_getElem? hx, by rw [hx']; simp⟩
      rw [hi] at this; cases this
  | tr st e sz cols rows =>
    obtain ⟨xs, u, h1, -⟩ := h
    exact ⟨xs, u, h1, fun i j q hq => by subst hq; cases hi⟩
  | _ => exact h
theorem liveB_iff {b : Blk} : b.liveB = true ↔ b.live := by cases b <;> simp [Blk.liveB, Blk.live]
theorem uniq_nodup : ∀ l, (uniq l).Nodup
  | [] => List.nodup_nil
  | r :: rs => by
    rw [uniq, List.nodup_cons]
    exact ⟨fun h => by have := (List.mem_filter.1 h).2; simp at this, (uniq_nodup rs).filter _⟩
theorem uniq_mem : ∀ l k, k ∈ uniq l ↔ k ∈ l
  | [], k => by simp [uniq]
  | r :: rs, k => by
    rw [uniq, List.mem_cons, List.mem_filter, uniq_mem rs k, List.mem_cons]
    by_cases h : k = r <;> simp [h]
theorem idxOf_spec : ∀ (l : List Nat) (k : Nat), k ∈ l → idxOf l k < l.length ∧ l[idxOf l k]? = some k
  | [], k, h => by cases h
  | r :: rs, k, h => by
    simp only [idxOf]
    split
    · rename_i e; subst e; simp
    · rename_i e
      have := idxOf_spec rs k (by simpa [e] using h)
      simp only [List.length_cons, List.getElem?_cons_succ]
      exact ⟨by omega, this.2⟩
theorem ups_zipB : ∀ (ids : List Nat) (bs : List Blk) (L : Nat → Blk), ids.Nodup → bs.length = ids.length → ∀ k, ups L (zipB ids bs) k = if k ∈ ids then bs.getD (idxOf ids k) .none else L k
  | [], [], L, _, _, k => by simp [zipB, ups]
  | r :: ids, b :: bs, L, hn, hl, k => by
    simp only [zipB, ups]
    rw [List.nodup_cons] at hn
    rw [ups_zipB ids bs _ hn.2 (by simpa using hl) k]
    by_cases h1 : k = r
    · subst h1
      rw [if_neg hn.1, up_same, if_pos (by simp)]
      simp [idxOf]
    · simp only [idxOf, h1, if_false, List.mem_cons, false_or, List.getD_cons_succ]
      split
      · rfl
      · exact up_ne _ _ h1
  | [], _ :: _, _, _, h, _ => by simp at h
  | _ :: _, [], _, _, h, _ => by simp at h
theorem likeBs_at : ∀ {A B : List Blk}, likeBs A B → A.length = B.length ∧ ∀ (i : Nat) a b, A[i]? = some a → B[i]? = some b → likeB a b
  | [], [], _ => ⟨rfl, fun i a b h => by simp at h⟩
  | a :: xs, b :: bs, ⟨h1, h2⟩ => by
    obtain ⟨k1, k2⟩ := likeBs_at h2
    refine ⟨by simp [k1], fun i x y hx hy => ?_⟩
    cases i with
    | zero => simp at hx hy; subst hx; subst hy; exact h1
    | succ i => exact k2 i x y (by simpa using hx) (by simpa using hy)
  | [], _ :: _, h => h.elim
  | _ :: _, [], h => h.elim
theorem OwnOk.call {f : FuncId} {g : OC} (C : OwnOk P f g) : CallOk P f (ownAbs g) := by
  refine ⟨C.there, fun F W0 w L s Z args vs q out hH hargs hab hc hfree => ?_, fun L L' args q hn => ?_, fun L args q out hab p hp => ?_⟩
  · unfold ownAbs at hab
    split at hab
    · rename_i c r B1 bs hg
      split at hab
      · rename_i hcond
        obtain ⟨hlive, hlen⟩ := hcond
        simp at hab; subst hab
        have hnd := uniq_nodup (AV.ids.idsL args)
        have hmem : ∀ x ∈ args, ∀ k ∈ x.ids, k ∈ uniq (AV.ids.idsL args) := fun x hx k hk => (uniq_mem _ _).2 ((memL _ _).2 ⟨x, hx, hk⟩)
        generalize uniq (AV.ids.idsL args) = ids at hg hlive hnd hmem ⊢
        have hidl : ∀ k ∈ ids, (L k).live ∧ blkIds (L k) = [] := fun k hk => by
          have := List.all_eq_true.1 hlive k hk
          rw [Bool.and_eq_true] at this
          exact ⟨liveB_iff.1 this.1, by simpa using this.2⟩
        have hget : ∀ i k, ids[i]? = some k → ∀ j, ids[j]? = some k → i = j := fun i k hi j hj => (List.getElem?_inj (List.getElem?_eq_some_iff.1 hi).1 hnd).1 (hi.trans hj.symm)
        let s0 : Nat → Value := fun i => s (ids.getD i 0)
        let F0 : Nat → Prop := fun b => ∃ k ∈ ids, Fp w (L k) (s k) b
        let L0 := lk (hpAt 0 (ids.map L))
        have hL0 : ∀ i, L0 i = match ids[i]? with | some k => L k | none => .none := fun i => by
          show lk (hpAt 0 (ids.map L)) i = _
          rw [lk_hpAt, if_pos (Nat.zero_le _), Nat.sub_zero]
          simp only [List.getD, List.getElem?_map]
          cases ids[i]? <;> rfl
        have hs0 : ∀ i k, ids[i]? = some k → s0 i = s k := fun i k hi => by simp [s0, List.getD, hi]
        have at0 : ∀ i, (L0 i).live → ∃ k, ids[i]? = some k ∧ L0 i = L k ∧ s0 i = s k := fun i hi => by
          rw [hL0] at hi
          cases hk : ids[i]? with
          | none => rw [hk] at hi; exact hi.elim
          | some k => exact ⟨k, rfl, by rw [hL0, hk], hs0 i k hk⟩
        have H0 : HR F0 ⟨w, Z⟩ w L0 s0 Z := by
          refine ⟨fun i => ?_, fun i j b hi hj hbi hbj => ?_, fun i b hi hb => ?_, fun i b hi hb => ?_, hH.zin, ⟨rfl, rfl, rfl, Nat.le_refl _, fun _ _ _ => rfl⟩, fun b hb => .inl hb, fun b hb => hb⟩
          · rw [hL0]
            cases hk : ids[i]? with
            | none => trivial
            | some k =>
              rw [hs0 i k hk]
              exact (hH.blk k).noids (hidl k (List.mem_of_getElem? hk)).2
          · obtain ⟨k, k1, k2, k3⟩ := at0 i hi
            obtain ⟨k', k1', k2', k3'⟩ := at0 j hj
            rw [k2, k3] at hbi
            rw [k2', k3'] at hbj
            rw [k2] at hi
            rw [k2'] at hj
            have := hH.sepF k k' b hi hj hbi hbj
            subst this
            exact hget i k k1 j k1'
          · obtain ⟨k, k1, k2, k3⟩ := at0 i hi
            rw [k2, k3] at hb
            rw [k2] at hi
            exact hH.nzF k b hi hb
          · obtain ⟨k, k1, k2, k3⟩ := at0 i hi
            rw [k2, k3] at hb
            rw [k2] at hi
            exact ⟨.inl ⟨k, List.mem_of_getElem? k1, hb⟩, (hH.mineF k b hi hb).2⟩
        have hargs0 : ARel w Z L0 s0 (args.map (AV.ren fun r => some (idxOf ids r))) vs := ⟨by simp [hargs.1], fun i x y hx hy => by
          rw [List.getElem?_map] at hx
          cases hz : args[i]? with
          | none => simp [hz] at hx
          | some z =>
            simp [hz] at hx; subst hx
            refine (hargs.2 i z y hz hy).moved fun k hk => ?_
            have hk' := hmem z (List.mem_of_getElem? hz) k hk
            have := (idxOf_spec ids k hk').2
            exact ⟨by rw [hL0, this], hs0 _ k this⟩⟩
        have hB0 : ∀ b ∈ ids.map L, b.liveB = true := fun b hb => by
          obtain ⟨k, hk, rfl⟩ := List.mem_map.1 hb
          exact liveB_iff.2 (hidl k hk).1
        obtain ⟨⟨g1, g2, g3⟩, hcall⟩ := C.does w F0 Z s0 _ vs _ c r B1 bs H0 hargs0 hB0 hg hc
        obtain ⟨hl1, hl2⟩ := likeBs_at g1
        have hl1 : B1.length = ids.length := by rw [← hl1]; simp
        refine hcall.mono ?_
        rintro e w' ⟨v, s1, Z1, rfl, H1, hs1, hr⟩
        let L1 := lk (hpAt 0 (B1 ++ bs))
        let s' : Nat → Value := fun k => if q ≤ k ∧ k < q + bs.length then s1 (ids.length + (k - q)) else s k
        have hL1 : ∀ i, L1 i = (B1 ++ bs).getD i .none := fun i => by
          show lk (hpAt 0 (B1 ++ bs)) i = _
          rw [lk_hpAt, if_pos (Nat.zero_le _), Nat.sub_zero]
        have hqids : ∀ k, q ≤ k → k < q + 16 → k ∉ ids := fun k h1 h2 hk => by
          have := (hidl k hk).1
          rw [hfree k h1 h2] at this
          exact this
        let L' := ups L (zipB ids B1 ++ hpAt q bs)
        have hL' : ∀ k, L' k = if q ≤ k ∧ k < q + bs.length then bs.getD (k - q) .none else if k ∈ ids then B1.getD (idxOf ids k) .none else L k := fun k => by
          show ups L (zipB ids B1 ++ hpAt q bs) k = _
          rw [ups_append, ups_hpAt]
          split
          · rfl
          · exact ups_zipB ids B1 L hnd hl1 k
        have kind : ∀ k, (∃ j, j < bs.length ∧ k = q + j ∧ L' k = L1 (ids.length + j) ∧ s' k = s1 (ids.length + j)) ∨ (∃ i, i < ids.length ∧ ids[i]? = some k ∧ L' k = L1 i ∧ s' k = s k ∧ s1 i = s k ∧ ¬ (q ≤ k ∧ k < q + bs.length)) ∨ (k ∉ ids ∧ L' k = L k ∧ s' k = s k ∧ ¬ (q ≤ k ∧ k < q + bs.length)) := fun k => by
          by_cases h1 : q ≤ k ∧ k < q + bs.length
          · refine .inl ⟨k - q, by omega, by omega, ?_, by simp only [s']; rw [if_pos h1]⟩
            rw [hL', if_pos h1, hL1]
            simp only [List.getD]
            rw [List.getElem?_append_right (by omega)]
            congr 2
            omega
          · by_cases h2 : k ∈ ids
            · obtain ⟨k1, k2⟩ := idxOf_spec ids k h2
              refine .inr (.inl ⟨idxOf ids k, k1, k2, ?_, by simp only [s']; rw [if_neg h1], ?_, h1⟩)
              · rw [hL', if_neg h1, if_pos h2, hL1]
                simp only [List.getD]
                rw [List.getElem?_append_left (by omega)]
              · rw [hs1 _ (by simpa using k1), hs0 _ k k2]
            · exact .inr (.inr ⟨h2, by rw [hL', if_neg h1, if_neg h2], by simp only [s']; rw [if_neg h1], h1⟩)
        have hids1 : ∀ i, i < ids.length + bs.length → ((L1 i).live ∨ L1 i = .dead) ∧ blkIds (L1 i) = [] := fun i hi => by
          rw [hL1]
          simp only [List.getD]
          rw [List.getElem?_eq_getElem (by rw [List.length_append]; omega)]
          have := g2 _ (List.getElem_mem (show i < (B1 ++ bs).length by rw [List.length_append]; omega))
          exact ⟨this.1.imp liveB_iff.1 id, this.2⟩
        have hF0lt : ∀ b, F0 b → b < w.heap.size ∧ (F b ∨ W0.w.heap.size ≤ b) ∧ ¬ Z b := fun b ⟨k, hk, hb⟩ => by
          have h1 := hH.mineF k b (hidl k hk).1 hb
          exact ⟨h1.2, h1.1, hH.nzF k b (hidl k hk).1 hb⟩
        have hw : ∀ b, b < w.heap.size → ¬ F0 b → w'.heap[b]? = w.heap[b]? := fun b hb hn => H1.kept.block b hb hn
        have hnotF0 : ∀ k, k ∉ ids → ∀ b, (L k).live → Fp w (L k) (s k) b → ¬ F0 b := fun k hk b hl hb ⟨k', hk', hb'⟩ => hk (hH.sepF k k' b hl (hidl k' hk').1 hb hb' ▸ hk')
        have oldF : ∀ k, k ∉ ids → ∀ b, (L k).live → Fp w' (L k) (s k) b → Fp w (L k) (s k) b := fun k hk b hl hb => hb.same fun g hg => hw g (hH.mineF k g hl hg).2 (hnotF0 k hk g hl hg)
        have inL1 : ∀ n b, n < ids.length + bs.length → (L1 n).live → Fp w' (L1 n) (s1 n) b → (F0 b ∨ w.heap.size ≤ b) ∧ b < w'.heap.size := fun n b hn hl hb => H1.mineF n b hl hb
        have kind2 : ∀ k, (∃ n, n < ids.length + bs.length ∧ bk ids q n = k ∧ L' k = L1 n ∧ s' k = s1 n) ∨ (k ∉ ids ∧ L' k = L k ∧ s' k = s k) := fun k => by
          rcases kind k with ⟨j, hj, rfl, e1, e2⟩ | ⟨i, hi, hik, e1, e2, e3, _⟩ | ⟨hni, e1, e2, _⟩
          · refine .inl ⟨ids.length + j, by omega, ?_, e1, e2⟩
            unfold bk
            rw [if_neg (by omega)]
            omega
          · refine .inl ⟨i, by omega, ?_, e1, by rw [e2, e3]⟩
            unfold bk
            rw [if_pos hi]
            simp [List.getD, hik]
          · exact .inr ⟨hni, e1, e2⟩
        have hE : Ext w Z L s w' Z1 L' s' := by
          refine ⟨fun b hb => H1.zhas b hb, fun b hb => hw b (hH.zin b hb) fun hF => (hF0lt b hF).2.2 hb, fun k => ?_, fun k sz' rows' h1 h2 => ?_⟩
          · rcases kind k with ⟨j, hj, rfl, _, _⟩ | ⟨i, hi, hik, e1, e2, _, _⟩ | ⟨_, e1, e2, _⟩
            · exact .fresh (hfree _ (by omega) (by omega))
            · rw [e1, e2]
              have ha : (ids.map L)[i]? = some (L k) := by rw [List.getElem?_map, hik]; rfl
              have hb : B1[i]? = some (L1 i) := by
                rw [hL1]
                simp only [List.getD]
                rw [List.getElem?_append_left (by omega), List.getElem?_eq_getElem (by omega)]
                rfl
              have hlk := hl2 i _ _ ha hb
              generalize L k = x at hlk
              generalize L1 i = y at hlk
              cases x <;> cases y <;> simp only [likeB] at hlk <;> first
                | exact hlk.elim
                | exact .dead rfl
                | (obtain ⟨rfl, h⟩ := hlk; exact .var _ _ _ rfl rfl rfl)
                | (obtain ⟨rfl, rfl, h⟩ := hlk; exact .sl _ _ _ _ rfl rfl h rfl)
                | (obtain ⟨rfl, rfl, rfl, rfl, h⟩ := hlk; exact .tr _ _ _ _ _ _ rfl (.inl ⟨_, rfl⟩) h rfl)
            · rw [e1, e2]; exact Like.refl _ _
          · rcases kind k with ⟨j, hj, rfl, _, _⟩ | ⟨i, hi, hik, e1, e2, _, _⟩ | ⟨_, e1, e2, _⟩
            · rw [hfree _ (by omega) (by omega)] at h1; exact h1.elim
            · rw [e1] at h2
              have := (hids1 i (by omega)).1
              rw [h2] at this
              rcases this with this | this
              · exact this.elim
              · cases this
            · rw [e1] at h2; rw [h2] at h1; exact h1.elim
        refine ⟨v, s', Z1, rfl, ⟨fun k => ?_, fun k k' b l1 l2 b1 b2 => ?_, fun k b l1 b1 => ?_, fun k b l1 b1 => ?_, H1.zin, ?_, fun b hb => ?_, fun b hb => H1.zhas b (hH.zhas b hb)⟩, hE, ?_⟩
        · show BlkR w' Z1 L' s' (L' k) (s' k)
          rcases kind2 k with ⟨n, hn, _, e1, e2⟩ | ⟨hni, e1, e2⟩
          · rw [e1, e2]; exact (H1.blk _).noids (hids1 _ hn).2
          · rw [e1, e2]; exact (hH.blk k).mono hE fun hl b hb => hw b (hH.mineF k b hl hb).2 (hnotF0 k hni b hl hb)
        · have l1 : (L' k).live := l1
          have l2 : (L' k').live := l2
          have b1 : Fp w' (L' k) (s' k) b := b1
          have b2 : Fp w' (L' k') (s' k') b := b2
          rcases kind2 k with ⟨n, hn, c1, e1, e2⟩ | ⟨hni, e1, e2⟩ <;> rcases kind2 k' with ⟨n', hn', c2, f1, f2⟩ | ⟨hni', f1, f2⟩ <;> rw [e1] at l1 <;> rw [f1] at l2 <;> rw [e1, e2] at b1 <;> rw [f1, f2] at b2
          · have := H1.sepF _ _ b l1 l2 b1 b2
            subst this
            rw [← c1, ← c2]
          · have h2 := oldF k' hni' b l2 b2
            rcases (inL1 n b hn l1 b1).1 with h | h
            · exact absurd h (hnotF0 k' hni' b l2 h2)
            · have := (hH.mineF k' b l2 h2).2; omega
          · have h2 := oldF k hni b l1 b1
            rcases (inL1 n' b hn' l2 b2).1 with h | h
            · exact absurd h (hnotF0 k hni b l1 h2)
            · have := (hH.mineF k b l1 h2).2; omega
          · exact hH.sepF k k' b l1 l2 (oldF k hni b l1 b1) (oldF k' hni' b l2 b2)
        · have l1 : (L' k).live := l1
          have b1 : Fp w' (L' k) (s' k) b := b1
          intro hz
          rcases kind2 k with ⟨n, hn, c1, e1, e2⟩ | ⟨hni, e1, e2⟩ <;> rw [e1] at l1 <;> rw [e1, e2] at b1
          · exact H1.nzF _ b l1 b1 hz
          · have b1 := oldF k hni b l1 b1
            rcases H1.zsrc b hz with h | h | h
            · exact hH.nzF k b l1 b1 h
            · exact hnotF0 k hni b l1 b1 h
            · have h : w.heap.size ≤ b := h
              have := (hH.mineF k b l1 b1).2; omega
        · have l1 : (L' k).live := l1
          have b1 : Fp w' (L' k) (s' k) b := b1
          rcases kind2 k with ⟨n, hn, c1, e1, e2⟩ | ⟨hni, e1, e2⟩ <;> rw [e1] at l1 <;> rw [e1, e2] at b1
          · obtain ⟨h1, h2⟩ := inL1 n b hn l1 b1
            refine ⟨?_, h2⟩
            rcases h1 with h1 | h1
            · exact (hF0lt b h1).2.1
            · exact .inr (Nat.le_trans hH.kept.size h1)
          · have h1 := hH.mineF k b l1 (oldF k hni b l1 b1)
            exact ⟨h1.1, Nat.lt_of_lt_of_le h1.2 H1.kept.size⟩
        · have k0 := hH.kept
          have k1 := H1.kept
          refine ⟨k1.os.trans k0.os, k1.tape.trans k0.tape, k1.output.trans k0.output, Nat.le_trans k0.size k1.size, fun b hb hF => (hw b (Nat.lt_of_lt_of_le hb k0.size) fun hF0 => ?_).trans (k0.block b hb hF)⟩
          rcases (hF0lt b hF0).2.1 with h | h
          · exact hF h
          · omega
        · rcases H1.zsrc b hb with h | h | h
          · exact hH.zsrc b h
          · exact .inr (hF0lt b h).2.1
          · exact .inr (.inr (Nat.le_trans hH.kept.size h))
        · refine hr.moved fun i hi => ?_
          have hi' := g3 i hi
          show L' (bk ids q i) = L1 i ∧ s' (bk ids q i) = s1 i
          unfold bk
          by_cases h : i < ids.length
          · rw [if_pos h]
            have hik : ids[i]? = some (ids.getD i 0) := by simp [List.getD, h]
            rcases kind (ids.getD i 0) with ⟨j, hj, e0, _, _⟩ | ⟨i', hi', hik', e1, e2, e3, _⟩ | ⟨hni, _, _, _⟩
            · exact absurd (List.mem_of_getElem? hik) (hqids _ (by omega) (by omega))
            · have := hget i _ hik i' hik'
              subst this
              exact ⟨e1, by rw [e2, e3]⟩
            · exact absurd (List.mem_of_getElem? hik) hni
          · rw [if_neg h]
            rcases kind (q + (i - ids.length)) with ⟨j, hj, e0, e1, e2⟩ | ⟨i', hi', hik', e1, e2, e3, e4⟩ | ⟨hni, _, _, e4⟩
            · have : j = i - ids.length := by omega
              subst this
              rw [show ids.length + (i - ids.length) = i by omega] at e1 e2
              exact ⟨e1, e2⟩
            · omega
            · omega
      · cases hab
    · cases hab
  · unfold ownAbs
    have hL : ∀ k ∈ uniq (AV.ids.idsL args), L' k = L k := fun k hk => hn k (List.mem_flatMap.2 ⟨k, (uniq_mem _ _).1 hk, by simp⟩)
    have e1 : (uniq (AV.ids.idsL args)).map L' = (uniq (AV.ids.idsL args)).map L := List.map_congr_left hL
    have e2 : ((uniq (AV.ids.idsL args)).all fun k => (L' k).liveB && (blkIds (L' k)).isEmpty) = ((uniq (AV.ids.idsL args)).all fun k => (L k).liveB && (blkIds (L k)).isEmpty) := by
      rw [Bool.eq_iff_iff, List.all_eq_true, List.all_eq_true]
      exact ⟨fun h k hk => by rw [← hL k hk]; exact h k hk, fun h k hk => by rw [hL k hk]; exact h k hk⟩
    rw [e1, e2]
  · unfold ownAbs at hab
    split at hab
    · rename_i c r B1 bs hg
      split at hab
      · rename_i hcond
        obtain ⟨hlive, hlen⟩ := hcond
        simp at hab; subst hab
        rcases List.mem_append.1 hp with hp | hp
        · left
          have key : ∀ (ids : List Nat) (bs : List Blk) p, p ∈ zipB ids bs → p.1 ∈ ids := by
            intro ids
            induction ids with
            | nil => intro bs p hp; simp [zipB] at hp
            | cons r ids ih =>
              intro bs p hp
              cases bs with
              | nil => simp [zipB] at hp
              | cons b bs =>
                simp only [zipB, List.mem_cons] at hp ⊢
                rcases hp with rfl | hp
                · exact .inl rfl
                · exact .inr (ih bs p hp)
          have := (uniq_mem _ _).1 (key _ _ p hp)
          exact List.mem_flatMap.2 ⟨p.1, this, by simp⟩
        · right
          have key : ∀ (bs : List Blk) (q : Nat) p, p ∈ hpAt q bs → q ≤ p.1 ∧ p.1 < q + bs.length := by
            intro bs
            induction bs with
            | nil => intro q p hp; simp [hpAt] at hp
            | cons b bs ih =>
              intro q p hp
              simp only [hpAt, List.mem_cons] at hp
              rcases hp with rfl | hp
              · simp
              · have := ih (q + 1) p hp
                simp; omega
          have := key bs q p hp
          omega
      · cases hab
    · cases hab
end
def TK.isCell : TK → Bool
  | .cell => true
  | _ => false
def kidBlk (e : TypeId) (sz : Nat) (cols : List TK) (rows : List (List D)) : Blk := if cols.all TK.isCell = true then .sl e sz rows else .tr .whole e sz cols rows
def kidRows (cols : List TK) : Blk → Option (Prop × List (List D))
  | .sl _ _ rows => if cols.all TK.isCell = true then some (flatRows rows, rows) else none
  | .tr .whole _ _ _ rows => some (True, rows)
  | _ => none
def kidAbs (g : OC) : Abs := fun args L _ => match args with
  | .own k :: rest => match L k with
    | .tr (.kid r) e2 sz2 cols2 rows2 => match L r with
      | .tr (.hole i j k') e sz cols rows => if k' = k ∧ (AV.ids.idsL rest).isEmpty = true then match g (.own 0 :: rest) [kidBlk e2 sz2 cols2 rows2] with
        | some (c, .v x, [B1], []) => match kidRows cols2 B1 with
          | some (cc, rows3) => some ⟨cols[j]? = some (.sl e2 sz2 cols2) ∧ c ∧ cc, .v x, [(k, .dead), (r, .tr .whole e sz cols (rows.set i (putAt (rows.getD i []) j [.l sz2 rows3])))]⟩
          | none => none
        | _ => none else none
      | _ => none
    | _ => none
  | _ => none
section
variable {P : Program} {w : World} {Z : Nat → Prop} {L : Nat → Blk} {s : Nat → Value} {F : Nat → Prop} {W0 : Ent}
theorem sl_own {e : TypeId} {sz : Nat} {cols : List TK} {rows : List (List D)} {v : Value} (h : BlkR w Z L s (.sl e sz rows) v) (hf : flatRows rows) (hc : cols.length = sz) (ha : cols.all TK.isCell = true) :
    Own w (.sl e sz cols) (.l sz rows) v ∧ ∀ g, InF w (.sl e sz cols) (.l sz rows) v g → vblk v = some g := by
  obtain ⟨h0, xs, hown, hrows⟩ := h.rows
  have cel : ∀ i j d, rowAt rows i j = some d → ∃ u, xs[i * sz + j]? = some u ∧ Own w .cell d u := fun i j d hd => by
    obtain ⟨u, hu, hr⟩ := hrows.2.2 i j d hd
    refine ⟨u, hu, ?_⟩
    unfold rowAt at hd
    cases hrow : rows[i]? with
    | none => simp [hrow] at hd
    | some row =>
      simp [hrow] at hd
      obtain ⟨x, rfl⟩ := hf row (List.mem_of_getElem? hrow) d (List.mem_of_getElem? hd)
      cases hr with
      | v _ h => exact .cell _ h
  have hcell : ∀ (j : Nat) (k : TK), cols[j]? = some k → k = TK.cell := fun j k hk => by
    have := List.all_eq_true.1 ha k (List.mem_of_getElem? hk)
    cases k with
    | cell => rfl
    | sl => cases this
  refine ⟨.sl e sz _ rows _ xs (fun i j => xs.getD (i * sz + j) undef) h0 hc hrows.1 hown (fun i j d hd => ?_) (fun i j d k hd hk => ?_) (fun i j d k g hd hk hg => ?_) (fun i j d k i' j' d' k' g a1 a2 a3 a4 a5 => ?_), fun g hg => ?_⟩
  · obtain ⟨u, hu, _⟩ := cel i j d hd
    simp [List.getD, hu]
  · obtain ⟨u, hu, hcc⟩ := cel i j d hd
    rw [hcell j k hk]
    simp [List.getD, hu]
    exact hcc
  · rw [hcell j k hk] at hg; cases hg
  · rw [hcell j k a2] at a5; cases a5
  · cases hg with
    | here _ _ _ _ _ _ h => exact h
    | down _ _ _ _ _ i j d k u g hd hk hu hin => rw [hcell j k hk] at hin; cases hin
theorem kidBlk_ok {r : Nat} {e : TypeId} {sz : Nat} {cols : List TK} {rows : List (List D)} {v : Value} (h : BlkR w Z L s (.tr (.kid r) e sz cols rows) v) {L' : Nat → Blk} {s' : Nat → Value} :
    BlkR w Z L' s' (kidBlk e sz cols rows) v ∧ (kidBlk e sz cols rows).live ∧ (∀ g, Fp w (kidBlk e sz cols rows) v g → Fp w (.tr (.kid r) e sz cols rows) v g) ∧ ∃ A c, v = .slice A rows.length c := by
  obtain ⟨xs, u, hT, -⟩ := h
  obtain ⟨A, c, hA⟩ := owns_shape hT.ho
  unfold kidBlk
  split
  · rename_i ha
    refine ⟨⟨hT.h0, hT.hr, xs, hT.ho, fun i j d hd => ⟨_, hT.hu i j d hd, ?_⟩⟩, trivial, fun g hg => .inl hg, A, c, hA⟩
    have hj := (row_lt hT.hr hd).2
    have hjl : j < cols.length := by rw [hT.hc]; exact hj
    obtain ⟨k, hk⟩ : ∃ k, cols[j]? = some k := ⟨_, List.getElem?_eq_getElem hjl⟩
    have ho := hT.hk i j d _ rfl hd hk
    have hc := List.all_eq_true.1 ha _ (List.mem_of_getElem? hk)
    cases k with
    | cell => cases ho with | cell _ h => exact .v _ h
    | sl => cases hc
  · exact ⟨⟨xs, u, hT, fun i j q hq => by cases hq⟩, trivial, fun g hg => hg, A, c, hA⟩
theorem kidRows_ok {e : TypeId} {sz : Nat} {cols : List TK} {rows : List (List D)} {B1 : Blk} {v : Value} (hl : likeB (kidBlk e sz cols rows) B1) (hcl : cols.length = sz) {cc : Prop} {rows3 : List (List D)} (hk : kidRows cols B1 = some (cc, rows3)) (hcc : cc) (h : BlkR w Z L s B1 v) :
    Own w (.sl e sz cols) (.l sz rows3) v ∧ ∀ g, InF w (.sl e sz cols) (.l sz rows3) v g → Fp w B1 v g := by
  unfold kidRows at hk
  split at hk
  · rename_i e' sz' rows'
    split at hk
    · rename_i ha
      cases hk
      rw [kidBlk, if_pos ha] at hl
      obtain ⟨rfl, rfl, -⟩ := hl
      exact sl_own h hcc hcl ha
    · cases hk
  · rename_i e' sz' cols' rows'
    cases hk
    unfold kidBlk at hl
    split at hl
    · exact hl.elim
    · obtain ⟨-, rfl, rfl, rfl, -⟩ := hl
      obtain ⟨xs, u, hT, -⟩ := h
      exact ⟨hT.own fun _ _ => rfl, fun g hg => InX.of (ex := fun _ _ => false) hg⟩
  · cases hk
theorem OwnOk.callK {f : FuncId} {g : OC} (C : OwnOk P f g) : CallOk P f (kidAbs g) := by
  refine ⟨C.there, fun F W0 w L s Z args vs q out hH hargs hab hc hfree => ?_, fun L L' args q hn => ?_, fun L args q out hab p hp => ?_⟩
  · unfold kidAbs at hab
    split at hab
    · rename_i k rest
      split at hab
      · rename_i r e2 sz2 cols2 rows2 hLk
        split at hab
        · rename_i i j k' e sz cols rows hLr
          split at hab
          · rename_i hh
            obtain ⟨rfl, hrest⟩ := hh
            split at hab
            · rename_i c x B1 hg
              split at hab
              · rename_i cc rows3 hkr
                cases hab
                obtain ⟨hkcol, hc, hcc⟩ := hc
                have hlk : (L k').live := by rw [hLk]; trivial
                have hlr : (L r).live := by rw [hLr]; trivial
                have hkr' : k' ≠ r := fun e => by rw [e, hLr] at hLk; cases hLk
                have hbk := hH.blk k'
                rw [hLk] at hbk
                have hbr := hH.blk r
                rw [hLr] at hbr
                obtain ⟨xs, u, hT, hlink⟩ := hbr
                obtain ⟨⟨d0, ke, ks, kc, hd0, hk0⟩, -, hu0⟩ := hlink i j k' rfl
                have hu0 : u i j = s k' := hu0 hlk
                have hi : i < rows.length := (row_lt hT.hr hd0).1
                have hj : j < sz := (row_lt hT.hr hd0).2
                obtain ⟨b1, b2, b3, A, cp, b4⟩ := kidBlk_ok hbk (L' := lk (hpAt 0 [kidBlk e2 sz2 cols2 rows2])) (s' := fun _ => s k')
                have hL0 : ∀ n, (lk (hpAt 0 [kidBlk e2 sz2 cols2 rows2]) n).live → n = 0 := fun n hn => by
                  by_cases e : n = 0
                  · exact e
                  · simp [hpAt, lk, e, Blk.live] at hn
                have H0 : HR (fun b => Fp w (L k') (s k') b) ⟨w, Z⟩ w (lk (hpAt 0 [kidBlk e2 sz2 cols2 rows2])) (fun _ => s k') Z := by
                  refine ⟨fun n => ?_, fun n m b hn hm _ _ => by rw [hL0 n hn, hL0 m hm], fun n b hn hb => ?_, fun n b hn hb => ?_, hH.zin, ⟨rfl, rfl, rfl, Nat.le_refl _, fun _ _ _ => rfl⟩, fun b hb => .inl hb, fun b hb => hb⟩
                  · by_cases e : n = 0
                    · subst e; exact b1
                    · simp [hpAt, lk, e, BlkR]
                  · rw [hL0 n hn] at hb
                    exact hH.nzF k' b hlk (by rw [hLk]; exact b3 b hb)
                  · rw [hL0 n hn] at hb
                    have hb' : Fp w (L k') (s k') b := by rw [hLk]; exact b3 b hb
                    exact ⟨.inl hb', (hH.mineF k' b hlk hb').2⟩
                have hids : ∀ x ∈ rest, x.ids = [] := fun x hx => by
                  rw [List.eq_nil_iff_forall_not_mem]
                  intro n hn
                  have : n ∈ AV.ids.idsL rest := (memL _ _).2 ⟨x, hx, hn⟩
                  rw [List.isEmpty_iff.1 hrest] at this
                  cases this
                have hargs0 : ARel w Z (lk (hpAt 0 [kidBlk e2 sz2 cols2 rows2])) (fun _ => s k') (.own 0 :: rest) vs := by
                  refine ⟨by simpa using hargs.1, fun n a y ha hy => ?_⟩
                  cases n with
                  | zero =>
                    simp at ha; subst ha
                    have := hargs.2 0 _ y rfl hy
                    have hy' : y = s k' := by
                      cases this with
                      | own _ _ _ _ _ hd _ _ => rw [hLk] at hd; cases hd
                      | ownStill _ _ _ _ hd _ _ => rw [hLk] at hd; cases hd
                      | ownTr _ _ _ _ _ _ _ _ hx _ => exact hx
                      | ownDead _ _ hd _ => rw [hLk] at hd; cases hd
                      | ownOff _ _ _ _ _ hd _ _ => rw [hLk] at hd; cases hd
                    have e0 : lk (hpAt 0 [kidBlk e2 sz2 cols2 rows2]) 0 = kidBlk e2 sz2 cols2 rows2 := rfl
                    unfold kidBlk at e0
                    split at e0
                    · rename_i hall
                      refine .own 0 y e2 sz2 rows2 ?_ hy' ⟨A, cp, b4⟩
                      show kidBlk e2 sz2 cols2 rows2 = _
                      rw [kidBlk, if_pos hall]
                    · rename_i hall
                      refine .ownTr 0 y .whole e2 sz2 cols2 rows2 ?_ hy' ⟨A, cp, b4⟩
                      show kidBlk e2 sz2 cols2 rows2 = _
                      rw [kidBlk, if_neg hall]
                  | succ n =>
                    have ha : rest[n]? = some a := by simpa using ha
                    exact (hargs.2 (n + 1) a y (by simpa using ha) hy).noids (hids a (List.mem_of_getElem? ha))
                obtain ⟨⟨g1, g2, g3⟩, hcall⟩ := C.does w _ Z _ _ vs _ c (.v x) [B1] [] H0 hargs0 (fun b hb => by rw [List.mem_singleton.1 hb]; exact liveB_iff.2 b2) hg hc
                have hlike : likeB (kidBlk e2 sz2 cols2 rows2) B1 := g1.1
                refine hcall.mono ?_
                rintro en w' ⟨v, s1, Z1, rfl, H1, hs1, hr⟩
                have hs10 : s1 0 = s k' := hs1 0 (by simp)
                have hB1 : lk (hpAt 0 ([B1] ++ [])) 0 = B1 := rfl
                have hl1 : B1.live := by
                  rcases (g2 B1 (by simp)).1 with h | h
                  · exact liveB_iff.1 h
                  · rw [h] at hkr; cases hkr
                have hbB := H1.blk 0
                rw [hB1, hs10] at hbB
                have hcl2 : cols2.length = sz2 := by obtain ⟨_, _, hT2, _⟩ := hbk; exact hT2.hc
                obtain ⟨o1, o2⟩ := kidRows_ok hlike hcl2 hkr hcc hbB
                have hm1 : ∀ b, InF w' (.sl e2 sz2 cols2) (.l sz2 rows3) (s k') b → (Fp w (L k') (s k') b ∨ w.heap.size ≤ b) ∧ b < w'.heap.size := fun b hb => by
                  have := H1.mineF 0 b (by rw [hB1]; exact hl1) (by rw [hB1, hs10]; exact o2 b hb)
                  exact this
                have hw : ∀ b, b < w.heap.size → ¬ Fp w (L k') (s k') b → w'.heap[b]? = w.heap[b]? := fun b hb hn => H1.kept.block b hb hn
                have hsz : w.heap.size ≤ w'.heap.size := H1.kept.size
                have fpr : ∀ b, InX w (TS.ex (.hole i j k')) sz cols rows (s r) b → Fp w (L r) (s r) b := fun b hb => by rw [hLr]; exact hb
                have notk : ∀ b, Fp w (L r) (s r) b → ¬ Fp w (L k') (s k') b := fun b h1 h2 => hkr' (hH.sepF k' r b hlk hlr h2 h1)
                have oldr : ∀ b, InX w (TS.ex (.hole i j k')) sz cols rows (s r) b → w'.heap[b]? = w.heap[b]? := fun b hb => hw b (hH.mineF r b hlr (fpr b hb)).2 (notk b (fpr b hb))
                have hexf : ∀ a b, ¬ (a = i ∧ b = j) → TS.ex (.hole i j k') a b = false := fun a b hh => by
                  cases he : TS.ex (.hole i j k') a b with
                  | false => rfl
                  | true => simp [TS.ex] at he; exact absurd he hh
                have hat := rowAt_put hT.hr hi (j := j) (ds := [D.l sz2 rows3]) (by simp only [List.length_singleton]; omega)
                have hcol : cols[j]? = some (.sl e2 sz2 cols2) := hkcol
                have hrl : ∀ r' ∈ rows.set i (putAt (rows.getD i []) j [D.l sz2 rows3]), r'.length = sz := fun r' hr' => by
                  rcases List.mem_or_eq_of_mem_set hr' with hr' | rfl
                  · exact hT.hr r' hr'
                  · have hrow : (rows.getD i []).length = sz := by
                      simp only [List.getD, List.getElem?_eq_getElem hi, Option.getD_some]
                      exact hT.hr _ (List.getElem_mem hi)
                    rw [putAt_len (by rw [hrow]; simp only [List.length_singleton]; omega)]
                    exact hrow
                have hown' : ownsAt w' e sz (s r) (rows.set i (putAt (rows.getD i []) j [D.l sz2 rows3])).length xs := by
                  rw [List.length_set]
                  exact owns_move hT.ho fun g hg => oldr g (.inl hg)
                have oldc : ∀ a b d k, ¬ (a = i ∧ b = j) → rowAt rows a b = some d → cols[b]? = some k → ∀ g, InF w k d (u a b) g → InX w (TS.ex (.hole i j k')) sz cols rows (s r) g := fun a b d k hn hd hk g hg => tree_cell hT (hexf a b hn) hd hk hg
                have key := fun (Z' : Nat → Prop) (L' : Nat → Blk) (s' : Nat → Value) => tree_mk (w' := w') (Z := Z') (L := L') (s := s') (v := s r) hT.h0 hT.hc hrl hown'
                  (fun a b g => (a = i ∧ b = j ∧ (Fp w (L k') (s k') g ∨ w.heap.size ≤ g) ∧ g < w'.heap.size) ∨ (¬ (a = i ∧ b = j) ∧ ∃ d k, rowAt rows a b = some d ∧ cols[b]? = some k ∧ InF w k d (u a b) g))
                  (fun a b d k hd hk => by
                    rw [hat] at hd
                    by_cases hh : a = i ∧ b = j
                    · obtain ⟨rfl, rfl⟩ := hh
                      rw [if_pos ⟨rfl, Nat.le_refl _, by simp⟩] at hd
                      simp at hd
                      subst hd
                      rw [hcol] at hk; cases hk
                      refine ⟨u a b, hT.hu a b _ hd0, by rw [hu0]; exact o1, fun g hg => .inl ⟨rfl, rfl, ?_⟩⟩
                      rw [hu0] at hg
                      exact hm1 g hg
                    · rw [if_neg (by simp only [List.length_singleton]; omega)] at hd
                      obtain ⟨c1, c2⟩ := own_moved (w' := w') (hT.hk a b d k (hexf a b hh) hd hk) fun g hg => oldr g (oldc a b d k hh hd hk g hg)
                      exact ⟨_, hT.hu a b d hd, c1, fun g hg => .inr ⟨hh, d, k, hd, hk, c2 g hg⟩⟩)
                  (fun a b g hS hv => by
                    have hr1 := hH.mine r g hlr hv
                    rcases hS with ⟨_, _, hf | hf, _⟩ | ⟨hn, d, k, hd, hk, hg⟩
                    · exact notk g (.root hv) hf
                    · omega
                    · exact hT.h1 a b d k g (hexf a b hn) hd hk hg hv)
                  (fun a b a' b' g hS hS' => by
                    have no : ∀ a b d k, ¬ (a = i ∧ b = j) → rowAt rows a b = some d → cols[b]? = some k → InF w k d (u a b) g → (Fp w (L k') (s k') g ∨ w.heap.size ≤ g) → False := fun a b d k hn hd hk hg hf => by
                      have hx := fpr g (oldc a b d k hn hd hk g hg)
                      rcases hf with hf | hf
                      · exact notk g hx hf
                      · have := (hH.mineF r g hlr hx).2; omega
                    rcases hS with ⟨e1, e2, hf, _⟩ | ⟨hn, d, k, hd, hk, hg⟩ <;> rcases hS' with ⟨e3, e4, hf', _⟩ | ⟨hn', d', k2, hd', hk', hg'⟩
                    · exact ⟨by rw [e1, e3], by rw [e2, e4]⟩
                    · exact (no a' b' d' k2 hn' hd' hk' hg' hf).elim
                    · exact (no a b d k hn hd hk hg hf').elim
                    · exact hT.h2 a b d k a' b' d' k2 g (hexf a b hn) (hexf a' b' hn') hd hk hd' hk' hg hg')
                obtain ⟨H, E⟩ := hH.join (w' := w') r [k'] (.tr .whole e sz cols (rows.set i (putAt (rows.getD i []) j [D.l sz2 rows3]))) (s r) (by simpa using hkr'.symm)
                  (.tr (.hole i j k') e sz cols rows _ hLr (.inl ⟨_, rfl⟩) (by simp) rfl) (by intro _ _ hc; cases hc) H1.kept.os H1.kept.tape H1.kept.output hsz
                  (fun b hb hne => hw b hb fun hf => hne k' (.inr (by simp)) hlk b hf rfl) (fun _ => (key _ _ _).1) (fun _ g hg => by
                    rcases (key Z L s).2 g hg with hv | ⟨a, b, hS⟩
                    · exact .inr ⟨r, .inl rfl, hlr, .root hv⟩
                    · rcases hS with ⟨_, _, hf | hf, hlt⟩ | ⟨hn, d, k, hd, hk, hg⟩
                      · exact .inr ⟨k', .inr (by simp), hlk, hf⟩
                      · exact .inl ⟨hf, hlt⟩
                      · exact .inr ⟨r, .inl rfl, hlr, fpr g (oldc a b d k hn hd hk g hg)⟩)
                rw [up_self, ← up_kills] at H E
                have hx : v = x := by cases hr; rfl
                exact ⟨v, s, Z, rfl, H, E, by rw [hx]; exact .v x⟩
              · cases hab
            · cases hab
          · cases hab
        · cases hab
      · cases hab
    · cases hab
  · cases args with
    | nil => rfl
    | cons a rest =>
      cases a with
      | own k =>
        have h1 : L' k = L k := hn k (List.mem_flatMap.2 ⟨k, by simp [idsL_cons, AV.ids], by simp⟩)
        simp only [kidAbs]
        rw [h1]
        split
        · rename_i r e2 sz2 cols2 rows2 hLk
          have h2 : L' r = L r := hn r (List.mem_flatMap.2 ⟨k, by simp [idsL_cons, AV.ids], by rw [hLk]; simp [blkIds]⟩)
          rw [h2]
        · rfl
      | _ => rfl
  · unfold kidAbs at hab
    split at hab
    · rename_i k rest
      split at hab
      · rename_i r e2 sz2 cols2 rows2 hLk
        have m1 : k ∈ foot L (.own k :: rest) := List.mem_flatMap.2 ⟨k, by simp [idsL_cons, AV.ids], by simp⟩
        have m2 : r ∈ foot L (.own k :: rest) := List.mem_flatMap.2 ⟨k, by simp [idsL_cons, AV.ids], by rw [hLk]; simp [blkIds]⟩
        split at hab
        · split at hab
          · split at hab
            · split at hab
              · cases hab
                left
                rcases List.mem_cons.1 hp with rfl | hp
                · exact m1
                · rw [List.mem_singleton.1 hp]; exact m2
              · cases hab
            · cases hab
          · cases hab
        · cases hab
      · cases hab
    · cases hab
end
end Go.Proofs.Ytkfjaeoehhakpaa
namespace Go.Proofs.Ytkfjaeoehhakpaa
open Go.RowKit
def EndsO (xs : Option (List AV)) (r : AV) (hp hp' : HP) (m : Nat) : Prop := match xs with
  | some xs => ∃ p, Fits [packA xs] hp [r] hp' p ∧ keepIds (List.range m) hp' p = true
  | none => False
def DoneO (P : Program) (fn : Func) (r : AV) (hp' : HP) (m : Nat) : Post := fun e tm hp _ => match e with
  | .normal | .ret => EndsO (resL P hp tm fn.results.toList) r hp hp' m
  | _ => False
theorem doneO_ret (P : Program) (fn : Func) (r : AV) (hp' : HP) (m : Nat) (tm : List AV) (hp : HP) (n : Nat) : DoneO P fn r hp' m .ret tm hp n = EndsO (resL P hp tm fn.results.toList) r hp hp' m := rfl
theorem doneO_normal (P : Program) (fn : Func) (r : AV) (hp' : HP) (m : Nat) (tm : List AV) (hp : HP) (n : Nat) : DoneO P fn r hp' m .normal tm hp n = EndsO (resL P hp tm fn.results.toList) r hp hp' m := rfl
theorem endsO_one (x r : AV) (hp hp' : HP) (m : Nat) : EndsO (some [x]) r hp hp' m = ∃ p, Fits [x] hp [r] hp' p ∧ keepIds (List.range m) hp' p = true := rfl
theorem endsO_nil (r : AV) (hp hp' : HP) (m : Nat) : EndsO (some []) r hp hp' m = ∃ p, Fits [.tup []] hp [r] hp' p ∧ keepIds (List.range m) hp' p = true := rfl
theorem endsO_more (x y : AV) (xs : List AV) (r : AV) (hp hp' : HP) (m : Nat) : EndsO (some (x :: y :: xs)) r hp hp' m = ∃ p, Fits [.tup (x :: y :: xs)] hp [r] hp' p ∧ keepIds (List.range m) hp' p = true := rfl
section
variable {P : Program}
theorem respell_ext {w : World} {Z : Nat → Prop} {L : Nat → Blk} {s s' : Nat → Value} (hs : ∀ r, L r = .dead ∨ s' r = s r) : Ext w Z L s w Z L s' :=
  ⟨fun _ h => h, fun _ _ => rfl, fun r => (hs r).elim (fun h => .dead h) (fun h => by rw [h]; exact Like.refl _ _), fun r sz' rows' h h' => by rw [h'] at h; exact h.elim⟩
theorem HR.respell {F : Nat → Prop} {W0 : Ent} {w : World} {Z : Nat → Prop} {L : Nat → Blk} {s s' : Nat → Value} (h : HR F W0 w L s Z) (hs : ∀ r, L r = .dead ∨ s' r = s r) : HR F W0 w L s' Z := by
  have lv : ∀ r, (L r).live → s' r = s r := fun r hl => (hs r).elim (fun e => by rw [e] at hl; exact hl.elim) id
  refine ⟨fun r => ?_, fun r r' g a b c d => h.sepF r r' g a b (by rw [← lv r a]; exact c) (by rw [← lv r' b]; exact d), fun r g a b => h.nzF r g a (by rw [← lv r a]; exact b), fun r g a b => h.mineF r g a (by rw [← lv r a]; exact b), h.zin, h.kept, h.zsrc, h.zhas⟩
  rcases hs r with e | e
  · rw [e]; trivial
  · rw [e]; exact (h.blk r).mono (respell_ext hs) fun _ _ _ => rfl
theorem OwnOk.of_vcT {G : List (FuncId × Abs)} (hG : ∀ p ∈ G, CallOk P p.1 p.2) (hm : P.follows .mixedOrders = true) {f : FuncId} {fn : Func} {c : Code} {g : OC} (hf : P.funcs[f]? = some fn) (hname : (fn.name == "runtime.NumGoroutine") = false) (hb : fn.body = some c)
    (h : ∀ args B0 cnd r B1 bs, g args B0 = some (cnd, r, B1, bs) → cnd → (∀ b ∈ B0, b.liveB = true) → (likeBs B0 B1 ∧ (∀ b ∈ B1 ++ bs, (b.liveB = true ∨ b = .dead) ∧ blkIds b = []) ∧ (∀ k ∈ r.ids, k < B1.length + bs.length)) ∧
      ∃ args' : List AV, args'.length = args.length ∧ (∀ w Z s vs, ARel w Z (lk (hpAt 0 B0)) s args vs → ARel w Z (lk (hpAt 0 B0)) s args' vs) ∧
      vc P G (List.range B0.length) c (DoneO P fn r (hpAt 0 (B1 ++ bs)) B0.length) (args' ++ List.replicate (fn.ntmps - args'.length) (.v undef)) (hpAt 0 B0) B0.length) : OwnOk P f g := by
  refine ⟨⟨fn, c, hf, hname, hb⟩, fun w F Z0 s0 args vs B0 cnd r B1 bs hH hargs hlive hg hc => ?_⟩
  obtain ⟨hflat, args', hl, hconv, hvc⟩ := h args B0 cnd r B1 bs hg hc hlive
  refine ⟨hflat, calls_of_wp hf hb ?_⟩
  have ha := hconv w Z0 s0 vs hargs
  have hat : ∀ i, i < B0.length → lk (hpAt 0 B0) i = B0.getD i .none ∧ (B0.getD i .none).liveB = true := fun i hi => by
    refine ⟨by rw [lk_hpAt]; simp, ?_⟩
    simp only [List.getD, List.getElem?_eq_getElem hi, Option.getD_some]
    exact hlive _ (List.getElem_mem hi)
  have hl1 : B1.length = B0.length := (likeBs_at hflat.1).1.symm
  refine vc_ok (S := (List.range B0.length).map fun i => (i, s0 i)) (by rw [List.map_map]; exact (List.map_id _).symm) (F := F) (W0 := ⟨w, Z0⟩) hG hm c _ _ (hpAt 0 B0) B0.length _ w _ hvc ⟨s0, Z0, hH, ⟨?_, fun i x y hx hy => ?_, rfl⟩, fun k hk => ?_, fun p hp => ?_⟩ fun e tm' hp' n' a' w' hk hB => ?_
  · simp [ha.1]
  · by_cases hi : i < args'.length
    · rw [List.getElem?_append_left hi] at hx
      rw [Array.getElem?_append_left (by simp [ha.1]; exact hi)] at hy
      exact ha.2 i x y hx (by simpa using hy)
    · rw [List.getElem?_append_right (by omega)] at hx
      rw [Array.getElem?_append_right (by simp [ha.1]; omega)] at hy
      rw [List.getElem?_replicate] at hx
      rw [Array.getElem?_replicate] at hy
      split at hx
      · simp at hx; subst hx
        split at hy
        · simp at hy; subst hy; exact .v _
        · cases hy
      · cases hx
  · rw [lk_hpAt]
    simp only [Nat.zero_le, if_true, Nat.sub_zero]
    simp only [List.getD, List.getElem?_eq_none hk, Option.getD_none]
  · obtain ⟨i, hi, rfl⟩ := List.mem_map.1 hp
    have hi : i < B0.length := List.mem_range.1 hi
    obtain ⟨k1, k2⟩ := hat i hi
    dsimp only
    rw [k1]
    exact ⟨(fun e => by rw [e] at k2; cases k2), .inr rfl⟩
  · obtain ⟨s, Z, h1, h2, h3, h4⟩ := hB
    have fin : EndsO (resL P hp' tm' fn.results.toList) r hp' (hpAt 0 (B1 ++ bs)) B0.length → a'.defers = [] ∧ ∃ v, (results fn a'.tmps).run P w' = .ok v w' ∧ ∃ v' s Z, Ending.returned v = .returned v' ∧ HR F ⟨w, Z0⟩ w' (lk (hpAt 0 (B1 ++ bs))) s Z ∧ (∀ i, i < B0.length → s i = s0 i) ∧ AVR w' Z (lk (hpAt 0 (B1 ++ bs))) s r v' := by
      intro he
      unfold EndsO at he
      split at he
      · rename_i xs hx
        obtain ⟨p, hfit, hkeep⟩ := he
        obtain ⟨v, k1, k2⟩ := res_ok (P := P) h1 h2 hx
        have hs : ∀ i, lk (hpAt 0 (B1 ++ bs)) i = .dead ∨ (if i < B0.length then s0 i else sRen (rn p) s i) = sRen (rn p) s i := fun i => by
          by_cases hi : i < B0.length
          · rw [if_pos hi]
            have hki := List.all_eq_true.1 hkeep i (List.mem_range.2 hi)
            rw [Bool.and_eq_true] at hki
            have e1 : rn p i = some i := by simpa using hki.1
            have e2 : i ∈ (hpAt 0 (B1 ++ bs)).map (·.1) := by simpa using hki.2
            obtain ⟨g1, -, -, g2⟩ := fitH_at hfit.h i e2
            obtain ⟨q1, q2⟩ := h4 (i, s0 i) (List.mem_map.2 ⟨i, List.mem_range.2 hi, rfl⟩)
            simp only [fitB, e1] at g1
            simp only [sRen, e1]
            rcases q2 with q2 | q2
            · left
              rw [q2] at g1
              rcases g1 with g1 | g1
              · cases hb : lk (hpAt 0 (B1 ++ bs)) i <;> rw [hb] at g1 <;> simp [Blk.ren] at g1 ⊢
              · obtain ⟨_, _, _, _, _, ⟨k1, _⟩ | ⟨k1, _⟩⟩ := trE_tr g1 <;> cases k1
            · exact .inr q2.symm
          · exact .inr (if_neg hi)
        refine ⟨h2.defers, v, k1, v, fun i => if i < B0.length then s0 i else sRen (rn p) s i, Z, rfl, (h1.fits hfit).respell hs, fun i hi => if_pos hi, ?_⟩
        exact (AVR.fits hfit (i := 0) rfl fun z hz => by simp at hz; subst hz; exact k2).mono (respell_ext hs)
      · exact he.elim
    cases e with
    | normal => exact fin hk
    | ret => exact fin hk
    | _ => exact hk.elim
theorem OwnOk.of_vc {G : List (FuncId × Abs)} (hG : ∀ p ∈ G, CallOk P p.1 p.2) (hm : P.follows .mixedOrders = true) {f : FuncId} {fn : Func} {c : Code} {g : OC} (hf : P.funcs[f]? = some fn) (hname : (fn.name == "runtime.NumGoroutine") = false) (hb : fn.body = some c)
    (h : ∀ args B0 cnd r B1 bs, g args B0 = some (cnd, r, B1, bs) → cnd → (∀ b ∈ B0, b.liveB = true) → (likeBs B0 B1 ∧ (∀ b ∈ B1 ++ bs, b.liveB = true ∧ blkIds b = []) ∧ (∀ k ∈ r.ids, k < B1.length + bs.length)) ∧
      ∃ args' : List AV, args'.length = args.length ∧ (∀ w Z s vs, ARel w Z (lk (hpAt 0 B0)) s args vs → ARel w Z (lk (hpAt 0 B0)) s args' vs) ∧
      vc P G (List.range B0.length) c (DoneO P fn r (hpAt 0 (B1 ++ bs)) B0.length) (args' ++ List.replicate (fn.ntmps - args'.length) (.v undef)) (hpAt 0 B0) B0.length) : OwnOk P f g :=
  OwnOk.of_vcT hG hm hf hname hb fun args B0 cnd r B1 bs hg hc hlive => by
    obtain ⟨⟨h1, h2, h3⟩, h4⟩ := h args B0 cnd r B1 bs hg hc hlive
    exact ⟨⟨h1, fun b hb => ⟨.inl (h2 b hb).1, (h2 b hb).2⟩, h3⟩, h4⟩
end
inductive Cv : AV → AV → Prop
  | refl (a : AV) : Cv a a
  | l (sz sz' : Nat) (rows : List (List D)) (h : ∀ r ∈ rows, r.length = sz') : Cv (.l sz rows) (.l sz' rows)
  | agg (xs ys : List AV) (hl : ys.length = xs.length) (h : ∀ (i : Nat) x y, xs[i]? = some x → ys[i]? = some y → Cv x y) : Cv (.agg xs) (.agg ys)
section
variable {w : World} {Z : Nat → Prop} {L : Nat → Blk} {s : Nat → Value}
theorem Rep.resize {sz sz' : Nat} {rows : List (List D)} {x : Value} (h : Rep w Z (.l sz rows) x) (hr : ∀ r ∈ rows, r.length = sz') : Rep w Z (.l sz' rows) x := by
  cases h with
  | e => exact .e _ _ _
  | l _ _ b off n c u hn hc hs hz hcell hrep =>
    rcases rows with _ | ⟨r, rows⟩
    · simp at hn; subst hn; exact .e _ _ _
    · have : sz = sz' := by rw [← hs r (by simp), hr r (by simp)]
      subst this
      exact .l _ _ b off n c u hn hc hs hz hcell hrep
theorem Cv.ok {a b : AV} (h : Cv a b) : ∀ {x : Value}, AVR w Z L s a x → AVR w Z L s b x := by
  induction h with
  | refl a => exact fun h => h
  | l sz sz' rows hr => intro x hx; cases hx with | l _ _ _ h => exact .l _ _ _ (h.resize hr)
  | agg xs ys hl _ ih =>
    intro x hx
    cases hx with
    | agg _ vs hvl hvs =>
      refine .agg _ vs (by omega) fun i y v hy hv => ?_
      have hi : i < xs.length := by have := (List.getElem?_eq_some_iff.1 hv).1; omega
      exact ih i _ y (List.getElem?_eq_getElem hi) hy (hvs i _ v (List.getElem?_eq_getElem hi) hv)
theorem CvL.ok {xs ys : List AV} {vs : List Value} (h : Cv (.agg xs) (.agg ys)) (hx : ARel w Z L s xs vs) : ARel w Z L s ys vs := by
  have := h.ok (.agg xs vs hx.1 hx.2)
  cases this with
  | agg _ vs' h1 h2 => exact ⟨h1, h2⟩
end
theorem Cv.nil : Cv (.agg []) (.agg []) := .refl _
theorem Cv.cons {x y : AV} {xs ys : List AV} (h : Cv x y) (k : Cv (.agg xs) (.agg ys)) : Cv (.agg (x :: xs)) (.agg (y :: ys)) := by
  have hk : ys.length = xs.length ∧ ∀ (i : Nat) a b, xs[i]? = some a → ys[i]? = some b → Cv a b := by
    cases k with
    | refl => exact ⟨rfl, fun i a b ha hb => by rw [ha] at hb; cases hb; exact .refl _⟩
    | agg _ _ hl h => exact ⟨hl, h⟩
  refine .agg _ _ (by simp [hk.1]) fun i a b ha hb => ?_
  cases i with
  | zero => simp at ha hb; subst ha; subst hb; exact h
  | succ i => exact hk.2 i a b (by simpa using ha) (by simpa using hb)
theorem bytesOf_rows (xs : List UInt8) : bytesOfRows (rowsOfBytes xs) = xs := by
  simp only [bytesOfRows, rowsOfBytes, List.map_map]
  rw [List.map_congr_left (g := id) fun x _ => ?_]
  · simp
  · simp [byteOf, D.toI]
theorem rowsOf_len (xs : List UInt8) : (rowsOfBytes xs).length = xs.length := by simp [rowsOfBytes]
theorem rowsOf_w (xs : List UInt8) : ∀ r ∈ rowsOfBytes xs, r.length = 1 := fun r hr => by
  simp only [rowsOfBytes, List.mem_map] at hr
  obtain ⟨x, _, rfl⟩ := hr
  rfl
theorem rowsOf_get (xs : List UInt8) (i : Nat) (h : i < xs.length) : (rowsOfBytes xs).getD i [] = [.v (.int .u8 ((xs.getD i 0).toNat : Int))] := by
  simp [rowsOfBytes, List.getD, h]
theorem rowsOf_app (xs ys : List UInt8) : rowsOfBytes xs ++ rowsOfBytes ys = rowsOfBytes (xs ++ ys) := by simp [rowsOfBytes]
theorem rowsOf_flat (xs : List UInt8) : ∀ r ∈ rowsOfBytes xs, ∀ d ∈ r, ∃ x, d = .v x := fun r hr d hd => by
  simp only [rowsOfBytes, List.mem_map] at hr
  obtain ⟨x, _, rfl⟩ := hr
  simp at hd
  exact ⟨_, hd⟩
theorem rowsOf_take (xs : List UInt8) (k : Nat) : (rowsOfBytes xs).take k = rowsOfBytes (xs.take k) := by simp [rowsOfBytes, List.map_take]
theorem rowsOf_drop (xs : List UInt8) (k : Nat) : (rowsOfBytes xs).drop k = rowsOfBytes (xs.drop k) := by simp [rowsOfBytes, List.map_drop]
end Go.Proofs.Ytkfjaeoehhakpaa
