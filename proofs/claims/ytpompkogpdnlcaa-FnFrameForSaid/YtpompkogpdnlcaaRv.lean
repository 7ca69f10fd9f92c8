import Derived.Test.YtpompkogpdnlcaaRu
namespace Go.Proofs.Ytpompkogpdnlcaa
open Go.RowKit

/-- what a function answers: a condition on its arguments, a value, new slices -/
abbrev PC := List AV → Option (Prop × AV × List Blk)
def hpAt (q : Nat) : List Blk → HP
  | [] => []
  | b :: bs => (q, b) :: hpAt (q + 1) bs
def sh (q : Nat) : Nat → Option Nat := fun r => some (q + r)

/-- an argument as data -/
def nrm (L : Nat → Blk) : AV → AV
  | .own r => match L r with | .sl _ sz rows | .still sz rows => .l sz rows | _ => .any
  | .sub r lo hi => match L r with | .sl _ sz rows | .still sz rows => .l sz ((rows.take hi).drop lo) | _ => .any
  | .v x => if nilV x = true then .l 1 [] else .v x
  | .l sz rows => .l sz rows
  | .agg cs => .agg (nrmL L cs)
  | _ => .any
where nrmL (L : Nat → Blk) : List AV → List AV
  | [] => []
  | c :: cs => nrm L c :: nrmL L cs

def pureAbs (g : PC) : Abs := fun args L q => match g (args.map (nrm L)) with
  | some (c, r, bs) => if bs.length ≤ 16 then some ⟨c, r.ren (sh q), hpAt q bs⟩ else none
  | none => none

/-- rows without slices -/
def flatB : Blk → Prop
  | .sl _ _ rows => ∀ r ∈ rows, ∀ d ∈ r, ∃ x, d = .v x
  | _ => False
def flatA : AV → Bool
  | .v _ | .own _ => true
  | .agg cs => flatL cs
  | .tup cs => flatL cs
  | _ => false
where flatL : List AV → Bool
  | [] => true
  | c :: cs => flatA c && flatL cs

def Zold (w : World) : Nat → Prop := fun b => b < w.heap.size
structure PureOk (P : Program) (f : FuncId) (g : PC) : Prop where
  there : ∃ fn c, P.funcs[f]? = some fn ∧ (fn.name == "runtime.NumGoroutine") = false ∧ fn.body = some c
  does : ∀ (w : World) (args : List AV) (vs : List Value) (c : Prop) (r : AV) (bs : List Blk), ARel w (Zold w) (fun _ => .none) (fun _ => nilS) args vs → g args = some (c, r, bs) → c →
    (flatA r = true ∧ (∀ b ∈ bs, flatB b) ∧ (∀ k ∈ r.ids, k < bs.length)) ∧
    Calls P f vs.toArray w fun e w' => ∃ v s Z, e = .returned v ∧ HR (fun _ => False) ⟨w, Zold w⟩ w' (lk (hpAt 0 bs)) s Z ∧ AVR w' Z (lk (hpAt 0 bs)) s r v

section
variable {P : Program} {w : World} {Z : Nat → Prop} {L : Nat → Blk} {s : Nat → Value} {F : Nat → Prop} {W0 : Ent}

theorem nrmL_map (L : Nat → Blk) : ∀ cs : List AV, nrm.nrmL L cs = cs.map (nrm L)
  | [] => rfl
  | c :: cs => by rw [nrm.nrmL, nrmL_map L cs]; rfl

theorem lk_hpAt : ∀ (bs : List Blk) (q k : Nat), lk (hpAt q bs) k = if q ≤ k then bs.getD (k - q) .none else .none
  | [], q, k => by simp [hpAt, lk]
  | b :: bs, q, k => by
    simp only [hpAt, lk]
    rw [lk_hpAt bs (q + 1) k]
    by_cases h1 : k = q
    · subst h1; simp
    · rw [if_neg h1]
      by_cases h2 : q ≤ k
      · rw [if_pos h2, if_pos (by omega), show k - q = (k - (q + 1)) + 1 by omega]
        simp
      · rw [if_neg h2, if_neg (by omega)]

theorem ups_hpAt : ∀ (bs : List Blk) (q k : Nat) (L : Nat → Blk), ups L (hpAt q bs) k = if q ≤ k ∧ k < q + bs.length then bs.getD (k - q) .none else L k
  | [], q, k, L => by
    rw [if_neg (by simp only [List.length_nil]; omega)]
    rfl
  | b :: bs, q, k, L => by
    simp only [hpAt, ups]
    rw [ups_hpAt bs (q + 1) k]
    by_cases h1 : k = q
    · subst h1; rw [if_neg (by omega), up_same, if_pos (by simp)]; simp
    · by_cases h2 : q + 1 ≤ k ∧ k < q + 1 + bs.length
      · rw [if_pos h2, if_pos (by simp; omega), show k - q = (k - (q + 1)) + 1 by omega]
        simp
      · rw [if_neg h2, up_ne _ _ h1, if_neg (by simp only [List.length_cons]; omega)]

/-- all that is there reads as data -/
theorem nrm_ok (h : HR F W0 w L s Z) {a : AV} {x : Value} (hx : AVR w Z L s a x) : AVR w (Zold w) (fun _ => .none) (fun _ => nilS) (nrm L a) x := by
  have zz : ∀ b, Z b → Zold w b := fun b hb => h.zin b hb
  have fl : ∀ r e sz rows, L r = .sl e sz rows → Rep w (Zold w) (.l sz rows) (s r) := fun r e sz rows hL => by
    obtain ⟨Z', H, E⟩ := h.freeze hL
    have := H.blk r
    rw [up_same] at this
    exact Rep.mono this (fun b hb => H.zin b hb) (fun _ _ => rfl)
  have st : ∀ r sz rows, L r = .still sz rows → Rep w (Zold w) (.l sz rows) (s r) := fun r sz rows hL => by
    have := h.blk r
    rw [hL] at this
    exact Rep.mono this zz (fun _ _ => rfl)
  induction hx with
  | any x => exact .any x
  | v x =>
    simp only [nrm]
    split
    · rename_i hn; rw [nilV_eq hn]; exact .l _ _ _ (.e _ _ _)
    · exact .v x
  | l sz rows x h => exact .l _ _ _ (h.mono zz (fun _ _ => rfl))
  | own r x e sz rows hL hx hn => simp only [nrm, hL]; rw [hx]; exact .l _ _ _ (fl r e sz rows hL)
  | ownStill r x sz rows hL hx ho => simp only [nrm, hL]; rw [hx]; exact .l _ _ _ (st r sz rows hL)
  | ownDead r x hL ho => simp only [nrm, hL]; exact .any x
  | sub r lo hi x e sz rows hL h1 h2 A n c hx hn hc hA =>
    simp only [nrm, hL]
    rw [hx]
    refine .l _ _ _ ((fl r e sz rows hL).cut h1 h2 hn hc fun h0 => ?_)
    obtain ⟨g, N, C, hs, hA'⟩ := hA h0
    exact ⟨g, 0, N, C, hs, by rw [hA', Nat.zero_add]⟩
  | subStill r lo hi x sz rows hL h1 h2 hx => simp only [nrm, hL]; exact .l _ _ _ (hx.mono zz (fun _ _ => rfl))
  | subDead r lo hi x hL ho => simp only [nrm, hL]; exact .any x
  | agg cs vs hl _ ih =>
    simp only [nrm]
    rw [nrmL_map]
    refine .agg _ vs (by simp [hl]) fun i a b ha hb => ?_
    rw [List.getElem?_map] at ha
    cases hc : cs[i]? with
    | none => simp [hc] at ha
    | some c => simp [hc] at ha; subst ha; exact ih i c b hc hb
  | _ => exact .any _

theorem nrm_near {L L' : Nat → Blk} {x : AV} (h : ∀ r ∈ x.ids, L' r = L r) : nrm L' x = nrm L x := by
  have go : ∀ (n : Nat) (x : AV), SizeOf.sizeOf x ≤ n → (∀ r ∈ x.ids, L' r = L r) → nrm L' x = nrm L x := by
    intro n
    induction n with
    | zero => intro x hx; cases x <;> simp at hx <;> omega
    | succ n ih =>
      intro x hx h
      cases x with
      | own r => simp only [nrm]; rw [h r (by simp [AV.ids])]
      | sub r lo hi => simp only [nrm]; rw [h r (by simp [AV.ids])]
      | agg cs =>
        simp only [nrm]
        rw [nrmL_map, nrmL_map]
        congr 1
        refine List.map_congr_left fun c hc => ih c ?_ fun r hr => h r (by simp only [AV.ids]; exact (memL _ _).2 ⟨c, hc, hr⟩)
        have := List.sizeOf_lt_of_mem hc
        simp at hx
        omega
      | _ => rfl
  exact go _ x (Nat.le_refl _) h

theorem flat_rep {w w' : World} {Z Z' : Nat → Prop} {x : Value} {d : D} (hd : ∃ x, d = .v x) (h : Rep w Z d x) : Rep w' Z' d x := by
  obtain ⟨y, rfl⟩ := hd
  cases h with
  | v x ho => exact .v _ ho

theorem flatL_mem : ∀ {cs : List AV}, flatA.flatL cs = true → ∀ c ∈ cs, flatA c = true
  | [], _, c, hc => by simp at hc
  | c :: cs, hf, d, hd => by
    simp only [flatA.flatL, Bool.and_eq_true] at hf
    rcases List.mem_cons.1 hd with rfl | hd
    · exact hf.1
    · exact flatL_mem hf.2 d hd

theorem flat_avr {w' : World} {Z' : Nat → Prop} {L' : Nat → Blk} {s' : Nat → Value} {q : Nat} : ∀ {a : AV} {x : Value}, AVR w Z L s a x → flatA a = true → (∀ r ∈ a.ids, L' (q + r) = L r ∧ s' (q + r) = s r) → AVR w' Z' L' s' (a.ren (sh q)) x := by
  intro a x h
  induction h with
  | v x => intro _ _; exact .v x
  | own r x e sz rows hL hx hn =>
    intro _ hh
    obtain ⟨h1, h2⟩ := hh r (by simp [AV.ids])
    exact .own _ x e sz rows (by rw [h1, hL]) (by rw [h2, hx]) (by rw [h2]; exact hn)
  | ownStill r x sz rows hL hx ho =>
    intro _ hh
    obtain ⟨h1, h2⟩ := hh r (by simp [AV.ids])
    exact .ownStill _ x sz rows (by rw [h1, hL]) (by rw [h2, hx]) ho
  | ownDead r x hL ho =>
    intro _ hh
    obtain ⟨h1, h2⟩ := hh r (by simp [AV.ids])
    exact .ownDead _ x (by rw [h1, hL]) ho
  | agg cs vs hl _ ih =>
    intro hf hh
    simp only [AV.ren]
    rw [renL_map]
    have hfl : ∀ c ∈ cs, flatA c = true := flatL_mem (by simpa only [flatA] using hf)
    refine .agg _ vs (by simp [hl]) fun i a b ha hb => ?_
    rw [List.getElem?_map] at ha
    cases hc : cs[i]? with
    | none => simp [hc] at ha
    | some c =>
      simp [hc] at ha; subst ha
      have hm := List.mem_of_getElem? hc
      exact ih i c b hc hb (hfl c hm) fun r hr => hh r (by simp only [AV.ids]; exact (memL _ _).2 ⟨c, hm, hr⟩)
  | tup cs vs hl _ ih =>
    intro hf hh
    simp only [AV.ren]
    rw [renL_map]
    have hfl : ∀ c ∈ cs, flatA c = true := flatL_mem (by simpa only [flatA] using hf)
    refine .tup _ vs (by simp [hl]) fun i a b ha hb => ?_
    rw [List.getElem?_map] at ha
    cases hc : cs[i]? with
    | none => simp [hc] at ha
    | some c =>
      simp [hc] at ha; subst ha
      have hm := List.mem_of_getElem? hc
      exact ih i c b hc hb (hfl c hm) fun r hr => hh r (by simp only [AV.ids]; exact (memL _ _).2 ⟨c, hm, hr⟩)
  | _ => intro hf; cases hf

/-- a function that leaves all as it was -/
theorem PureOk.call {f : FuncId} {g : PC} (C : PureOk P f g) : CallOk P f (pureAbs g) := by
  refine ⟨C.there, fun F W0 w L s Z args vs q out hH hargs hab hc hfree => ?_, fun L L' args q hn => ?_, fun L args q out hab p hp => ?_⟩
  · unfold pureAbs at hab
    split at hab
    · rename_i c r bs hg
      split at hab
      · rename_i hlen
        simp at hab; subst hab
        have hargs' : ARel w (Zold w) (fun _ => .none) (fun _ => nilS) (args.map (nrm L)) vs := ⟨by simp [hargs.1], fun i x y hx hy => by
          rw [List.getElem?_map] at hx
          cases hz : args[i]? with
          | none => simp [hz] at hx
          | some z => simp [hz] at hx; subst hx; exact nrm_ok hH (hargs.2 i z y hz hy)⟩
        obtain ⟨⟨hf1, hf2, hf3⟩, hcall⟩ := C.does w _ vs c r bs hargs' hg hc
        refine hcall.mono ?_
        rintro e w' ⟨v, s1, Z1, rfl, H1, hr⟩
        let L' := ups L (hpAt q bs)
        let s' : Nat → Value := fun k => if q ≤ k ∧ k < q + bs.length then s1 (k - q) else s k
        have hL' : ∀ k, L' k = if q ≤ k ∧ k < q + bs.length then bs.getD (k - q) .none else L k := fun k => ups_hpAt bs q k L
        have hold : ∀ k, ¬ (q ≤ k ∧ k < q + bs.length) → L' k = L k ∧ s' k = s k := fun k hk => ⟨by rw [hL', if_neg hk], by simp only [s']; rw [if_neg hk]⟩
        have hnew : ∀ k, k < bs.length → L' (q + k) = bs.getD k .none ∧ s' (q + k) = s1 k ∧ lk (hpAt 0 bs) k = bs.getD k .none := fun k hk => ⟨by rw [hL', if_pos (by omega), Nat.add_sub_cancel_left], by simp only [s']; rw [if_pos (by omega), Nat.add_sub_cancel_left], by rw [lk_hpAt]; simp⟩
        have hw : ∀ b, b < w.heap.size → w'.heap[b]? = w.heap[b]? := fun b hb => H1.kept.block b hb fun h => h
        have hE : Ext w Z L s w' Z L' s' := by
          refine ⟨fun _ h => h, fun b hb => hw b (hH.zin b hb), fun k => ?_, fun k e sz rows sz' rows' h1 h2 => ?_⟩
          · by_cases hk : q ≤ k ∧ k < q + bs.length
            · exact .fresh (hfree k hk.1 (by omega))
            · rw [(hold k hk).1, (hold k hk).2]; exact Like.refl _ _
          · by_cases hk : q ≤ k ∧ k < q + bs.length
            · rw [hfree k hk.1 (by omega)] at h1; cases h1
            · rw [(hold k hk).1, h1] at h2; cases h2
        have hgb : ∀ k, k < bs.length → flatB (bs.getD k .none) := fun k hk => by
          simp only [List.getD, List.getElem?_eq_getElem hk, Option.getD_some]
          exact hf2 _ (List.getElem_mem hk)
        have hnb : ∀ k, k < bs.length → BlkR w' Z L' s' (bs.getD k .none) (s1 k) := fun k hk => by
          have h1 := H1.blk k
          rw [(hnew k hk).2.2] at h1
          have h2 := hgb k hk
          generalize bs.getD k .none = b at h1 h2
          cases b with
          | sl e sz rows =>
            obtain ⟨k1, k2, xs, k3, k4⟩ := h1
            refine ⟨k1, k2, xs, k3, fun i j d hd => ?_⟩
            obtain ⟨u, hu, hr⟩ := k4 i j d hd
            refine ⟨u, hu, flat_rep ?_ hr⟩
            unfold rowAt at hd
            cases hrow : rows[i]? with
            | none => simp [hrow] at hd
            | some row => simp [hrow] at hd; exact h2 row (List.mem_of_getElem? hrow) d (List.mem_of_getElem? hd)
          | _ => exact h2.elim
        have split_ : ∀ k, (q ≤ k ∧ k < q + bs.length ∧ ∃ j, k = q + j ∧ j < bs.length) ∨ ¬ (q ≤ k ∧ k < q + bs.length) := fun k => by
          by_cases hk : q ≤ k ∧ k < q + bs.length
          · exact .inl ⟨hk.1, hk.2, k - q, by omega, by omega⟩
          · exact .inr hk
        have hnew_ge : ∀ j g, j < bs.length → (L' (q + j)).live → vblk (s' (q + j)) = some g → w.heap.size ≤ g ∧ g < w'.heap.size := fun j g hj hl hg => by
          rw [(hnew j hj).2.1] at hg
          rw [(hnew j hj).1, ← (hnew j hj).2.2] at hl
          have := H1.mine j g hl hg
          exact ⟨this.1.resolve_left fun h => h, this.2⟩
        refine ⟨v, s', Z, rfl, ⟨fun k => ?_, fun k k' g l1 l2 g1 g2 => ?_, fun k g l1 g1 => ?_, fun k g l1 g1 => ?_, fun b hb => Nat.lt_of_lt_of_le (hH.zin b hb) H1.kept.size, ?_, hH.zsrc, hH.zhas⟩, hE, flat_avr hr hf1 fun k hk => ?_⟩
        · rcases split_ k with ⟨_, _, j, rfl, hj⟩ | hk
          · rw [(hnew j hj).2.1, show ups L (hpAt q bs) (q + j) = bs.getD j .none from (hnew j hj).1]
            exact hnb j hj
          · rw [(hold k hk).2, show ups L (hpAt q bs) k = L k from (hold k hk).1]
            exact (hH.blk k).mono hE fun hl g hg => hw g (hH.mine k g hl hg).2
        · rcases split_ k with ⟨_, _, j, rfl, hj⟩ | hk <;> rcases split_ k' with ⟨_, _, j', rfl, hj'⟩ | hk'
          · have e1 := (hnew j hj)
            have e2 := (hnew j' hj')
            rw [e1.2.1] at g1
            rw [e2.2.1] at g2
            have l1' : (lk (hpAt 0 bs) j).live := by rw [e1.2.2, ← e1.1]; exact l1
            have l2' : (lk (hpAt 0 bs) j').live := by rw [e2.2.2, ← e2.1]; exact l2
            rw [H1.sep j j' g l1' l2' g1 g2]
          · have h1 := hnew_ge j g hj l1 g1
            have e2 := hold k' hk'
            rw [e2.2] at g2
            have l2' : (L k').live := by rw [← e2.1]; exact l2
            have := (hH.mine k' g l2' g2).2
            omega
          · have h1 := hnew_ge j' g hj' l2 g2
            have e2 := hold k hk
            rw [e2.2] at g1
            have l1' : (L k).live := by rw [← e2.1]; exact l1
            have := (hH.mine k g l1' g1).2
            omega
          · have e1 := hold k hk
            have e2 := hold k' hk'
            rw [e1.2] at g1
            rw [e2.2] at g2
            exact hH.sep k k' g (by rw [← e1.1]; exact l1) (by rw [← e2.1]; exact l2) g1 g2
        · rcases split_ k with ⟨_, _, j, rfl, hj⟩ | hk
          · intro hz
            have h1 := hnew_ge j g hj l1 g1
            have := hH.zin g hz
            omega
          · have e1 := hold k hk
            rw [e1.2] at g1
            exact hH.nz k g (by rw [← e1.1]; exact l1) g1
        · rcases split_ k with ⟨_, _, j, rfl, hj⟩ | hk
          · have h1 := hnew_ge j g hj l1 g1
            exact ⟨.inr (Nat.le_trans hH.kept.size h1.1), h1.2⟩
          · have e1 := hold k hk
            rw [e1.2] at g1
            have := hH.mine k g (by rw [← e1.1]; exact l1) g1
            exact ⟨this.1, Nat.lt_of_lt_of_le this.2 H1.kept.size⟩
        · have k0 := hH.kept
          have k1 := H1.kept
          exact ⟨k1.os.trans k0.os, k1.tape.trans k0.tape, k1.output.trans k0.output, Nat.le_trans k0.size k1.size, fun b hb hF => (hw b (Nat.lt_of_lt_of_le hb k0.size)).trans (k0.block b hb hF)⟩
        · have hk' := hf3 k hk
          have e1 := hnew k hk'
          exact ⟨by rw [show ups L (hpAt q bs) (q + k) = _ from e1.1, e1.2.2], e1.2.1⟩
      · cases hab
    · cases hab
  · unfold pureAbs
    have : args.map (nrm L') = args.map (nrm L) := List.map_congr_left fun x hx => nrm_near fun r hr => hn r (List.mem_flatMap.2 ⟨r, (memL _ _).2 ⟨x, hx, hr⟩, by simp⟩)
    rw [this]
  · unfold pureAbs at hab
    split at hab
    · rename_i c r bs hg
      split at hab
      · rename_i hlen
        simp at hab; subst hab
        right
        have key : ∀ (bs : List Blk) (q : Nat) p, p ∈ hpAt q bs → q ≤ p.1 ∧ p.1 < q + bs.length := by
          intro bs
          induction bs with
          | nil => intro q p hp; simp [hpAt] at hp
          | cons b bs ih =>
            intro q p hp
            simp only [hpAt, List.mem_cons] at hp
            rcases hp with rfl | hp
            · simp
            · have := ih (q + 1) p hp
              simp; omega
        have := key bs q p hp
        omega
      · cases hab
    · cases hab

/-- how a text ends -/
def Done (P : Program) (fn : Func) (r : AV) (bs : List Blk) : Post := fun e tm hp _ => match e with
  | .normal => ∃ xs p, resL P hp tm fn.results.toList = some xs ∧ Fits [packA xs] hp [r] (hpAt 0 bs) p
  | .ret => ∃ xs p, resL P hp tm fn.results.toList = some xs ∧ Fits [packA xs] hp [r] (hpAt 0 bs) p
  | _ => False

theorem PureOk.of_vc {G : List (FuncId × Abs)} (hG : ∀ p ∈ G, CallOk P p.1 p.2) (hm : P.follows .mixedOrders = true) {f : FuncId} {fn : Func} {c : Code} {g : PC} (hf : P.funcs[f]? = some fn) (hname : (fn.name == "runtime.NumGoroutine") = false) (hb : fn.body = some c)
    (h : ∀ args cnd r bs, g args = some (cnd, r, bs) → cnd → (flatA r = true ∧ (∀ b ∈ bs, flatB b) ∧ (∀ k ∈ r.ids, k < bs.length)) ∧ ∃ args' : List AV, args'.length = args.length ∧ (∀ w vs, ARel w (Zold w) (fun _ => .none) (fun _ => nilS) args vs → ARel w (Zold w) (fun _ => .none) (fun _ => nilS) args' vs) ∧
      vc P G [] c (Done P fn r bs) (args' ++ List.replicate (fn.ntmps - args'.length) (.v undef)) [] 0) : PureOk P f g := by
  refine ⟨⟨fn, c, hf, hname, hb⟩, fun w args vs cnd r bs hargs hg hc => ?_⟩
  obtain ⟨hflat, args', hl, hconv, hvc⟩ := h args cnd r bs hg hc
  refine ⟨hflat, calls_of_wp hf hb ?_⟩
  have ha := hconv w vs hargs
  refine vc_ok (S := []) rfl (F := fun _ => False) (W0 := ⟨w, Zold w⟩) hG hm c _ _ [] 0 _ w _ hvc ⟨fun _ => nilS, Zold w, ⟨fun r => trivial, fun r r' g h1 => h1.elim, fun r g h1 => h1.elim, fun r g h1 => h1.elim, fun b hb => hb, ⟨rfl, rfl, rfl, Nat.le_refl _, fun _ _ _ => rfl⟩, fun b hb => .inl hb, fun b hb => hb⟩, ⟨?_, fun i x y hx hy => ?_, rfl⟩, fun k _ => rfl, fun p hp => by simp at hp⟩ fun e tm' hp' n' a' w' hk hB => ?_
  · simp [ha.1]
  · by_cases hi : i < args'.length
    · rw [List.getElem?_append_left hi] at hx
      rw [Array.getElem?_append_left (by simp [ha.1]; exact hi)] at hy
      exact ha.2 i x y hx (by simpa using hy)
    · rw [List.getElem?_append_right (by omega)] at hx
      rw [Array.getElem?_append_right (by simp [ha.1]; omega)] at hy
      rw [List.getElem?_replicate] at hx
      rw [Array.getElem?_replicate] at hy
      split at hx
      · simp at hx; subst hx
        split at hy
        · simp at hy; subst hy; exact .v _
        · cases hy
      · cases hx
  · obtain ⟨s, Z, h1, h2, h3, -⟩ := hB
    have fin : (∃ xs p, resL P hp' tm' fn.results.toList = some xs ∧ Fits [packA xs] hp' [r] (hpAt 0 bs) p) → a'.defers = [] ∧ ∃ v, (results fn a'.tmps).run P w' = .ok v w' ∧ ∃ v' s Z, Ending.returned v = .returned v' ∧ HR (fun _ => False) ⟨w, Zold w⟩ w' (lk (hpAt 0 bs)) s Z ∧ AVR w' Z (lk (hpAt 0 bs)) s r v' := by
      rintro ⟨xs, p, hx, hfit⟩
      obtain ⟨v, k1, k2⟩ := res_ok (P := P) h1 h2 hx
      exact ⟨h2.defers, v, k1, v, sRen (rn p) s, Z, rfl, h1.fits hfit, AVR.fits hfit (i := 0) rfl fun z hz => by simp at hz; subst hz; exact k2⟩
    cases e with
    | normal => exact fin hk
    | ret => exact fin hk
    | _ => exact hk.elim
end
end Go.Proofs.Ytpompkogpdnlcaa
