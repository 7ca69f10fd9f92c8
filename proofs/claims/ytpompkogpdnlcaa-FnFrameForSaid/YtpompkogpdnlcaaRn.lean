import Derived.Test.YtpompkogpdnlcaaRm
namespace Go.Proofs.Ytpompkogpdnlcaa
open Go.RowKit

/-- what a call does to the plain machine -/
abbrev Abs := List AV → (Nat → Blk) → Nat → Option Out

section
variable {P : Program} {w : World} {Z : Nat → Prop} {L : Nat → Blk} {s : Nat → Value} {F : Nat → Prop} {W0 : Ent}

def ARel (w : World) (Z : Nat → Prop) (L : Nat → Blk) (s : Nat → Value) (xs : List AV) (ys : List Value) : Prop :=
  ys.length = xs.length ∧ ∀ (i : Nat) x y, xs[i]? = some x → ys[i]? = some y → AVR w Z L s x y

/-- numbers in values -/
def AV.ids : AV → List Nat
  | .own r | .sub r _ _ | .ptr r _ | .eptr r _ _ => [r]
  | .agg cs => idsL cs
  | .tup cs => idsL cs
  | _ => []
where idsL : List AV → List Nat
  | [] => []
  | c :: cs => AV.ids c ++ idsL cs
def blkIds : Blk → List Nat
  | .var _ cs => AV.ids.idsL cs
  | _ => []
def foot (L : Nat → Blk) (xs : List AV) : List Nat := (AV.ids.idsL xs).flatMap fun r => r :: blkIds (L r)

/-- a function does in the model what it does to the plain machine -/
structure CallOk (P : Program) (f : FuncId) (abs : Abs) : Prop where
  there : ∃ fn c, P.funcs[f]? = some fn ∧ (fn.name == "runtime.NumGoroutine") = false ∧ fn.body = some c
  does : ∀ (F : Nat → Prop) (W0 : Ent) (w : World) (L : Nat → Blk) (s : Nat → Value) (Z : Nat → Prop) (args : List AV) (vs : List Value) (q : Nat) (out : Out),
    HR F W0 w L s Z → ARel w Z L s args vs → abs args L q = some out → out.c → (∀ k, q ≤ k → k < q + 16 → L k = .none) →
    Calls P f vs.toArray w fun e w' => ∃ v s' Z', e = .returned v ∧ HR F W0 w' (ups L out.ups) s' Z' ∧ Ext w Z L s w' Z' (ups L out.ups) s' ∧ AVR w' Z' (ups L out.ups) s' out.dst v
  near : ∀ (L L' : Nat → Blk) (args : List AV) (q : Nat), (∀ r ∈ foot L args, L' r = L r) → abs args L' q = abs args L q
  writes : ∀ (L : Nat → Blk) (args : List AV) (q : Nat) (out : Out), abs args L q = some out → ∀ p ∈ out.ups, p.1 ∈ foot L args ∨ (q ≤ p.1 ∧ p.1 < q + 16)

def evA (tm : List AV) : Operand → AV
  | .tmp t => tm.getD t (.v undef)
  | .const v => .v v
  | .global g => .v (.pointer (some ⟨g, 0, none⟩))
  | .func f => .v (.func (.func f) #[] #[])

/-- the frames are those of one another -/
structure TR (w : World) (Z : Nat → Prop) (L : Nat → Blk) (s : Nat → Value) (tm : List AV) (a : Act) : Prop where
  len : a.tmps.size = tm.length
  rel : ∀ (i : Nat) x y, tm[i]? = some x → a.tmps[i]? = some y → AVR w Z L s x y
  defers : a.defers = []

theorem TR.eval {tm : List AV} {a : Act} (h : TR w Z L s tm a) (x : Operand) : AVR w Z L s (evA tm x) (a.eval x) := by
  cases x with
  | tmp t =>
    simp only [evA, Act.eval]
    by_cases ht : t < tm.length
    · have h1 : tm[t]? = some tm[t] := List.getElem?_eq_getElem ht
      have h2 : a.tmps[t]? = some (a.tmps[t]'(by rw [h.len]; exact ht)) := Array.getElem?_eq_getElem (by rw [h.len]; exact ht)
      have := h.rel t _ _ h1 h2
      simpa [List.getD, Array.getD, h1, h.len, ht] using this
    · have h1 : tm[t]? = none := List.getElem?_eq_none (Nat.le_of_not_lt ht)
      have h3 : ¬ t < a.tmps.size := by rw [h.len]; exact ht
      simp only [List.getD, h1, Array.getD, dif_neg h3, Option.getD_none]
      exact .v _
  | const v => exact .v v
  | global g => exact .v _
  | func f => exact .v _

def putT (tm : List AV) (d : Option Tmp) (x : AV) : List AV := match d with | some t => tm.set t x | none => tm

theorem TR.put {tm : List AV} {a : Act} (h : TR w Z L s tm a) {x : AV} {y : Value} (hx : AVR w Z L s x y) (d : Option Tmp) : TR w Z L s (putT tm d x) (a.put d y) := by
  cases d with
  | none => exact h
  | some t =>
    refine ⟨by simp [putT, Act.put, h.len], fun i u v hu hv => ?_, h.defers⟩
    simp only [putT] at hu
    simp only [Act.put] at hv
    by_cases e : t = i
    · subst e
      have h1 := (List.getElem?_eq_some_iff.1 hu).1
      rw [List.length_set] at h1
      rw [List.getElem?_set_self h1] at hu
      rw [Array.getElem?_setIfInBounds_self_of_lt (by rw [h.len]; exact h1)] at hv
      cases hu
      cases hv
      exact hx
    · rw [List.getElem?_set_ne e] at hu
      rw [Array.getElem?_setIfInBounds_ne e] at hv
      exact h.rel i u v hu hv

theorem TR.mono {tm : List AV} {a : Act} (h : TR w Z L s tm a) {w' : World} {Z' : Nat → Prop} {L' : Nat → Blk} {s' : Nat → Value} (E : Ext w Z L s w' Z' L' s') : TR w' Z' L' s' tm a :=
  ⟨h.len, fun i x y hx hy => (h.rel i x y hx hy).mono E, h.defers⟩

/-- a pointer that is none? -/
def oNil (L : Nat → Blk) (x : AV) : Option Out := match x with
  | .ptr r off => match L r with | .var _ _ => some ⟨True, .ptr r off, []⟩ | _ => none
  | .eptr r i j => match L r with | .sl _ _ _ => some ⟨True, .eptr r i j, []⟩ | _ => none
  | .rptr cells => some ⟨True, .rptr cells, []⟩
  | .v (.pointer (some a)) => some ⟨True, .v (.pointer (some a)), []⟩
  | _ => none
theorem oNil_ok {x : AV} {y : Value} (hx : AVR w Z L s x y) {out : Out} (ho : oNil L x = some out) : (∃ a, y = .pointer (some a)) ∧ AVR w Z L s out.dst y ∧ out.ups = [] := by
  cases hx <;> simp only [oNil] at ho
  case v =>
    split at ho
    all_goals first
      | (cases ho; done)
      | (rename_i e; cases e; cases ho; exact ⟨⟨_, rfl⟩, .v _, rfl⟩)
      | (rename_i e; cases e; done)
  case ptr r off T cs h g hs hy =>
    rw [h] at ho; simp at ho; subst ho; subst hy
    exact ⟨⟨_, rfl⟩, .ptr r off _ T cs h g hs rfl, rfl⟩
  case ptrDead r off h ho' => rw [h] at ho; cases ho
  case eptr r i j e sz rows h g n c hs hy =>
    rw [h] at ho; simp at ho; subst ho; subst hy
    exact ⟨⟨_, rfl⟩, .eptr r i j _ e sz rows h g n c hs rfl, rfl⟩
  case eptrStill r i j sz rows h ho' => rw [h] at ho; cases ho
  case eptrDead r i j h ho' => rw [h] at ho; cases ho
  case rptr cells b off u hz h1 h2 =>
    simp at ho; subst ho
    exact ⟨⟨_, rfl⟩, .rptr cells b off u hz h1 h2, rfl⟩
  all_goals cases ho

/-- what an operation does to the plain machine -/
def oOp (P : Program) (G : List (FuncId × Abs)) (o : Op) (ev : Operand → AV) (L : Nat → Blk) (q : Nat) : Option Out :=
  match o with
  | .move x | .assign x => some ⟨True, ev x, []⟩
  | .alloc T => oAlloc P T q
  | .box T x => oBox T (ev x) q
  | .build T ps => oBuild P T (ps.toList.map fun p => (p.1, ev p.2))
  | .buildSlice T n ps => oBuildSlice P L T n (ps.toList.map fun p => (p.1, ev p.2)) q
  | .load T x => oLoad P L T (ev x)
  | .store T a x => if 0 < szOf P T then oStore P L T (ev x) (ev a) else none
  | .binOp op T x y _ => oBin P op T (ev x) (ev y)
  | .unOp op _ x => oUn op (ev x)
  | .convert a b x => oConvert P L a b (ev x)
  | .makeSlice T a b => oMake P T (ev a) (ev b) q
  | .slice T x lo hi none => oSlice P L T (ev x) (lo.map ev) (hi.map ev)
  | .fieldAddr T x f => oFieldAddr P L T (ev x) f
  | .field T x f => oField P T (ev x) f
  | .indexAddr T x i => oIndexAddr P L T (ev x) (ev i)
  | .extract x i => oExtract (ev x) i
  | .nilCheck x => oNil L (ev x)
  | .call c => match c.callee with
    | .value (.func f) => match G.find? (fun p => p.1 == f) with
      | some p => p.2 (c.args.toList.map ev) L q
      | none => none
    | .builtin .len => match c.args.toList, c.argTypes.toList with
      | [x], [T] => oLen P L T (ev x)
      | _, _ => none
    | .builtin .append => match c.args.toList, c.argTypes.toList with
      | [x, y], [T, T'] => if T = T' then oAppend P L T (ev x) (ev y) q else none
      | _, _ => none
    | _ => none
  | _ => none

/-- the run of an operation keeps the states together -/
def Stays (P : Program) (F : Nat → Prop) (W0 : Ent) (w : World) (Z : Nat → Prop) (L : Nat → Blk) (s : Nat → Value) (o : Oper) (a : Act) (out : Out) (K : Act → World → Prop) (Q : Exit → Act → World → Prop) : Prop :=
  (∀ v w' s' Z', HR F W0 w' (ups L out.ups) s' Z' → Ext w Z L s w' Z' (ups L out.ups) s' → AVR w' Z' (ups L out.ups) s' out.dst v → K (a.put o.dst v) w') → o.wp P a w K Q

theorem pure_stays (h : HR F W0 w L s Z) {o : Oper} {a : Act} {out : Out} {K : Act → World → Prop} {Q : Exit → Act → World → Prop}
    (hr : ∃ v, (execOp a.eval o).run P w = .ok (.value v) w ∧ AVR w Z L s out.dst v ∧ out.ups = []) : Stays P F W0 w Z L s o a out K Q := by
  obtain ⟨v, h1, h2, h3⟩ := hr
  intro hK
  unfold Oper.wp
  rw [h1, Oper.upon_value]
  have e : ups L out.ups = L := by rw [h3]; rfl
  exact hK v w s Z (by rw [e]; exact h) (by rw [e]; exact Ext.refl _ _ _ _) (by rw [e]; exact h2)

theorem made_stays {o : Oper} {a : Act} {out : Out} {K : Act → World → Prop} {Q : Exit → Act → World → Prop}
    (hr : ∃ v w' s' Z', (execOp a.eval o).run P w = .ok (.value v) w' ∧ HR F W0 w' (ups L out.ups) s' Z' ∧ Ext w Z L s w' Z' (ups L out.ups) s' ∧ AVR w' Z' (ups L out.ups) s' out.dst v) : Stays P F W0 w Z L s o a out K Q := by
  obtain ⟨v, w', s', Z', h1, h2, h3, h4⟩ := hr
  intro hK
  unfold Oper.wp
  rw [h1, Oper.upon_value]
  exact hK v w' s' Z' h2 h3 h4

theorem PRel.of_parts {tm : List AV} {a : Act} (h : TR w Z L s tm a) : ∀ ps : List (Nat × Operand), PRel w Z L s (ps.map fun p => (p.1, evA tm p.2)) (ps.map fun p => (p.1, a.eval p.2))
  | [] => trivial
  | p :: ps => ⟨rfl, h.eval p.2, PRel.of_parts h ps⟩

theorem ARel.of_args {tm : List AV} {a : Act} (h : TR w Z L s tm a) (xs : List Operand) : ARel w Z L s (xs.map (evA tm)) (xs.map a.eval) :=
  ⟨by simp, fun i x y hx hy => by
    rw [List.getElem?_map] at hx hy
    cases hz : xs[i]? with
    | none => simp [hz] at hx
    | some z => simp [hz] at hx hy; subst hx; subst hy; exact h.eval z⟩

theorem ORel.of_opt {tm : List AV} {a : Act} (h : TR w Z L s tm a) (x : Option Operand) : ORel w Z L s (x.map (evA tm)) (x.map a.eval) := by
  cases x with
  | none => trivial
  | some x => exact h.eval x

theorem run_value {e : Sem Value} {v : Value} {w' : World} (h : e.run P w = .ok v w') : (do pure (Next.value (← e)) : Sem Next).run P w = .ok (.value v) w' := by
  rw [Sem.run_bind, h]
  rfl

theorem oOp_ok {G : List (FuncId × Abs)} (hG : ∀ p ∈ G, CallOk P p.1 p.2) (h : HR F W0 w L s Z) {tm : List AV} {a : Act} (ht : TR w Z L s tm a) {q : Nat} (hq : ∀ k, q ≤ k → k < q + 16 → L k = .none) {o : Oper} {out : Out}
    (ho : oOp P G o.op (evA tm) L q = some out) (hc : out.c) (K : Act → World → Prop) (Q : Exit → Act → World → Prop) : Stays P F W0 w Z L s o a out K Q := by
  have hq0 := hq q (Nat.le_refl _) (by omega)
  unfold oOp at ho
  split at ho <;> rename_i hop
  case h_1 x => simp at ho; subst ho; exact pure_stays h ⟨_, by simp [execOp, hop], ht.eval _, rfl⟩
  case h_2 x => simp at ho; subst ho; exact pure_stays h ⟨_, by simp [execOp, hop], ht.eval _, rfl⟩
  case h_3 T =>
    obtain ⟨v, w', s', h1, h2, h3, h4⟩ := oAlloc_ok h hq0 ho
    exact made_stays ⟨v, w', s', Z, by simp only [execOp, hop]; exact run_value h1, h2, h3, h4⟩
  case h_4 T x =>
    obtain ⟨v, w', s', h1, h2, h3, h4⟩ := oBox_ok (P := P) h hq0 (ht.eval x) ho
    exact made_stays ⟨v, w', s', Z, by simp only [execOp, hop]; exact run_value h1, h2, h3, h4⟩
  case h_5 T ps =>
    obtain ⟨v, h1, h2, h3⟩ := oBuild_ok (PRel.of_parts ht ps.toList) ho
    have e : (ps.toList.map fun p => (p.1, a.eval p.2)).toArray = ps.map fun (i, x) => (i, a.eval x) := by apply Array.ext'; simp
    rw [e] at h1
    exact pure_stays h ⟨v, by simp only [execOp, hop]; exact run_value h1, h2, h3⟩
  case h_6 T n ps =>
    obtain ⟨v, w', s', Z', h1, h2, h3, h4⟩ := oBuildSlice_ok h hq0 (PRel.of_parts ht ps.toList) ho
    have e : (ps.toList.map fun p => (p.1, a.eval p.2)).toArray = ps.map fun (i, x) => (i, a.eval x) := by apply Array.ext'; simp
    rw [e] at h1
    exact made_stays ⟨v, w', s', Z', by simp only [execOp, hop]; exact run_value h1, h2, h3, h4⟩
  case h_7 T x =>
    obtain ⟨v, h1, h2, h3⟩ := oLoad_ok h (ht.eval x) ho hc
    exact pure_stays h ⟨v, by simp only [execOp, hop]; exact run_value h1, h2, h3⟩
  case h_8 T x y =>
    split at ho
    · rename_i h0
      obtain ⟨w', Z', h1, h2, h3, h4⟩ := oStore_ok h (ht.eval y) (ht.eval x) ho hc h0
      intro hK
      unfold Oper.wp
      have : (execOp a.eval o).run P w = .ok .skip w' := by
        simp only [execOp, hop]
        rw [Sem.run_bind, h1]
        rfl
      rw [this, Oper.upon_skip]
      exact hK undef w' s Z' h2 h3 (by rw [h4]; exact .v _)
    · cases ho
  case h_9 op T x y _ =>
    obtain ⟨v, h1, h2, h3⟩ := oBin_ok (T := T) (xo := x) (yo := y) (P := P) (ht.eval x) (ht.eval y) ho hc
    exact pure_stays h ⟨v, by simp only [execOp, hop]; exact run_value h1, h2, h3⟩
  case h_10 op _ x =>
    obtain ⟨v, h1, h2, h3⟩ := oUn_ok (P := P) (ht.eval x) ho
    exact pure_stays h ⟨v, by simp only [execOp, hop]; exact run_value h1, h2, h3⟩
  case h_11 p r x =>
    obtain ⟨v, h1, h2, h3⟩ := oConvert_ok h (ht.eval x) ho hc
    exact pure_stays h ⟨v, by simp only [execOp, hop]; exact run_value h1, h2, h3⟩
  case h_12 T x y =>
    obtain ⟨v, w', s', h1, h2, h3, h4⟩ := oMake_ok h hq0 (ht.eval x) (ht.eval y) ho hc
    exact made_stays ⟨v, w', s', Z, by simp only [execOp, hop]; exact run_value h1, h2, h3, h4⟩
  case h_13 T x lo hi =>
    obtain ⟨v, h1, h2, h3⟩ := oSlice_ok h (ht.eval x) (ORel.of_opt ht lo) (ORel.of_opt ht hi) ho hc
    exact pure_stays h ⟨v, by simp only [execOp, hop]; exact run_value h1, h2, h3⟩
  case h_14 T x f =>
    obtain ⟨v, h1, h2, h3⟩ := oFieldAddr_ok (ht.eval x) ho
    exact pure_stays h ⟨v, by simp only [execOp, hop]; exact run_value h1, h2, h3⟩
  case h_15 T x f =>
    obtain ⟨v, h1, h2, h3⟩ := oField_ok (ht.eval x) ho
    exact pure_stays h ⟨v, by simp only [execOp, hop]; exact run_value h1, h2, h3⟩
  case h_16 T x i =>
    obtain ⟨v, h1, h2, h3⟩ := oIndexAddr_ok h (ht.eval x) (ht.eval i) ho hc
    exact pure_stays h ⟨v, by simp only [execOp, hop]; exact run_value h1, h2, h3⟩
  case h_17 x i =>
    obtain ⟨v, h1, h2, h3⟩ := oExtract_ok (P := P) (ht.eval x) ho
    exact pure_stays h ⟨v, by simp only [execOp, hop]; exact run_value h1, h2, h3⟩
  case h_18 x =>
    obtain ⟨⟨p, hp⟩, h2, h3⟩ := oNil_ok (ht.eval x) ho
    exact pure_stays h ⟨_, by simp only [execOp, hop]; rw [hp]; rfl, by rw [hp] at h2; exact h2, h3⟩
  case h_19 c =>
    obtain ⟨callee, args, argTypes⟩ := c
    dsimp only at ho
    split at ho
    · rename_i f
      split at ho
      · rename_i p hp
        have hmem := List.mem_of_find?_eq_some hp
        have hf : p.1 = f := by simpa using List.find?_some hp
        have C := hG p hmem
        rw [hf] at C
        intro hK
        obtain ⟨fn, c, hfn, hname, hbody⟩ := C.there
        unfold Oper.wp
        have hrun : (execOp a.eval o).run P w = .ok (.enter f (args.toList.map a.eval).toArray) w := by
          have e : (args.toList.map a.eval).toArray = args.map a.eval := by apply Array.ext'; simp
          rw [e]
          simp only [execOp, hop, resolve, Act.eval, Deferred.ofValue, Sem.run_bind, Sem.run_pure, Result.andThen_ok, invoke]
          have hname' : fn.name ≠ "runtime.NumGoroutine" := by simpa using hname
          simp [callFunc, hfn, hname', hbody]
        rw [hrun, Oper.upon_enter]
        refine (C.does F W0 w L s Z _ _ q out h (ARel.of_args ht args.toList) ho hc hq).mono ?_
        rintro e w' ⟨v, s', Z', rfl, h1, h2, h3⟩
        exact hK v w' s' Z' h1 h2 h3
      · cases ho
    · split at ho
      · rename_i x T hx hT
        obtain ⟨v, h1, h2, h3⟩ := oLen_ok (ty := o.type) h (ht.eval x) ho
        have e1 : args = #[x] := by apply Array.ext'; simpa using hx
        have e2 : argTypes = #[T] := by apply Array.ext'; simpa using hT
        subst e1
        subst e2
        exact pure_stays h ⟨v, by simp only [execOp, hop, resolve, invoke, builtin, Sem.run_bind, Sem.run_pure, Result.andThen_ok, List.map_toArray, List.map_cons, List.map_nil, h1], h2, h3⟩
      · cases ho
    · split at ho
      · rename_i x y T T' hx hT
        split at ho
        · rename_i hTT
          subst hTT
          obtain ⟨v, w', s', h1, h2, h3, h4⟩ := oAppend_ok (ty := o.type) h hq0 (ht.eval x) (ht.eval y) ho hc
          have e1 : args = #[x, y] := by apply Array.ext'; simpa using hx
          have e2 : argTypes = #[T, T] := by apply Array.ext'; simpa using hT
          subst e1
          subst e2
          exact made_stays ⟨v, w', s', Z, by simp only [execOp, hop, resolve, invoke, builtin, Sem.run_bind, Sem.run_pure, Result.andThen_ok, List.map_toArray, List.map_cons, List.map_nil, h1], h2, h3, h4⟩
        · cases ho
      · cases ho
    · cases ho
  case h_20 => cases ho
end
end Go.Proofs.Ytpompkogpdnlcaa
