import Derived.Test.YtpompkogpdnlcaaRv
namespace Go.Proofs.Ytpompkogpdnlcaa
open Go.RowKit

/-! The evaluation, a step at a time: what is still to come is kept as data, so that it is met only when it is reached. -/
def seqK (P : Program) (G : List (FuncId × Abs)) (S0 : List Nat) (b : Code) (K : Post) : Post := fun e tm hp n => match e with | .normal => vc P G S0 b K tm hp n | e => K e tm hp n
def blkK (id : Nat) (K : Post) : Post := fun e tm hp n => match e with | .exit j => if j = id then K .normal tm hp n else K (.exit j) tm hp n | e => K e tm hp n
def regK (l : List Oper) (dr : Bool) (n : Nat) (K : Post) : List AV → HP → List FP → Prop := fun tm hp fps => (if dr then drawOk l.toArray n fps = true else True) ∧ K .normal tm hp (n + 16 * l.length)
def condK (x : Option Bool) (P : Program) (G : List (FuncId × Abs)) (S0 : List Nat) (c : Operand) (a b : Code) (K : Post) (tm : List AV) (hp : HP) (n : Nat) : Prop := match x with
  | some x => if x = true then vc P G S0 a K (refn tm c true) hp n else vc P G S0 b K (refn tm c false) hp n
  | none => False
def gateK (g : Gate) (P : Program) (G : List (FuncId × Abs)) (ds : List (Option Tmp)) (dr : Bool) (o : Oper) (rest : List Oper) (q : Nat) (tm : List AV) (hp : HP) (acc : List FP) (K : List AV → HP → List FP → Prop) : Prop := match g with
  | .go => vcEx P G ds dr o rest q tm hp acc K
  | .skip => vcOps P G ds dr rest (q + 16) (putT tm o.dst (.v undef)) hp (acc ++ [fpD P G dr o tm hp ⟨True, .v undef, []⟩]) K
  | .ask t b want => if b = want then vcEx P G ds dr o rest q (tm.set t (.v (.bool want))) hp acc K
      else vcOps P G ds dr rest (q + 16) (putT (tm.set t (.v (.bool (!want)))) o.dst (.v undef)) hp (acc ++ [fpD P G dr o (tm.set t (.v (.bool (!want)))) hp ⟨True, .v undef, []⟩]) K
  | .stuck => False
def pickK (x : Option Bool) (P : Program) (G : List (FuncId × Abs)) (ds : List (Option Tmp)) (dr : Bool) (c a b : Operand) (o : Oper) (rest : List Oper) (q : Nat) (tm : List AV) (hp : HP) (acc : List FP) (K : List AV → HP → List FP → Prop) : Prop := match x with
  | some x => if x = true then vcOps P G ds dr rest (q + 16) (putT (refn tm c true) o.dst (evA (refn tm c true) a)) hp (acc ++ [fpD P G dr o (refn tm c true) hp ⟨True, evA (refn tm c true) a, []⟩]) K
      else vcOps P G ds dr rest (q + 16) (putT (refn tm c false) o.dst (evA (refn tm c false) b)) hp (acc ++ [fpD P G dr o (refn tm c false) hp ⟨True, evA (refn tm c false) b, []⟩]) K
  | none => False
def exK (out : Option Out) (P : Program) (G : List (FuncId × Abs)) (ds : List (Option Tmp)) (dr : Bool) (o : Oper) (rest : List Oper) (q : Nat) (tm : List AV) (hp : HP) (acc : List FP) (K : List AV → HP → List FP → Prop) : Prop := match out with
  | some out => out.c ∧ (out.ups.all fun p => decide (p.1 < q + 16)) = true ∧ vcOps P G ds dr rest (q + 16) (putT tm o.dst out.dst) (upsl hp out.ups) (acc ++ [fpD P G dr o tm hp out]) K
  | none => False
def callK (abs : Option (FuncId × Abs)) (args : List AV) (L : Nat → Blk) (q : Nat) : Option Out := match abs with | some p => p.2 args L q | none => none

def gateV (t : Nat) (want : Bool) (x : AV) : Gate := match x with
  | .v (.bool b) => .ask t b want
  | .v (.tuple _) => .skip
  | _ => .stuck
def gateS (x : Option Nat) (tm : List AV) (want : Bool) : Gate := match x with
  | none => .skip
  | some t => gateV t want (tm.getD t (.v undef))
theorem gate_none (ds : List (Option Tmp)) (tm : List AV) : gate ds tm none = .go := rfl
theorem gate_some (ds : List (Option Tmp)) (tm : List AV) (j : Nat) (want : Bool) : gate ds tm (some (j, want)) = gateS (ds.getD j none) tm want := rfl
theorem gateS_none (tm : List AV) (want : Bool) : gateS none tm want = .skip := rfl
theorem gateS_some (t : Nat) (tm : List AV) (want : Bool) : gateS (some t) tm want = gateV t want (tm.getD t (.v undef)) := rfl
theorem gateV_bool (t : Nat) (b want : Bool) : gateV t want (.v (.bool b)) = .ask t b want := rfl
theorem gateV_undef (t : Nat) (want : Bool) : gateV t want (.v undef) = .skip := rfl
section
variable (P : Program) (G : List (FuncId × Abs)) (S0 : List Nat) (K : Post) (tm : List AV) (hp : HP) (n : Nat) (a b : Code)
theorem e_skip : vc P G S0 .skip K tm hp n = K .normal tm hp n := by rw [vc]
theorem e_label (l : Nat) : vc P G S0 (.label l) K tm hp n = K .normal tm hp n := by rw [vc]
theorem e_ret : vc P G S0 .ret K tm hp n = K .ret tm hp n := by rw [vc]
theorem e_exit (id : Nat) : vc P G S0 (.exit id) K tm hp n = K (.exit id) tm hp n := by rw [vc]
theorem e_seq : vc P G S0 (.seq a b) K tm hp n = vc P G S0 a (seqK P G S0 b K) tm hp n := by rw [vc]; rfl
theorem e_cond (c : Operand) : vc P G S0 (.cond c a b) K tm hp n = condK (boolOf (evA tm c)) P G S0 c a b K tm hp n := by rw [vc]; rfl
theorem e_block (id : Nat) : vc P G S0 (.block id a) K tm hp n = vc P G S0 a (blkK id K) tm hp n := by rw [vc]; rfl
theorem e_region (id : Nat) (l : List Oper) (dr : Bool) : vc P G S0 (.region id l.toArray dr) K tm hp n = vcOps P G (dstsOf l) dr l n tm hp [] (regK l dr n K) := by rw [vc_region]; rfl
theorem seqK_normal : seqK P G S0 b K .normal tm hp n = vc P G S0 b K tm hp n := rfl
theorem seqK_ret : seqK P G S0 b K .ret tm hp n = K .ret tm hp n := rfl
theorem seqK_exit (id : Nat) : seqK P G S0 b K (.exit id) tm hp n = K (.exit id) tm hp n := rfl
theorem blkK_normal (id : Nat) : blkK id K .normal tm hp n = K .normal tm hp n := rfl
theorem blkK_ret (id : Nat) : blkK id K .ret tm hp n = K .ret tm hp n := rfl
theorem blkK_exit (id j : Nat) : blkK id K (.exit j) tm hp n = if j = id then K .normal tm hp n else K (.exit j) tm hp n := rfl
theorem condK_some (x : Bool) (c : Operand) : condK (some x) P G S0 c a b K tm hp n = if x = true then vc P G S0 a K (refn tm c true) hp n else vc P G S0 b K (refn tm c false) hp n := rfl
theorem regK_true (l : List Oper) (fps : List FP) : regK l true n K tm hp fps = (drawOk l.toArray n fps = true ∧ K .normal tm hp (n + 16 * l.length)) := by simp [regK]
theorem regK_false (l : List Oper) (fps : List FP) : regK l false n K tm hp fps = K .normal tm hp (n + 16 * l.length) := by simp [regK]
end
section
variable (P : Program) (G : List (FuncId × Abs)) (ds : List (Option Tmp)) (dr : Bool) (o : Oper) (rest : List Oper) (q : Nat) (tm : List AV) (hp : HP) (acc : List FP) (K : List AV → HP → List FP → Prop)
theorem e_nil : vcOps P G ds dr [] q tm hp acc K = K tm hp acc := by rw [vcOps]
theorem e_cons : vcOps P G ds dr (o :: rest) q tm hp acc K = gateK (gate ds tm o.guard) P G ds dr o rest q tm hp acc K := by rw [vcOps]; rfl
theorem gateK_go : gateK .go P G ds dr o rest q tm hp acc K = vcEx P G ds dr o rest q tm hp acc K := rfl
theorem gateK_skip : gateK .skip P G ds dr o rest q tm hp acc K = vcOps P G ds dr rest (q + 16) (putT tm o.dst (.v undef)) hp (acc ++ [fpD P G dr o tm hp ⟨True, .v undef, []⟩]) K := rfl
theorem gateK_ask (t : Nat) (b want : Bool) : gateK (.ask t b want) P G ds dr o rest q tm hp acc K = if b = want then vcEx P G ds dr o rest q (tm.set t (.v (.bool want))) hp acc K
      else vcOps P G ds dr rest (q + 16) (putT (tm.set t (.v (.bool (!want)))) o.dst (.v undef)) hp (acc ++ [fpD P G dr o (tm.set t (.v (.bool (!want)))) hp ⟨True, .v undef, []⟩]) K := rfl
theorem pickK_some (c a b : Operand) (x : Bool) : pickK (some x) P G ds dr c a b o rest q tm hp acc K = if x = true then vcOps P G ds dr rest (q + 16) (putT (refn tm c true) o.dst (evA (refn tm c true) a)) hp (acc ++ [fpD P G dr o (refn tm c true) hp ⟨True, evA (refn tm c true) a, []⟩]) K
      else vcOps P G ds dr rest (q + 16) (putT (refn tm c false) o.dst (evA (refn tm c false) b)) hp (acc ++ [fpD P G dr o (refn tm c false) hp ⟨True, evA (refn tm c false) b, []⟩]) K := rfl
theorem exK_some (c : Prop) (d : AV) (u : List (Nat × Blk)) : exK (some ⟨c, d, u⟩) P G ds dr o rest q tm hp acc K = (c ∧ (u.all fun p => decide (p.1 < q + 16)) = true ∧ vcOps P G ds dr rest (q + 16) (putT tm o.dst d) (upsl hp u) (acc ++ [fpD P G dr o tm hp ⟨c, d, u⟩]) K) := rfl
variable (d : Option Tmp) (ty : TypeId) (pos : String) (af : Array Edge) (gd : Option (Nat × Bool))
theorem x_pick (c a b : Operand) : vcEx P G ds dr ⟨d, .pick c a b, ty, pos, af, gd⟩ rest q tm hp acc K = pickK (boolOf (evA tm c)) P G ds dr c a b ⟨d, .pick c a b, ty, pos, af, gd⟩ rest q tm hp acc K := by rw [vcEx]; rfl
theorem x_move (x : Operand) : vcEx P G ds dr ⟨d, .move x, ty, pos, af, gd⟩ rest q tm hp acc K = exK (some ⟨True, evA tm x, []⟩) P G ds dr ⟨d, .move x, ty, pos, af, gd⟩ rest q tm hp acc K := by rw [vcEx]; rfl
theorem x_assign (x : Operand) : vcEx P G ds dr ⟨d, .assign x, ty, pos, af, gd⟩ rest q tm hp acc K = exK (some ⟨True, evA tm x, []⟩) P G ds dr ⟨d, .assign x, ty, pos, af, gd⟩ rest q tm hp acc K := by rw [vcEx]; rfl
theorem x_alloc (T : TypeId) : vcEx P G ds dr ⟨d, .alloc T, ty, pos, af, gd⟩ rest q tm hp acc K = exK (oAlloc P T q) P G ds dr ⟨d, .alloc T, ty, pos, af, gd⟩ rest q tm hp acc K := by rw [vcEx]; rfl
theorem x_box (T : TypeId) (x : Operand) : vcEx P G ds dr ⟨d, .box T x, ty, pos, af, gd⟩ rest q tm hp acc K = exK (oBox T (evA tm x) q) P G ds dr ⟨d, .box T x, ty, pos, af, gd⟩ rest q tm hp acc K := by rw [vcEx]; rfl
theorem x_build (T : TypeId) (ps : Array (Nat × Operand)) : vcEx P G ds dr ⟨d, .build T ps, ty, pos, af, gd⟩ rest q tm hp acc K = exK (oBuild P T (ps.toList.map fun p => (p.1, evA tm p.2))) P G ds dr ⟨d, .build T ps, ty, pos, af, gd⟩ rest q tm hp acc K := by rw [vcEx]; rfl
theorem x_buildSlice (T : TypeId) (m : Nat) (ps : Array (Nat × Operand)) : vcEx P G ds dr ⟨d, .buildSlice T m ps, ty, pos, af, gd⟩ rest q tm hp acc K = exK (oBuildSlice P (lk hp) T m (ps.toList.map fun p => (p.1, evA tm p.2)) q) P G ds dr ⟨d, .buildSlice T m ps, ty, pos, af, gd⟩ rest q tm hp acc K := by rw [vcEx]; rfl
theorem x_load (T : TypeId) (x : Operand) : vcEx P G ds dr ⟨d, .load T x, ty, pos, af, gd⟩ rest q tm hp acc K = exK (oLoad P (lk hp) T (evA tm x)) P G ds dr ⟨d, .load T x, ty, pos, af, gd⟩ rest q tm hp acc K := by rw [vcEx]; rfl
theorem x_store (T : TypeId) (x y : Operand) : vcEx P G ds dr ⟨d, .store T x y, ty, pos, af, gd⟩ rest q tm hp acc K = exK (if 0 < szOf P T then oStore P (lk hp) T (evA tm y) (evA tm x) else none) P G ds dr ⟨d, .store T x y, ty, pos, af, gd⟩ rest q tm hp acc K := by rw [vcEx]; rfl
theorem x_binOp (op : BinOp) (T T' : TypeId) (x y : Operand) : vcEx P G ds dr ⟨d, .binOp op T x y T', ty, pos, af, gd⟩ rest q tm hp acc K = exK (oBin P op T (evA tm x) (evA tm y)) P G ds dr ⟨d, .binOp op T x y T', ty, pos, af, gd⟩ rest q tm hp acc K := by rw [vcEx]; rfl
theorem x_unOp (op : UnOp) (T : TypeId) (x : Operand) : vcEx P G ds dr ⟨d, .unOp op T x, ty, pos, af, gd⟩ rest q tm hp acc K = exK (oUn op (evA tm x)) P G ds dr ⟨d, .unOp op T x, ty, pos, af, gd⟩ rest q tm hp acc K := by rw [vcEx]; rfl
theorem x_convert (T T' : TypeId) (x : Operand) : vcEx P G ds dr ⟨d, .convert T T' x, ty, pos, af, gd⟩ rest q tm hp acc K = exK (oConvert P (lk hp) T T' (evA tm x)) P G ds dr ⟨d, .convert T T' x, ty, pos, af, gd⟩ rest q tm hp acc K := by rw [vcEx]; rfl
theorem x_makeSlice (T : TypeId) (x y : Operand) : vcEx P G ds dr ⟨d, .makeSlice T x y, ty, pos, af, gd⟩ rest q tm hp acc K = exK (oMake P T (evA tm x) (evA tm y) q) P G ds dr ⟨d, .makeSlice T x y, ty, pos, af, gd⟩ rest q tm hp acc K := by rw [vcEx]; rfl
theorem x_slice (T : TypeId) (x : Operand) (lo hi : Option Operand) : vcEx P G ds dr ⟨d, .slice T x lo hi none, ty, pos, af, gd⟩ rest q tm hp acc K = exK (oSlice P (lk hp) T (evA tm x) (lo.map (evA tm)) (hi.map (evA tm))) P G ds dr ⟨d, .slice T x lo hi none, ty, pos, af, gd⟩ rest q tm hp acc K := by rw [vcEx]; rfl
theorem x_fieldAddr (T : TypeId) (x : Operand) (f : Nat) : vcEx P G ds dr ⟨d, .fieldAddr T x f, ty, pos, af, gd⟩ rest q tm hp acc K = exK (oFieldAddr P (lk hp) T (evA tm x) f) P G ds dr ⟨d, .fieldAddr T x f, ty, pos, af, gd⟩ rest q tm hp acc K := by rw [vcEx]; rfl
theorem x_field (T : TypeId) (x : Operand) (f : Nat) : vcEx P G ds dr ⟨d, .field T x f, ty, pos, af, gd⟩ rest q tm hp acc K = exK (oField P T (evA tm x) f) P G ds dr ⟨d, .field T x f, ty, pos, af, gd⟩ rest q tm hp acc K := by rw [vcEx]; rfl
theorem x_indexAddr (T : TypeId) (x i : Operand) : vcEx P G ds dr ⟨d, .indexAddr T x i, ty, pos, af, gd⟩ rest q tm hp acc K = exK (oIndexAddr P (lk hp) T (evA tm x) (evA tm i)) P G ds dr ⟨d, .indexAddr T x i, ty, pos, af, gd⟩ rest q tm hp acc K := by rw [vcEx]; rfl
theorem x_nilCheck (x : Operand) : vcEx P G ds dr ⟨d, .nilCheck x, ty, pos, af, gd⟩ rest q tm hp acc K = exK (oNil (lk hp) (evA tm x)) P G ds dr ⟨d, .nilCheck x, ty, pos, af, gd⟩ rest q tm hp acc K := by rw [vcEx]; rfl
theorem x_extract (x : Operand) (i : Nat) : vcEx P G ds dr ⟨d, .extract x i, ty, pos, af, gd⟩ rest q tm hp acc K = exK (oExtract (evA tm x) i) P G ds dr ⟨d, .extract x i, ty, pos, af, gd⟩ rest q tm hp acc K := by rw [vcEx]; rfl
theorem x_call (f : FuncId) (args : Array Operand) (ts : Array TypeId) : vcEx P G ds dr ⟨d, .call ⟨.value (.func f), args, ts⟩, ty, pos, af, gd⟩ rest q tm hp acc K = exK (callK (G.find? fun p => p.1 == f) (args.toList.map (evA tm)) (lk hp) q) P G ds dr ⟨d, .call ⟨.value (.func f), args, ts⟩, ty, pos, af, gd⟩ rest q tm hp acc K := by rw [vcEx]; rfl
theorem x_len (x : Operand) (T : TypeId) : vcEx P G ds dr ⟨d, .call ⟨.builtin .len, #[x], #[T]⟩, ty, pos, af, gd⟩ rest q tm hp acc K = exK (oLen P (lk hp) T (evA tm x)) P G ds dr ⟨d, .call ⟨.builtin .len, #[x], #[T]⟩, ty, pos, af, gd⟩ rest q tm hp acc K := by rw [vcEx]; rfl
theorem x_append (x y : Operand) (T : TypeId) : vcEx P G ds dr ⟨d, .call ⟨.builtin .append, #[x, y], #[T, T]⟩, ty, pos, af, gd⟩ rest q tm hp acc K = exK (oAppend P (lk hp) T (evA tm x) (evA tm y) q) P G ds dr ⟨d, .call ⟨.builtin .append, #[x, y], #[T, T]⟩, ty, pos, af, gd⟩ rest q tm hp acc K := by
  rw [vcEx]
  simp only [oOp, if_true]
  rfl
end
theorem callK_some (f : FuncId) (abs : Abs) (args : List AV) (L : Nat → Blk) (q : Nat) : callK (some (f, abs)) args L q = abs args L q := rfl
theorem done_ret (P : Program) (fn : Func) (r : AV) (bs : List Blk) (tm : List AV) (hp : HP) (n : Nat) : Done P fn r bs .ret tm hp n = ∃ xs p, resL P hp tm fn.results.toList = some xs ∧ Fits [packA xs] hp [r] (hpAt 0 bs) p := rfl
theorem done_normal (P : Program) (fn : Func) (r : AV) (bs : List Blk) (tm : List AV) (hp : HP) (n : Nat) : Done P fn r bs .normal tm hp n = ∃ xs p, resL P hp tm fn.results.toList = some xs ∧ Fits [packA xs] hp [r] (hpAt 0 bs) p := rfl
/-- how a text ends, in one -/
def Ends (P : Program) (rs : List ResultVar) (r : AV) (bs : List Blk) (tm : List AV) (hp : HP) : Prop := ∃ xs p, resL P hp tm rs = some xs ∧ Fits [packA xs] hp [r] (hpAt 0 bs) p
end Go.Proofs.Ytpompkogpdnlcaa
