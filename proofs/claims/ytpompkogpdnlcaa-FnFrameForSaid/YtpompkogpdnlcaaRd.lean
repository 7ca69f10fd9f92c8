import Derived.Test.YtpompkogpdnlcaaRc
namespace Go.Proofs.Ytpompkogpdnlcaa
open Go.RowKit

/-- a type's row: the zero value, how many cells, how many bytes -/
def inf (P : Program) (t : TypeId) : Option (Option Value × Nat × Nat) := (P.info? t).map fun i => (i.zero, i.size, i.bytes)
def szOf (P : Program) (t : TypeId) : Nat := match inf P t with | some (_, n, _) => n | none => 0
def isSt (P : Program) (t : TypeId) : Bool := match P.underlying t with | some (.struct _) => true | _ => false

def isRow' : TypeDesc → Bool
  | .struct _ | .array _ _ => true
  | _ => false
def isCell (P : Program) (t : TypeId) : Bool := match P.underlying t with | some d => !isRow' d | none => false

/-- kinds of cells -/
inductive CK where
  | int (k : IntKind)
  | bool
  | str
  | sl (sz : Nat)
  | other
def D.toI : D → Int | .v (.int _ n) => n | _ => 0
def D.toB : D → Bool | .v (.bool b) => b | _ => false
def D.toS : D → ByteArray | .v (.string s) => s | _ => .empty
def D.toL : D → List (List D) | .l _ rows => rows | _ => []
def CK.av : CK → D → AV
  | .int k, d => .v (.int k d.toI)
  | .bool, d => .v (.bool d.toB)
  | .str, d => .v (.string d.toS)
  | .sl sz, d => .l sz d.toL
  | .other, _ => .v undef
def CK.ok : CK → D → Prop
  | .int k, d => d = .v (.int k d.toI)
  | .bool, d => d = .v (.bool d.toB)
  | .str, d => d = .v (.string d.toS)
  | .sl sz, d => d = .l sz d.toL
  | .other, _ => False
def views : List CK → List D → List AV
  | [], _ => []
  | k :: ks, ds => k.av (ds.headD (.v undef)) :: views ks ds.tail
def viewsOk : List CK → List D → Prop
  | [], _ => True
  | k :: ks, ds => ds ≠ [] ∧ k.ok (ds.headD (.v undef)) ∧ viewsOk ks ds.tail

/-- the kinds of a type's cells -/
def cks (P : Program) : Nat → TypeId → List CK
  | 0, _ => []
  | n + 1, t => match P.underlying t with
    | some (.int k) => [.int k]
    | some .bool => [.bool]
    | some .string => [.str]
    | some (.slice e) => [.sl (szOf P e)]
    | some (.struct fs) => fs.toList.flatMap fun f => cks P n f.type
    | _ => [.other]
def ckOf (P : Program) (t : TypeId) : List CK := cks P 8 t

structure Out where
  c : Prop
  dst : AV
  ups : List (Nat × Blk)
def ups (L : Nat → Blk) : List (Nat × Blk) → Nat → Blk
  | [] => L
  | p :: l => ups (up L p.1 p.2) l

def AV.cells : AV → List AV
  | .agg cs => cs
  | x => [x]
def AV.one : AV → Bool
  | .v x => x.oneCell'
  | .agg _ | .tup _ | .any => false
  | _ => true
def putAt {α : Type} (cs : List α) (off : Nat) (xs : List α) : List α := cs.take off ++ xs ++ cs.drop (off + xs.length)

def nilV : Value → Bool
  | .slice none 0 0 => true
  | _ => false
theorem nilV_eq {x : Value} (h : nilV x = true) : x = .slice none 0 0 := by
  unfold nilV at h
  split at h
  · rfl
  · cases h
def lenV : Value → Option Nat
  | .slice _ n _ => some n
  | _ => none
/-- what a value is as data -/
def dk (L : Nat → Blk) : CK → AV → Option D
  | .sl sz, .v x => if nilV x = true then some (.l sz []) else none
  | _, .v x => some (.v x)
  | _, .l sz rows => some (.l sz rows)
  | _, .own r => match L r with | .still sz rows => some (.l sz rows) | _ => none
  | _, .sub r lo hi => match L r with | .still sz rows => some (.l sz ((rows.take hi).drop lo)) | _ => none
  | _, _ => none
def dks (L : Nat → Blk) : List CK → List AV → Option (List D)
  | [], [] => some []
  | k :: ks, x :: xs => match dk L k x, dks L ks xs with | some d, some ds => some (d :: ds) | _, _ => none
  | _, _ => none
/-- slices that data is to hold turn no more -/
def frz (L : Nat → Blk) : List AV → List (Nat × Blk)
  | [] => []
  | .own r :: xs => match L r with | .sl _ sz rows => (r, .still sz rows) :: frz L xs | _ => frz L xs
  | .sub r _ _ :: xs => match L r with | .sl _ sz rows => (r, .still sz rows) :: frz L xs | _ => frz L xs
  | _ :: xs => frz L xs

def rowLoad (P : Program) (T : TypeId) (cells : List D) : Option Out :=
  if isSt P T then (if (ckOf P T).length = szOf P T then some ⟨viewsOk (ckOf P T) cells, .agg (views (ckOf P T) cells), []⟩ else none)
  else if isCell P T then match ckOf P T with
    | [k] => some ⟨viewsOk [k] cells, k.av (cells.headD (.v undef)), []⟩
    | _ => none
  else none
def oLoad (P : Program) (L : Nat → Blk) (T : TypeId) : AV → Option Out
  | .ptr r off => match L r with
    | .var _ cs => if isSt P T then (if off + szOf P T ≤ cs.length then some ⟨True, .agg ((cs.drop off).take (szOf P T)), []⟩ else none)
      else if isCell P T then (match cs[off]? with | some x => some ⟨True, x, []⟩ | none => none) else none
    | _ => none
  | .rptr cells => rowLoad P T cells
  | .eptr r i j => match L r with
    | .sl _ _ rows => match rowLoad P T ((rows.getD i []).drop j) with
      | some o => some ⟨i < rows.length ∧ o.c, o.dst, []⟩
      | none => none
    | _ => none
  | _ => none
def oStore (P : Program) (L : Nat → Blk) (T : TypeId) (x : AV) : AV → Option Out
  | .ptr r off => match L r with
    | .var T' cs => if x.cells.length = szOf P T ∧ off + x.cells.length ≤ cs.length ∧ x.cells.all AV.one = true then some ⟨True, .v undef, [(r, .var T' (putAt cs off x.cells))]⟩ else none
    | _ => none
  | .eptr r i j => match ups L (frz L x.cells) r with
    | .sl e sz rows => match dks (ups L (frz L x.cells)) (ckOf P T) x.cells with
      | some ds => if ds.length = szOf P T ∧ j + ds.length ≤ sz ∧ x.cells.all AV.one = true then some ⟨i < rows.length, .v undef, frz L x.cells ++ [(r, .sl e sz (rows.set i (putAt (rows.getD i []) j ds)))]⟩ else none
      | none => none
    | _ => none
  | _ => none
def oIndexAddr (P : Program) (L : Nat → Blk) (T : TypeId) (x i : AV) : Option Out :=
  match P.underlying T, i with
  | some (.slice e), .v (.int _ n) => match x with
    | .l sz rows => if szOf P e = sz ∧ 0 < sz then some ⟨0 ≤ n ∧ n < (rows.length : Int), .rptr (rows.getD n.toNat []), []⟩ else none
    | .own r => match L r with
      | .sl _ sz rows => if szOf P e = sz ∧ 0 < sz then some ⟨0 ≤ n ∧ n < (rows.length : Int), .eptr r n.toNat 0, []⟩ else none
      | .still sz rows => if szOf P e = sz ∧ 0 < sz then some ⟨0 ≤ n ∧ n < (rows.length : Int), .rptr (rows.getD n.toNat []), []⟩ else none
      | _ => none
    | .sub r lo hi => match L r with
      | .sl _ sz _ => if szOf P e = sz ∧ 0 < sz then some ⟨0 ≤ n ∧ n < ((hi - lo : Nat) : Int), .eptr r (lo + n.toNat) 0, []⟩ else none
      | .still sz rows => if szOf P e = sz ∧ 0 < sz then some ⟨0 ≤ n ∧ n < ((hi - lo : Nat) : Int), .rptr (rows.getD (lo + n.toNat) []), []⟩ else none
      | _ => none
    | _ => none
  | _, _ => none
def fieldOf (P : Program) (T : TypeId) (f : Nat) : Option (Nat × TypeId) :=
  match P.underlying T with
  | some (.struct fs) => match fs[f]? with | some x => some (x.offset, x.type) | none => none
  | _ => none
def oFieldAddr (P : Program) (L : Nat → Blk) (T : TypeId) (x : AV) (f : Nat) : Option Out :=
  match fieldOf P T f with
  | some (o, t) => if szOf P t = 0 then none else match x with
    | .ptr r off => match L r with | .var .. => some ⟨True, .ptr r (off + o), []⟩ | _ => none
    | .eptr r i j => match L r with | .sl .. => some ⟨True, .eptr r i (j + o), []⟩ | _ => none
    | .rptr cells => some ⟨True, .rptr (cells.drop o), []⟩
    | _ => none
  | none => none
def oField (P : Program) (T : TypeId) (x : AV) (f : Nat) : Option Out :=
  match fieldOf P T f, x with
  | some (o, t), .agg cs => if isSt P t then (if o + szOf P t ≤ cs.length then some ⟨True, .agg ((cs.drop o).take (szOf P t)), []⟩ else none)
      else if isCell P t then (match cs[o]? with | some y => some ⟨True, y, []⟩ | none => none) else none
  | _, _ => none
def oExtract (x : AV) (i : Nat) : Option Out :=
  match x with
  | .tup cs => match cs[i]? with | some y => some ⟨True, y, []⟩ | none => none
  | _ => none

/-- the bounds of a cut -/
def loOf : Option AV → Option (Prop × Nat)
  | none => some (True, 0)
  | some (.v (.int _ n)) => some (0 ≤ n, n.toNat)
  | _ => none
def hiOf (len : Nat) : Option AV → Option (Prop × Nat)
  | none => some (True, len)
  | some (.v (.int _ n)) => some (0 ≤ n ∧ n.toNat ≤ len, n.toNat)
  | _ => none
def oSlice (P : Program) (L : Nat → Blk) (T : TypeId) (x : AV) (lo hi : Option AV) : Option Out :=
  match P.underlying T with
  | some (.slice e) => match x with
    | .l sz rows => if szOf P e = sz ∧ 0 < sz then match loOf lo, hiOf rows.length hi with
      | some (c1, a), some (c2, b) => some ⟨c1 ∧ c2 ∧ a ≤ b, .l sz ((rows.take b).drop a), []⟩
      | _, _ => none else none
    | .own r => match L r with
      | .sl _ sz rows => if szOf P e = sz ∧ 0 < sz then match loOf lo, hiOf rows.length hi with
        | some (c1, a), some (c2, b) => some ⟨c1 ∧ c2 ∧ a ≤ b, .sub r a b, []⟩
        | _, _ => none else none
      | .still sz rows => if szOf P e = sz ∧ 0 < sz then match loOf lo, hiOf rows.length hi with
        | some (c1, a), some (c2, b) => some ⟨c1 ∧ c2 ∧ a ≤ b, .l sz ((rows.take b).drop a), []⟩
        | _, _ => none else none
      | _ => none
    | _ => none
  | _ => none
/-- how long a slice is -/
def lenOf (L : Nat → Blk) : AV → Option Nat
  | .l _ rows => some rows.length
  | .own r => match L r with | .sl _ _ rows | .still _ rows => some rows.length | _ => none
  | .sub r lo hi => match L r with | .sl .. | .still .. => some (hi - lo) | _ => none
  | .v x => lenV x
  | _ => none
def oLen (P : Program) (L : Nat → Blk) (T : TypeId) (x : AV) : Option Out :=
  match P.underlying T with
  | some (.slice _) => match lenOf L x with | some n => some ⟨True, .v (.int .i64 (n : Int)), []⟩ | none => none
  | some .string => match x with | .v (.string b) => some ⟨True, .v (.int .i64 (b.size : Int)), []⟩ | _ => none
  | _ => none
/-- the rows of a slice -/
def rowsOf (L : Nat → Blk) : AV → Option (List (List D))
  | .l _ rows => some rows
  | .own r => match L r with | .sl _ _ rows | .still _ rows => some rows | _ => none
  | .sub r lo hi => match L r with | .sl _ _ rows | .still _ rows => some ((rows.take hi).drop lo) | _ => none
  | .v x => if nilV x = true then some [] else none
  | _ => none
def byteOf (r : List D) : UInt8 := UInt8.ofNat (r.headD (.v undef)).toI.toNat
def bytesOfRows (rows : List (List D)) : List UInt8 := rows.map byteOf
def rowsOfBytes (xs : List UInt8) : List (List D) := xs.map fun x => [.v (.int .u8 (x.toNat : Int))]
def oConvert (P : Program) (L : Nat → Blk) (src dst : TypeId) (x : AV) : Option Out :=
  match P.underlying src, P.underlying dst with
  | some (.int _), some (.int k) => match x with | .v (.int _ n) => some ⟨True, .v (.int k (k.wrap n)), []⟩ | _ => none
  | some (.slice e), some .string => match P.underlying e, rowsOf L x with
    | some (.int .u8), some rows => some ⟨rows = rowsOfBytes (bytesOfRows rows), .v (.string ⟨(bytesOfRows rows).toArray⟩), []⟩
    | _, _ => none
  | _, _ => none
def oBin (P : Program) (op : BinOp) (T : TypeId) (x y : AV) : Option Out :=
  match x, y with
  | .v (.int k a), .v (.int k' b) => if k = k' then match op with
    | .add => some ⟨True, .v (.int k (k.wrap (a + b))), []⟩
    | .sub => some ⟨True, .v (.int k (k.wrap (a - b))), []⟩
    | .mul => some ⟨True, .v (.int k (k.wrap (a * b))), []⟩
    | .quo => some ⟨b ≠ 0, .v (.int k (k.wrap (a.tdiv b))), []⟩
    | .rem => some ⟨b ≠ 0, .v (.int k (a.tmod b)), []⟩
    | .eql => some ⟨True, .v (.bool (a == b)), []⟩
    | .neq => some ⟨True, .v (.bool (a != b)), []⟩
    | .lss => some ⟨True, .v (.bool (decide (a < b))), []⟩
    | .leq => some ⟨True, .v (.bool (decide (a ≤ b))), []⟩
    | .gtr => some ⟨True, .v (.bool (decide (a > b))), []⟩
    | .geq => some ⟨True, .v (.bool (decide (a ≥ b))), []⟩
    | .and => some ⟨True, .v (.int k (bits .and k a b)), []⟩
    | .or => some ⟨True, .v (.int k (bits .or k a b)), []⟩
    | .xor => some ⟨True, .v (.int k (bits .xor k a b)), []⟩
    | .andNot => some ⟨True, .v (.int k (bits .andNot k a b)), []⟩
    | _ => none
    else none
  | .v (.bool a), .v (.bool b) => match P.underlying T, op with
    | some .bool, .eql => some ⟨True, .v (.bool (a == b)), []⟩
    | some .bool, .neq => some ⟨True, .v (.bool (!(a == b))), []⟩
    | _, _ => none
  | .v (.string a), .v (.string b) => match op with
    | .eql => some ⟨True, .v (.bool (a.toList == b.toList)), []⟩
    | .neq => some ⟨True, .v (.bool (!(a.toList == b.toList))), []⟩
    | _ => none
  | _, _ => none
def oUn (op : UnOp) (x : AV) : Option Out :=
  match op, x with
  | .not, .v (.bool b) => some ⟨True, .v (.bool (!b)), []⟩
  | .neg, .v (.int k n) => some ⟨True, .v (.int k (k.wrap (0 - n))), []⟩
  | _, _ => none
end Go.Proofs.Ytpompkogpdnlcaa
namespace Go.Proofs.Ytpompkogpdnlcaa
open Go.RowKit
def oAlloc (P : Program) (T : TypeId) (q : Nat) : Option Out :=
  match inf P T with
  | some (some z, _, _) => if z.cells.toList.all (·.oneCell') = true then some ⟨True, .ptr q 0, [(q, .var T (z.cells.toList.map .v))]⟩ else none
  | _ => none
def oBox (T : TypeId) (x : AV) (q : Nat) : Option Out :=
  if x.cells.all AV.one = true then some ⟨True, .ptr q 0, [(q, .var T x.cells)]⟩ else none
/-- the parts of a struct are laid -/
def fillA (P : Program) (fs : Array Field) (cs : List AV) : List (Nat × AV) → Option (List AV)
  | [] => some cs
  | (i, x) :: ps => match fs[i]? with
    | some f => if x.cells.length = szOf P f.type ∧ f.offset + x.cells.length ≤ cs.length ∧ x.cells.all AV.one = true then fillA P fs (putAt cs f.offset x.cells) ps else none
    | none => none
def oBuild (P : Program) (T : TypeId) (parts : List (Nat × AV)) : Option Out :=
  match P.underlying T, inf P T with
  | some (.struct fs), some (some z, _, _) => if (fs.toList.all fun f => (inf P f.type).isSome) = true ∧ z.cells.toList.all (·.oneCell') = true then match fillA P fs (z.cells.toList.map .v) parts with
    | some cs => some ⟨True, .agg cs, []⟩
    | none => none else none
  | _, _ => none
/-- the elements of a slice's text are laid -/
def fillR (sz : Nat) (rows : List (List AV)) : List (Nat × AV) → Option (List (List AV))
  | [] => some rows
  | (i, x) :: ps => if x.cells.length = sz ∧ i < rows.length ∧ x.cells.all AV.one = true then fillR sz (rows.set i x.cells) ps else none
def dkRows (L : Nat → Blk) (ks : List CK) : List (List AV) → Option (List (List D))
  | [] => some []
  | r :: rs => match dks L ks r, dkRows L ks rs with | some d, some ds => some (d :: ds) | _, _ => none
def oBuildSlice (P : Program) (L : Nat → Blk) (T : TypeId) (n : Nat) (parts : List (Nat × AV)) (q : Nat) : Option Out :=
  match P.underlying T with
  | some (.slice e) => match inf P e with
    | some (some z, sz, _) => if 0 < sz ∧ z.cells.size = sz ∧ n * sz ≤ 16777216 ∧ z.cells.toList.all (·.oneCell') = true then
      match fillR sz (List.replicate n (z.cells.toList.map .v)) parts with
      | some rows => match dkRows (ups L (frz L rows.flatten)) (ckOf P e) rows with
        | some ds => some ⟨True, .own q, frz L rows.flatten ++ [(q, .sl e sz ds)]⟩
        | none => none
      | none => none else none
    | _ => none
  | _ => none
def oMake (P : Program) (T : TypeId) (len cap : AV) (q : Nat) : Option Out :=
  match P.underlying T, len, cap with
  | some (.slice e), .v (.int _ n), .v (.int _ c) => match inf P e with
    | some (some z, sz, by_) => if 0 < sz ∧ z.cells.size = sz ∧ z.cells.toList.all (·.oneCell') = true then
      match dks (fun _ => .none) (ckOf P e) (z.cells.toList.map .v) with
      | some row => some ⟨0 ≤ n ∧ n ≤ c ∧ c * by_ ≤ 1099511627776 ∧ c ≤ 1099511627776, .own q, [(q, .sl e sz (List.replicate n.toNat row))]⟩
      | none => none else none
    | _ => none
  | _, _, _ => none
/-- append: the slice that it is put to goes on as block q -/
def oAppend (P : Program) (L : Nat → Blk) (T : TypeId) (x y : AV) (q : Nat) : Option Out :=
  match P.underlying T with
  | some (.slice e) => match inf P e, rowsOf L y with
    | some (some z, sz, by_), some ys => if 0 < sz ∧ z.cells.size = sz ∧ z.cells.toList.all (·.oneCell') = true then match x with
      | .own r => match L r with
        | .sl e' sz' xs => if e' = e ∧ sz' = sz ∧ r ≠ q then some ⟨(xs.length + ys.length) * by_ ≤ 1099511627776 ∧ xs.length + ys.length ≤ 1099511627776 ∧ (∀ r ∈ ys, r.length = sz), .own q, [(r, .dead), (q, .sl e sz (xs ++ ys))]⟩ else none
        | _ => none
      | .v x' => if nilV x' = true then some ⟨ys.length * by_ ≤ 1099511627776 ∧ ys.length ≤ 1099511627776 ∧ (∀ r ∈ ys, r.length = sz), .own q, [(q, .sl e sz ys)]⟩ else none
      | _ => none
      else none
    | _, _ => none
  | _ => none
end Go.Proofs.Ytpompkogpdnlcaa
