import Derived.Test.YtdeldmagmljacaaHc
namespace Go.Proofs.Ytdeldmagmljacaa
open Go.RowKit
set_option linter.unusedSimpArgs false
set_option linter.unusedVariables false

/-! an order that is drawn -/
def ordK (xs : List UInt8) (q : Int) : Nat → List Nat
  | 0 => []
  | k + 1 => (ordK xs q k).take (pickV xs (q + (k : Int)) ((k : Int) + 1)).toNat ++ [k] ++ (ordK xs q k).drop (pickV xs (q + (k : Int)) ((k : Int) + 1)).toNat
/-- the order with some of them twice -/
def twK (xs : List UInt8) (o : List Nat) (q : Int) : Nat → List Nat × Int
  | 0 => ([], q)
  | k + 1 => if k + 1 < o.length then (if pickV xs (twK xs o q k).2 3 = 0 then ((twK xs o q k).1 ++ [o.getD k 0] ++ [o.getD (pickV xs ((twK xs o q k).2 + 1) ((k : Int) + 1)).toNat 0], (twK xs o q k).2 + 1 + 1) else ((twK xs o q k).1 ++ [o.getD k 0], (twK xs o q k).2 + 1)) else ((twK xs o q k).1 ++ [o.getD k 0], (twK xs o q k).2)
/-! numbers in a list -/
def nRow (n : Nat) : List D := [.v (.int .i64 (n : Int))]
def nRows (l : List Nat) : List (List D) := l.map nRow
theorem nRows_len (l : List Nat) : (nRows l).length = l.length := by simp [nRows]
theorem nRows_get (l : List Nat) (k : Nat) (h : k < l.length) : (nRows l).getD k [] = nRow l[k] := by
  unfold nRows
  rw [List.getD_eq_getElem?_getD, List.getElem?_map, List.getElem?_eq_getElem h]; rfl
theorem nRows_app (a b : List Nat) : nRows a ++ nRows b = nRows (a ++ b) := by simp [nRows]
def shL (xs : List UInt8) : Int := 1 + pickV xs (lnV xs 0).q 8
def shC (xs : List UInt8) : List Pk := cutL (pvK (lnV xs 0)) (shL xs)
def shQ (xs : List UInt8) : Int := (lnV xs 0).q + 1
def shT (xs : List UInt8) : List Nat := (twK xs (ordK xs (shQ xs) (shC xs).length) (shQ xs + ((shC xs).length : Int)) (shC xs).length).1
def g_drawSh : PC := fun args => match args with
  | [.l _ rows] => some (∃ xs, rows = rowsOfBytes xs, .tup [.agg [.v (.int .i64 (lnV ((bytesOfRows rows).take 2000) 0).f), .v (.int .i64 (lnV ((bytesOfRows rows).take 2000) 0).t), .v (.int .i64 (lnV ((bytesOfRows rows).take 2000) 0).pr), .v (.int .i64 (lnV ((bytesOfRows rows).take 2000) 0).h), .v (.int .i64 (lnV ((bytesOfRows rows).take 2000) 0).i), .v (.int .i64 (lnV ((bytesOfRows rows).take 2000) 0).a), .v (.bool (lnV ((bytesOfRows rows).take 2000) 0).m), .v (.bool (lnV ((bytesOfRows rows).take 2000) 0).u), .l 1 (rowsOfBytes (lnV ((bytesOfRows rows).take 2000) 0).d)], .v (.int .i64 (shL ((bytesOfRows rows).take 2000))), .l 1 (nRows (shT ((bytesOfRows rows).take 2000)))], [])
  | _ => none
def dsh : List (FuncId × Abs) := [(38, ownAbs g_open), (41, ownAbs g_long), (40, ownAbs g_pick), (13, ownAbs (ocOf g_sPacketCut))]
end Go.Proofs.Ytdeldmagmljacaa
