/-
  What the evaluation asks of the types of this seat: closed facts on the program's table. By a tool.
-/
import Derived.Test.YtdeldmagmljacaaR1
namespace Go.Proofs.Ytdeldmagmljacaa
theorem ty_sz2 : szOf Try.prog 2 = 1 := by kernel_rfl
theorem ty_st2 : isSt Try.prog 2 = false := by kernel_rfl
theorem ty_cell2 : isCell Try.prog 2 = true := by kernel_rfl
theorem ty_ck2 : ckOf Try.prog 2 = [.int .i64] := by kernel_rfl
theorem ty_inf2 : inf Try.prog 2 = some (some (.int .i64 0), 1, 8) := by kernel_rfl
theorem ty_cols2 : colsOf Try.prog 8 2 = [.cell] := by kernel_rfl
theorem tY2 : (szOf Try.prog 2 = 1) ∧ (isSt Try.prog 2 = false) ∧ (isCell Try.prog 2 = true) ∧ (ckOf Try.prog 2 = [.int .i64]) ∧ (inf Try.prog 2 = some (some (.int .i64 0), 1, 8)) ∧ (colsOf Try.prog 8 2 = [.cell]) := ⟨ty_sz2, ty_st2, ty_cell2, ty_ck2, ty_inf2, ty_cols2⟩
theorem ty_sz3 : szOf Try.prog 3 = 1 := by kernel_rfl
theorem ty_st3 : isSt Try.prog 3 = false := by kernel_rfl
theorem ty_cell3 : isCell Try.prog 3 = true := by kernel_rfl
theorem ty_ck3 : ckOf Try.prog 3 = [.int .i64] := by kernel_rfl
theorem ty_inf3 : inf Try.prog 3 = some (some (.int .i64 0), 1, 8) := by kernel_rfl
theorem ty_cols3 : colsOf Try.prog 8 3 = [.cell] := by kernel_rfl
theorem tY3 : (szOf Try.prog 3 = 1) ∧ (isSt Try.prog 3 = false) ∧ (isCell Try.prog 3 = true) ∧ (ckOf Try.prog 3 = [.int .i64]) ∧ (inf Try.prog 3 = some (some (.int .i64 0), 1, 8)) ∧ (colsOf Try.prog 8 3 = [.cell]) := ⟨ty_sz3, ty_st3, ty_cell3, ty_ck3, ty_inf3, ty_cols3⟩
theorem ty_sz4 : szOf Try.prog 4 = 1 := by kernel_rfl
theorem ty_st4 : isSt Try.prog 4 = false := by kernel_rfl
theorem ty_cell4 : isCell Try.prog 4 = true := by kernel_rfl
theorem ty_ck4 : ckOf Try.prog 4 = [.bool] := by kernel_rfl
theorem ty_inf4 : inf Try.prog 4 = some (some (.bool false), 1, 1) := by kernel_rfl
theorem ty_cols4 : colsOf Try.prog 8 4 = [.cell] := by kernel_rfl
theorem tY4 : (szOf Try.prog 4 = 1) ∧ (isSt Try.prog 4 = false) ∧ (isCell Try.prog 4 = true) ∧ (ckOf Try.prog 4 = [.bool]) ∧ (inf Try.prog 4 = some (some (.bool false), 1, 1)) ∧ (colsOf Try.prog 8 4 = [.cell]) := ⟨ty_sz4, ty_st4, ty_cell4, ty_ck4, ty_inf4, ty_cols4⟩
theorem ty_sz5 : szOf Try.prog 5 = 1 := by kernel_rfl
theorem ty_st5 : isSt Try.prog 5 = false := by kernel_rfl
theorem ty_cell5 : isCell Try.prog 5 = true := by kernel_rfl
theorem ty_ck5 : ckOf Try.prog 5 = [.int .u8] := by kernel_rfl
theorem ty_inf5 : inf Try.prog 5 = some (some (.int .u8 0), 1, 1) := by kernel_rfl
theorem ty_cols5 : colsOf Try.prog 8 5 = [.cell] := by kernel_rfl
theorem tY5 : (szOf Try.prog 5 = 1) ∧ (isSt Try.prog 5 = false) ∧ (isCell Try.prog 5 = true) ∧ (ckOf Try.prog 5 = [.int .u8]) ∧ (inf Try.prog 5 = some (some (.int .u8 0), 1, 1)) ∧ (colsOf Try.prog 8 5 = [.cell]) := ⟨ty_sz5, ty_st5, ty_cell5, ty_ck5, ty_inf5, ty_cols5⟩
theorem ty_sz9 : szOf Try.prog 9 = 1 := by kernel_rfl
theorem ty_st9 : isSt Try.prog 9 = false := by kernel_rfl
theorem ty_cell9 : isCell Try.prog 9 = true := by kernel_rfl
theorem ty_ck9 : ckOf Try.prog 9 = [.str] := by kernel_rfl
theorem ty_inf9 : inf Try.prog 9 = some (some (.string .empty), 1, 16) := by kernel_rfl
theorem ty_cols9 : colsOf Try.prog 8 9 = [.cell] := by kernel_rfl
theorem tY9 : (szOf Try.prog 9 = 1) ∧ (isSt Try.prog 9 = false) ∧ (isCell Try.prog 9 = true) ∧ (ckOf Try.prog 9 = [.str]) ∧ (inf Try.prog 9 = some (some (.string .empty), 1, 16)) ∧ (colsOf Try.prog 8 9 = [.cell]) := ⟨ty_sz9, ty_st9, ty_cell9, ty_ck9, ty_inf9, ty_cols9⟩
theorem ty_sz12 : szOf Try.prog 12 = 1 := by kernel_rfl
theorem ty_st12 : isSt Try.prog 12 = false := by kernel_rfl
theorem ty_cell12 : isCell Try.prog 12 = true := by kernel_rfl
theorem ty_ck12 : ckOf Try.prog 12 = [.int .u64] := by kernel_rfl
theorem ty_inf12 : inf Try.prog 12 = some (some (.int .u64 0), 1, 8) := by kernel_rfl
theorem ty_cols12 : colsOf Try.prog 8 12 = [.cell] := by kernel_rfl
theorem tY12 : (szOf Try.prog 12 = 1) ∧ (isSt Try.prog 12 = false) ∧ (isCell Try.prog 12 = true) ∧ (ckOf Try.prog 12 = [.int .u64]) ∧ (inf Try.prog 12 = some (some (.int .u64 0), 1, 8)) ∧ (colsOf Try.prog 8 12 = [.cell]) := ⟨ty_sz12, ty_st12, ty_cell12, ty_ck12, ty_inf12, ty_cols12⟩
theorem ty_sz21 : szOf Try.prog 21 = 1 := by kernel_rfl
theorem ty_st21 : isSt Try.prog 21 = false := by kernel_rfl
theorem ty_cell21 : isCell Try.prog 21 = true := by kernel_rfl
theorem ty_ck21 : ckOf Try.prog 21 = [.int .i32] := by kernel_rfl
theorem ty_inf21 : inf Try.prog 21 = some (some (.int .i32 0), 1, 4) := by kernel_rfl
theorem ty_cols21 : colsOf Try.prog 8 21 = [.cell] := by kernel_rfl
theorem tY21 : (szOf Try.prog 21 = 1) ∧ (isSt Try.prog 21 = false) ∧ (isCell Try.prog 21 = true) ∧ (ckOf Try.prog 21 = [.int .i32]) ∧ (inf Try.prog 21 = some (some (.int .i32 0), 1, 4)) ∧ (colsOf Try.prog 8 21 = [.cell]) := ⟨ty_sz21, ty_st21, ty_cell21, ty_ck21, ty_inf21, ty_cols21⟩
theorem ty_sz22 : szOf Try.prog 22 = 1 := by kernel_rfl
theorem ty_st22 : isSt Try.prog 22 = false := by kernel_rfl
theorem ty_cell22 : isCell Try.prog 22 = true := by kernel_rfl
theorem ty_ck22 : ckOf Try.prog 22 = [.sl 1] := by kernel_rfl
theorem ty_inf22 : inf Try.prog 22 = some (some (.slice none 0 0), 1, 24) := by kernel_rfl
theorem ty_cols22 : colsOf Try.prog 8 22 = [.sl 5 1 [.cell]] := by kernel_rfl
theorem tY22 : (szOf Try.prog 22 = 1) ∧ (isSt Try.prog 22 = false) ∧ (isCell Try.prog 22 = true) ∧ (ckOf Try.prog 22 = [.sl 1]) ∧ (inf Try.prog 22 = some (some (.slice none 0 0), 1, 24)) ∧ (colsOf Try.prog 8 22 = [.sl 5 1 [.cell]]) := ⟨ty_sz22, ty_st22, ty_cell22, ty_ck22, ty_inf22, ty_cols22⟩
theorem ty_sz23 : szOf Try.prog 23 = 9 := by kernel_rfl
theorem ty_st23 : isSt Try.prog 23 = true := by kernel_rfl
theorem ty_cell23 : isCell Try.prog 23 = false := by kernel_rfl
theorem ty_ck23 : ckOf Try.prog 23 = [.int .i64, .int .i64, .int .i64, .int .i64, .int .i64, .int .i64, .bool, .bool, .sl 1] := by kernel_rfl
theorem ty_inf23 : inf Try.prog 23 = some (some (.agg #[.int .i64 0, .int .i64 0, .int .i64 0, .int .i64 0, .int .i64 0, .int .i64 0, .bool false, .bool false, .slice none 0 0]), 9, 80) := by kernel_rfl
theorem ty_cols23 : colsOf Try.prog 8 23 = [.cell, .cell, .cell, .cell, .cell, .cell, .cell, .cell, .sl 5 1 [.cell]] := by kernel_rfl
theorem ty_eq23 : eqFlat Try.prog 23 = none := by kernel_rfl
theorem ty_f23_0 : fieldOf Try.prog 23 0 = some (0, 3) := by kernel_rfl
theorem ty_f23_1 : fieldOf Try.prog 23 1 = some (1, 3) := by kernel_rfl
theorem ty_f23_2 : fieldOf Try.prog 23 2 = some (2, 3) := by kernel_rfl
theorem ty_f23_3 : fieldOf Try.prog 23 3 = some (3, 3) := by kernel_rfl
theorem ty_f23_4 : fieldOf Try.prog 23 4 = some (4, 3) := by kernel_rfl
theorem ty_f23_5 : fieldOf Try.prog 23 5 = some (5, 3) := by kernel_rfl
theorem ty_f23_6 : fieldOf Try.prog 23 6 = some (6, 4) := by kernel_rfl
theorem ty_f23_7 : fieldOf Try.prog 23 7 = some (7, 4) := by kernel_rfl
theorem ty_f23_8 : fieldOf Try.prog 23 8 = some (8, 22) := by kernel_rfl
theorem tY23 : (szOf Try.prog 23 = 9) ∧ (isSt Try.prog 23 = true) ∧ (isCell Try.prog 23 = false) ∧ (ckOf Try.prog 23 = [.int .i64, .int .i64, .int .i64, .int .i64, .int .i64, .int .i64, .bool, .bool, .sl 1]) ∧ (inf Try.prog 23 = some (some (.agg #[.int .i64 0, .int .i64 0, .int .i64 0, .int .i64 0, .int .i64 0, .int .i64 0, .bool false, .bool false, .slice none 0 0]), 9, 80)) ∧ (colsOf Try.prog 8 23 = [.cell, .cell, .cell, .cell, .cell, .cell, .cell, .cell, .sl 5 1 [.cell]]) ∧ (eqFlat Try.prog 23 = none) ∧ (fieldOf Try.prog 23 0 = some (0, 3)) ∧ (fieldOf Try.prog 23 1 = some (1, 3)) ∧ (fieldOf Try.prog 23 2 = some (2, 3)) ∧ (fieldOf Try.prog 23 3 = some (3, 3)) ∧ (fieldOf Try.prog 23 4 = some (4, 3)) ∧ (fieldOf Try.prog 23 5 = some (5, 3)) ∧ (fieldOf Try.prog 23 6 = some (6, 4)) ∧ (fieldOf Try.prog 23 7 = some (7, 4)) ∧ (fieldOf Try.prog 23 8 = some (8, 22)) := ⟨ty_sz23, ty_st23, ty_cell23, ty_ck23, ty_inf23, ty_cols23, ty_eq23, ty_f23_0, ty_f23_1, ty_f23_2, ty_f23_3, ty_f23_4, ty_f23_5, ty_f23_6, ty_f23_7, ty_f23_8⟩
theorem ty_sz24 : szOf Try.prog 24 = 9 := by kernel_rfl
theorem ty_st24 : isSt Try.prog 24 = true := by kernel_rfl
theorem ty_cell24 : isCell Try.prog 24 = false := by kernel_rfl
theorem ty_ck24 : ckOf Try.prog 24 = [.int .i64, .int .i64, .int .i64, .int .i64, .int .i64, .int .i64, .bool, .bool, .sl 1] := by kernel_rfl
theorem ty_inf24 : inf Try.prog 24 = some (some (.agg #[.int .i64 0, .int .i64 0, .int .i64 0, .int .i64 0, .int .i64 0, .int .i64 0, .bool false, .bool false, .slice none 0 0]), 9, 80) := by kernel_rfl
theorem ty_cols24 : colsOf Try.prog 8 24 = [.cell, .cell, .cell, .cell, .cell, .cell, .cell, .cell, .sl 5 1 [.cell]] := by kernel_rfl
theorem ty_eq24 : eqFlat Try.prog 24 = none := by kernel_rfl
theorem ty_f24_0 : fieldOf Try.prog 24 0 = some (0, 3) := by kernel_rfl
theorem ty_f24_1 : fieldOf Try.prog 24 1 = some (1, 3) := by kernel_rfl
theorem ty_f24_2 : fieldOf Try.prog 24 2 = some (2, 3) := by kernel_rfl
theorem ty_f24_3 : fieldOf Try.prog 24 3 = some (3, 3) := by kernel_rfl
theorem ty_f24_4 : fieldOf Try.prog 24 4 = some (4, 3) := by kernel_rfl
theorem ty_f24_5 : fieldOf Try.prog 24 5 = some (5, 3) := by kernel_rfl
theorem ty_f24_6 : fieldOf Try.prog 24 6 = some (6, 4) := by kernel_rfl
theorem ty_f24_7 : fieldOf Try.prog 24 7 = some (7, 4) := by kernel_rfl
theorem ty_f24_8 : fieldOf Try.prog 24 8 = some (8, 22) := by kernel_rfl
theorem tY24 : (szOf Try.prog 24 = 9) ∧ (isSt Try.prog 24 = true) ∧ (isCell Try.prog 24 = false) ∧ (ckOf Try.prog 24 = [.int .i64, .int .i64, .int .i64, .int .i64, .int .i64, .int .i64, .bool, .bool, .sl 1]) ∧ (inf Try.prog 24 = some (some (.agg #[.int .i64 0, .int .i64 0, .int .i64 0, .int .i64 0, .int .i64 0, .int .i64 0, .bool false, .bool false, .slice none 0 0]), 9, 80)) ∧ (colsOf Try.prog 8 24 = [.cell, .cell, .cell, .cell, .cell, .cell, .cell, .cell, .sl 5 1 [.cell]]) ∧ (eqFlat Try.prog 24 = none) ∧ (fieldOf Try.prog 24 0 = some (0, 3)) ∧ (fieldOf Try.prog 24 1 = some (1, 3)) ∧ (fieldOf Try.prog 24 2 = some (2, 3)) ∧ (fieldOf Try.prog 24 3 = some (3, 3)) ∧ (fieldOf Try.prog 24 4 = some (4, 3)) ∧ (fieldOf Try.prog 24 5 = some (5, 3)) ∧ (fieldOf Try.prog 24 6 = some (6, 4)) ∧ (fieldOf Try.prog 24 7 = some (7, 4)) ∧ (fieldOf Try.prog 24 8 = some (8, 22)) := ⟨ty_sz24, ty_st24, ty_cell24, ty_ck24, ty_inf24, ty_cols24, ty_eq24, ty_f24_0, ty_f24_1, ty_f24_2, ty_f24_3, ty_f24_4, ty_f24_5, ty_f24_6, ty_f24_7, ty_f24_8⟩
theorem ty_sz27 : szOf Try.prog 27 = 1 := by kernel_rfl
theorem ty_st27 : isSt Try.prog 27 = false := by kernel_rfl
theorem ty_cell27 : isCell Try.prog 27 = true := by kernel_rfl
theorem ty_ck27 : ckOf Try.prog 27 = [.sl 9] := by kernel_rfl
theorem ty_inf27 : inf Try.prog 27 = some (some (.slice none 0 0), 1, 24) := by kernel_rfl
theorem ty_cols27 : colsOf Try.prog 8 27 = [.sl 24 9 [.cell, .cell, .cell, .cell, .cell, .cell, .cell, .cell, .sl 5 1 [.cell]]] := by kernel_rfl
theorem tY27 : (szOf Try.prog 27 = 1) ∧ (isSt Try.prog 27 = false) ∧ (isCell Try.prog 27 = true) ∧ (ckOf Try.prog 27 = [.sl 9]) ∧ (inf Try.prog 27 = some (some (.slice none 0 0), 1, 24)) ∧ (colsOf Try.prog 8 27 = [.sl 24 9 [.cell, .cell, .cell, .cell, .cell, .cell, .cell, .cell, .sl 5 1 [.cell]]]) := ⟨ty_sz27, ty_st27, ty_cell27, ty_ck27, ty_inf27, ty_cols27⟩
theorem ty_sz35 : szOf Try.prog 35 = 2 := by kernel_rfl
theorem ty_st35 : isSt Try.prog 35 = true := by kernel_rfl
theorem ty_cell35 : isCell Try.prog 35 = false := by kernel_rfl
theorem ty_ck35 : ckOf Try.prog 35 = [.sl 9, .int .i64] := by kernel_rfl
theorem ty_inf35 : inf Try.prog 35 = some (some (.agg #[.slice none 0 0, .int .i64 0]), 2, 32) := by kernel_rfl
theorem ty_cols35 : colsOf Try.prog 8 35 = [.sl 24 9 [.cell, .cell, .cell, .cell, .cell, .cell, .cell, .cell, .sl 5 1 [.cell]], .cell] := by kernel_rfl
theorem ty_eq35 : eqFlat Try.prog 35 = none := by kernel_rfl
theorem ty_f35_0 : fieldOf Try.prog 35 0 = some (0, 27) := by kernel_rfl
theorem ty_f35_1 : fieldOf Try.prog 35 1 = some (1, 3) := by kernel_rfl
theorem tY35 : (szOf Try.prog 35 = 2) ∧ (isSt Try.prog 35 = true) ∧ (isCell Try.prog 35 = false) ∧ (ckOf Try.prog 35 = [.sl 9, .int .i64]) ∧ (inf Try.prog 35 = some (some (.agg #[.slice none 0 0, .int .i64 0]), 2, 32)) ∧ (colsOf Try.prog 8 35 = [.sl 24 9 [.cell, .cell, .cell, .cell, .cell, .cell, .cell, .cell, .sl 5 1 [.cell]], .cell]) ∧ (eqFlat Try.prog 35 = none) ∧ (fieldOf Try.prog 35 0 = some (0, 27)) ∧ (fieldOf Try.prog 35 1 = some (1, 3)) := ⟨ty_sz35, ty_st35, ty_cell35, ty_ck35, ty_inf35, ty_cols35, ty_eq35, ty_f35_0, ty_f35_1⟩
theorem ty_sz36 : szOf Try.prog 36 = 2 := by kernel_rfl
theorem ty_st36 : isSt Try.prog 36 = true := by kernel_rfl
theorem ty_cell36 : isCell Try.prog 36 = false := by kernel_rfl
theorem ty_ck36 : ckOf Try.prog 36 = [.sl 9, .int .i64] := by kernel_rfl
theorem ty_inf36 : inf Try.prog 36 = some (some (.agg #[.slice none 0 0, .int .i64 0]), 2, 32) := by kernel_rfl
theorem ty_cols36 : colsOf Try.prog 8 36 = [.sl 24 9 [.cell, .cell, .cell, .cell, .cell, .cell, .cell, .cell, .sl 5 1 [.cell]], .cell] := by kernel_rfl
theorem ty_eq36 : eqFlat Try.prog 36 = none := by kernel_rfl
theorem ty_f36_0 : fieldOf Try.prog 36 0 = some (0, 27) := by kernel_rfl
theorem ty_f36_1 : fieldOf Try.prog 36 1 = some (1, 3) := by kernel_rfl
theorem tY36 : (szOf Try.prog 36 = 2) ∧ (isSt Try.prog 36 = true) ∧ (isCell Try.prog 36 = false) ∧ (ckOf Try.prog 36 = [.sl 9, .int .i64]) ∧ (inf Try.prog 36 = some (some (.agg #[.slice none 0 0, .int .i64 0]), 2, 32)) ∧ (colsOf Try.prog 8 36 = [.sl 24 9 [.cell, .cell, .cell, .cell, .cell, .cell, .cell, .cell, .sl 5 1 [.cell]], .cell]) ∧ (eqFlat Try.prog 36 = none) ∧ (fieldOf Try.prog 36 0 = some (0, 27)) ∧ (fieldOf Try.prog 36 1 = some (1, 3)) := ⟨ty_sz36, ty_st36, ty_cell36, ty_ck36, ty_inf36, ty_cols36, ty_eq36, ty_f36_0, ty_f36_1⟩
theorem ty_sz47 : szOf Try.prog 47 = 1 := by kernel_rfl
theorem ty_st47 : isSt Try.prog 47 = false := by kernel_rfl
theorem ty_cell47 : isCell Try.prog 47 = true := by kernel_rfl
theorem ty_ck47 : ckOf Try.prog 47 = [.sl 2] := by kernel_rfl
theorem ty_inf47 : inf Try.prog 47 = some (some (.slice none 0 0), 1, 24) := by kernel_rfl
theorem ty_cols47 : colsOf Try.prog 8 47 = [.sl 36 2 [.sl 24 9 [.cell, .cell, .cell, .cell, .cell, .cell, .cell, .cell, .sl 5 1 [.cell]], .cell]] := by kernel_rfl
theorem tY47 : (szOf Try.prog 47 = 1) ∧ (isSt Try.prog 47 = false) ∧ (isCell Try.prog 47 = true) ∧ (ckOf Try.prog 47 = [.sl 2]) ∧ (inf Try.prog 47 = some (some (.slice none 0 0), 1, 24)) ∧ (colsOf Try.prog 8 47 = [.sl 36 2 [.sl 24 9 [.cell, .cell, .cell, .cell, .cell, .cell, .cell, .cell, .sl 5 1 [.cell]], .cell]]) := ⟨ty_sz47, ty_st47, ty_cell47, ty_ck47, ty_inf47, ty_cols47⟩
theorem ty_sz55 : szOf Try.prog 55 = 1 := by kernel_rfl
theorem ty_st55 : isSt Try.prog 55 = false := by kernel_rfl
theorem ty_cell55 : isCell Try.prog 55 = true := by kernel_rfl
theorem ty_ck55 : ckOf Try.prog 55 = [.sl 1] := by kernel_rfl
theorem ty_inf55 : inf Try.prog 55 = some (some (.slice none 0 0), 1, 24) := by kernel_rfl
theorem ty_cols55 : colsOf Try.prog 8 55 = [.sl 3 1 [.cell]] := by kernel_rfl
theorem tY55 : (szOf Try.prog 55 = 1) ∧ (isSt Try.prog 55 = false) ∧ (isCell Try.prog 55 = true) ∧ (ckOf Try.prog 55 = [.sl 1]) ∧ (inf Try.prog 55 = some (some (.slice none 0 0), 1, 24)) ∧ (colsOf Try.prog 8 55 = [.sl 3 1 [.cell]]) := ⟨ty_sz55, ty_st55, ty_cell55, ty_ck55, ty_inf55, ty_cols55⟩
theorem ty_sz83 : szOf Try.prog 83 = 2 := by kernel_rfl
theorem ty_st83 : isSt Try.prog 83 = true := by kernel_rfl
theorem ty_cell83 : isCell Try.prog 83 = false := by kernel_rfl
theorem ty_ck83 : ckOf Try.prog 83 = [.sl 1, .int .i64] := by kernel_rfl
theorem ty_inf83 : inf Try.prog 83 = some (some (.agg #[.slice none 0 0, .int .i64 0]), 2, 32) := by kernel_rfl
theorem ty_cols83 : colsOf Try.prog 8 83 = [.sl 5 1 [.cell], .cell] := by kernel_rfl
theorem ty_eq83 : eqFlat Try.prog 83 = none := by kernel_rfl
theorem ty_f83_0 : fieldOf Try.prog 83 0 = some (0, 22) := by kernel_rfl
theorem ty_f83_1 : fieldOf Try.prog 83 1 = some (1, 3) := by kernel_rfl
theorem tY83 : (szOf Try.prog 83 = 2) ∧ (isSt Try.prog 83 = true) ∧ (isCell Try.prog 83 = false) ∧ (ckOf Try.prog 83 = [.sl 1, .int .i64]) ∧ (inf Try.prog 83 = some (some (.agg #[.slice none 0 0, .int .i64 0]), 2, 32)) ∧ (colsOf Try.prog 8 83 = [.sl 5 1 [.cell], .cell]) ∧ (eqFlat Try.prog 83 = none) ∧ (fieldOf Try.prog 83 0 = some (0, 22)) ∧ (fieldOf Try.prog 83 1 = some (1, 3)) := ⟨ty_sz83, ty_st83, ty_cell83, ty_ck83, ty_inf83, ty_cols83, ty_eq83, ty_f83_0, ty_f83_1⟩
theorem ty_sz84 : szOf Try.prog 84 = 2 := by kernel_rfl
theorem ty_st84 : isSt Try.prog 84 = true := by kernel_rfl
theorem ty_cell84 : isCell Try.prog 84 = false := by kernel_rfl
theorem ty_ck84 : ckOf Try.prog 84 = [.sl 1, .int .i64] := by kernel_rfl
theorem ty_inf84 : inf Try.prog 84 = some (some (.agg #[.slice none 0 0, .int .i64 0]), 2, 32) := by kernel_rfl
theorem ty_cols84 : colsOf Try.prog 8 84 = [.sl 5 1 [.cell], .cell] := by kernel_rfl
theorem ty_eq84 : eqFlat Try.prog 84 = none := by kernel_rfl
theorem ty_f84_0 : fieldOf Try.prog 84 0 = some (0, 22) := by kernel_rfl
theorem ty_f84_1 : fieldOf Try.prog 84 1 = some (1, 3) := by kernel_rfl
theorem tY84 : (szOf Try.prog 84 = 2) ∧ (isSt Try.prog 84 = true) ∧ (isCell Try.prog 84 = false) ∧ (ckOf Try.prog 84 = [.sl 1, .int .i64]) ∧ (inf Try.prog 84 = some (some (.agg #[.slice none 0 0, .int .i64 0]), 2, 32)) ∧ (colsOf Try.prog 8 84 = [.sl 5 1 [.cell], .cell]) ∧ (eqFlat Try.prog 84 = none) ∧ (fieldOf Try.prog 84 0 = some (0, 22)) ∧ (fieldOf Try.prog 84 1 = some (1, 3)) := ⟨ty_sz84, ty_st84, ty_cell84, ty_ck84, ty_inf84, ty_cols84, ty_eq84, ty_f84_0, ty_f84_1⟩
theorem ty_sz97 : szOf Try.prog 97 = 1 := by kernel_rfl
theorem ty_st97 : isSt Try.prog 97 = false := by kernel_rfl
theorem ty_cell97 : isCell Try.prog 97 = true := by kernel_rfl
theorem ty_ck97 : ckOf Try.prog 97 = [.int .u32] := by kernel_rfl
theorem ty_inf97 : inf Try.prog 97 = some (some (.int .u32 0), 1, 4) := by kernel_rfl
theorem ty_cols97 : colsOf Try.prog 8 97 = [.cell] := by kernel_rfl
theorem tY97 : (szOf Try.prog 97 = 1) ∧ (isSt Try.prog 97 = false) ∧ (isCell Try.prog 97 = true) ∧ (ckOf Try.prog 97 = [.int .u32]) ∧ (inf Try.prog 97 = some (some (.int .u32 0), 1, 4)) ∧ (colsOf Try.prog 8 97 = [.cell]) := ⟨ty_sz97, ty_st97, ty_cell97, ty_ck97, ty_inf97, ty_cols97⟩
theorem ty_sz106 : szOf Try.prog 106 = 1 := by kernel_rfl
theorem ty_st106 : isSt Try.prog 106 = false := by kernel_rfl
theorem ty_cell106 : isCell Try.prog 106 = true := by kernel_rfl
theorem ty_ck106 : ckOf Try.prog 106 = [.other] := by kernel_rfl
theorem ty_inf106 : inf Try.prog 106 = some (some (.pointer none), 1, 8) := by kernel_rfl
theorem ty_cols106 : colsOf Try.prog 8 106 = [.cell] := by kernel_rfl
theorem tY106 : (szOf Try.prog 106 = 1) ∧ (isSt Try.prog 106 = false) ∧ (isCell Try.prog 106 = true) ∧ (ckOf Try.prog 106 = [.other]) ∧ (inf Try.prog 106 = some (some (.pointer none), 1, 8)) ∧ (colsOf Try.prog 8 106 = [.cell]) := ⟨ty_sz106, ty_st106, ty_cell106, ty_ck106, ty_inf106, ty_cols106⟩
end Go.Proofs.Ytdeldmagmljacaa
