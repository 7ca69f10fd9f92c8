/-
  What the evaluation asks of the types of this seat: closed facts on the program's table. By a tool.
-/
import Derived.Test.YthbcoakimbpkgaaR1
namespace Go.Proofs.Ythbcoakimbpkgaa
theorem ty_sz2 : szOf Try.prog 2 = 1 := by kernel_rfl
theorem ty_st2 : isSt Try.prog 2 = false := by kernel_rfl
theorem ty_cell2 : isCell Try.prog 2 = true := by kernel_rfl
theorem ty_ck2 : ckOf Try.prog 2 = [.int .i64] := by kernel_rfl
theorem ty_inf2 : inf Try.prog 2 = some (some (.int .i64 0), 1, 8) := by kernel_rfl
theorem ty_cols2 : colsOf Try.prog 8 2 = [.cell] := by kernel_rfl
theorem tY2 : (szOf Try.prog 2 = 1) ∧ (isSt Try.prog 2 = false) ∧ (isCell Try.prog 2 = true) ∧ (ckOf Try.prog 2 = [.int .i64]) ∧ (inf Try.prog 2 = some (some (.int .i64 0), 1, 8)) ∧ (colsOf Try.prog 8 2 = [.cell]) := ⟨ty_sz2, ty_st2, ty_cell2, ty_ck2, ty_inf2, ty_cols2⟩
theorem ty_sz3 : szOf Try.prog 3 = 1 := by kernel_rfl
theorem ty_st3 : isSt Try.prog 3 = false := by kernel_rfl
theorem ty_cell3 : isCell Try.prog 3 = true := by kernel_rfl
theorem ty_ck3 : ckOf Try.prog 3 = [.int .i64] := by kernel_rfl
theorem ty_inf3 : inf Try.prog 3 = some (some (.int .i64 0), 1, 8) := by kernel_rfl
theorem ty_cols3 : colsOf Try.prog 8 3 = [.cell] := by kernel_rfl
theorem tY3 : (szOf Try.prog 3 = 1) ∧ (isSt Try.prog 3 = false) ∧ (isCell Try.prog 3 = true) ∧ (ckOf Try.prog 3 = [.int .i64]) ∧ (inf Try.prog 3 = some (some (.int .i64 0), 1, 8)) ∧ (colsOf Try.prog 8 3 = [.cell]) := ⟨ty_sz3, ty_st3, ty_cell3, ty_ck3, ty_inf3, ty_cols3⟩
theorem ty_sz4 : szOf Try.prog 4 = 1 := by kernel_rfl
theorem ty_st4 : isSt Try.prog 4 = false := by kernel_rfl
theorem ty_cell4 : isCell Try.prog 4 = true := by kernel_rfl
theorem ty_ck4 : ckOf Try.prog 4 = [.bool] := by kernel_rfl
theorem ty_inf4 : inf Try.prog 4 = some (some (.bool false), 1, 1) := by kernel_rfl
theorem ty_cols4 : colsOf Try.prog 8 4 = [.cell] := by kernel_rfl
theorem tY4 : (szOf Try.prog 4 = 1) ∧ (isSt Try.prog 4 = false) ∧ (isCell Try.prog 4 = true) ∧ (ckOf Try.prog 4 = [.bool]) ∧ (inf Try.prog 4 = some (some (.bool false), 1, 1)) ∧ (colsOf Try.prog 8 4 = [.cell]) := ⟨ty_sz4, ty_st4, ty_cell4, ty_ck4, ty_inf4, ty_cols4⟩
theorem ty_sz5 : szOf Try.prog 5 = 1 := by kernel_rfl
theorem ty_st5 : isSt Try.prog 5 = false := by kernel_rfl
theorem ty_cell5 : isCell Try.prog 5 = true := by kernel_rfl
theorem ty_ck5 : ckOf Try.prog 5 = [.int .u8] := by kernel_rfl
theorem ty_inf5 : inf Try.prog 5 = some (some (.int .u8 0), 1, 1) := by kernel_rfl
theorem ty_cols5 : colsOf Try.prog 8 5 = [.cell] := by kernel_rfl
theorem tY5 : (szOf Try.prog 5 = 1) ∧ (isSt Try.prog 5 = false) ∧ (isCell Try.prog 5 = true) ∧ (ckOf Try.prog 5 = [.int .u8]) ∧ (inf Try.prog 5 = some (some (.int .u8 0), 1, 1)) ∧ (colsOf Try.prog 8 5 = [.cell]) := ⟨ty_sz5, ty_st5, ty_cell5, ty_ck5, ty_inf5, ty_cols5⟩
theorem ty_sz9 : szOf Try.prog 9 = 1 := by kernel_rfl
theorem ty_st9 : isSt Try.prog 9 = false := by kernel_rfl
theorem ty_cell9 : isCell Try.prog 9 = true := by kernel_rfl
theorem ty_ck9 : ckOf Try.prog 9 = [.str] := by kernel_rfl
theorem ty_inf9 : inf Try.prog 9 = some (some (.string .empty), 1, 16) := by kernel_rfl
theorem ty_cols9 : colsOf Try.prog 8 9 = [.cell] := by kernel_rfl
theorem tY9 : (szOf Try.prog 9 = 1) ∧ (isSt Try.prog 9 = false) ∧ (isCell Try.prog 9 = true) ∧ (ckOf Try.prog 9 = [.str]) ∧ (inf Try.prog 9 = some (some (.string .empty), 1, 16)) ∧ (colsOf Try.prog 8 9 = [.cell]) := ⟨ty_sz9, ty_st9, ty_cell9, ty_ck9, ty_inf9, ty_cols9⟩
theorem ty_sz12 : szOf Try.prog 12 = 1 := by kernel_rfl
theorem ty_st12 : isSt Try.prog 12 = false := by kernel_rfl
theorem ty_cell12 : isCell Try.prog 12 = true := by kernel_rfl
theorem ty_ck12 : ckOf Try.prog 12 = [.int .u64] := by kernel_rfl
theorem ty_inf12 : inf Try.prog 12 = some (some (.int .u64 0), 1, 8) := by kernel_rfl
theorem ty_cols12 : colsOf Try.prog 8 12 = [.cell] := by kernel_rfl
theorem tY12 : (szOf Try.prog 12 = 1) ∧ (isSt Try.prog 12 = false) ∧ (isCell Try.prog 12 = true) ∧ (ckOf Try.prog 12 = [.int .u64]) ∧ (inf Try.prog 12 = some (some (.int .u64 0), 1, 8)) ∧ (colsOf Try.prog 8 12 = [.cell]) := ⟨ty_sz12, ty_st12, ty_cell12, ty_ck12, ty_inf12, ty_cols12⟩
theorem ty_sz21 : szOf Try.prog 21 = 1 := by kernel_rfl
theorem ty_st21 : isSt Try.prog 21 = false := by kernel_rfl
theorem ty_cell21 : isCell Try.prog 21 = true := by kernel_rfl
theorem ty_ck21 : ckOf Try.prog 21 = [.int .i32] := by kernel_rfl
theorem ty_inf21 : inf Try.prog 21 = some (some (.int .i32 0), 1, 4) := by kernel_rfl
theorem ty_cols21 : colsOf Try.prog 8 21 = [.cell] := by kernel_rfl
theorem tY21 : (szOf Try.prog 21 = 1) ∧ (isSt Try.prog 21 = false) ∧ (isCell Try.prog 21 = true) ∧ (ckOf Try.prog 21 = [.int .i32]) ∧ (inf Try.prog 21 = some (some (.int .i32 0), 1, 4)) ∧ (colsOf Try.prog 8 21 = [.cell]) := ⟨ty_sz21, ty_st21, ty_cell21, ty_ck21, ty_inf21, ty_cols21⟩
theorem ty_sz22 : szOf Try.prog 22 = 1 := by kernel_rfl
theorem ty_st22 : isSt Try.prog 22 = false := by kernel_rfl
theorem ty_cell22 : isCell Try.prog 22 = true := by kernel_rfl
theorem ty_ck22 : ckOf Try.prog 22 = [.sl 1] := by kernel_rfl
theorem ty_inf22 : inf Try.prog 22 = some (some (.slice none 0 0), 1, 24) := by kernel_rfl
theorem ty_cols22 : colsOf Try.prog 8 22 = [.sl 5 1 [.cell]] := by kernel_rfl
theorem tY22 : (szOf Try.prog 22 = 1) ∧ (isSt Try.prog 22 = false) ∧ (isCell Try.prog 22 = true) ∧ (ckOf Try.prog 22 = [.sl 1]) ∧ (inf Try.prog 22 = some (some (.slice none 0 0), 1, 24)) ∧ (colsOf Try.prog 8 22 = [.sl 5 1 [.cell]]) := ⟨ty_sz22, ty_st22, ty_cell22, ty_ck22, ty_inf22, ty_cols22⟩
theorem ty_sz23 : szOf Try.prog 23 = 1 := by kernel_rfl
theorem ty_st23 : isSt Try.prog 23 = false := by kernel_rfl
theorem ty_cell23 : isCell Try.prog 23 = true := by kernel_rfl
theorem ty_ck23 : ckOf Try.prog 23 = [.sl 4] := by kernel_rfl
theorem ty_inf23 : inf Try.prog 23 = some (some (.slice none 0 0), 1, 24) := by kernel_rfl
theorem ty_cols23 : colsOf Try.prog 8 23 = [.sl 56 4 [.cell, .cell, .cell, .cell]] := by kernel_rfl
theorem tY23 : (szOf Try.prog 23 = 1) ∧ (isSt Try.prog 23 = false) ∧ (isCell Try.prog 23 = true) ∧ (ckOf Try.prog 23 = [.sl 4]) ∧ (inf Try.prog 23 = some (some (.slice none 0 0), 1, 24)) ∧ (colsOf Try.prog 8 23 = [.sl 56 4 [.cell, .cell, .cell, .cell]]) := ⟨ty_sz23, ty_st23, ty_cell23, ty_ck23, ty_inf23, ty_cols23⟩
theorem ty_sz24 : szOf Try.prog 24 = 2 := by kernel_rfl
theorem ty_st24 : isSt Try.prog 24 = true := by kernel_rfl
theorem ty_cell24 : isCell Try.prog 24 = false := by kernel_rfl
theorem ty_ck24 : ckOf Try.prog 24 = [.int .i64, .sl 4] := by kernel_rfl
theorem ty_inf24 : inf Try.prog 24 = some (some (.agg #[.int .i64 0, .slice none 0 0]), 2, 32) := by kernel_rfl
theorem ty_cols24 : colsOf Try.prog 8 24 = [.cell, .sl 56 4 [.cell, .cell, .cell, .cell]] := by kernel_rfl
theorem ty_eq24 : eqFlat Try.prog 24 = none := by kernel_rfl
theorem ty_f24_0 : fieldOf Try.prog 24 0 = some (0, 3) := by kernel_rfl
theorem ty_f24_1 : fieldOf Try.prog 24 1 = some (1, 23) := by kernel_rfl
theorem tY24 : (szOf Try.prog 24 = 2) ∧ (isSt Try.prog 24 = true) ∧ (isCell Try.prog 24 = false) ∧ (ckOf Try.prog 24 = [.int .i64, .sl 4]) ∧ (inf Try.prog 24 = some (some (.agg #[.int .i64 0, .slice none 0 0]), 2, 32)) ∧ (colsOf Try.prog 8 24 = [.cell, .sl 56 4 [.cell, .cell, .cell, .cell]]) ∧ (eqFlat Try.prog 24 = none) ∧ (fieldOf Try.prog 24 0 = some (0, 3)) ∧ (fieldOf Try.prog 24 1 = some (1, 23)) := ⟨ty_sz24, ty_st24, ty_cell24, ty_ck24, ty_inf24, ty_cols24, ty_eq24, ty_f24_0, ty_f24_1⟩
theorem ty_sz25 : szOf Try.prog 25 = 2 := by kernel_rfl
theorem ty_st25 : isSt Try.prog 25 = true := by kernel_rfl
theorem ty_cell25 : isCell Try.prog 25 = false := by kernel_rfl
theorem ty_ck25 : ckOf Try.prog 25 = [.int .i64, .sl 4] := by kernel_rfl
theorem ty_inf25 : inf Try.prog 25 = some (some (.agg #[.int .i64 0, .slice none 0 0]), 2, 32) := by kernel_rfl
theorem ty_cols25 : colsOf Try.prog 8 25 = [.cell, .sl 56 4 [.cell, .cell, .cell, .cell]] := by kernel_rfl
theorem ty_eq25 : eqFlat Try.prog 25 = none := by kernel_rfl
theorem ty_f25_0 : fieldOf Try.prog 25 0 = some (0, 3) := by kernel_rfl
theorem ty_f25_1 : fieldOf Try.prog 25 1 = some (1, 23) := by kernel_rfl
theorem tY25 : (szOf Try.prog 25 = 2) ∧ (isSt Try.prog 25 = true) ∧ (isCell Try.prog 25 = false) ∧ (ckOf Try.prog 25 = [.int .i64, .sl 4]) ∧ (inf Try.prog 25 = some (some (.agg #[.int .i64 0, .slice none 0 0]), 2, 32)) ∧ (colsOf Try.prog 8 25 = [.cell, .sl 56 4 [.cell, .cell, .cell, .cell]]) ∧ (eqFlat Try.prog 25 = none) ∧ (fieldOf Try.prog 25 0 = some (0, 3)) ∧ (fieldOf Try.prog 25 1 = some (1, 23)) := ⟨ty_sz25, ty_st25, ty_cell25, ty_ck25, ty_inf25, ty_cols25, ty_eq25, ty_f25_0, ty_f25_1⟩
theorem ty_sz30 : szOf Try.prog 30 = 9 := by kernel_rfl
theorem ty_st30 : isSt Try.prog 30 = true := by kernel_rfl
theorem ty_cell30 : isCell Try.prog 30 = false := by kernel_rfl
theorem ty_ck30 : ckOf Try.prog 30 = [.int .i64, .int .i64, .int .i64, .int .i64, .int .i64, .int .i64, .bool, .bool, .sl 1] := by kernel_rfl
theorem ty_inf30 : inf Try.prog 30 = some (some (.agg #[.int .i64 0, .int .i64 0, .int .i64 0, .int .i64 0, .int .i64 0, .int .i64 0, .bool false, .bool false, .slice none 0 0]), 9, 80) := by kernel_rfl
theorem ty_cols30 : colsOf Try.prog 8 30 = [.cell, .cell, .cell, .cell, .cell, .cell, .cell, .cell, .sl 5 1 [.cell]] := by kernel_rfl
theorem ty_eq30 : eqFlat Try.prog 30 = none := by kernel_rfl
theorem ty_f30_0 : fieldOf Try.prog 30 0 = some (0, 3) := by kernel_rfl
theorem ty_f30_1 : fieldOf Try.prog 30 1 = some (1, 3) := by kernel_rfl
theorem ty_f30_2 : fieldOf Try.prog 30 2 = some (2, 3) := by kernel_rfl
theorem ty_f30_3 : fieldOf Try.prog 30 3 = some (3, 3) := by kernel_rfl
theorem ty_f30_4 : fieldOf Try.prog 30 4 = some (4, 3) := by kernel_rfl
theorem ty_f30_5 : fieldOf Try.prog 30 5 = some (5, 3) := by kernel_rfl
theorem ty_f30_6 : fieldOf Try.prog 30 6 = some (6, 4) := by kernel_rfl
theorem ty_f30_7 : fieldOf Try.prog 30 7 = some (7, 4) := by kernel_rfl
theorem ty_f30_8 : fieldOf Try.prog 30 8 = some (8, 22) := by kernel_rfl
theorem tY30 : (szOf Try.prog 30 = 9) ∧ (isSt Try.prog 30 = true) ∧ (isCell Try.prog 30 = false) ∧ (ckOf Try.prog 30 = [.int .i64, .int .i64, .int .i64, .int .i64, .int .i64, .int .i64, .bool, .bool, .sl 1]) ∧ (inf Try.prog 30 = some (some (.agg #[.int .i64 0, .int .i64 0, .int .i64 0, .int .i64 0, .int .i64 0, .int .i64 0, .bool false, .bool false, .slice none 0 0]), 9, 80)) ∧ (colsOf Try.prog 8 30 = [.cell, .cell, .cell, .cell, .cell, .cell, .cell, .cell, .sl 5 1 [.cell]]) ∧ (eqFlat Try.prog 30 = none) ∧ (fieldOf Try.prog 30 0 = some (0, 3)) ∧ (fieldOf Try.prog 30 1 = some (1, 3)) ∧ (fieldOf Try.prog 30 2 = some (2, 3)) ∧ (fieldOf Try.prog 30 3 = some (3, 3)) ∧ (fieldOf Try.prog 30 4 = some (4, 3)) ∧ (fieldOf Try.prog 30 5 = some (5, 3)) ∧ (fieldOf Try.prog 30 6 = some (6, 4)) ∧ (fieldOf Try.prog 30 7 = some (7, 4)) ∧ (fieldOf Try.prog 30 8 = some (8, 22)) := ⟨ty_sz30, ty_st30, ty_cell30, ty_ck30, ty_inf30, ty_cols30, ty_eq30, ty_f30_0, ty_f30_1, ty_f30_2, ty_f30_3, ty_f30_4, ty_f30_5, ty_f30_6, ty_f30_7, ty_f30_8⟩
theorem ty_sz31 : szOf Try.prog 31 = 9 := by kernel_rfl
theorem ty_st31 : isSt Try.prog 31 = true := by kernel_rfl
theorem ty_cell31 : isCell Try.prog 31 = false := by kernel_rfl
theorem ty_ck31 : ckOf Try.prog 31 = [.int .i64, .int .i64, .int .i64, .int .i64, .int .i64, .int .i64, .bool, .bool, .sl 1] := by kernel_rfl
theorem ty_inf31 : inf Try.prog 31 = some (some (.agg #[.int .i64 0, .int .i64 0, .int .i64 0, .int .i64 0, .int .i64 0, .int .i64 0, .bool false, .bool false, .slice none 0 0]), 9, 80) := by kernel_rfl
theorem ty_cols31 : colsOf Try.prog 8 31 = [.cell, .cell, .cell, .cell, .cell, .cell, .cell, .cell, .sl 5 1 [.cell]] := by kernel_rfl
theorem ty_eq31 : eqFlat Try.prog 31 = none := by kernel_rfl
theorem ty_f31_0 : fieldOf Try.prog 31 0 = some (0, 3) := by kernel_rfl
theorem ty_f31_1 : fieldOf Try.prog 31 1 = some (1, 3) := by kernel_rfl
theorem ty_f31_2 : fieldOf Try.prog 31 2 = some (2, 3) := by kernel_rfl
theorem ty_f31_3 : fieldOf Try.prog 31 3 = some (3, 3) := by kernel_rfl
theorem ty_f31_4 : fieldOf Try.prog 31 4 = some (4, 3) := by kernel_rfl
theorem ty_f31_5 : fieldOf Try.prog 31 5 = some (5, 3) := by kernel_rfl
theorem ty_f31_6 : fieldOf Try.prog 31 6 = some (6, 4) := by kernel_rfl
theorem ty_f31_7 : fieldOf Try.prog 31 7 = some (7, 4) := by kernel_rfl
theorem ty_f31_8 : fieldOf Try.prog 31 8 = some (8, 22) := by kernel_rfl
theorem tY31 : (szOf Try.prog 31 = 9) ∧ (isSt Try.prog 31 = true) ∧ (isCell Try.prog 31 = false) ∧ (ckOf Try.prog 31 = [.int .i64, .int .i64, .int .i64, .int .i64, .int .i64, .int .i64, .bool, .bool, .sl 1]) ∧ (inf Try.prog 31 = some (some (.agg #[.int .i64 0, .int .i64 0, .int .i64 0, .int .i64 0, .int .i64 0, .int .i64 0, .bool false, .bool false, .slice none 0 0]), 9, 80)) ∧ (colsOf Try.prog 8 31 = [.cell, .cell, .cell, .cell, .cell, .cell, .cell, .cell, .sl 5 1 [.cell]]) ∧ (eqFlat Try.prog 31 = none) ∧ (fieldOf Try.prog 31 0 = some (0, 3)) ∧ (fieldOf Try.prog 31 1 = some (1, 3)) ∧ (fieldOf Try.prog 31 2 = some (2, 3)) ∧ (fieldOf Try.prog 31 3 = some (3, 3)) ∧ (fieldOf Try.prog 31 4 = some (4, 3)) ∧ (fieldOf Try.prog 31 5 = some (5, 3)) ∧ (fieldOf Try.prog 31 6 = some (6, 4)) ∧ (fieldOf Try.prog 31 7 = some (7, 4)) ∧ (fieldOf Try.prog 31 8 = some (8, 22)) := ⟨ty_sz31, ty_st31, ty_cell31, ty_ck31, ty_inf31, ty_cols31, ty_eq31, ty_f31_0, ty_f31_1, ty_f31_2, ty_f31_3, ty_f31_4, ty_f31_5, ty_f31_6, ty_f31_7, ty_f31_8⟩
theorem ty_sz34 : szOf Try.prog 34 = 1 := by kernel_rfl
theorem ty_st34 : isSt Try.prog 34 = false := by kernel_rfl
theorem ty_cell34 : isCell Try.prog 34 = true := by kernel_rfl
theorem ty_ck34 : ckOf Try.prog 34 = [.sl 9] := by kernel_rfl
theorem ty_inf34 : inf Try.prog 34 = some (some (.slice none 0 0), 1, 24) := by kernel_rfl
theorem ty_cols34 : colsOf Try.prog 8 34 = [.sl 31 9 [.cell, .cell, .cell, .cell, .cell, .cell, .cell, .cell, .sl 5 1 [.cell]]] := by kernel_rfl
theorem tY34 : (szOf Try.prog 34 = 1) ∧ (isSt Try.prog 34 = false) ∧ (isCell Try.prog 34 = true) ∧ (ckOf Try.prog 34 = [.sl 9]) ∧ (inf Try.prog 34 = some (some (.slice none 0 0), 1, 24)) ∧ (colsOf Try.prog 8 34 = [.sl 31 9 [.cell, .cell, .cell, .cell, .cell, .cell, .cell, .cell, .sl 5 1 [.cell]]]) := ⟨ty_sz34, ty_st34, ty_cell34, ty_ck34, ty_inf34, ty_cols34⟩
theorem ty_sz35 : szOf Try.prog 35 = 3 := by kernel_rfl
theorem ty_st35 : isSt Try.prog 35 = true := by kernel_rfl
theorem ty_cell35 : isCell Try.prog 35 = false := by kernel_rfl
theorem ty_ck35 : ckOf Try.prog 35 = [.int .i64, .int .i64, .sl 9] := by kernel_rfl
theorem ty_inf35 : inf Try.prog 35 = some (some (.agg #[.int .i64 0, .int .i64 0, .slice none 0 0]), 3, 40) := by kernel_rfl
theorem ty_cols35 : colsOf Try.prog 8 35 = [.cell, .cell, .sl 31 9 [.cell, .cell, .cell, .cell, .cell, .cell, .cell, .cell, .sl 5 1 [.cell]]] := by kernel_rfl
theorem ty_eq35 : eqFlat Try.prog 35 = none := by kernel_rfl
theorem ty_f35_0 : fieldOf Try.prog 35 0 = some (0, 3) := by kernel_rfl
theorem ty_f35_1 : fieldOf Try.prog 35 1 = some (1, 3) := by kernel_rfl
theorem ty_f35_2 : fieldOf Try.prog 35 2 = some (2, 34) := by kernel_rfl
theorem tY35 : (szOf Try.prog 35 = 3) ∧ (isSt Try.prog 35 = true) ∧ (isCell Try.prog 35 = false) ∧ (ckOf Try.prog 35 = [.int .i64, .int .i64, .sl 9]) ∧ (inf Try.prog 35 = some (some (.agg #[.int .i64 0, .int .i64 0, .slice none 0 0]), 3, 40)) ∧ (colsOf Try.prog 8 35 = [.cell, .cell, .sl 31 9 [.cell, .cell, .cell, .cell, .cell, .cell, .cell, .cell, .sl 5 1 [.cell]]]) ∧ (eqFlat Try.prog 35 = none) ∧ (fieldOf Try.prog 35 0 = some (0, 3)) ∧ (fieldOf Try.prog 35 1 = some (1, 3)) ∧ (fieldOf Try.prog 35 2 = some (2, 34)) := ⟨ty_sz35, ty_st35, ty_cell35, ty_ck35, ty_inf35, ty_cols35, ty_eq35, ty_f35_0, ty_f35_1, ty_f35_2⟩
theorem ty_sz36 : szOf Try.prog 36 = 3 := by kernel_rfl
theorem ty_st36 : isSt Try.prog 36 = true := by kernel_rfl
theorem ty_cell36 : isCell Try.prog 36 = false := by kernel_rfl
theorem ty_ck36 : ckOf Try.prog 36 = [.int .i64, .int .i64, .sl 9] := by kernel_rfl
theorem ty_inf36 : inf Try.prog 36 = some (some (.agg #[.int .i64 0, .int .i64 0, .slice none 0 0]), 3, 40) := by kernel_rfl
theorem ty_cols36 : colsOf Try.prog 8 36 = [.cell, .cell, .sl 31 9 [.cell, .cell, .cell, .cell, .cell, .cell, .cell, .cell, .sl 5 1 [.cell]]] := by kernel_rfl
theorem ty_eq36 : eqFlat Try.prog 36 = none := by kernel_rfl
theorem ty_f36_0 : fieldOf Try.prog 36 0 = some (0, 3) := by kernel_rfl
theorem ty_f36_1 : fieldOf Try.prog 36 1 = some (1, 3) := by kernel_rfl
theorem ty_f36_2 : fieldOf Try.prog 36 2 = some (2, 34) := by kernel_rfl
theorem tY36 : (szOf Try.prog 36 = 3) ∧ (isSt Try.prog 36 = true) ∧ (isCell Try.prog 36 = false) ∧ (ckOf Try.prog 36 = [.int .i64, .int .i64, .sl 9]) ∧ (inf Try.prog 36 = some (some (.agg #[.int .i64 0, .int .i64 0, .slice none 0 0]), 3, 40)) ∧ (colsOf Try.prog 8 36 = [.cell, .cell, .sl 31 9 [.cell, .cell, .cell, .cell, .cell, .cell, .cell, .cell, .sl 5 1 [.cell]]]) ∧ (eqFlat Try.prog 36 = none) ∧ (fieldOf Try.prog 36 0 = some (0, 3)) ∧ (fieldOf Try.prog 36 1 = some (1, 3)) ∧ (fieldOf Try.prog 36 2 = some (2, 34)) := ⟨ty_sz36, ty_st36, ty_cell36, ty_ck36, ty_inf36, ty_cols36, ty_eq36, ty_f36_0, ty_f36_1, ty_f36_2⟩
theorem ty_sz42 : szOf Try.prog 42 = 1 := by kernel_rfl
theorem ty_st42 : isSt Try.prog 42 = false := by kernel_rfl
theorem ty_cell42 : isCell Try.prog 42 = true := by kernel_rfl
theorem ty_ck42 : ckOf Try.prog 42 = [.sl 2] := by kernel_rfl
theorem ty_inf42 : inf Try.prog 42 = some (some (.slice none 0 0), 1, 24) := by kernel_rfl
theorem ty_cols42 : colsOf Try.prog 8 42 = [.sl 25 2 [.cell, .sl 56 4 [.cell, .cell, .cell, .cell]]] := by kernel_rfl
theorem tY42 : (szOf Try.prog 42 = 1) ∧ (isSt Try.prog 42 = false) ∧ (isCell Try.prog 42 = true) ∧ (ckOf Try.prog 42 = [.sl 2]) ∧ (inf Try.prog 42 = some (some (.slice none 0 0), 1, 24)) ∧ (colsOf Try.prog 8 42 = [.sl 25 2 [.cell, .sl 56 4 [.cell, .cell, .cell, .cell]]]) := ⟨ty_sz42, ty_st42, ty_cell42, ty_ck42, ty_inf42, ty_cols42⟩
theorem ty_sz47 : szOf Try.prog 47 = 3 := by kernel_rfl
theorem ty_st47 : isSt Try.prog 47 = true := by kernel_rfl
theorem ty_cell47 : isCell Try.prog 47 = false := by kernel_rfl
theorem ty_ck47 : ckOf Try.prog 47 = [.sl 9, .sl 9, .int .i64] := by kernel_rfl
theorem ty_inf47 : inf Try.prog 47 = some (some (.agg #[.slice none 0 0, .slice none 0 0, .int .i64 0]), 3, 56) := by kernel_rfl
theorem ty_cols47 : colsOf Try.prog 8 47 = [.sl 31 9 [.cell, .cell, .cell, .cell, .cell, .cell, .cell, .cell, .sl 5 1 [.cell]], .sl 31 9 [.cell, .cell, .cell, .cell, .cell, .cell, .cell, .cell, .sl 5 1 [.cell]], .cell] := by kernel_rfl
theorem ty_eq47 : eqFlat Try.prog 47 = none := by kernel_rfl
theorem ty_f47_0 : fieldOf Try.prog 47 0 = some (0, 34) := by kernel_rfl
theorem ty_f47_1 : fieldOf Try.prog 47 1 = some (1, 34) := by kernel_rfl
theorem ty_f47_2 : fieldOf Try.prog 47 2 = some (2, 3) := by kernel_rfl
theorem tY47 : (szOf Try.prog 47 = 3) ∧ (isSt Try.prog 47 = true) ∧ (isCell Try.prog 47 = false) ∧ (ckOf Try.prog 47 = [.sl 9, .sl 9, .int .i64]) ∧ (inf Try.prog 47 = some (some (.agg #[.slice none 0 0, .slice none 0 0, .int .i64 0]), 3, 56)) ∧ (colsOf Try.prog 8 47 = [.sl 31 9 [.cell, .cell, .cell, .cell, .cell, .cell, .cell, .cell, .sl 5 1 [.cell]], .sl 31 9 [.cell, .cell, .cell, .cell, .cell, .cell, .cell, .cell, .sl 5 1 [.cell]], .cell]) ∧ (eqFlat Try.prog 47 = none) ∧ (fieldOf Try.prog 47 0 = some (0, 34)) ∧ (fieldOf Try.prog 47 1 = some (1, 34)) ∧ (fieldOf Try.prog 47 2 = some (2, 3)) := ⟨ty_sz47, ty_st47, ty_cell47, ty_ck47, ty_inf47, ty_cols47, ty_eq47, ty_f47_0, ty_f47_1, ty_f47_2⟩
theorem ty_sz48 : szOf Try.prog 48 = 3 := by kernel_rfl
theorem ty_st48 : isSt Try.prog 48 = true := by kernel_rfl
theorem ty_cell48 : isCell Try.prog 48 = false := by kernel_rfl
theorem ty_ck48 : ckOf Try.prog 48 = [.sl 9, .sl 9, .int .i64] := by kernel_rfl
theorem ty_inf48 : inf Try.prog 48 = some (some (.agg #[.slice none 0 0, .slice none 0 0, .int .i64 0]), 3, 56) := by kernel_rfl
theorem ty_cols48 : colsOf Try.prog 8 48 = [.sl 31 9 [.cell, .cell, .cell, .cell, .cell, .cell, .cell, .cell, .sl 5 1 [.cell]], .sl 31 9 [.cell, .cell, .cell, .cell, .cell, .cell, .cell, .cell, .sl 5 1 [.cell]], .cell] := by kernel_rfl
theorem ty_eq48 : eqFlat Try.prog 48 = none := by kernel_rfl
theorem ty_f48_0 : fieldOf Try.prog 48 0 = some (0, 34) := by kernel_rfl
theorem ty_f48_1 : fieldOf Try.prog 48 1 = some (1, 34) := by kernel_rfl
theorem ty_f48_2 : fieldOf Try.prog 48 2 = some (2, 3) := by kernel_rfl
theorem tY48 : (szOf Try.prog 48 = 3) ∧ (isSt Try.prog 48 = true) ∧ (isCell Try.prog 48 = false) ∧ (ckOf Try.prog 48 = [.sl 9, .sl 9, .int .i64]) ∧ (inf Try.prog 48 = some (some (.agg #[.slice none 0 0, .slice none 0 0, .int .i64 0]), 3, 56)) ∧ (colsOf Try.prog 8 48 = [.sl 31 9 [.cell, .cell, .cell, .cell, .cell, .cell, .cell, .cell, .sl 5 1 [.cell]], .sl 31 9 [.cell, .cell, .cell, .cell, .cell, .cell, .cell, .cell, .sl 5 1 [.cell]], .cell]) ∧ (eqFlat Try.prog 48 = none) ∧ (fieldOf Try.prog 48 0 = some (0, 34)) ∧ (fieldOf Try.prog 48 1 = some (1, 34)) ∧ (fieldOf Try.prog 48 2 = some (2, 3)) := ⟨ty_sz48, ty_st48, ty_cell48, ty_ck48, ty_inf48, ty_cols48, ty_eq48, ty_f48_0, ty_f48_1, ty_f48_2⟩
theorem ty_sz51 : szOf Try.prog 51 = 1 := by kernel_rfl
theorem ty_st51 : isSt Try.prog 51 = false := by kernel_rfl
theorem ty_cell51 : isCell Try.prog 51 = true := by kernel_rfl
theorem ty_ck51 : ckOf Try.prog 51 = [.sl 1] := by kernel_rfl
theorem ty_inf51 : inf Try.prog 51 = some (some (.slice none 0 0), 1, 24) := by kernel_rfl
theorem ty_cols51 : colsOf Try.prog 8 51 = [.sl 4 1 [.cell]] := by kernel_rfl
theorem tY51 : (szOf Try.prog 51 = 1) ∧ (isSt Try.prog 51 = false) ∧ (isCell Try.prog 51 = true) ∧ (ckOf Try.prog 51 = [.sl 1]) ∧ (inf Try.prog 51 = some (some (.slice none 0 0), 1, 24)) ∧ (colsOf Try.prog 8 51 = [.sl 4 1 [.cell]]) := ⟨ty_sz51, ty_st51, ty_cell51, ty_ck51, ty_inf51, ty_cols51⟩
theorem ty_sz55 : szOf Try.prog 55 = 4 := by kernel_rfl
theorem ty_st55 : isSt Try.prog 55 = true := by kernel_rfl
theorem ty_cell55 : isCell Try.prog 55 = false := by kernel_rfl
theorem ty_ck55 : ckOf Try.prog 55 = [.int .i64, .int .i64, .int .i64, .int .i64] := by kernel_rfl
theorem ty_inf55 : inf Try.prog 55 = some (some (.agg #[.int .i64 0, .int .i64 0, .int .i64 0, .int .i64 0]), 4, 32) := by kernel_rfl
theorem ty_cols55 : colsOf Try.prog 8 55 = [.cell, .cell, .cell, .cell] := by kernel_rfl
theorem ty_eq55 : eqFlat Try.prog 55 = some [true, true, true, true] := by kernel_rfl
theorem ty_f55_0 : fieldOf Try.prog 55 0 = some (0, 3) := by kernel_rfl
theorem ty_f55_1 : fieldOf Try.prog 55 1 = some (1, 3) := by kernel_rfl
theorem ty_f55_2 : fieldOf Try.prog 55 2 = some (2, 3) := by kernel_rfl
theorem ty_f55_3 : fieldOf Try.prog 55 3 = some (3, 3) := by kernel_rfl
theorem tY55 : (szOf Try.prog 55 = 4) ∧ (isSt Try.prog 55 = true) ∧ (isCell Try.prog 55 = false) ∧ (ckOf Try.prog 55 = [.int .i64, .int .i64, .int .i64, .int .i64]) ∧ (inf Try.prog 55 = some (some (.agg #[.int .i64 0, .int .i64 0, .int .i64 0, .int .i64 0]), 4, 32)) ∧ (colsOf Try.prog 8 55 = [.cell, .cell, .cell, .cell]) ∧ (eqFlat Try.prog 55 = some [true, true, true, true]) ∧ (fieldOf Try.prog 55 0 = some (0, 3)) ∧ (fieldOf Try.prog 55 1 = some (1, 3)) ∧ (fieldOf Try.prog 55 2 = some (2, 3)) ∧ (fieldOf Try.prog 55 3 = some (3, 3)) := ⟨ty_sz55, ty_st55, ty_cell55, ty_ck55, ty_inf55, ty_cols55, ty_eq55, ty_f55_0, ty_f55_1, ty_f55_2, ty_f55_3⟩
theorem ty_sz56 : szOf Try.prog 56 = 4 := by kernel_rfl
theorem ty_st56 : isSt Try.prog 56 = true := by kernel_rfl
theorem ty_cell56 : isCell Try.prog 56 = false := by kernel_rfl
theorem ty_ck56 : ckOf Try.prog 56 = [.int .i64, .int .i64, .int .i64, .int .i64] := by kernel_rfl
theorem ty_inf56 : inf Try.prog 56 = some (some (.agg #[.int .i64 0, .int .i64 0, .int .i64 0, .int .i64 0]), 4, 32) := by kernel_rfl
theorem ty_cols56 : colsOf Try.prog 8 56 = [.cell, .cell, .cell, .cell] := by kernel_rfl
theorem ty_eq56 : eqFlat Try.prog 56 = some [true, true, true, true] := by kernel_rfl
theorem ty_f56_0 : fieldOf Try.prog 56 0 = some (0, 3) := by kernel_rfl
theorem ty_f56_1 : fieldOf Try.prog 56 1 = some (1, 3) := by kernel_rfl
theorem ty_f56_2 : fieldOf Try.prog 56 2 = some (2, 3) := by kernel_rfl
theorem ty_f56_3 : fieldOf Try.prog 56 3 = some (3, 3) := by kernel_rfl
theorem tY56 : (szOf Try.prog 56 = 4) ∧ (isSt Try.prog 56 = true) ∧ (isCell Try.prog 56 = false) ∧ (ckOf Try.prog 56 = [.int .i64, .int .i64, .int .i64, .int .i64]) ∧ (inf Try.prog 56 = some (some (.agg #[.int .i64 0, .int .i64 0, .int .i64 0, .int .i64 0]), 4, 32)) ∧ (colsOf Try.prog 8 56 = [.cell, .cell, .cell, .cell]) ∧ (eqFlat Try.prog 56 = some [true, true, true, true]) ∧ (fieldOf Try.prog 56 0 = some (0, 3)) ∧ (fieldOf Try.prog 56 1 = some (1, 3)) ∧ (fieldOf Try.prog 56 2 = some (2, 3)) ∧ (fieldOf Try.prog 56 3 = some (3, 3)) := ⟨ty_sz56, ty_st56, ty_cell56, ty_ck56, ty_inf56, ty_cols56, ty_eq56, ty_f56_0, ty_f56_1, ty_f56_2, ty_f56_3⟩
theorem ty_sz62 : szOf Try.prog 62 = 1 := by kernel_rfl
theorem ty_st62 : isSt Try.prog 62 = false := by kernel_rfl
theorem ty_cell62 : isCell Try.prog 62 = true := by kernel_rfl
theorem ty_ck62 : ckOf Try.prog 62 = [.sl 4] := by kernel_rfl
theorem ty_inf62 : inf Try.prog 62 = some (some (.slice none 0 0), 1, 24) := by kernel_rfl
theorem ty_cols62 : colsOf Try.prog 8 62 = [.sl 137 4 [.cell, .cell, .cell, .cell]] := by kernel_rfl
theorem tY62 : (szOf Try.prog 62 = 1) ∧ (isSt Try.prog 62 = false) ∧ (isCell Try.prog 62 = true) ∧ (ckOf Try.prog 62 = [.sl 4]) ∧ (inf Try.prog 62 = some (some (.slice none 0 0), 1, 24)) ∧ (colsOf Try.prog 8 62 = [.sl 137 4 [.cell, .cell, .cell, .cell]]) := ⟨ty_sz62, ty_st62, ty_cell62, ty_ck62, ty_inf62, ty_cols62⟩
theorem ty_sz63 : szOf Try.prog 63 = 2 := by kernel_rfl
theorem ty_st63 : isSt Try.prog 63 = true := by kernel_rfl
theorem ty_cell63 : isCell Try.prog 63 = false := by kernel_rfl
theorem ty_ck63 : ckOf Try.prog 63 = [.int .i64, .sl 4] := by kernel_rfl
theorem ty_inf63 : inf Try.prog 63 = some (some (.agg #[.int .i64 0, .slice none 0 0]), 2, 32) := by kernel_rfl
theorem ty_cols63 : colsOf Try.prog 8 63 = [.cell, .sl 137 4 [.cell, .cell, .cell, .cell]] := by kernel_rfl
theorem ty_eq63 : eqFlat Try.prog 63 = none := by kernel_rfl
theorem ty_f63_0 : fieldOf Try.prog 63 0 = some (0, 3) := by kernel_rfl
theorem ty_f63_1 : fieldOf Try.prog 63 1 = some (1, 62) := by kernel_rfl
theorem tY63 : (szOf Try.prog 63 = 2) ∧ (isSt Try.prog 63 = true) ∧ (isCell Try.prog 63 = false) ∧ (ckOf Try.prog 63 = [.int .i64, .sl 4]) ∧ (inf Try.prog 63 = some (some (.agg #[.int .i64 0, .slice none 0 0]), 2, 32)) ∧ (colsOf Try.prog 8 63 = [.cell, .sl 137 4 [.cell, .cell, .cell, .cell]]) ∧ (eqFlat Try.prog 63 = none) ∧ (fieldOf Try.prog 63 0 = some (0, 3)) ∧ (fieldOf Try.prog 63 1 = some (1, 62)) := ⟨ty_sz63, ty_st63, ty_cell63, ty_ck63, ty_inf63, ty_cols63, ty_eq63, ty_f63_0, ty_f63_1⟩
theorem ty_sz64 : szOf Try.prog 64 = 2 := by kernel_rfl
theorem ty_st64 : isSt Try.prog 64 = true := by kernel_rfl
theorem ty_cell64 : isCell Try.prog 64 = false := by kernel_rfl
theorem ty_ck64 : ckOf Try.prog 64 = [.int .i64, .sl 4] := by kernel_rfl
theorem ty_inf64 : inf Try.prog 64 = some (some (.agg #[.int .i64 0, .slice none 0 0]), 2, 32) := by kernel_rfl
theorem ty_cols64 : colsOf Try.prog 8 64 = [.cell, .sl 137 4 [.cell, .cell, .cell, .cell]] := by kernel_rfl
theorem ty_eq64 : eqFlat Try.prog 64 = none := by kernel_rfl
theorem ty_f64_0 : fieldOf Try.prog 64 0 = some (0, 3) := by kernel_rfl
theorem ty_f64_1 : fieldOf Try.prog 64 1 = some (1, 62) := by kernel_rfl
theorem tY64 : (szOf Try.prog 64 = 2) ∧ (isSt Try.prog 64 = true) ∧ (isCell Try.prog 64 = false) ∧ (ckOf Try.prog 64 = [.int .i64, .sl 4]) ∧ (inf Try.prog 64 = some (some (.agg #[.int .i64 0, .slice none 0 0]), 2, 32)) ∧ (colsOf Try.prog 8 64 = [.cell, .sl 137 4 [.cell, .cell, .cell, .cell]]) ∧ (eqFlat Try.prog 64 = none) ∧ (fieldOf Try.prog 64 0 = some (0, 3)) ∧ (fieldOf Try.prog 64 1 = some (1, 62)) := ⟨ty_sz64, ty_st64, ty_cell64, ty_ck64, ty_inf64, ty_cols64, ty_eq64, ty_f64_0, ty_f64_1⟩
theorem ty_sz69 : szOf Try.prog 69 = 9 := by kernel_rfl
theorem ty_st69 : isSt Try.prog 69 = true := by kernel_rfl
theorem ty_cell69 : isCell Try.prog 69 = false := by kernel_rfl
theorem ty_ck69 : ckOf Try.prog 69 = [.int .i64, .int .i64, .int .i64, .int .i64, .int .i64, .int .i64, .bool, .bool, .sl 1] := by kernel_rfl
theorem ty_inf69 : inf Try.prog 69 = some (some (.agg #[.int .i64 0, .int .i64 0, .int .i64 0, .int .i64 0, .int .i64 0, .int .i64 0, .bool false, .bool false, .slice none 0 0]), 9, 80) := by kernel_rfl
theorem ty_cols69 : colsOf Try.prog 8 69 = [.cell, .cell, .cell, .cell, .cell, .cell, .cell, .cell, .sl 5 1 [.cell]] := by kernel_rfl
theorem ty_eq69 : eqFlat Try.prog 69 = none := by kernel_rfl
theorem ty_f69_0 : fieldOf Try.prog 69 0 = some (0, 3) := by kernel_rfl
theorem ty_f69_1 : fieldOf Try.prog 69 1 = some (1, 3) := by kernel_rfl
theorem ty_f69_2 : fieldOf Try.prog 69 2 = some (2, 3) := by kernel_rfl
theorem ty_f69_3 : fieldOf Try.prog 69 3 = some (3, 3) := by kernel_rfl
theorem ty_f69_4 : fieldOf Try.prog 69 4 = some (4, 3) := by kernel_rfl
theorem ty_f69_5 : fieldOf Try.prog 69 5 = some (5, 3) := by kernel_rfl
theorem ty_f69_6 : fieldOf Try.prog 69 6 = some (6, 4) := by kernel_rfl
theorem ty_f69_7 : fieldOf Try.prog 69 7 = some (7, 4) := by kernel_rfl
theorem ty_f69_8 : fieldOf Try.prog 69 8 = some (8, 22) := by kernel_rfl
theorem tY69 : (szOf Try.prog 69 = 9) ∧ (isSt Try.prog 69 = true) ∧ (isCell Try.prog 69 = false) ∧ (ckOf Try.prog 69 = [.int .i64, .int .i64, .int .i64, .int .i64, .int .i64, .int .i64, .bool, .bool, .sl 1]) ∧ (inf Try.prog 69 = some (some (.agg #[.int .i64 0, .int .i64 0, .int .i64 0, .int .i64 0, .int .i64 0, .int .i64 0, .bool false, .bool false, .slice none 0 0]), 9, 80)) ∧ (colsOf Try.prog 8 69 = [.cell, .cell, .cell, .cell, .cell, .cell, .cell, .cell, .sl 5 1 [.cell]]) ∧ (eqFlat Try.prog 69 = none) ∧ (fieldOf Try.prog 69 0 = some (0, 3)) ∧ (fieldOf Try.prog 69 1 = some (1, 3)) ∧ (fieldOf Try.prog 69 2 = some (2, 3)) ∧ (fieldOf Try.prog 69 3 = some (3, 3)) ∧ (fieldOf Try.prog 69 4 = some (4, 3)) ∧ (fieldOf Try.prog 69 5 = some (5, 3)) ∧ (fieldOf Try.prog 69 6 = some (6, 4)) ∧ (fieldOf Try.prog 69 7 = some (7, 4)) ∧ (fieldOf Try.prog 69 8 = some (8, 22)) := ⟨ty_sz69, ty_st69, ty_cell69, ty_ck69, ty_inf69, ty_cols69, ty_eq69, ty_f69_0, ty_f69_1, ty_f69_2, ty_f69_3, ty_f69_4, ty_f69_5, ty_f69_6, ty_f69_7, ty_f69_8⟩
theorem ty_sz76 : szOf Try.prog 76 = 1 := by kernel_rfl
theorem ty_st76 : isSt Try.prog 76 = false := by kernel_rfl
theorem ty_cell76 : isCell Try.prog 76 = true := by kernel_rfl
theorem ty_ck76 : ckOf Try.prog 76 = [.sl 2] := by kernel_rfl
theorem ty_inf76 : inf Try.prog 76 = some (some (.slice none 0 0), 1, 24) := by kernel_rfl
theorem ty_cols76 : colsOf Try.prog 8 76 = [.sl 64 2 [.cell, .sl 137 4 [.cell, .cell, .cell, .cell]]] := by kernel_rfl
theorem tY76 : (szOf Try.prog 76 = 1) ∧ (isSt Try.prog 76 = false) ∧ (isCell Try.prog 76 = true) ∧ (ckOf Try.prog 76 = [.sl 2]) ∧ (inf Try.prog 76 = some (some (.slice none 0 0), 1, 24)) ∧ (colsOf Try.prog 8 76 = [.sl 64 2 [.cell, .sl 137 4 [.cell, .cell, .cell, .cell]]]) := ⟨ty_sz76, ty_st76, ty_cell76, ty_ck76, ty_inf76, ty_cols76⟩
theorem ty_sz104 : szOf Try.prog 104 = 3 := by kernel_rfl
theorem ty_st104 : isSt Try.prog 104 = true := by kernel_rfl
theorem ty_cell104 : isCell Try.prog 104 = false := by kernel_rfl
theorem ty_ck104 : ckOf Try.prog 104 = [.int .i64, .int .i64, .sl 1] := by kernel_rfl
theorem ty_inf104 : inf Try.prog 104 = some (some (.agg #[.int .i64 0, .int .i64 0, .slice none 0 0]), 3, 40) := by kernel_rfl
theorem ty_cols104 : colsOf Try.prog 8 104 = [.cell, .cell, .sl 5 1 [.cell]] := by kernel_rfl
theorem ty_eq104 : eqFlat Try.prog 104 = none := by kernel_rfl
theorem ty_f104_0 : fieldOf Try.prog 104 0 = some (0, 3) := by kernel_rfl
theorem ty_f104_1 : fieldOf Try.prog 104 1 = some (1, 3) := by kernel_rfl
theorem ty_f104_2 : fieldOf Try.prog 104 2 = some (2, 22) := by kernel_rfl
theorem tY104 : (szOf Try.prog 104 = 3) ∧ (isSt Try.prog 104 = true) ∧ (isCell Try.prog 104 = false) ∧ (ckOf Try.prog 104 = [.int .i64, .int .i64, .sl 1]) ∧ (inf Try.prog 104 = some (some (.agg #[.int .i64 0, .int .i64 0, .slice none 0 0]), 3, 40)) ∧ (colsOf Try.prog 8 104 = [.cell, .cell, .sl 5 1 [.cell]]) ∧ (eqFlat Try.prog 104 = none) ∧ (fieldOf Try.prog 104 0 = some (0, 3)) ∧ (fieldOf Try.prog 104 1 = some (1, 3)) ∧ (fieldOf Try.prog 104 2 = some (2, 22)) := ⟨ty_sz104, ty_st104, ty_cell104, ty_ck104, ty_inf104, ty_cols104, ty_eq104, ty_f104_0, ty_f104_1, ty_f104_2⟩
theorem ty_sz105 : szOf Try.prog 105 = 3 := by kernel_rfl
theorem ty_st105 : isSt Try.prog 105 = true := by kernel_rfl
theorem ty_cell105 : isCell Try.prog 105 = false := by kernel_rfl
theorem ty_ck105 : ckOf Try.prog 105 = [.int .i64, .int .i64, .sl 1] := by kernel_rfl
theorem ty_inf105 : inf Try.prog 105 = some (some (.agg #[.int .i64 0, .int .i64 0, .slice none 0 0]), 3, 40) := by kernel_rfl
theorem ty_cols105 : colsOf Try.prog 8 105 = [.cell, .cell, .sl 5 1 [.cell]] := by kernel_rfl
theorem ty_eq105 : eqFlat Try.prog 105 = none := by kernel_rfl
theorem ty_f105_0 : fieldOf Try.prog 105 0 = some (0, 3) := by kernel_rfl
theorem ty_f105_1 : fieldOf Try.prog 105 1 = some (1, 3) := by kernel_rfl
theorem ty_f105_2 : fieldOf Try.prog 105 2 = some (2, 22) := by kernel_rfl
theorem tY105 : (szOf Try.prog 105 = 3) ∧ (isSt Try.prog 105 = true) ∧ (isCell Try.prog 105 = false) ∧ (ckOf Try.prog 105 = [.int .i64, .int .i64, .sl 1]) ∧ (inf Try.prog 105 = some (some (.agg #[.int .i64 0, .int .i64 0, .slice none 0 0]), 3, 40)) ∧ (colsOf Try.prog 8 105 = [.cell, .cell, .sl 5 1 [.cell]]) ∧ (eqFlat Try.prog 105 = none) ∧ (fieldOf Try.prog 105 0 = some (0, 3)) ∧ (fieldOf Try.prog 105 1 = some (1, 3)) ∧ (fieldOf Try.prog 105 2 = some (2, 22)) := ⟨ty_sz105, ty_st105, ty_cell105, ty_ck105, ty_inf105, ty_cols105, ty_eq105, ty_f105_0, ty_f105_1, ty_f105_2⟩
theorem ty_sz109 : szOf Try.prog 109 = 10 := by kernel_rfl
theorem ty_st109 : isSt Try.prog 109 = true := by kernel_rfl
theorem ty_cell109 : isCell Try.prog 109 = false := by kernel_rfl
theorem ty_ck109 : ckOf Try.prog 109 = [.int .i64, .int .i64, .int .i64, .int .i64, .int .i64, .int .i64, .int .i64, .bool, .bool, .sl 1] := by kernel_rfl
theorem ty_inf109 : inf Try.prog 109 = some (some (.agg #[.int .i64 0, .int .i64 0, .int .i64 0, .int .i64 0, .int .i64 0, .int .i64 0, .int .i64 0, .bool false, .bool false, .slice none 0 0]), 10, 88) := by kernel_rfl
theorem ty_cols109 : colsOf Try.prog 8 109 = [.cell, .cell, .cell, .cell, .cell, .cell, .cell, .cell, .cell, .sl 5 1 [.cell]] := by kernel_rfl
theorem ty_eq109 : eqFlat Try.prog 109 = none := by kernel_rfl
theorem ty_f109_0 : fieldOf Try.prog 109 0 = some (0, 3) := by kernel_rfl
theorem ty_f109_1 : fieldOf Try.prog 109 1 = some (1, 31) := by kernel_rfl
theorem tY109 : (szOf Try.prog 109 = 10) ∧ (isSt Try.prog 109 = true) ∧ (isCell Try.prog 109 = false) ∧ (ckOf Try.prog 109 = [.int .i64, .int .i64, .int .i64, .int .i64, .int .i64, .int .i64, .int .i64, .bool, .bool, .sl 1]) ∧ (inf Try.prog 109 = some (some (.agg #[.int .i64 0, .int .i64 0, .int .i64 0, .int .i64 0, .int .i64 0, .int .i64 0, .int .i64 0, .bool false, .bool false, .slice none 0 0]), 10, 88)) ∧ (colsOf Try.prog 8 109 = [.cell, .cell, .cell, .cell, .cell, .cell, .cell, .cell, .cell, .sl 5 1 [.cell]]) ∧ (eqFlat Try.prog 109 = none) ∧ (fieldOf Try.prog 109 0 = some (0, 3)) ∧ (fieldOf Try.prog 109 1 = some (1, 31)) := ⟨ty_sz109, ty_st109, ty_cell109, ty_ck109, ty_inf109, ty_cols109, ty_eq109, ty_f109_0, ty_f109_1⟩
theorem ty_sz110 : szOf Try.prog 110 = 10 := by kernel_rfl
theorem ty_st110 : isSt Try.prog 110 = true := by kernel_rfl
theorem ty_cell110 : isCell Try.prog 110 = false := by kernel_rfl
theorem ty_ck110 : ckOf Try.prog 110 = [.int .i64, .int .i64, .int .i64, .int .i64, .int .i64, .int .i64, .int .i64, .bool, .bool, .sl 1] := by kernel_rfl
theorem ty_inf110 : inf Try.prog 110 = some (some (.agg #[.int .i64 0, .int .i64 0, .int .i64 0, .int .i64 0, .int .i64 0, .int .i64 0, .int .i64 0, .bool false, .bool false, .slice none 0 0]), 10, 88) := by kernel_rfl
theorem ty_cols110 : colsOf Try.prog 8 110 = [.cell, .cell, .cell, .cell, .cell, .cell, .cell, .cell, .cell, .sl 5 1 [.cell]] := by kernel_rfl
theorem ty_eq110 : eqFlat Try.prog 110 = none := by kernel_rfl
theorem ty_f110_0 : fieldOf Try.prog 110 0 = some (0, 3) := by kernel_rfl
theorem ty_f110_1 : fieldOf Try.prog 110 1 = some (1, 31) := by kernel_rfl
theorem tY110 : (szOf Try.prog 110 = 10) ∧ (isSt Try.prog 110 = true) ∧ (isCell Try.prog 110 = false) ∧ (ckOf Try.prog 110 = [.int .i64, .int .i64, .int .i64, .int .i64, .int .i64, .int .i64, .int .i64, .bool, .bool, .sl 1]) ∧ (inf Try.prog 110 = some (some (.agg #[.int .i64 0, .int .i64 0, .int .i64 0, .int .i64 0, .int .i64 0, .int .i64 0, .int .i64 0, .bool false, .bool false, .slice none 0 0]), 10, 88)) ∧ (colsOf Try.prog 8 110 = [.cell, .cell, .cell, .cell, .cell, .cell, .cell, .cell, .cell, .sl 5 1 [.cell]]) ∧ (eqFlat Try.prog 110 = none) ∧ (fieldOf Try.prog 110 0 = some (0, 3)) ∧ (fieldOf Try.prog 110 1 = some (1, 31)) := ⟨ty_sz110, ty_st110, ty_cell110, ty_ck110, ty_inf110, ty_cols110, ty_eq110, ty_f110_0, ty_f110_1⟩
theorem ty_sz111 : szOf Try.prog 111 = 1 := by kernel_rfl
theorem ty_st111 : isSt Try.prog 111 = false := by kernel_rfl
theorem ty_cell111 : isCell Try.prog 111 = true := by kernel_rfl
theorem ty_ck111 : ckOf Try.prog 111 = [.sl 10] := by kernel_rfl
theorem ty_inf111 : inf Try.prog 111 = some (some (.slice none 0 0), 1, 24) := by kernel_rfl
theorem ty_cols111 : colsOf Try.prog 8 111 = [.sl 110 10 [.cell, .cell, .cell, .cell, .cell, .cell, .cell, .cell, .cell, .sl 5 1 [.cell]]] := by kernel_rfl
theorem tY111 : (szOf Try.prog 111 = 1) ∧ (isSt Try.prog 111 = false) ∧ (isCell Try.prog 111 = true) ∧ (ckOf Try.prog 111 = [.sl 10]) ∧ (inf Try.prog 111 = some (some (.slice none 0 0), 1, 24)) ∧ (colsOf Try.prog 8 111 = [.sl 110 10 [.cell, .cell, .cell, .cell, .cell, .cell, .cell, .cell, .cell, .sl 5 1 [.cell]]]) := ⟨ty_sz111, ty_st111, ty_cell111, ty_ck111, ty_inf111, ty_cols111⟩
theorem ty_sz114 : szOf Try.prog 114 = 1 := by kernel_rfl
theorem ty_st114 : isSt Try.prog 114 = false := by kernel_rfl
theorem ty_cell114 : isCell Try.prog 114 = true := by kernel_rfl
theorem ty_ck114 : ckOf Try.prog 114 = [.sl 1] := by kernel_rfl
theorem ty_inf114 : inf Try.prog 114 = some (some (.slice none 0 0), 1, 24) := by kernel_rfl
theorem ty_cols114 : colsOf Try.prog 8 114 = [.sl 3 1 [.cell]] := by kernel_rfl
theorem tY114 : (szOf Try.prog 114 = 1) ∧ (isSt Try.prog 114 = false) ∧ (isCell Try.prog 114 = true) ∧ (ckOf Try.prog 114 = [.sl 1]) ∧ (inf Try.prog 114 = some (some (.slice none 0 0), 1, 24)) ∧ (colsOf Try.prog 8 114 = [.sl 3 1 [.cell]]) := ⟨ty_sz114, ty_st114, ty_cell114, ty_ck114, ty_inf114, ty_cols114⟩
theorem ty_sz124 : szOf Try.prog 124 = 2 := by kernel_rfl
theorem ty_st124 : isSt Try.prog 124 = true := by kernel_rfl
theorem ty_cell124 : isCell Try.prog 124 = false := by kernel_rfl
theorem ty_ck124 : ckOf Try.prog 124 = [.sl 1, .int .i64] := by kernel_rfl
theorem ty_inf124 : inf Try.prog 124 = some (some (.agg #[.slice none 0 0, .int .i64 0]), 2, 32) := by kernel_rfl
theorem ty_cols124 : colsOf Try.prog 8 124 = [.sl 5 1 [.cell], .cell] := by kernel_rfl
theorem ty_eq124 : eqFlat Try.prog 124 = none := by kernel_rfl
theorem ty_f124_0 : fieldOf Try.prog 124 0 = some (0, 22) := by kernel_rfl
theorem ty_f124_1 : fieldOf Try.prog 124 1 = some (1, 3) := by kernel_rfl
theorem tY124 : (szOf Try.prog 124 = 2) ∧ (isSt Try.prog 124 = true) ∧ (isCell Try.prog 124 = false) ∧ (ckOf Try.prog 124 = [.sl 1, .int .i64]) ∧ (inf Try.prog 124 = some (some (.agg #[.slice none 0 0, .int .i64 0]), 2, 32)) ∧ (colsOf Try.prog 8 124 = [.sl 5 1 [.cell], .cell]) ∧ (eqFlat Try.prog 124 = none) ∧ (fieldOf Try.prog 124 0 = some (0, 22)) ∧ (fieldOf Try.prog 124 1 = some (1, 3)) := ⟨ty_sz124, ty_st124, ty_cell124, ty_ck124, ty_inf124, ty_cols124, ty_eq124, ty_f124_0, ty_f124_1⟩
theorem ty_sz125 : szOf Try.prog 125 = 2 := by kernel_rfl
theorem ty_st125 : isSt Try.prog 125 = true := by kernel_rfl
theorem ty_cell125 : isCell Try.prog 125 = false := by kernel_rfl
theorem ty_ck125 : ckOf Try.prog 125 = [.sl 1, .int .i64] := by kernel_rfl
theorem ty_inf125 : inf Try.prog 125 = some (some (.agg #[.slice none 0 0, .int .i64 0]), 2, 32) := by kernel_rfl
theorem ty_cols125 : colsOf Try.prog 8 125 = [.sl 5 1 [.cell], .cell] := by kernel_rfl
theorem ty_eq125 : eqFlat Try.prog 125 = none := by kernel_rfl
theorem ty_f125_0 : fieldOf Try.prog 125 0 = some (0, 22) := by kernel_rfl
theorem ty_f125_1 : fieldOf Try.prog 125 1 = some (1, 3) := by kernel_rfl
theorem tY125 : (szOf Try.prog 125 = 2) ∧ (isSt Try.prog 125 = true) ∧ (isCell Try.prog 125 = false) ∧ (ckOf Try.prog 125 = [.sl 1, .int .i64]) ∧ (inf Try.prog 125 = some (some (.agg #[.slice none 0 0, .int .i64 0]), 2, 32)) ∧ (colsOf Try.prog 8 125 = [.sl 5 1 [.cell], .cell]) ∧ (eqFlat Try.prog 125 = none) ∧ (fieldOf Try.prog 125 0 = some (0, 22)) ∧ (fieldOf Try.prog 125 1 = some (1, 3)) := ⟨ty_sz125, ty_st125, ty_cell125, ty_ck125, ty_inf125, ty_cols125, ty_eq125, ty_f125_0, ty_f125_1⟩
theorem ty_sz137 : szOf Try.prog 137 = 4 := by kernel_rfl
theorem ty_st137 : isSt Try.prog 137 = true := by kernel_rfl
theorem ty_cell137 : isCell Try.prog 137 = false := by kernel_rfl
theorem ty_ck137 : ckOf Try.prog 137 = [.int .i64, .int .i64, .int .i64, .int .i64] := by kernel_rfl
theorem ty_inf137 : inf Try.prog 137 = some (some (.agg #[.int .i64 0, .int .i64 0, .int .i64 0, .int .i64 0]), 4, 32) := by kernel_rfl
theorem ty_cols137 : colsOf Try.prog 8 137 = [.cell, .cell, .cell, .cell] := by kernel_rfl
theorem ty_eq137 : eqFlat Try.prog 137 = some [true, true, true, true] := by kernel_rfl
theorem ty_f137_0 : fieldOf Try.prog 137 0 = some (0, 3) := by kernel_rfl
theorem ty_f137_1 : fieldOf Try.prog 137 1 = some (1, 3) := by kernel_rfl
theorem ty_f137_2 : fieldOf Try.prog 137 2 = some (2, 3) := by kernel_rfl
theorem ty_f137_3 : fieldOf Try.prog 137 3 = some (3, 3) := by kernel_rfl
theorem tY137 : (szOf Try.prog 137 = 4) ∧ (isSt Try.prog 137 = true) ∧ (isCell Try.prog 137 = false) ∧ (ckOf Try.prog 137 = [.int .i64, .int .i64, .int .i64, .int .i64]) ∧ (inf Try.prog 137 = some (some (.agg #[.int .i64 0, .int .i64 0, .int .i64 0, .int .i64 0]), 4, 32)) ∧ (colsOf Try.prog 8 137 = [.cell, .cell, .cell, .cell]) ∧ (eqFlat Try.prog 137 = some [true, true, true, true]) ∧ (fieldOf Try.prog 137 0 = some (0, 3)) ∧ (fieldOf Try.prog 137 1 = some (1, 3)) ∧ (fieldOf Try.prog 137 2 = some (2, 3)) ∧ (fieldOf Try.prog 137 3 = some (3, 3)) := ⟨ty_sz137, ty_st137, ty_cell137, ty_ck137, ty_inf137, ty_cols137, ty_eq137, ty_f137_0, ty_f137_1, ty_f137_2, ty_f137_3⟩
theorem ty_sz154 : szOf Try.prog 154 = 1 := by kernel_rfl
theorem ty_st154 : isSt Try.prog 154 = false := by kernel_rfl
theorem ty_cell154 : isCell Try.prog 154 = true := by kernel_rfl
theorem ty_ck154 : ckOf Try.prog 154 = [.int .u32] := by kernel_rfl
theorem ty_inf154 : inf Try.prog 154 = some (some (.int .u32 0), 1, 4) := by kernel_rfl
theorem ty_cols154 : colsOf Try.prog 8 154 = [.cell] := by kernel_rfl
theorem tY154 : (szOf Try.prog 154 = 1) ∧ (isSt Try.prog 154 = false) ∧ (isCell Try.prog 154 = true) ∧ (ckOf Try.prog 154 = [.int .u32]) ∧ (inf Try.prog 154 = some (some (.int .u32 0), 1, 4)) ∧ (colsOf Try.prog 8 154 = [.cell]) := ⟨ty_sz154, ty_st154, ty_cell154, ty_ck154, ty_inf154, ty_cols154⟩
theorem ty_sz163 : szOf Try.prog 163 = 1 := by kernel_rfl
theorem ty_st163 : isSt Try.prog 163 = false := by kernel_rfl
theorem ty_cell163 : isCell Try.prog 163 = true := by kernel_rfl
theorem ty_ck163 : ckOf Try.prog 163 = [.other] := by kernel_rfl
theorem ty_inf163 : inf Try.prog 163 = some (some (.pointer none), 1, 8) := by kernel_rfl
theorem ty_cols163 : colsOf Try.prog 8 163 = [.cell] := by kernel_rfl
theorem tY163 : (szOf Try.prog 163 = 1) ∧ (isSt Try.prog 163 = false) ∧ (isCell Try.prog 163 = true) ∧ (ckOf Try.prog 163 = [.other]) ∧ (inf Try.prog 163 = some (some (.pointer none), 1, 8)) ∧ (colsOf Try.prog 8 163 = [.cell]) := ⟨ty_sz163, ty_st163, ty_cell163, ty_ck163, ty_inf163, ty_cols163⟩
end Go.Proofs.Ythbcoakimbpkgaa
