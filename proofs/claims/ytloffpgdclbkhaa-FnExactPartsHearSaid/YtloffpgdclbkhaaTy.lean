/-
  What the evaluation asks of the types of this seat: closed facts on the program's table. By a tool.
-/
import Derived.Test.YtloffpgdclbkhaaR1
namespace Go.Proofs.Ytloffpgdclbkhaa
theorem ty_sz2 : szOf Try.prog 2 = 1 := by kernel_rfl
theorem ty_st2 : isSt Try.prog 2 = false := by kernel_rfl
theorem ty_cell2 : isCell Try.prog 2 = true := by kernel_rfl
theorem ty_ck2 : ckOf Try.prog 2 = [.int .i64] := by kernel_rfl
theorem ty_inf2 : inf Try.prog 2 = some (some (.int .i64 0), 1, 8) := by kernel_rfl
theorem ty_cols2 : colsOf Try.prog 8 2 = [.cell] := by kernel_rfl
theorem tY2 : (szOf Try.prog 2 = 1) ∧ (isSt Try.prog 2 = false) ∧ (isCell Try.prog 2 = true) ∧ (ckOf Try.prog 2 = [.int .i64]) ∧ (inf Try.prog 2 = some (some (.int .i64 0), 1, 8)) ∧ (colsOf Try.prog 8 2 = [.cell]) := ⟨ty_sz2, ty_st2, ty_cell2, ty_ck2, ty_inf2, ty_cols2⟩
theorem ty_sz3 : szOf Try.prog 3 = 1 := by kernel_rfl
theorem ty_st3 : isSt Try.prog 3 = false := by kernel_rfl
theorem ty_cell3 : isCell Try.prog 3 = true := by kernel_rfl
theorem ty_ck3 : ckOf Try.prog 3 = [.int .i64] := by kernel_rfl
theorem ty_inf3 : inf Try.prog 3 = some (some (.int .i64 0), 1, 8) := by kernel_rfl
theorem ty_cols3 : colsOf Try.prog 8 3 = [.cell] := by kernel_rfl
theorem tY3 : (szOf Try.prog 3 = 1) ∧ (isSt Try.prog 3 = false) ∧ (isCell Try.prog 3 = true) ∧ (ckOf Try.prog 3 = [.int .i64]) ∧ (inf Try.prog 3 = some (some (.int .i64 0), 1, 8)) ∧ (colsOf Try.prog 8 3 = [.cell]) := ⟨ty_sz3, ty_st3, ty_cell3, ty_ck3, ty_inf3, ty_cols3⟩
theorem ty_sz4 : szOf Try.prog 4 = 1 := by kernel_rfl
theorem ty_st4 : isSt Try.prog 4 = false := by kernel_rfl
theorem ty_cell4 : isCell Try.prog 4 = true := by kernel_rfl
theorem ty_ck4 : ckOf Try.prog 4 = [.bool] := by kernel_rfl
theorem ty_inf4 : inf Try.prog 4 = some (some (.bool false), 1, 1) := by kernel_rfl
theorem ty_cols4 : colsOf Try.prog 8 4 = [.cell] := by kernel_rfl
theorem tY4 : (szOf Try.prog 4 = 1) ∧ (isSt Try.prog 4 = false) ∧ (isCell Try.prog 4 = true) ∧ (ckOf Try.prog 4 = [.bool]) ∧ (inf Try.prog 4 = some (some (.bool false), 1, 1)) ∧ (colsOf Try.prog 8 4 = [.cell]) := ⟨ty_sz4, ty_st4, ty_cell4, ty_ck4, ty_inf4, ty_cols4⟩
theorem ty_sz5 : szOf Try.prog 5 = 1 := by kernel_rfl
theorem ty_st5 : isSt Try.prog 5 = false := by kernel_rfl
theorem ty_cell5 : isCell Try.prog 5 = true := by kernel_rfl
theorem ty_ck5 : ckOf Try.prog 5 = [.int .u8] := by kernel_rfl
theorem ty_inf5 : inf Try.prog 5 = some (some (.int .u8 0), 1, 1) := by kernel_rfl
theorem ty_cols5 : colsOf Try.prog 8 5 = [.cell] := by kernel_rfl
theorem tY5 : (szOf Try.prog 5 = 1) ∧ (isSt Try.prog 5 = false) ∧ (isCell Try.prog 5 = true) ∧ (ckOf Try.prog 5 = [.int .u8]) ∧ (inf Try.prog 5 = some (some (.int .u8 0), 1, 1)) ∧ (colsOf Try.prog 8 5 = [.cell]) := ⟨ty_sz5, ty_st5, ty_cell5, ty_ck5, ty_inf5, ty_cols5⟩
theorem ty_sz9 : szOf Try.prog 9 = 1 := by kernel_rfl
theorem ty_st9 : isSt Try.prog 9 = false := by kernel_rfl
theorem ty_cell9 : isCell Try.prog 9 = true := by kernel_rfl
theorem ty_ck9 : ckOf Try.prog 9 = [.str] := by kernel_rfl
theorem ty_inf9 : inf Try.prog 9 = some (some (.string .empty), 1, 16) := by kernel_rfl
theorem ty_cols9 : colsOf Try.prog 8 9 = [.cell] := by kernel_rfl
theorem tY9 : (szOf Try.prog 9 = 1) ∧ (isSt Try.prog 9 = false) ∧ (isCell Try.prog 9 = true) ∧ (ckOf Try.prog 9 = [.str]) ∧ (inf Try.prog 9 = some (some (.string .empty), 1, 16)) ∧ (colsOf Try.prog 8 9 = [.cell]) := ⟨ty_sz9, ty_st9, ty_cell9, ty_ck9, ty_inf9, ty_cols9⟩
theorem ty_sz12 : szOf Try.prog 12 = 1 := by kernel_rfl
theorem ty_st12 : isSt Try.prog 12 = false := by kernel_rfl
theorem ty_cell12 : isCell Try.prog 12 = true := by kernel_rfl
theorem ty_ck12 : ckOf Try.prog 12 = [.int .u64] := by kernel_rfl
theorem ty_inf12 : inf Try.prog 12 = some (some (.int .u64 0), 1, 8) := by kernel_rfl
theorem ty_cols12 : colsOf Try.prog 8 12 = [.cell] := by kernel_rfl
theorem tY12 : (szOf Try.prog 12 = 1) ∧ (isSt Try.prog 12 = false) ∧ (isCell Try.prog 12 = true) ∧ (ckOf Try.prog 12 = [.int .u64]) ∧ (inf Try.prog 12 = some (some (.int .u64 0), 1, 8)) ∧ (colsOf Try.prog 8 12 = [.cell]) := ⟨ty_sz12, ty_st12, ty_cell12, ty_ck12, ty_inf12, ty_cols12⟩
theorem ty_sz21 : szOf Try.prog 21 = 1 := by kernel_rfl
theorem ty_st21 : isSt Try.prog 21 = false := by kernel_rfl
theorem ty_cell21 : isCell Try.prog 21 = true := by kernel_rfl
theorem ty_ck21 : ckOf Try.prog 21 = [.int .i32] := by kernel_rfl
theorem ty_inf21 : inf Try.prog 21 = some (some (.int .i32 0), 1, 4) := by kernel_rfl
theorem ty_cols21 : colsOf Try.prog 8 21 = [.cell] := by kernel_rfl
theorem tY21 : (szOf Try.prog 21 = 1) ∧ (isSt Try.prog 21 = false) ∧ (isCell Try.prog 21 = true) ∧ (ckOf Try.prog 21 = [.int .i32]) ∧ (inf Try.prog 21 = some (some (.int .i32 0), 1, 4)) ∧ (colsOf Try.prog 8 21 = [.cell]) := ⟨ty_sz21, ty_st21, ty_cell21, ty_ck21, ty_inf21, ty_cols21⟩
theorem ty_sz22 : szOf Try.prog 22 = 1 := by kernel_rfl
theorem ty_st22 : isSt Try.prog 22 = false := by kernel_rfl
theorem ty_cell22 : isCell Try.prog 22 = true := by kernel_rfl
theorem ty_ck22 : ckOf Try.prog 22 = [.sl 1] := by kernel_rfl
theorem ty_inf22 : inf Try.prog 22 = some (some (.slice none 0 0), 1, 24) := by kernel_rfl
theorem ty_cols22 : colsOf Try.prog 8 22 = [.sl 5 1 [.cell]] := by kernel_rfl
theorem tY22 : (szOf Try.prog 22 = 1) ∧ (isSt Try.prog 22 = false) ∧ (isCell Try.prog 22 = true) ∧ (ckOf Try.prog 22 = [.sl 1]) ∧ (inf Try.prog 22 = some (some (.slice none 0 0), 1, 24)) ∧ (colsOf Try.prog 8 22 = [.sl 5 1 [.cell]]) := ⟨ty_sz22, ty_st22, ty_cell22, ty_ck22, ty_inf22, ty_cols22⟩
theorem ty_sz23 : szOf Try.prog 23 = 9 := by kernel_rfl
theorem ty_st23 : isSt Try.prog 23 = true := by kernel_rfl
theorem ty_cell23 : isCell Try.prog 23 = false := by kernel_rfl
theorem ty_ck23 : ckOf Try.prog 23 = [.int .i64, .int .i64, .int .i64, .int .i64, .int .i64, .int .i64, .bool, .bool, .sl 1] := by kernel_rfl
theorem ty_inf23 : inf Try.prog 23 = some (some (.agg #[.int .i64 0, .int .i64 0, .int .i64 0, .int .i64 0, .int .i64 0, .int .i64 0, .bool false, .bool false, .slice none 0 0]), 9, 80) := by kernel_rfl
theorem ty_cols23 : colsOf Try.prog 8 23 = [.cell, .cell, .cell, .cell, .cell, .cell, .cell, .cell, .sl 5 1 [.cell]] := by kernel_rfl
theorem ty_eq23 : eqFlat Try.prog 23 = none := by kernel_rfl
theorem ty_f23_0 : fieldOf Try.prog 23 0 = some (0, 3) := by kernel_rfl
theorem ty_f23_1 : fieldOf Try.prog 23 1 = some (1, 3) := by kernel_rfl
theorem ty_f23_2 : fieldOf Try.prog 23 2 = some (2, 3) := by kernel_rfl
theorem ty_f23_3 : fieldOf Try.prog 23 3 = some (3, 3) := by kernel_rfl
theorem ty_f23_4 : fieldOf Try.prog 23 4 = some (4, 3) := by kernel_rfl
theorem ty_f23_5 : fieldOf Try.prog 23 5 = some (5, 3) := by kernel_rfl
theorem ty_f23_6 : fieldOf Try.prog 23 6 = some (6, 4) := by kernel_rfl
theorem ty_f23_7 : fieldOf Try.prog 23 7 = some (7, 4) := by kernel_rfl
theorem ty_f23_8 : fieldOf Try.prog 23 8 = some (8, 22) := by kernel_rfl
theorem tY23 : (szOf Try.prog 23 = 9) ∧ (isSt Try.prog 23 = true) ∧ (isCell Try.prog 23 = false) ∧ (ckOf Try.prog 23 = [.int .i64, .int .i64, .int .i64, .int .i64, .int .i64, .int .i64, .bool, .bool, .sl 1]) ∧ (inf Try.prog 23 = some (some (.agg #[.int .i64 0, .int .i64 0, .int .i64 0, .int .i64 0, .int .i64 0, .int .i64 0, .bool false, .bool false, .slice none 0 0]), 9, 80)) ∧ (colsOf Try.prog 8 23 = [.cell, .cell, .cell, .cell, .cell, .cell, .cell, .cell, .sl 5 1 [.cell]]) ∧ (eqFlat Try.prog 23 = none) ∧ (fieldOf Try.prog 23 0 = some (0, 3)) ∧ (fieldOf Try.prog 23 1 = some (1, 3)) ∧ (fieldOf Try.prog 23 2 = some (2, 3)) ∧ (fieldOf Try.prog 23 3 = some (3, 3)) ∧ (fieldOf Try.prog 23 4 = some (4, 3)) ∧ (fieldOf Try.prog 23 5 = some (5, 3)) ∧ (fieldOf Try.prog 23 6 = some (6, 4)) ∧ (fieldOf Try.prog 23 7 = some (7, 4)) ∧ (fieldOf Try.prog 23 8 = some (8, 22)) := ⟨ty_sz23, ty_st23, ty_cell23, ty_ck23, ty_inf23, ty_cols23, ty_eq23, ty_f23_0, ty_f23_1, ty_f23_2, ty_f23_3, ty_f23_4, ty_f23_5, ty_f23_6, ty_f23_7, ty_f23_8⟩
theorem ty_sz24 : szOf Try.prog 24 = 9 := by kernel_rfl
theorem ty_st24 : isSt Try.prog 24 = true := by kernel_rfl
theorem ty_cell24 : isCell Try.prog 24 = false := by kernel_rfl
theorem ty_ck24 : ckOf Try.prog 24 = [.int .i64, .int .i64, .int .i64, .int .i64, .int .i64, .int .i64, .bool, .bool, .sl 1] := by kernel_rfl
theorem ty_inf24 : inf Try.prog 24 = some (some (.agg #[.int .i64 0, .int .i64 0, .int .i64 0, .int .i64 0, .int .i64 0, .int .i64 0, .bool false, .bool false, .slice none 0 0]), 9, 80) := by kernel_rfl
theorem ty_cols24 : colsOf Try.prog 8 24 = [.cell, .cell, .cell, .cell, .cell, .cell, .cell, .cell, .sl 5 1 [.cell]] := by kernel_rfl
theorem ty_eq24 : eqFlat Try.prog 24 = none := by kernel_rfl
theorem ty_f24_0 : fieldOf Try.prog 24 0 = some (0, 3) := by kernel_rfl
theorem ty_f24_1 : fieldOf Try.prog 24 1 = some (1, 3) := by kernel_rfl
theorem ty_f24_2 : fieldOf Try.prog 24 2 = some (2, 3) := by kernel_rfl
theorem ty_f24_3 : fieldOf Try.prog 24 3 = some (3, 3) := by kernel_rfl
theorem ty_f24_4 : fieldOf Try.prog 24 4 = some (4, 3) := by kernel_rfl
theorem ty_f24_5 : fieldOf Try.prog 24 5 = some (5, 3) := by kernel_rfl
theorem ty_f24_6 : fieldOf Try.prog 24 6 = some (6, 4) := by kernel_rfl
theorem ty_f24_7 : fieldOf Try.prog 24 7 = some (7, 4) := by kernel_rfl
theorem ty_f24_8 : fieldOf Try.prog 24 8 = some (8, 22) := by kernel_rfl
theorem tY24 : (szOf Try.prog 24 = 9) ∧ (isSt Try.prog 24 = true) ∧ (isCell Try.prog 24 = false) ∧ (ckOf Try.prog 24 = [.int .i64, .int .i64, .int .i64, .int .i64, .int .i64, .int .i64, .bool, .bool, .sl 1]) ∧ (inf Try.prog 24 = some (some (.agg #[.int .i64 0, .int .i64 0, .int .i64 0, .int .i64 0, .int .i64 0, .int .i64 0, .bool false, .bool false, .slice none 0 0]), 9, 80)) ∧ (colsOf Try.prog 8 24 = [.cell, .cell, .cell, .cell, .cell, .cell, .cell, .cell, .sl 5 1 [.cell]]) ∧ (eqFlat Try.prog 24 = none) ∧ (fieldOf Try.prog 24 0 = some (0, 3)) ∧ (fieldOf Try.prog 24 1 = some (1, 3)) ∧ (fieldOf Try.prog 24 2 = some (2, 3)) ∧ (fieldOf Try.prog 24 3 = some (3, 3)) ∧ (fieldOf Try.prog 24 4 = some (4, 3)) ∧ (fieldOf Try.prog 24 5 = some (5, 3)) ∧ (fieldOf Try.prog 24 6 = some (6, 4)) ∧ (fieldOf Try.prog 24 7 = some (7, 4)) ∧ (fieldOf Try.prog 24 8 = some (8, 22)) := ⟨ty_sz24, ty_st24, ty_cell24, ty_ck24, ty_inf24, ty_cols24, ty_eq24, ty_f24_0, ty_f24_1, ty_f24_2, ty_f24_3, ty_f24_4, ty_f24_5, ty_f24_6, ty_f24_7, ty_f24_8⟩
theorem ty_sz26 : szOf Try.prog 26 = 1 := by kernel_rfl
theorem ty_st26 : isSt Try.prog 26 = false := by kernel_rfl
theorem ty_cell26 : isCell Try.prog 26 = true := by kernel_rfl
theorem ty_ck26 : ckOf Try.prog 26 = [.sl 9] := by kernel_rfl
theorem ty_inf26 : inf Try.prog 26 = some (some (.slice none 0 0), 1, 24) := by kernel_rfl
theorem ty_cols26 : colsOf Try.prog 8 26 = [.sl 29 9 [.cell, .cell, .cell, .cell, .cell, .cell, .cell, .cell, .sl 5 1 [.cell]]] := by kernel_rfl
theorem tY26 : (szOf Try.prog 26 = 1) ∧ (isSt Try.prog 26 = false) ∧ (isCell Try.prog 26 = true) ∧ (ckOf Try.prog 26 = [.sl 9]) ∧ (inf Try.prog 26 = some (some (.slice none 0 0), 1, 24)) ∧ (colsOf Try.prog 8 26 = [.sl 29 9 [.cell, .cell, .cell, .cell, .cell, .cell, .cell, .cell, .sl 5 1 [.cell]]]) := ⟨ty_sz26, ty_st26, ty_cell26, ty_ck26, ty_inf26, ty_cols26⟩
theorem ty_sz29 : szOf Try.prog 29 = 9 := by kernel_rfl
theorem ty_st29 : isSt Try.prog 29 = true := by kernel_rfl
theorem ty_cell29 : isCell Try.prog 29 = false := by kernel_rfl
theorem ty_ck29 : ckOf Try.prog 29 = [.int .i64, .int .i64, .int .i64, .int .i64, .int .i64, .int .i64, .bool, .bool, .sl 1] := by kernel_rfl
theorem ty_inf29 : inf Try.prog 29 = some (some (.agg #[.int .i64 0, .int .i64 0, .int .i64 0, .int .i64 0, .int .i64 0, .int .i64 0, .bool false, .bool false, .slice none 0 0]), 9, 80) := by kernel_rfl
theorem ty_cols29 : colsOf Try.prog 8 29 = [.cell, .cell, .cell, .cell, .cell, .cell, .cell, .cell, .sl 5 1 [.cell]] := by kernel_rfl
theorem ty_eq29 : eqFlat Try.prog 29 = none := by kernel_rfl
theorem ty_f29_0 : fieldOf Try.prog 29 0 = some (0, 3) := by kernel_rfl
theorem ty_f29_1 : fieldOf Try.prog 29 1 = some (1, 3) := by kernel_rfl
theorem ty_f29_2 : fieldOf Try.prog 29 2 = some (2, 3) := by kernel_rfl
theorem ty_f29_3 : fieldOf Try.prog 29 3 = some (3, 3) := by kernel_rfl
theorem ty_f29_4 : fieldOf Try.prog 29 4 = some (4, 3) := by kernel_rfl
theorem ty_f29_5 : fieldOf Try.prog 29 5 = some (5, 3) := by kernel_rfl
theorem ty_f29_6 : fieldOf Try.prog 29 6 = some (6, 4) := by kernel_rfl
theorem ty_f29_7 : fieldOf Try.prog 29 7 = some (7, 4) := by kernel_rfl
theorem ty_f29_8 : fieldOf Try.prog 29 8 = some (8, 22) := by kernel_rfl
theorem tY29 : (szOf Try.prog 29 = 9) ∧ (isSt Try.prog 29 = true) ∧ (isCell Try.prog 29 = false) ∧ (ckOf Try.prog 29 = [.int .i64, .int .i64, .int .i64, .int .i64, .int .i64, .int .i64, .bool, .bool, .sl 1]) ∧ (inf Try.prog 29 = some (some (.agg #[.int .i64 0, .int .i64 0, .int .i64 0, .int .i64 0, .int .i64 0, .int .i64 0, .bool false, .bool false, .slice none 0 0]), 9, 80)) ∧ (colsOf Try.prog 8 29 = [.cell, .cell, .cell, .cell, .cell, .cell, .cell, .cell, .sl 5 1 [.cell]]) ∧ (eqFlat Try.prog 29 = none) ∧ (fieldOf Try.prog 29 0 = some (0, 3)) ∧ (fieldOf Try.prog 29 1 = some (1, 3)) ∧ (fieldOf Try.prog 29 2 = some (2, 3)) ∧ (fieldOf Try.prog 29 3 = some (3, 3)) ∧ (fieldOf Try.prog 29 4 = some (4, 3)) ∧ (fieldOf Try.prog 29 5 = some (5, 3)) ∧ (fieldOf Try.prog 29 6 = some (6, 4)) ∧ (fieldOf Try.prog 29 7 = some (7, 4)) ∧ (fieldOf Try.prog 29 8 = some (8, 22)) := ⟨ty_sz29, ty_st29, ty_cell29, ty_ck29, ty_inf29, ty_cols29, ty_eq29, ty_f29_0, ty_f29_1, ty_f29_2, ty_f29_3, ty_f29_4, ty_f29_5, ty_f29_6, ty_f29_7, ty_f29_8⟩
theorem ty_sz36 : szOf Try.prog 36 = 1 := by kernel_rfl
theorem ty_st36 : isSt Try.prog 36 = false := by kernel_rfl
theorem ty_cell36 : isCell Try.prog 36 = true := by kernel_rfl
theorem ty_ck36 : ckOf Try.prog 36 = [.sl 9] := by kernel_rfl
theorem ty_inf36 : inf Try.prog 36 = some (some (.slice none 0 0), 1, 24) := by kernel_rfl
theorem ty_cols36 : colsOf Try.prog 8 36 = [.sl 24 9 [.cell, .cell, .cell, .cell, .cell, .cell, .cell, .cell, .sl 5 1 [.cell]]] := by kernel_rfl
theorem tY36 : (szOf Try.prog 36 = 1) ∧ (isSt Try.prog 36 = false) ∧ (isCell Try.prog 36 = true) ∧ (ckOf Try.prog 36 = [.sl 9]) ∧ (inf Try.prog 36 = some (some (.slice none 0 0), 1, 24)) ∧ (colsOf Try.prog 8 36 = [.sl 24 9 [.cell, .cell, .cell, .cell, .cell, .cell, .cell, .cell, .sl 5 1 [.cell]]]) := ⟨ty_sz36, ty_st36, ty_cell36, ty_ck36, ty_inf36, ty_cols36⟩
theorem ty_sz37 : szOf Try.prog 37 = 2 := by kernel_rfl
theorem ty_st37 : isSt Try.prog 37 = true := by kernel_rfl
theorem ty_cell37 : isCell Try.prog 37 = false := by kernel_rfl
theorem ty_ck37 : ckOf Try.prog 37 = [.sl 9, .int .i64] := by kernel_rfl
theorem ty_inf37 : inf Try.prog 37 = some (some (.agg #[.slice none 0 0, .int .i64 0]), 2, 32) := by kernel_rfl
theorem ty_cols37 : colsOf Try.prog 8 37 = [.sl 24 9 [.cell, .cell, .cell, .cell, .cell, .cell, .cell, .cell, .sl 5 1 [.cell]], .cell] := by kernel_rfl
theorem ty_eq37 : eqFlat Try.prog 37 = none := by kernel_rfl
theorem ty_f37_0 : fieldOf Try.prog 37 0 = some (0, 36) := by kernel_rfl
theorem ty_f37_1 : fieldOf Try.prog 37 1 = some (1, 3) := by kernel_rfl
theorem tY37 : (szOf Try.prog 37 = 2) ∧ (isSt Try.prog 37 = true) ∧ (isCell Try.prog 37 = false) ∧ (ckOf Try.prog 37 = [.sl 9, .int .i64]) ∧ (inf Try.prog 37 = some (some (.agg #[.slice none 0 0, .int .i64 0]), 2, 32)) ∧ (colsOf Try.prog 8 37 = [.sl 24 9 [.cell, .cell, .cell, .cell, .cell, .cell, .cell, .cell, .sl 5 1 [.cell]], .cell]) ∧ (eqFlat Try.prog 37 = none) ∧ (fieldOf Try.prog 37 0 = some (0, 36)) ∧ (fieldOf Try.prog 37 1 = some (1, 3)) := ⟨ty_sz37, ty_st37, ty_cell37, ty_ck37, ty_inf37, ty_cols37, ty_eq37, ty_f37_0, ty_f37_1⟩
theorem ty_sz38 : szOf Try.prog 38 = 2 := by kernel_rfl
theorem ty_st38 : isSt Try.prog 38 = true := by kernel_rfl
theorem ty_cell38 : isCell Try.prog 38 = false := by kernel_rfl
theorem ty_ck38 : ckOf Try.prog 38 = [.sl 9, .int .i64] := by kernel_rfl
theorem ty_inf38 : inf Try.prog 38 = some (some (.agg #[.slice none 0 0, .int .i64 0]), 2, 32) := by kernel_rfl
theorem ty_cols38 : colsOf Try.prog 8 38 = [.sl 24 9 [.cell, .cell, .cell, .cell, .cell, .cell, .cell, .cell, .sl 5 1 [.cell]], .cell] := by kernel_rfl
theorem ty_eq38 : eqFlat Try.prog 38 = none := by kernel_rfl
theorem ty_f38_0 : fieldOf Try.prog 38 0 = some (0, 36) := by kernel_rfl
theorem ty_f38_1 : fieldOf Try.prog 38 1 = some (1, 3) := by kernel_rfl
theorem tY38 : (szOf Try.prog 38 = 2) ∧ (isSt Try.prog 38 = true) ∧ (isCell Try.prog 38 = false) ∧ (ckOf Try.prog 38 = [.sl 9, .int .i64]) ∧ (inf Try.prog 38 = some (some (.agg #[.slice none 0 0, .int .i64 0]), 2, 32)) ∧ (colsOf Try.prog 8 38 = [.sl 24 9 [.cell, .cell, .cell, .cell, .cell, .cell, .cell, .cell, .sl 5 1 [.cell]], .cell]) ∧ (eqFlat Try.prog 38 = none) ∧ (fieldOf Try.prog 38 0 = some (0, 36)) ∧ (fieldOf Try.prog 38 1 = some (1, 3)) := ⟨ty_sz38, ty_st38, ty_cell38, ty_ck38, ty_inf38, ty_cols38, ty_eq38, ty_f38_0, ty_f38_1⟩
theorem ty_sz41 : szOf Try.prog 41 = 2 := by kernel_rfl
theorem ty_st41 : isSt Try.prog 41 = true := by kernel_rfl
theorem ty_cell41 : isCell Try.prog 41 = false := by kernel_rfl
theorem ty_ck41 : ckOf Try.prog 41 = [.sl 9, .int .i64] := by kernel_rfl
theorem ty_inf41 : inf Try.prog 41 = some (some (.agg #[.slice none 0 0, .int .i64 0]), 2, 32) := by kernel_rfl
theorem ty_cols41 : colsOf Try.prog 8 41 = [.sl 29 9 [.cell, .cell, .cell, .cell, .cell, .cell, .cell, .cell, .sl 5 1 [.cell]], .cell] := by kernel_rfl
theorem ty_eq41 : eqFlat Try.prog 41 = none := by kernel_rfl
theorem ty_f41_0 : fieldOf Try.prog 41 0 = some (0, 26) := by kernel_rfl
theorem ty_f41_1 : fieldOf Try.prog 41 1 = some (1, 3) := by kernel_rfl
theorem tY41 : (szOf Try.prog 41 = 2) ∧ (isSt Try.prog 41 = true) ∧ (isCell Try.prog 41 = false) ∧ (ckOf Try.prog 41 = [.sl 9, .int .i64]) ∧ (inf Try.prog 41 = some (some (.agg #[.slice none 0 0, .int .i64 0]), 2, 32)) ∧ (colsOf Try.prog 8 41 = [.sl 29 9 [.cell, .cell, .cell, .cell, .cell, .cell, .cell, .cell, .sl 5 1 [.cell]], .cell]) ∧ (eqFlat Try.prog 41 = none) ∧ (fieldOf Try.prog 41 0 = some (0, 26)) ∧ (fieldOf Try.prog 41 1 = some (1, 3)) := ⟨ty_sz41, ty_st41, ty_cell41, ty_ck41, ty_inf41, ty_cols41, ty_eq41, ty_f41_0, ty_f41_1⟩
theorem ty_sz42 : szOf Try.prog 42 = 2 := by kernel_rfl
theorem ty_st42 : isSt Try.prog 42 = true := by kernel_rfl
theorem ty_cell42 : isCell Try.prog 42 = false := by kernel_rfl
theorem ty_ck42 : ckOf Try.prog 42 = [.sl 9, .int .i64] := by kernel_rfl
theorem ty_inf42 : inf Try.prog 42 = some (some (.agg #[.slice none 0 0, .int .i64 0]), 2, 32) := by kernel_rfl
theorem ty_cols42 : colsOf Try.prog 8 42 = [.sl 29 9 [.cell, .cell, .cell, .cell, .cell, .cell, .cell, .cell, .sl 5 1 [.cell]], .cell] := by kernel_rfl
theorem ty_eq42 : eqFlat Try.prog 42 = none := by kernel_rfl
theorem ty_f42_0 : fieldOf Try.prog 42 0 = some (0, 26) := by kernel_rfl
theorem ty_f42_1 : fieldOf Try.prog 42 1 = some (1, 3) := by kernel_rfl
theorem tY42 : (szOf Try.prog 42 = 2) ∧ (isSt Try.prog 42 = true) ∧ (isCell Try.prog 42 = false) ∧ (ckOf Try.prog 42 = [.sl 9, .int .i64]) ∧ (inf Try.prog 42 = some (some (.agg #[.slice none 0 0, .int .i64 0]), 2, 32)) ∧ (colsOf Try.prog 8 42 = [.sl 29 9 [.cell, .cell, .cell, .cell, .cell, .cell, .cell, .cell, .sl 5 1 [.cell]], .cell]) ∧ (eqFlat Try.prog 42 = none) ∧ (fieldOf Try.prog 42 0 = some (0, 26)) ∧ (fieldOf Try.prog 42 1 = some (1, 3)) := ⟨ty_sz42, ty_st42, ty_cell42, ty_ck42, ty_inf42, ty_cols42, ty_eq42, ty_f42_0, ty_f42_1⟩
theorem ty_sz52 : szOf Try.prog 52 = 1 := by kernel_rfl
theorem ty_st52 : isSt Try.prog 52 = false := by kernel_rfl
theorem ty_cell52 : isCell Try.prog 52 = true := by kernel_rfl
theorem ty_ck52 : ckOf Try.prog 52 = [.sl 2] := by kernel_rfl
theorem ty_inf52 : inf Try.prog 52 = some (some (.slice none 0 0), 1, 24) := by kernel_rfl
theorem ty_cols52 : colsOf Try.prog 8 52 = [.sl 38 2 [.sl 24 9 [.cell, .cell, .cell, .cell, .cell, .cell, .cell, .cell, .sl 5 1 [.cell]], .cell]] := by kernel_rfl
theorem tY52 : (szOf Try.prog 52 = 1) ∧ (isSt Try.prog 52 = false) ∧ (isCell Try.prog 52 = true) ∧ (ckOf Try.prog 52 = [.sl 2]) ∧ (inf Try.prog 52 = some (some (.slice none 0 0), 1, 24)) ∧ (colsOf Try.prog 8 52 = [.sl 38 2 [.sl 24 9 [.cell, .cell, .cell, .cell, .cell, .cell, .cell, .cell, .sl 5 1 [.cell]], .cell]]) := ⟨ty_sz52, ty_st52, ty_cell52, ty_ck52, ty_inf52, ty_cols52⟩
theorem ty_sz55 : szOf Try.prog 55 = 1 := by kernel_rfl
theorem ty_st55 : isSt Try.prog 55 = false := by kernel_rfl
theorem ty_cell55 : isCell Try.prog 55 = true := by kernel_rfl
theorem ty_ck55 : ckOf Try.prog 55 = [.sl 2] := by kernel_rfl
theorem ty_inf55 : inf Try.prog 55 = some (some (.slice none 0 0), 1, 24) := by kernel_rfl
theorem ty_cols55 : colsOf Try.prog 8 55 = [.sl 42 2 [.sl 29 9 [.cell, .cell, .cell, .cell, .cell, .cell, .cell, .cell, .sl 5 1 [.cell]], .cell]] := by kernel_rfl
theorem tY55 : (szOf Try.prog 55 = 1) ∧ (isSt Try.prog 55 = false) ∧ (isCell Try.prog 55 = true) ∧ (ckOf Try.prog 55 = [.sl 2]) ∧ (inf Try.prog 55 = some (some (.slice none 0 0), 1, 24)) ∧ (colsOf Try.prog 8 55 = [.sl 42 2 [.sl 29 9 [.cell, .cell, .cell, .cell, .cell, .cell, .cell, .cell, .sl 5 1 [.cell]], .cell]]) := ⟨ty_sz55, ty_st55, ty_cell55, ty_ck55, ty_inf55, ty_cols55⟩
theorem ty_sz93 : szOf Try.prog 93 = 1 := by kernel_rfl
theorem ty_st93 : isSt Try.prog 93 = false := by kernel_rfl
theorem ty_cell93 : isCell Try.prog 93 = true := by kernel_rfl
theorem ty_ck93 : ckOf Try.prog 93 = [.int .u32] := by kernel_rfl
theorem ty_inf93 : inf Try.prog 93 = some (some (.int .u32 0), 1, 4) := by kernel_rfl
theorem ty_cols93 : colsOf Try.prog 8 93 = [.cell] := by kernel_rfl
theorem tY93 : (szOf Try.prog 93 = 1) ∧ (isSt Try.prog 93 = false) ∧ (isCell Try.prog 93 = true) ∧ (ckOf Try.prog 93 = [.int .u32]) ∧ (inf Try.prog 93 = some (some (.int .u32 0), 1, 4)) ∧ (colsOf Try.prog 8 93 = [.cell]) := ⟨ty_sz93, ty_st93, ty_cell93, ty_ck93, ty_inf93, ty_cols93⟩
theorem ty_sz102 : szOf Try.prog 102 = 1 := by kernel_rfl
theorem ty_st102 : isSt Try.prog 102 = false := by kernel_rfl
theorem ty_cell102 : isCell Try.prog 102 = true := by kernel_rfl
theorem ty_ck102 : ckOf Try.prog 102 = [.other] := by kernel_rfl
theorem ty_inf102 : inf Try.prog 102 = some (some (.pointer none), 1, 8) := by kernel_rfl
theorem ty_cols102 : colsOf Try.prog 8 102 = [.cell] := by kernel_rfl
theorem tY102 : (szOf Try.prog 102 = 1) ∧ (isSt Try.prog 102 = false) ∧ (isCell Try.prog 102 = true) ∧ (ckOf Try.prog 102 = [.other]) ∧ (inf Try.prog 102 = some (some (.pointer none), 1, 8)) ∧ (colsOf Try.prog 8 102 = [.cell]) := ⟨ty_sz102, ty_st102, ty_cell102, ty_ck102, ty_inf102, ty_cols102⟩
end Go.Proofs.Ytloffpgdclbkhaa
