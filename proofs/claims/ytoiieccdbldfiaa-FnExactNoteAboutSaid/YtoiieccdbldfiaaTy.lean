/-
  What the evaluation asks of the types of this seat: closed facts on the program's table. By a tool.
-/
import Derived.Test.YtoiieccdbldfiaaR1
namespace Go.Proofs.Ytoiieccdbldfiaa
theorem ty_sz2 : szOf Try.prog 2 = 1 := by kernel_rfl
theorem ty_st2 : isSt Try.prog 2 = false := by kernel_rfl
theorem ty_cell2 : isCell Try.prog 2 = true := by kernel_rfl
theorem ty_ck2 : ckOf Try.prog 2 = [.int .i64] := by kernel_rfl
theorem ty_inf2 : inf Try.prog 2 = some (some (.int .i64 0), 1, 8) := by kernel_rfl
theorem ty_cols2 : colsOf Try.prog 8 2 = [.cell] := by kernel_rfl
theorem tY2 : (szOf Try.prog 2 = 1) ∧ (isSt Try.prog 2 = false) ∧ (isCell Try.prog 2 = true) ∧ (ckOf Try.prog 2 = [.int .i64]) ∧ (inf Try.prog 2 = some (some (.int .i64 0), 1, 8)) ∧ (colsOf Try.prog 8 2 = [.cell]) := ⟨ty_sz2, ty_st2, ty_cell2, ty_ck2, ty_inf2, ty_cols2⟩
theorem ty_sz3 : szOf Try.prog 3 = 1 := by kernel_rfl
theorem ty_st3 : isSt Try.prog 3 = false := by kernel_rfl
theorem ty_cell3 : isCell Try.prog 3 = true := by kernel_rfl
theorem ty_ck3 : ckOf Try.prog 3 = [.int .i64] := by kernel_rfl
theorem ty_inf3 : inf Try.prog 3 = some (some (.int .i64 0), 1, 8) := by kernel_rfl
theorem ty_cols3 : colsOf Try.prog 8 3 = [.cell] := by kernel_rfl
theorem tY3 : (szOf Try.prog 3 = 1) ∧ (isSt Try.prog 3 = false) ∧ (isCell Try.prog 3 = true) ∧ (ckOf Try.prog 3 = [.int .i64]) ∧ (inf Try.prog 3 = some (some (.int .i64 0), 1, 8)) ∧ (colsOf Try.prog 8 3 = [.cell]) := ⟨ty_sz3, ty_st3, ty_cell3, ty_ck3, ty_inf3, ty_cols3⟩
theorem ty_sz4 : szOf Try.prog 4 = 1 := by kernel_rfl
theorem ty_st4 : isSt Try.prog 4 = false := by kernel_rfl
theorem ty_cell4 : isCell Try.prog 4 = true := by kernel_rfl
theorem ty_ck4 : ckOf Try.prog 4 = [.bool] := by kernel_rfl
theorem ty_inf4 : inf Try.prog 4 = some (some (.bool false), 1, 1) := by kernel_rfl
theorem ty_cols4 : colsOf Try.prog 8 4 = [.cell] := by kernel_rfl
theorem tY4 : (szOf Try.prog 4 = 1) ∧ (isSt Try.prog 4 = false) ∧ (isCell Try.prog 4 = true) ∧ (ckOf Try.prog 4 = [.bool]) ∧ (inf Try.prog 4 = some (some (.bool false), 1, 1)) ∧ (colsOf Try.prog 8 4 = [.cell]) := ⟨ty_sz4, ty_st4, ty_cell4, ty_ck4, ty_inf4, ty_cols4⟩
theorem ty_sz5 : szOf Try.prog 5 = 1 := by kernel_rfl
theorem ty_st5 : isSt Try.prog 5 = false := by kernel_rfl
theorem ty_cell5 : isCell Try.prog 5 = true := by kernel_rfl
theorem ty_ck5 : ckOf Try.prog 5 = [.int .u8] := by kernel_rfl
theorem ty_inf5 : inf Try.prog 5 = some (some (.int .u8 0), 1, 1) := by kernel_rfl
theorem ty_cols5 : colsOf Try.prog 8 5 = [.cell] := by kernel_rfl
theorem tY5 : (szOf Try.prog 5 = 1) ∧ (isSt Try.prog 5 = false) ∧ (isCell Try.prog 5 = true) ∧ (ckOf Try.prog 5 = [.int .u8]) ∧ (inf Try.prog 5 = some (some (.int .u8 0), 1, 1)) ∧ (colsOf Try.prog 8 5 = [.cell]) := ⟨ty_sz5, ty_st5, ty_cell5, ty_ck5, ty_inf5, ty_cols5⟩
theorem ty_sz9 : szOf Try.prog 9 = 1 := by kernel_rfl
theorem ty_st9 : isSt Try.prog 9 = false := by kernel_rfl
theorem ty_cell9 : isCell Try.prog 9 = true := by kernel_rfl
theorem ty_ck9 : ckOf Try.prog 9 = [.str] := by kernel_rfl
theorem ty_inf9 : inf Try.prog 9 = some (some (.string .empty), 1, 16) := by kernel_rfl
theorem ty_cols9 : colsOf Try.prog 8 9 = [.cell] := by kernel_rfl
theorem tY9 : (szOf Try.prog 9 = 1) ∧ (isSt Try.prog 9 = false) ∧ (isCell Try.prog 9 = true) ∧ (ckOf Try.prog 9 = [.str]) ∧ (inf Try.prog 9 = some (some (.string .empty), 1, 16)) ∧ (colsOf Try.prog 8 9 = [.cell]) := ⟨ty_sz9, ty_st9, ty_cell9, ty_ck9, ty_inf9, ty_cols9⟩
theorem ty_sz12 : szOf Try.prog 12 = 1 := by kernel_rfl
theorem ty_st12 : isSt Try.prog 12 = false := by kernel_rfl
theorem ty_cell12 : isCell Try.prog 12 = true := by kernel_rfl
theorem ty_ck12 : ckOf Try.prog 12 = [.int .u64] := by kernel_rfl
theorem ty_inf12 : inf Try.prog 12 = some (some (.int .u64 0), 1, 8) := by kernel_rfl
theorem ty_cols12 : colsOf Try.prog 8 12 = [.cell] := by kernel_rfl
theorem tY12 : (szOf Try.prog 12 = 1) ∧ (isSt Try.prog 12 = false) ∧ (isCell Try.prog 12 = true) ∧ (ckOf Try.prog 12 = [.int .u64]) ∧ (inf Try.prog 12 = some (some (.int .u64 0), 1, 8)) ∧ (colsOf Try.prog 8 12 = [.cell]) := ⟨ty_sz12, ty_st12, ty_cell12, ty_ck12, ty_inf12, ty_cols12⟩
theorem ty_sz21 : szOf Try.prog 21 = 1 := by kernel_rfl
theorem ty_st21 : isSt Try.prog 21 = false := by kernel_rfl
theorem ty_cell21 : isCell Try.prog 21 = true := by kernel_rfl
theorem ty_ck21 : ckOf Try.prog 21 = [.int .i32] := by kernel_rfl
theorem ty_inf21 : inf Try.prog 21 = some (some (.int .i32 0), 1, 4) := by kernel_rfl
theorem ty_cols21 : colsOf Try.prog 8 21 = [.cell] := by kernel_rfl
theorem tY21 : (szOf Try.prog 21 = 1) ∧ (isSt Try.prog 21 = false) ∧ (isCell Try.prog 21 = true) ∧ (ckOf Try.prog 21 = [.int .i32]) ∧ (inf Try.prog 21 = some (some (.int .i32 0), 1, 4)) ∧ (colsOf Try.prog 8 21 = [.cell]) := ⟨ty_sz21, ty_st21, ty_cell21, ty_ck21, ty_inf21, ty_cols21⟩
theorem ty_sz22 : szOf Try.prog 22 = 1 := by kernel_rfl
theorem ty_st22 : isSt Try.prog 22 = false := by kernel_rfl
theorem ty_cell22 : isCell Try.prog 22 = true := by kernel_rfl
theorem ty_ck22 : ckOf Try.prog 22 = [.sl 1] := by kernel_rfl
theorem ty_inf22 : inf Try.prog 22 = some (some (.slice none 0 0), 1, 24) := by kernel_rfl
theorem ty_cols22 : colsOf Try.prog 8 22 = [.sl 5 1 [.cell]] := by kernel_rfl
theorem tY22 : (szOf Try.prog 22 = 1) ∧ (isSt Try.prog 22 = false) ∧ (isCell Try.prog 22 = true) ∧ (ckOf Try.prog 22 = [.sl 1]) ∧ (inf Try.prog 22 = some (some (.slice none 0 0), 1, 24)) ∧ (colsOf Try.prog 8 22 = [.sl 5 1 [.cell]]) := ⟨ty_sz22, ty_st22, ty_cell22, ty_ck22, ty_inf22, ty_cols22⟩
theorem ty_sz23 : szOf Try.prog 23 = 3 := by kernel_rfl
theorem ty_st23 : isSt Try.prog 23 = true := by kernel_rfl
theorem ty_cell23 : isCell Try.prog 23 = false := by kernel_rfl
theorem ty_ck23 : ckOf Try.prog 23 = [.int .i64, .int .i64, .sl 1] := by kernel_rfl
theorem ty_inf23 : inf Try.prog 23 = some (some (.agg #[.int .i64 0, .int .i64 0, .slice none 0 0]), 3, 40) := by kernel_rfl
theorem ty_cols23 : colsOf Try.prog 8 23 = [.cell, .cell, .sl 5 1 [.cell]] := by kernel_rfl
theorem ty_eq23 : eqFlat Try.prog 23 = none := by kernel_rfl
theorem ty_f23_0 : fieldOf Try.prog 23 0 = some (0, 3) := by kernel_rfl
theorem ty_f23_1 : fieldOf Try.prog 23 1 = some (1, 3) := by kernel_rfl
theorem ty_f23_2 : fieldOf Try.prog 23 2 = some (2, 22) := by kernel_rfl
theorem tY23 : (szOf Try.prog 23 = 3) ∧ (isSt Try.prog 23 = true) ∧ (isCell Try.prog 23 = false) ∧ (ckOf Try.prog 23 = [.int .i64, .int .i64, .sl 1]) ∧ (inf Try.prog 23 = some (some (.agg #[.int .i64 0, .int .i64 0, .slice none 0 0]), 3, 40)) ∧ (colsOf Try.prog 8 23 = [.cell, .cell, .sl 5 1 [.cell]]) ∧ (eqFlat Try.prog 23 = none) ∧ (fieldOf Try.prog 23 0 = some (0, 3)) ∧ (fieldOf Try.prog 23 1 = some (1, 3)) ∧ (fieldOf Try.prog 23 2 = some (2, 22)) := ⟨ty_sz23, ty_st23, ty_cell23, ty_ck23, ty_inf23, ty_cols23, ty_eq23, ty_f23_0, ty_f23_1, ty_f23_2⟩
theorem ty_sz24 : szOf Try.prog 24 = 3 := by kernel_rfl
theorem ty_st24 : isSt Try.prog 24 = true := by kernel_rfl
theorem ty_cell24 : isCell Try.prog 24 = false := by kernel_rfl
theorem ty_ck24 : ckOf Try.prog 24 = [.int .i64, .int .i64, .sl 1] := by kernel_rfl
theorem ty_inf24 : inf Try.prog 24 = some (some (.agg #[.int .i64 0, .int .i64 0, .slice none 0 0]), 3, 40) := by kernel_rfl
theorem ty_cols24 : colsOf Try.prog 8 24 = [.cell, .cell, .sl 5 1 [.cell]] := by kernel_rfl
theorem ty_eq24 : eqFlat Try.prog 24 = none := by kernel_rfl
theorem ty_f24_0 : fieldOf Try.prog 24 0 = some (0, 3) := by kernel_rfl
theorem ty_f24_1 : fieldOf Try.prog 24 1 = some (1, 3) := by kernel_rfl
theorem ty_f24_2 : fieldOf Try.prog 24 2 = some (2, 22) := by kernel_rfl
theorem tY24 : (szOf Try.prog 24 = 3) ∧ (isSt Try.prog 24 = true) ∧ (isCell Try.prog 24 = false) ∧ (ckOf Try.prog 24 = [.int .i64, .int .i64, .sl 1]) ∧ (inf Try.prog 24 = some (some (.agg #[.int .i64 0, .int .i64 0, .slice none 0 0]), 3, 40)) ∧ (colsOf Try.prog 8 24 = [.cell, .cell, .sl 5 1 [.cell]]) ∧ (eqFlat Try.prog 24 = none) ∧ (fieldOf Try.prog 24 0 = some (0, 3)) ∧ (fieldOf Try.prog 24 1 = some (1, 3)) ∧ (fieldOf Try.prog 24 2 = some (2, 22)) := ⟨ty_sz24, ty_st24, ty_cell24, ty_ck24, ty_inf24, ty_cols24, ty_eq24, ty_f24_0, ty_f24_1, ty_f24_2⟩
theorem ty_sz27 : szOf Try.prog 27 = 3 := by kernel_rfl
theorem ty_st27 : isSt Try.prog 27 = true := by kernel_rfl
theorem ty_cell27 : isCell Try.prog 27 = false := by kernel_rfl
theorem ty_ck27 : ckOf Try.prog 27 = [.int .i64, .int .i64, .sl 1] := by kernel_rfl
theorem ty_inf27 : inf Try.prog 27 = some (some (.agg #[.int .i64 0, .int .i64 0, .slice none 0 0]), 3, 40) := by kernel_rfl
theorem ty_cols27 : colsOf Try.prog 8 27 = [.cell, .cell, .sl 5 1 [.cell]] := by kernel_rfl
theorem ty_eq27 : eqFlat Try.prog 27 = none := by kernel_rfl
theorem ty_f27_0 : fieldOf Try.prog 27 0 = some (0, 3) := by kernel_rfl
theorem ty_f27_1 : fieldOf Try.prog 27 1 = some (1, 3) := by kernel_rfl
theorem ty_f27_2 : fieldOf Try.prog 27 2 = some (2, 22) := by kernel_rfl
theorem tY27 : (szOf Try.prog 27 = 3) ∧ (isSt Try.prog 27 = true) ∧ (isCell Try.prog 27 = false) ∧ (ckOf Try.prog 27 = [.int .i64, .int .i64, .sl 1]) ∧ (inf Try.prog 27 = some (some (.agg #[.int .i64 0, .int .i64 0, .slice none 0 0]), 3, 40)) ∧ (colsOf Try.prog 8 27 = [.cell, .cell, .sl 5 1 [.cell]]) ∧ (eqFlat Try.prog 27 = none) ∧ (fieldOf Try.prog 27 0 = some (0, 3)) ∧ (fieldOf Try.prog 27 1 = some (1, 3)) ∧ (fieldOf Try.prog 27 2 = some (2, 22)) := ⟨ty_sz27, ty_st27, ty_cell27, ty_ck27, ty_inf27, ty_cols27, ty_eq27, ty_f27_0, ty_f27_1, ty_f27_2⟩
theorem ty_sz39 : szOf Try.prog 39 = 9 := by kernel_rfl
theorem ty_st39 : isSt Try.prog 39 = true := by kernel_rfl
theorem ty_cell39 : isCell Try.prog 39 = false := by kernel_rfl
theorem ty_ck39 : ckOf Try.prog 39 = [.int .i64, .int .i64, .int .i64, .int .i64, .int .i64, .int .i64, .bool, .bool, .sl 1] := by kernel_rfl
theorem ty_inf39 : inf Try.prog 39 = some (some (.agg #[.int .i64 0, .int .i64 0, .int .i64 0, .int .i64 0, .int .i64 0, .int .i64 0, .bool false, .bool false, .slice none 0 0]), 9, 80) := by kernel_rfl
theorem ty_cols39 : colsOf Try.prog 8 39 = [.cell, .cell, .cell, .cell, .cell, .cell, .cell, .cell, .sl 5 1 [.cell]] := by kernel_rfl
theorem ty_eq39 : eqFlat Try.prog 39 = none := by kernel_rfl
theorem ty_f39_0 : fieldOf Try.prog 39 0 = some (0, 3) := by kernel_rfl
theorem ty_f39_1 : fieldOf Try.prog 39 1 = some (1, 3) := by kernel_rfl
theorem ty_f39_2 : fieldOf Try.prog 39 2 = some (2, 3) := by kernel_rfl
theorem ty_f39_3 : fieldOf Try.prog 39 3 = some (3, 3) := by kernel_rfl
theorem ty_f39_4 : fieldOf Try.prog 39 4 = some (4, 3) := by kernel_rfl
theorem ty_f39_5 : fieldOf Try.prog 39 5 = some (5, 3) := by kernel_rfl
theorem ty_f39_6 : fieldOf Try.prog 39 6 = some (6, 4) := by kernel_rfl
theorem ty_f39_7 : fieldOf Try.prog 39 7 = some (7, 4) := by kernel_rfl
theorem ty_f39_8 : fieldOf Try.prog 39 8 = some (8, 22) := by kernel_rfl
theorem tY39 : (szOf Try.prog 39 = 9) ∧ (isSt Try.prog 39 = true) ∧ (isCell Try.prog 39 = false) ∧ (ckOf Try.prog 39 = [.int .i64, .int .i64, .int .i64, .int .i64, .int .i64, .int .i64, .bool, .bool, .sl 1]) ∧ (inf Try.prog 39 = some (some (.agg #[.int .i64 0, .int .i64 0, .int .i64 0, .int .i64 0, .int .i64 0, .int .i64 0, .bool false, .bool false, .slice none 0 0]), 9, 80)) ∧ (colsOf Try.prog 8 39 = [.cell, .cell, .cell, .cell, .cell, .cell, .cell, .cell, .sl 5 1 [.cell]]) ∧ (eqFlat Try.prog 39 = none) ∧ (fieldOf Try.prog 39 0 = some (0, 3)) ∧ (fieldOf Try.prog 39 1 = some (1, 3)) ∧ (fieldOf Try.prog 39 2 = some (2, 3)) ∧ (fieldOf Try.prog 39 3 = some (3, 3)) ∧ (fieldOf Try.prog 39 4 = some (4, 3)) ∧ (fieldOf Try.prog 39 5 = some (5, 3)) ∧ (fieldOf Try.prog 39 6 = some (6, 4)) ∧ (fieldOf Try.prog 39 7 = some (7, 4)) ∧ (fieldOf Try.prog 39 8 = some (8, 22)) := ⟨ty_sz39, ty_st39, ty_cell39, ty_ck39, ty_inf39, ty_cols39, ty_eq39, ty_f39_0, ty_f39_1, ty_f39_2, ty_f39_3, ty_f39_4, ty_f39_5, ty_f39_6, ty_f39_7, ty_f39_8⟩
theorem ty_sz40 : szOf Try.prog 40 = 9 := by kernel_rfl
theorem ty_st40 : isSt Try.prog 40 = true := by kernel_rfl
theorem ty_cell40 : isCell Try.prog 40 = false := by kernel_rfl
theorem ty_ck40 : ckOf Try.prog 40 = [.int .i64, .int .i64, .int .i64, .int .i64, .int .i64, .int .i64, .bool, .bool, .sl 1] := by kernel_rfl
theorem ty_inf40 : inf Try.prog 40 = some (some (.agg #[.int .i64 0, .int .i64 0, .int .i64 0, .int .i64 0, .int .i64 0, .int .i64 0, .bool false, .bool false, .slice none 0 0]), 9, 80) := by kernel_rfl
theorem ty_cols40 : colsOf Try.prog 8 40 = [.cell, .cell, .cell, .cell, .cell, .cell, .cell, .cell, .sl 5 1 [.cell]] := by kernel_rfl
theorem ty_eq40 : eqFlat Try.prog 40 = none := by kernel_rfl
theorem ty_f40_0 : fieldOf Try.prog 40 0 = some (0, 3) := by kernel_rfl
theorem ty_f40_1 : fieldOf Try.prog 40 1 = some (1, 3) := by kernel_rfl
theorem ty_f40_2 : fieldOf Try.prog 40 2 = some (2, 3) := by kernel_rfl
theorem ty_f40_3 : fieldOf Try.prog 40 3 = some (3, 3) := by kernel_rfl
theorem ty_f40_4 : fieldOf Try.prog 40 4 = some (4, 3) := by kernel_rfl
theorem ty_f40_5 : fieldOf Try.prog 40 5 = some (5, 3) := by kernel_rfl
theorem ty_f40_6 : fieldOf Try.prog 40 6 = some (6, 4) := by kernel_rfl
theorem ty_f40_7 : fieldOf Try.prog 40 7 = some (7, 4) := by kernel_rfl
theorem ty_f40_8 : fieldOf Try.prog 40 8 = some (8, 22) := by kernel_rfl
theorem tY40 : (szOf Try.prog 40 = 9) ∧ (isSt Try.prog 40 = true) ∧ (isCell Try.prog 40 = false) ∧ (ckOf Try.prog 40 = [.int .i64, .int .i64, .int .i64, .int .i64, .int .i64, .int .i64, .bool, .bool, .sl 1]) ∧ (inf Try.prog 40 = some (some (.agg #[.int .i64 0, .int .i64 0, .int .i64 0, .int .i64 0, .int .i64 0, .int .i64 0, .bool false, .bool false, .slice none 0 0]), 9, 80)) ∧ (colsOf Try.prog 8 40 = [.cell, .cell, .cell, .cell, .cell, .cell, .cell, .cell, .sl 5 1 [.cell]]) ∧ (eqFlat Try.prog 40 = none) ∧ (fieldOf Try.prog 40 0 = some (0, 3)) ∧ (fieldOf Try.prog 40 1 = some (1, 3)) ∧ (fieldOf Try.prog 40 2 = some (2, 3)) ∧ (fieldOf Try.prog 40 3 = some (3, 3)) ∧ (fieldOf Try.prog 40 4 = some (4, 3)) ∧ (fieldOf Try.prog 40 5 = some (5, 3)) ∧ (fieldOf Try.prog 40 6 = some (6, 4)) ∧ (fieldOf Try.prog 40 7 = some (7, 4)) ∧ (fieldOf Try.prog 40 8 = some (8, 22)) := ⟨ty_sz40, ty_st40, ty_cell40, ty_ck40, ty_inf40, ty_cols40, ty_eq40, ty_f40_0, ty_f40_1, ty_f40_2, ty_f40_3, ty_f40_4, ty_f40_5, ty_f40_6, ty_f40_7, ty_f40_8⟩
theorem ty_sz43 : szOf Try.prog 43 = 9 := by kernel_rfl
theorem ty_st43 : isSt Try.prog 43 = true := by kernel_rfl
theorem ty_cell43 : isCell Try.prog 43 = false := by kernel_rfl
theorem ty_ck43 : ckOf Try.prog 43 = [.int .i64, .int .i64, .int .i64, .int .i64, .int .i64, .int .i64, .bool, .bool, .sl 1] := by kernel_rfl
theorem ty_inf43 : inf Try.prog 43 = some (some (.agg #[.int .i64 0, .int .i64 0, .int .i64 0, .int .i64 0, .int .i64 0, .int .i64 0, .bool false, .bool false, .slice none 0 0]), 9, 80) := by kernel_rfl
theorem ty_cols43 : colsOf Try.prog 8 43 = [.cell, .cell, .cell, .cell, .cell, .cell, .cell, .cell, .sl 5 1 [.cell]] := by kernel_rfl
theorem ty_eq43 : eqFlat Try.prog 43 = none := by kernel_rfl
theorem ty_f43_0 : fieldOf Try.prog 43 0 = some (0, 3) := by kernel_rfl
theorem ty_f43_1 : fieldOf Try.prog 43 1 = some (1, 3) := by kernel_rfl
theorem ty_f43_2 : fieldOf Try.prog 43 2 = some (2, 3) := by kernel_rfl
theorem ty_f43_3 : fieldOf Try.prog 43 3 = some (3, 3) := by kernel_rfl
theorem ty_f43_4 : fieldOf Try.prog 43 4 = some (4, 3) := by kernel_rfl
theorem ty_f43_5 : fieldOf Try.prog 43 5 = some (5, 3) := by kernel_rfl
theorem ty_f43_6 : fieldOf Try.prog 43 6 = some (6, 4) := by kernel_rfl
theorem ty_f43_7 : fieldOf Try.prog 43 7 = some (7, 4) := by kernel_rfl
theorem ty_f43_8 : fieldOf Try.prog 43 8 = some (8, 22) := by kernel_rfl
theorem tY43 : (szOf Try.prog 43 = 9) ∧ (isSt Try.prog 43 = true) ∧ (isCell Try.prog 43 = false) ∧ (ckOf Try.prog 43 = [.int .i64, .int .i64, .int .i64, .int .i64, .int .i64, .int .i64, .bool, .bool, .sl 1]) ∧ (inf Try.prog 43 = some (some (.agg #[.int .i64 0, .int .i64 0, .int .i64 0, .int .i64 0, .int .i64 0, .int .i64 0, .bool false, .bool false, .slice none 0 0]), 9, 80)) ∧ (colsOf Try.prog 8 43 = [.cell, .cell, .cell, .cell, .cell, .cell, .cell, .cell, .sl 5 1 [.cell]]) ∧ (eqFlat Try.prog 43 = none) ∧ (fieldOf Try.prog 43 0 = some (0, 3)) ∧ (fieldOf Try.prog 43 1 = some (1, 3)) ∧ (fieldOf Try.prog 43 2 = some (2, 3)) ∧ (fieldOf Try.prog 43 3 = some (3, 3)) ∧ (fieldOf Try.prog 43 4 = some (4, 3)) ∧ (fieldOf Try.prog 43 5 = some (5, 3)) ∧ (fieldOf Try.prog 43 6 = some (6, 4)) ∧ (fieldOf Try.prog 43 7 = some (7, 4)) ∧ (fieldOf Try.prog 43 8 = some (8, 22)) := ⟨ty_sz43, ty_st43, ty_cell43, ty_ck43, ty_inf43, ty_cols43, ty_eq43, ty_f43_0, ty_f43_1, ty_f43_2, ty_f43_3, ty_f43_4, ty_f43_5, ty_f43_6, ty_f43_7, ty_f43_8⟩
theorem ty_sz76 : szOf Try.prog 76 = 2 := by kernel_rfl
theorem ty_st76 : isSt Try.prog 76 = true := by kernel_rfl
theorem ty_cell76 : isCell Try.prog 76 = false := by kernel_rfl
theorem ty_ck76 : ckOf Try.prog 76 = [.sl 1, .int .i64] := by kernel_rfl
theorem ty_inf76 : inf Try.prog 76 = some (some (.agg #[.slice none 0 0, .int .i64 0]), 2, 32) := by kernel_rfl
theorem ty_cols76 : colsOf Try.prog 8 76 = [.sl 5 1 [.cell], .cell] := by kernel_rfl
theorem ty_eq76 : eqFlat Try.prog 76 = none := by kernel_rfl
theorem ty_f76_0 : fieldOf Try.prog 76 0 = some (0, 22) := by kernel_rfl
theorem ty_f76_1 : fieldOf Try.prog 76 1 = some (1, 3) := by kernel_rfl
theorem tY76 : (szOf Try.prog 76 = 2) ∧ (isSt Try.prog 76 = true) ∧ (isCell Try.prog 76 = false) ∧ (ckOf Try.prog 76 = [.sl 1, .int .i64]) ∧ (inf Try.prog 76 = some (some (.agg #[.slice none 0 0, .int .i64 0]), 2, 32)) ∧ (colsOf Try.prog 8 76 = [.sl 5 1 [.cell], .cell]) ∧ (eqFlat Try.prog 76 = none) ∧ (fieldOf Try.prog 76 0 = some (0, 22)) ∧ (fieldOf Try.prog 76 1 = some (1, 3)) := ⟨ty_sz76, ty_st76, ty_cell76, ty_ck76, ty_inf76, ty_cols76, ty_eq76, ty_f76_0, ty_f76_1⟩
theorem ty_sz77 : szOf Try.prog 77 = 2 := by kernel_rfl
theorem ty_st77 : isSt Try.prog 77 = true := by kernel_rfl
theorem ty_cell77 : isCell Try.prog 77 = false := by kernel_rfl
theorem ty_ck77 : ckOf Try.prog 77 = [.sl 1, .int .i64] := by kernel_rfl
theorem ty_inf77 : inf Try.prog 77 = some (some (.agg #[.slice none 0 0, .int .i64 0]), 2, 32) := by kernel_rfl
theorem ty_cols77 : colsOf Try.prog 8 77 = [.sl 5 1 [.cell], .cell] := by kernel_rfl
theorem ty_eq77 : eqFlat Try.prog 77 = none := by kernel_rfl
theorem ty_f77_0 : fieldOf Try.prog 77 0 = some (0, 22) := by kernel_rfl
theorem ty_f77_1 : fieldOf Try.prog 77 1 = some (1, 3) := by kernel_rfl
theorem tY77 : (szOf Try.prog 77 = 2) ∧ (isSt Try.prog 77 = true) ∧ (isCell Try.prog 77 = false) ∧ (ckOf Try.prog 77 = [.sl 1, .int .i64]) ∧ (inf Try.prog 77 = some (some (.agg #[.slice none 0 0, .int .i64 0]), 2, 32)) ∧ (colsOf Try.prog 8 77 = [.sl 5 1 [.cell], .cell]) ∧ (eqFlat Try.prog 77 = none) ∧ (fieldOf Try.prog 77 0 = some (0, 22)) ∧ (fieldOf Try.prog 77 1 = some (1, 3)) := ⟨ty_sz77, ty_st77, ty_cell77, ty_ck77, ty_inf77, ty_cols77, ty_eq77, ty_f77_0, ty_f77_1⟩
theorem ty_sz86 : szOf Try.prog 86 = 1 := by kernel_rfl
theorem ty_st86 : isSt Try.prog 86 = false := by kernel_rfl
theorem ty_cell86 : isCell Try.prog 86 = true := by kernel_rfl
theorem ty_ck86 : ckOf Try.prog 86 = [.int .u32] := by kernel_rfl
theorem ty_inf86 : inf Try.prog 86 = some (some (.int .u32 0), 1, 4) := by kernel_rfl
theorem ty_cols86 : colsOf Try.prog 8 86 = [.cell] := by kernel_rfl
theorem tY86 : (szOf Try.prog 86 = 1) ∧ (isSt Try.prog 86 = false) ∧ (isCell Try.prog 86 = true) ∧ (ckOf Try.prog 86 = [.int .u32]) ∧ (inf Try.prog 86 = some (some (.int .u32 0), 1, 4)) ∧ (colsOf Try.prog 8 86 = [.cell]) := ⟨ty_sz86, ty_st86, ty_cell86, ty_ck86, ty_inf86, ty_cols86⟩
theorem ty_sz95 : szOf Try.prog 95 = 1 := by kernel_rfl
theorem ty_st95 : isSt Try.prog 95 = false := by kernel_rfl
theorem ty_cell95 : isCell Try.prog 95 = true := by kernel_rfl
theorem ty_ck95 : ckOf Try.prog 95 = [.other] := by kernel_rfl
theorem ty_inf95 : inf Try.prog 95 = some (some (.pointer none), 1, 8) := by kernel_rfl
theorem ty_cols95 : colsOf Try.prog 8 95 = [.cell] := by kernel_rfl
theorem tY95 : (szOf Try.prog 95 = 1) ∧ (isSt Try.prog 95 = false) ∧ (isCell Try.prog 95 = true) ∧ (ckOf Try.prog 95 = [.other]) ∧ (inf Try.prog 95 = some (some (.pointer none), 1, 8)) ∧ (colsOf Try.prog 8 95 = [.cell]) := ⟨ty_sz95, ty_st95, ty_cell95, ty_ck95, ty_inf95, ty_cols95⟩
end Go.Proofs.Ytoiieccdbldfiaa
