/-
  What the evaluation asks of the types of this seat: closed facts on the program's table. By a tool.
-/
import Derived.Test.YtinejkcmgecfdaaR1
namespace Go.Proofs.Ytinejkcmgecfdaa
theorem ty_sz2 : szOf Try.prog 2 = 1 := by kernel_rfl
theorem ty_st2 : isSt Try.prog 2 = false := by kernel_rfl
theorem ty_cell2 : isCell Try.prog 2 = true := by kernel_rfl
theorem ty_ck2 : ckOf Try.prog 2 = [.int .i64] := by kernel_rfl
theorem ty_inf2 : inf Try.prog 2 = some (some (.int .i64 0), 1, 8) := by kernel_rfl
theorem ty_cols2 : colsOf Try.prog 8 2 = [.cell] := by kernel_rfl
theorem tY2 : (szOf Try.prog 2 = 1) ∧ (isSt Try.prog 2 = false) ∧ (isCell Try.prog 2 = true) ∧ (ckOf Try.prog 2 = [.int .i64]) ∧ (inf Try.prog 2 = some (some (.int .i64 0), 1, 8)) ∧ (colsOf Try.prog 8 2 = [.cell]) := ⟨ty_sz2, ty_st2, ty_cell2, ty_ck2, ty_inf2, ty_cols2⟩
theorem ty_sz3 : szOf Try.prog 3 = 1 := by kernel_rfl
theorem ty_st3 : isSt Try.prog 3 = false := by kernel_rfl
theorem ty_cell3 : isCell Try.prog 3 = true := by kernel_rfl
theorem ty_ck3 : ckOf Try.prog 3 = [.int .i64] := by kernel_rfl
theorem ty_inf3 : inf Try.prog 3 = some (some (.int .i64 0), 1, 8) := by kernel_rfl
theorem ty_cols3 : colsOf Try.prog 8 3 = [.cell] := by kernel_rfl
theorem tY3 : (szOf Try.prog 3 = 1) ∧ (isSt Try.prog 3 = false) ∧ (isCell Try.prog 3 = true) ∧ (ckOf Try.prog 3 = [.int .i64]) ∧ (inf Try.prog 3 = some (some (.int .i64 0), 1, 8)) ∧ (colsOf Try.prog 8 3 = [.cell]) := ⟨ty_sz3, ty_st3, ty_cell3, ty_ck3, ty_inf3, ty_cols3⟩
theorem ty_sz4 : szOf Try.prog 4 = 1 := by kernel_rfl
theorem ty_st4 : isSt Try.prog 4 = false := by kernel_rfl
theorem ty_cell4 : isCell Try.prog 4 = true := by kernel_rfl
theorem ty_ck4 : ckOf Try.prog 4 = [.bool] := by kernel_rfl
theorem ty_inf4 : inf Try.prog 4 = some (some (.bool false), 1, 1) := by kernel_rfl
theorem ty_cols4 : colsOf Try.prog 8 4 = [.cell] := by kernel_rfl
theorem tY4 : (szOf Try.prog 4 = 1) ∧ (isSt Try.prog 4 = false) ∧ (isCell Try.prog 4 = true) ∧ (ckOf Try.prog 4 = [.bool]) ∧ (inf Try.prog 4 = some (some (.bool false), 1, 1)) ∧ (colsOf Try.prog 8 4 = [.cell]) := ⟨ty_sz4, ty_st4, ty_cell4, ty_ck4, ty_inf4, ty_cols4⟩
theorem ty_sz5 : szOf Try.prog 5 = 1 := by kernel_rfl
theorem ty_st5 : isSt Try.prog 5 = false := by kernel_rfl
theorem ty_cell5 : isCell Try.prog 5 = true := by kernel_rfl
theorem ty_ck5 : ckOf Try.prog 5 = [.int .u8] := by kernel_rfl
theorem ty_inf5 : inf Try.prog 5 = some (some (.int .u8 0), 1, 1) := by kernel_rfl
theorem ty_cols5 : colsOf Try.prog 8 5 = [.cell] := by kernel_rfl
theorem tY5 : (szOf Try.prog 5 = 1) ∧ (isSt Try.prog 5 = false) ∧ (isCell Try.prog 5 = true) ∧ (ckOf Try.prog 5 = [.int .u8]) ∧ (inf Try.prog 5 = some (some (.int .u8 0), 1, 1)) ∧ (colsOf Try.prog 8 5 = [.cell]) := ⟨ty_sz5, ty_st5, ty_cell5, ty_ck5, ty_inf5, ty_cols5⟩
theorem ty_sz9 : szOf Try.prog 9 = 1 := by kernel_rfl
theorem ty_st9 : isSt Try.prog 9 = false := by kernel_rfl
theorem ty_cell9 : isCell Try.prog 9 = true := by kernel_rfl
theorem ty_ck9 : ckOf Try.prog 9 = [.str] := by kernel_rfl
theorem ty_inf9 : inf Try.prog 9 = some (some (.string .empty), 1, 16) := by kernel_rfl
theorem ty_cols9 : colsOf Try.prog 8 9 = [.cell] := by kernel_rfl
theorem tY9 : (szOf Try.prog 9 = 1) ∧ (isSt Try.prog 9 = false) ∧ (isCell Try.prog 9 = true) ∧ (ckOf Try.prog 9 = [.str]) ∧ (inf Try.prog 9 = some (some (.string .empty), 1, 16)) ∧ (colsOf Try.prog 8 9 = [.cell]) := ⟨ty_sz9, ty_st9, ty_cell9, ty_ck9, ty_inf9, ty_cols9⟩
theorem ty_sz12 : szOf Try.prog 12 = 1 := by kernel_rfl
theorem ty_st12 : isSt Try.prog 12 = false := by kernel_rfl
theorem ty_cell12 : isCell Try.prog 12 = true := by kernel_rfl
theorem ty_ck12 : ckOf Try.prog 12 = [.int .u64] := by kernel_rfl
theorem ty_inf12 : inf Try.prog 12 = some (some (.int .u64 0), 1, 8) := by kernel_rfl
theorem ty_cols12 : colsOf Try.prog 8 12 = [.cell] := by kernel_rfl
theorem tY12 : (szOf Try.prog 12 = 1) ∧ (isSt Try.prog 12 = false) ∧ (isCell Try.prog 12 = true) ∧ (ckOf Try.prog 12 = [.int .u64]) ∧ (inf Try.prog 12 = some (some (.int .u64 0), 1, 8)) ∧ (colsOf Try.prog 8 12 = [.cell]) := ⟨ty_sz12, ty_st12, ty_cell12, ty_ck12, ty_inf12, ty_cols12⟩
theorem ty_sz21 : szOf Try.prog 21 = 1 := by kernel_rfl
theorem ty_st21 : isSt Try.prog 21 = false := by kernel_rfl
theorem ty_cell21 : isCell Try.prog 21 = true := by kernel_rfl
theorem ty_ck21 : ckOf Try.prog 21 = [.int .i32] := by kernel_rfl
theorem ty_inf21 : inf Try.prog 21 = some (some (.int .i32 0), 1, 4) := by kernel_rfl
theorem ty_cols21 : colsOf Try.prog 8 21 = [.cell] := by kernel_rfl
theorem tY21 : (szOf Try.prog 21 = 1) ∧ (isSt Try.prog 21 = false) ∧ (isCell Try.prog 21 = true) ∧ (ckOf Try.prog 21 = [.int .i32]) ∧ (inf Try.prog 21 = some (some (.int .i32 0), 1, 4)) ∧ (colsOf Try.prog 8 21 = [.cell]) := ⟨ty_sz21, ty_st21, ty_cell21, ty_ck21, ty_inf21, ty_cols21⟩
theorem ty_sz22 : szOf Try.prog 22 = 4 := by kernel_rfl
theorem ty_st22 : isSt Try.prog 22 = true := by kernel_rfl
theorem ty_cell22 : isCell Try.prog 22 = false := by kernel_rfl
theorem ty_ck22 : ckOf Try.prog 22 = [.int .i64, .int .i64, .int .i64, .int .i64] := by kernel_rfl
theorem ty_inf22 : inf Try.prog 22 = some (some (.agg #[.int .i64 0, .int .i64 0, .int .i64 0, .int .i64 0]), 4, 32) := by kernel_rfl
theorem ty_cols22 : colsOf Try.prog 8 22 = [.cell, .cell, .cell, .cell] := by kernel_rfl
theorem ty_eq22 : eqFlat Try.prog 22 = some [true, true, true, true] := by kernel_rfl
theorem ty_f22_0 : fieldOf Try.prog 22 0 = some (0, 3) := by kernel_rfl
theorem ty_f22_1 : fieldOf Try.prog 22 1 = some (1, 3) := by kernel_rfl
theorem ty_f22_2 : fieldOf Try.prog 22 2 = some (2, 3) := by kernel_rfl
theorem ty_f22_3 : fieldOf Try.prog 22 3 = some (3, 3) := by kernel_rfl
theorem tY22 : (szOf Try.prog 22 = 4) ∧ (isSt Try.prog 22 = true) ∧ (isCell Try.prog 22 = false) ∧ (ckOf Try.prog 22 = [.int .i64, .int .i64, .int .i64, .int .i64]) ∧ (inf Try.prog 22 = some (some (.agg #[.int .i64 0, .int .i64 0, .int .i64 0, .int .i64 0]), 4, 32)) ∧ (colsOf Try.prog 8 22 = [.cell, .cell, .cell, .cell]) ∧ (eqFlat Try.prog 22 = some [true, true, true, true]) ∧ (fieldOf Try.prog 22 0 = some (0, 3)) ∧ (fieldOf Try.prog 22 1 = some (1, 3)) ∧ (fieldOf Try.prog 22 2 = some (2, 3)) ∧ (fieldOf Try.prog 22 3 = some (3, 3)) := ⟨ty_sz22, ty_st22, ty_cell22, ty_ck22, ty_inf22, ty_cols22, ty_eq22, ty_f22_0, ty_f22_1, ty_f22_2, ty_f22_3⟩
theorem ty_sz23 : szOf Try.prog 23 = 4 := by kernel_rfl
theorem ty_st23 : isSt Try.prog 23 = true := by kernel_rfl
theorem ty_cell23 : isCell Try.prog 23 = false := by kernel_rfl
theorem ty_ck23 : ckOf Try.prog 23 = [.int .i64, .int .i64, .int .i64, .int .i64] := by kernel_rfl
theorem ty_inf23 : inf Try.prog 23 = some (some (.agg #[.int .i64 0, .int .i64 0, .int .i64 0, .int .i64 0]), 4, 32) := by kernel_rfl
theorem ty_cols23 : colsOf Try.prog 8 23 = [.cell, .cell, .cell, .cell] := by kernel_rfl
theorem ty_eq23 : eqFlat Try.prog 23 = some [true, true, true, true] := by kernel_rfl
theorem ty_f23_0 : fieldOf Try.prog 23 0 = some (0, 3) := by kernel_rfl
theorem ty_f23_1 : fieldOf Try.prog 23 1 = some (1, 3) := by kernel_rfl
theorem ty_f23_2 : fieldOf Try.prog 23 2 = some (2, 3) := by kernel_rfl
theorem ty_f23_3 : fieldOf Try.prog 23 3 = some (3, 3) := by kernel_rfl
theorem tY23 : (szOf Try.prog 23 = 4) ∧ (isSt Try.prog 23 = true) ∧ (isCell Try.prog 23 = false) ∧ (ckOf Try.prog 23 = [.int .i64, .int .i64, .int .i64, .int .i64]) ∧ (inf Try.prog 23 = some (some (.agg #[.int .i64 0, .int .i64 0, .int .i64 0, .int .i64 0]), 4, 32)) ∧ (colsOf Try.prog 8 23 = [.cell, .cell, .cell, .cell]) ∧ (eqFlat Try.prog 23 = some [true, true, true, true]) ∧ (fieldOf Try.prog 23 0 = some (0, 3)) ∧ (fieldOf Try.prog 23 1 = some (1, 3)) ∧ (fieldOf Try.prog 23 2 = some (2, 3)) ∧ (fieldOf Try.prog 23 3 = some (3, 3)) := ⟨ty_sz23, ty_st23, ty_cell23, ty_ck23, ty_inf23, ty_cols23, ty_eq23, ty_f23_0, ty_f23_1, ty_f23_2, ty_f23_3⟩
theorem ty_sz25 : szOf Try.prog 25 = 4 := by kernel_rfl
theorem ty_st25 : isSt Try.prog 25 = true := by kernel_rfl
theorem ty_cell25 : isCell Try.prog 25 = false := by kernel_rfl
theorem ty_ck25 : ckOf Try.prog 25 = [.int .i64, .int .i64, .int .i64, .int .i64] := by kernel_rfl
theorem ty_inf25 : inf Try.prog 25 = some (some (.agg #[.int .i64 0, .int .i64 0, .int .i64 0, .int .i64 0]), 4, 32) := by kernel_rfl
theorem ty_cols25 : colsOf Try.prog 8 25 = [.cell, .cell, .cell, .cell] := by kernel_rfl
theorem ty_eq25 : eqFlat Try.prog 25 = some [true, true, true, true] := by kernel_rfl
theorem ty_f25_0 : fieldOf Try.prog 25 0 = some (0, 3) := by kernel_rfl
theorem ty_f25_1 : fieldOf Try.prog 25 1 = some (1, 3) := by kernel_rfl
theorem ty_f25_2 : fieldOf Try.prog 25 2 = some (2, 3) := by kernel_rfl
theorem ty_f25_3 : fieldOf Try.prog 25 3 = some (3, 3) := by kernel_rfl
theorem tY25 : (szOf Try.prog 25 = 4) ∧ (isSt Try.prog 25 = true) ∧ (isCell Try.prog 25 = false) ∧ (ckOf Try.prog 25 = [.int .i64, .int .i64, .int .i64, .int .i64]) ∧ (inf Try.prog 25 = some (some (.agg #[.int .i64 0, .int .i64 0, .int .i64 0, .int .i64 0]), 4, 32)) ∧ (colsOf Try.prog 8 25 = [.cell, .cell, .cell, .cell]) ∧ (eqFlat Try.prog 25 = some [true, true, true, true]) ∧ (fieldOf Try.prog 25 0 = some (0, 3)) ∧ (fieldOf Try.prog 25 1 = some (1, 3)) ∧ (fieldOf Try.prog 25 2 = some (2, 3)) ∧ (fieldOf Try.prog 25 3 = some (3, 3)) := ⟨ty_sz25, ty_st25, ty_cell25, ty_ck25, ty_inf25, ty_cols25, ty_eq25, ty_f25_0, ty_f25_1, ty_f25_2, ty_f25_3⟩
theorem ty_sz30 : szOf Try.prog 30 = 1 := by kernel_rfl
theorem ty_st30 : isSt Try.prog 30 = false := by kernel_rfl
theorem ty_cell30 : isCell Try.prog 30 = true := by kernel_rfl
theorem ty_ck30 : ckOf Try.prog 30 = [.sl 4] := by kernel_rfl
theorem ty_inf30 : inf Try.prog 30 = some (some (.slice none 0 0), 1, 24) := by kernel_rfl
theorem ty_cols30 : colsOf Try.prog 8 30 = [.sl 23 4 [.cell, .cell, .cell, .cell]] := by kernel_rfl
theorem tY30 : (szOf Try.prog 30 = 1) ∧ (isSt Try.prog 30 = false) ∧ (isCell Try.prog 30 = true) ∧ (ckOf Try.prog 30 = [.sl 4]) ∧ (inf Try.prog 30 = some (some (.slice none 0 0), 1, 24)) ∧ (colsOf Try.prog 8 30 = [.sl 23 4 [.cell, .cell, .cell, .cell]]) := ⟨ty_sz30, ty_st30, ty_cell30, ty_ck30, ty_inf30, ty_cols30⟩
theorem ty_sz33 : szOf Try.prog 33 = 1 := by kernel_rfl
theorem ty_st33 : isSt Try.prog 33 = false := by kernel_rfl
theorem ty_cell33 : isCell Try.prog 33 = true := by kernel_rfl
theorem ty_ck33 : ckOf Try.prog 33 = [.sl 4] := by kernel_rfl
theorem ty_inf33 : inf Try.prog 33 = some (some (.slice none 0 0), 1, 24) := by kernel_rfl
theorem ty_cols33 : colsOf Try.prog 8 33 = [.sl 25 4 [.cell, .cell, .cell, .cell]] := by kernel_rfl
theorem tY33 : (szOf Try.prog 33 = 1) ∧ (isSt Try.prog 33 = false) ∧ (isCell Try.prog 33 = true) ∧ (ckOf Try.prog 33 = [.sl 4]) ∧ (inf Try.prog 33 = some (some (.slice none 0 0), 1, 24)) ∧ (colsOf Try.prog 8 33 = [.sl 25 4 [.cell, .cell, .cell, .cell]]) := ⟨ty_sz33, ty_st33, ty_cell33, ty_ck33, ty_inf33, ty_cols33⟩
theorem ty_sz60 : szOf Try.prog 60 = 1 := by kernel_rfl
theorem ty_st60 : isSt Try.prog 60 = false := by kernel_rfl
theorem ty_cell60 : isCell Try.prog 60 = true := by kernel_rfl
theorem ty_ck60 : ckOf Try.prog 60 = [.int .u32] := by kernel_rfl
theorem ty_inf60 : inf Try.prog 60 = some (some (.int .u32 0), 1, 4) := by kernel_rfl
theorem ty_cols60 : colsOf Try.prog 8 60 = [.cell] := by kernel_rfl
theorem tY60 : (szOf Try.prog 60 = 1) ∧ (isSt Try.prog 60 = false) ∧ (isCell Try.prog 60 = true) ∧ (ckOf Try.prog 60 = [.int .u32]) ∧ (inf Try.prog 60 = some (some (.int .u32 0), 1, 4)) ∧ (colsOf Try.prog 8 60 = [.cell]) := ⟨ty_sz60, ty_st60, ty_cell60, ty_ck60, ty_inf60, ty_cols60⟩
theorem ty_sz69 : szOf Try.prog 69 = 1 := by kernel_rfl
theorem ty_st69 : isSt Try.prog 69 = false := by kernel_rfl
theorem ty_cell69 : isCell Try.prog 69 = true := by kernel_rfl
theorem ty_ck69 : ckOf Try.prog 69 = [.other] := by kernel_rfl
theorem ty_inf69 : inf Try.prog 69 = some (some (.pointer none), 1, 8) := by kernel_rfl
theorem ty_cols69 : colsOf Try.prog 8 69 = [.cell] := by kernel_rfl
theorem tY69 : (szOf Try.prog 69 = 1) ∧ (isSt Try.prog 69 = false) ∧ (isCell Try.prog 69 = true) ∧ (ckOf Try.prog 69 = [.other]) ∧ (inf Try.prog 69 = some (some (.pointer none), 1, 8)) ∧ (colsOf Try.prog 8 69 = [.cell]) := ⟨ty_sz69, ty_st69, ty_cell69, ty_ck69, ty_inf69, ty_cols69⟩
end Go.Proofs.Ytinejkcmgecfdaa
