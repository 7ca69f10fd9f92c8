/-
  What the evaluation asks of the types of this seat: closed facts on the program's table. By a tool.
-/
import Derived.Test.YtheikjkfffepnaaR1
namespace Go.Proofs.Ytheikjkfffepnaa
theorem ty_sz2 : szOf Try.prog 2 = 1 := by kernel_rfl
theorem ty_st2 : isSt Try.prog 2 = false := by kernel_rfl
theorem ty_cell2 : isCell Try.prog 2 = true := by kernel_rfl
theorem ty_ck2 : ckOf Try.prog 2 = [.int .i64] := by kernel_rfl
theorem ty_inf2 : inf Try.prog 2 = some (some (.int .i64 0), 1, 8) := by kernel_rfl
theorem ty_cols2 : colsOf Try.prog 8 2 = [.cell] := by kernel_rfl
theorem tY2 : (szOf Try.prog 2 = 1) ∧ (isSt Try.prog 2 = false) ∧ (isCell Try.prog 2 = true) ∧ (ckOf Try.prog 2 = [.int .i64]) ∧ (inf Try.prog 2 = some (some (.int .i64 0), 1, 8)) ∧ (colsOf Try.prog 8 2 = [.cell]) := ⟨ty_sz2, ty_st2, ty_cell2, ty_ck2, ty_inf2, ty_cols2⟩
theorem ty_sz3 : szOf Try.prog 3 = 1 := by kernel_rfl
theorem ty_st3 : isSt Try.prog 3 = false := by kernel_rfl
theorem ty_cell3 : isCell Try.prog 3 = true := by kernel_rfl
theorem ty_ck3 : ckOf Try.prog 3 = [.int .i64] := by kernel_rfl
theorem ty_inf3 : inf Try.prog 3 = some (some (.int .i64 0), 1, 8) := by kernel_rfl
theorem ty_cols3 : colsOf Try.prog 8 3 = [.cell] := by kernel_rfl
theorem tY3 : (szOf Try.prog 3 = 1) ∧ (isSt Try.prog 3 = false) ∧ (isCell Try.prog 3 = true) ∧ (ckOf Try.prog 3 = [.int .i64]) ∧ (inf Try.prog 3 = some (some (.int .i64 0), 1, 8)) ∧ (colsOf Try.prog 8 3 = [.cell]) := ⟨ty_sz3, ty_st3, ty_cell3, ty_ck3, ty_inf3, ty_cols3⟩
theorem ty_sz4 : szOf Try.prog 4 = 1 := by kernel_rfl
theorem ty_st4 : isSt Try.prog 4 = false := by kernel_rfl
theorem ty_cell4 : isCell Try.prog 4 = true := by kernel_rfl
theorem ty_ck4 : ckOf Try.prog 4 = [.bool] := by kernel_rfl
theorem ty_inf4 : inf Try.prog 4 = some (some (.bool false), 1, 1) := by kernel_rfl
theorem ty_cols4 : colsOf Try.prog 8 4 = [.cell] := by kernel_rfl
theorem tY4 : (szOf Try.prog 4 = 1) ∧ (isSt Try.prog 4 = false) ∧ (isCell Try.prog 4 = true) ∧ (ckOf Try.prog 4 = [.bool]) ∧ (inf Try.prog 4 = some (some (.bool false), 1, 1)) ∧ (colsOf Try.prog 8 4 = [.cell]) := ⟨ty_sz4, ty_st4, ty_cell4, ty_ck4, ty_inf4, ty_cols4⟩
theorem ty_sz5 : szOf Try.prog 5 = 1 := by kernel_rfl
theorem ty_st5 : isSt Try.prog 5 = false := by kernel_rfl
theorem ty_cell5 : isCell Try.prog 5 = true := by kernel_rfl
theorem ty_ck5 : ckOf Try.prog 5 = [.int .u8] := by kernel_rfl
theorem ty_inf5 : inf Try.prog 5 = some (some (.int .u8 0), 1, 1) := by kernel_rfl
theorem ty_cols5 : colsOf Try.prog 8 5 = [.cell] := by kernel_rfl
theorem tY5 : (szOf Try.prog 5 = 1) ∧ (isSt Try.prog 5 = false) ∧ (isCell Try.prog 5 = true) ∧ (ckOf Try.prog 5 = [.int .u8]) ∧ (inf Try.prog 5 = some (some (.int .u8 0), 1, 1)) ∧ (colsOf Try.prog 8 5 = [.cell]) := ⟨ty_sz5, ty_st5, ty_cell5, ty_ck5, ty_inf5, ty_cols5⟩
theorem ty_sz9 : szOf Try.prog 9 = 1 := by kernel_rfl
theorem ty_st9 : isSt Try.prog 9 = false := by kernel_rfl
theorem ty_cell9 : isCell Try.prog 9 = true := by kernel_rfl
theorem ty_ck9 : ckOf Try.prog 9 = [.str] := by kernel_rfl
theorem ty_inf9 : inf Try.prog 9 = some (some (.string .empty), 1, 16) := by kernel_rfl
theorem ty_cols9 : colsOf Try.prog 8 9 = [.cell] := by kernel_rfl
theorem tY9 : (szOf Try.prog 9 = 1) ∧ (isSt Try.prog 9 = false) ∧ (isCell Try.prog 9 = true) ∧ (ckOf Try.prog 9 = [.str]) ∧ (inf Try.prog 9 = some (some (.string .empty), 1, 16)) ∧ (colsOf Try.prog 8 9 = [.cell]) := ⟨ty_sz9, ty_st9, ty_cell9, ty_ck9, ty_inf9, ty_cols9⟩
theorem ty_sz12 : szOf Try.prog 12 = 1 := by kernel_rfl
theorem ty_st12 : isSt Try.prog 12 = false := by kernel_rfl
theorem ty_cell12 : isCell Try.prog 12 = true := by kernel_rfl
theorem ty_ck12 : ckOf Try.prog 12 = [.int .u64] := by kernel_rfl
theorem ty_inf12 : inf Try.prog 12 = some (some (.int .u64 0), 1, 8) := by kernel_rfl
theorem ty_cols12 : colsOf Try.prog 8 12 = [.cell] := by kernel_rfl
theorem tY12 : (szOf Try.prog 12 = 1) ∧ (isSt Try.prog 12 = false) ∧ (isCell Try.prog 12 = true) ∧ (ckOf Try.prog 12 = [.int .u64]) ∧ (inf Try.prog 12 = some (some (.int .u64 0), 1, 8)) ∧ (colsOf Try.prog 8 12 = [.cell]) := ⟨ty_sz12, ty_st12, ty_cell12, ty_ck12, ty_inf12, ty_cols12⟩
theorem ty_sz21 : szOf Try.prog 21 = 1 := by kernel_rfl
theorem ty_st21 : isSt Try.prog 21 = false := by kernel_rfl
theorem ty_cell21 : isCell Try.prog 21 = true := by kernel_rfl
theorem ty_ck21 : ckOf Try.prog 21 = [.int .i32] := by kernel_rfl
theorem ty_inf21 : inf Try.prog 21 = some (some (.int .i32 0), 1, 4) := by kernel_rfl
theorem ty_cols21 : colsOf Try.prog 8 21 = [.cell] := by kernel_rfl
theorem tY21 : (szOf Try.prog 21 = 1) ∧ (isSt Try.prog 21 = false) ∧ (isCell Try.prog 21 = true) ∧ (ckOf Try.prog 21 = [.int .i32]) ∧ (inf Try.prog 21 = some (some (.int .i32 0), 1, 4)) ∧ (colsOf Try.prog 8 21 = [.cell]) := ⟨ty_sz21, ty_st21, ty_cell21, ty_ck21, ty_inf21, ty_cols21⟩
theorem ty_sz22 : szOf Try.prog 22 = 1 := by kernel_rfl
theorem ty_st22 : isSt Try.prog 22 = false := by kernel_rfl
theorem ty_cell22 : isCell Try.prog 22 = true := by kernel_rfl
theorem ty_ck22 : ckOf Try.prog 22 = [.sl 3] := by kernel_rfl
theorem ty_inf22 : inf Try.prog 22 = some (some (.slice none 0 0), 1, 24) := by kernel_rfl
theorem ty_cols22 : colsOf Try.prog 8 22 = [.sl 70 3 [.cell, .cell, .cell]] := by kernel_rfl
theorem tY22 : (szOf Try.prog 22 = 1) ∧ (isSt Try.prog 22 = false) ∧ (isCell Try.prog 22 = true) ∧ (ckOf Try.prog 22 = [.sl 3]) ∧ (inf Try.prog 22 = some (some (.slice none 0 0), 1, 24)) ∧ (colsOf Try.prog 8 22 = [.sl 70 3 [.cell, .cell, .cell]]) := ⟨ty_sz22, ty_st22, ty_cell22, ty_ck22, ty_inf22, ty_cols22⟩
theorem ty_sz23 : szOf Try.prog 23 = 1 := by kernel_rfl
theorem ty_st23 : isSt Try.prog 23 = false := by kernel_rfl
theorem ty_cell23 : isCell Try.prog 23 = true := by kernel_rfl
theorem ty_ck23 : ckOf Try.prog 23 = [.sl 2] := by kernel_rfl
theorem ty_inf23 : inf Try.prog 23 = some (some (.slice none 0 0), 1, 24) := by kernel_rfl
theorem ty_cols23 : colsOf Try.prog 8 23 = [.sl 68 2 [.cell, .sl 5 1 [.cell]]] := by kernel_rfl
theorem tY23 : (szOf Try.prog 23 = 1) ∧ (isSt Try.prog 23 = false) ∧ (isCell Try.prog 23 = true) ∧ (ckOf Try.prog 23 = [.sl 2]) ∧ (inf Try.prog 23 = some (some (.slice none 0 0), 1, 24)) ∧ (colsOf Try.prog 8 23 = [.sl 68 2 [.cell, .sl 5 1 [.cell]]]) := ⟨ty_sz23, ty_st23, ty_cell23, ty_ck23, ty_inf23, ty_cols23⟩
theorem ty_sz24 : szOf Try.prog 24 = 2 := by kernel_rfl
theorem ty_st24 : isSt Try.prog 24 = true := by kernel_rfl
theorem ty_cell24 : isCell Try.prog 24 = false := by kernel_rfl
theorem ty_ck24 : ckOf Try.prog 24 = [.sl 3, .sl 2] := by kernel_rfl
theorem ty_inf24 : inf Try.prog 24 = some (some (.agg #[.slice none 0 0, .slice none 0 0]), 2, 48) := by kernel_rfl
theorem ty_cols24 : colsOf Try.prog 8 24 = [.sl 70 3 [.cell, .cell, .cell], .sl 68 2 [.cell, .sl 5 1 [.cell]]] := by kernel_rfl
theorem ty_eq24 : eqFlat Try.prog 24 = none := by kernel_rfl
theorem ty_f24_0 : fieldOf Try.prog 24 0 = some (0, 22) := by kernel_rfl
theorem ty_f24_1 : fieldOf Try.prog 24 1 = some (1, 23) := by kernel_rfl
theorem tY24 : (szOf Try.prog 24 = 2) ∧ (isSt Try.prog 24 = true) ∧ (isCell Try.prog 24 = false) ∧ (ckOf Try.prog 24 = [.sl 3, .sl 2]) ∧ (inf Try.prog 24 = some (some (.agg #[.slice none 0 0, .slice none 0 0]), 2, 48)) ∧ (colsOf Try.prog 8 24 = [.sl 70 3 [.cell, .cell, .cell], .sl 68 2 [.cell, .sl 5 1 [.cell]]]) ∧ (eqFlat Try.prog 24 = none) ∧ (fieldOf Try.prog 24 0 = some (0, 22)) ∧ (fieldOf Try.prog 24 1 = some (1, 23)) := ⟨ty_sz24, ty_st24, ty_cell24, ty_ck24, ty_inf24, ty_cols24, ty_eq24, ty_f24_0, ty_f24_1⟩
theorem ty_sz25 : szOf Try.prog 25 = 2 := by kernel_rfl
theorem ty_st25 : isSt Try.prog 25 = true := by kernel_rfl
theorem ty_cell25 : isCell Try.prog 25 = false := by kernel_rfl
theorem ty_ck25 : ckOf Try.prog 25 = [.sl 3, .sl 2] := by kernel_rfl
theorem ty_inf25 : inf Try.prog 25 = some (some (.agg #[.slice none 0 0, .slice none 0 0]), 2, 48) := by kernel_rfl
theorem ty_cols25 : colsOf Try.prog 8 25 = [.sl 70 3 [.cell, .cell, .cell], .sl 68 2 [.cell, .sl 5 1 [.cell]]] := by kernel_rfl
theorem ty_eq25 : eqFlat Try.prog 25 = none := by kernel_rfl
theorem ty_f25_0 : fieldOf Try.prog 25 0 = some (0, 22) := by kernel_rfl
theorem ty_f25_1 : fieldOf Try.prog 25 1 = some (1, 23) := by kernel_rfl
theorem tY25 : (szOf Try.prog 25 = 2) ∧ (isSt Try.prog 25 = true) ∧ (isCell Try.prog 25 = false) ∧ (ckOf Try.prog 25 = [.sl 3, .sl 2]) ∧ (inf Try.prog 25 = some (some (.agg #[.slice none 0 0, .slice none 0 0]), 2, 48)) ∧ (colsOf Try.prog 8 25 = [.sl 70 3 [.cell, .cell, .cell], .sl 68 2 [.cell, .sl 5 1 [.cell]]]) ∧ (eqFlat Try.prog 25 = none) ∧ (fieldOf Try.prog 25 0 = some (0, 22)) ∧ (fieldOf Try.prog 25 1 = some (1, 23)) := ⟨ty_sz25, ty_st25, ty_cell25, ty_ck25, ty_inf25, ty_cols25, ty_eq25, ty_f25_0, ty_f25_1⟩
theorem ty_sz26 : szOf Try.prog 26 = 4 := by kernel_rfl
theorem ty_st26 : isSt Try.prog 26 = true := by kernel_rfl
theorem ty_cell26 : isCell Try.prog 26 = false := by kernel_rfl
theorem ty_ck26 : ckOf Try.prog 26 = [.int .i64, .int .i64, .int .i64, .int .i64] := by kernel_rfl
theorem ty_inf26 : inf Try.prog 26 = some (some (.agg #[.int .i64 0, .int .i64 0, .int .i64 0, .int .i64 0]), 4, 32) := by kernel_rfl
theorem ty_cols26 : colsOf Try.prog 8 26 = [.cell, .cell, .cell, .cell] := by kernel_rfl
theorem ty_eq26 : eqFlat Try.prog 26 = some [true, true, true, true] := by kernel_rfl
theorem ty_f26_0 : fieldOf Try.prog 26 0 = some (0, 3) := by kernel_rfl
theorem ty_f26_1 : fieldOf Try.prog 26 1 = some (1, 3) := by kernel_rfl
theorem ty_f26_2 : fieldOf Try.prog 26 2 = some (2, 3) := by kernel_rfl
theorem ty_f26_3 : fieldOf Try.prog 26 3 = some (3, 3) := by kernel_rfl
theorem tY26 : (szOf Try.prog 26 = 4) ∧ (isSt Try.prog 26 = true) ∧ (isCell Try.prog 26 = false) ∧ (ckOf Try.prog 26 = [.int .i64, .int .i64, .int .i64, .int .i64]) ∧ (inf Try.prog 26 = some (some (.agg #[.int .i64 0, .int .i64 0, .int .i64 0, .int .i64 0]), 4, 32)) ∧ (colsOf Try.prog 8 26 = [.cell, .cell, .cell, .cell]) ∧ (eqFlat Try.prog 26 = some [true, true, true, true]) ∧ (fieldOf Try.prog 26 0 = some (0, 3)) ∧ (fieldOf Try.prog 26 1 = some (1, 3)) ∧ (fieldOf Try.prog 26 2 = some (2, 3)) ∧ (fieldOf Try.prog 26 3 = some (3, 3)) := ⟨ty_sz26, ty_st26, ty_cell26, ty_ck26, ty_inf26, ty_cols26, ty_eq26, ty_f26_0, ty_f26_1, ty_f26_2, ty_f26_3⟩
theorem ty_sz27 : szOf Try.prog 27 = 4 := by kernel_rfl
theorem ty_st27 : isSt Try.prog 27 = true := by kernel_rfl
theorem ty_cell27 : isCell Try.prog 27 = false := by kernel_rfl
theorem ty_ck27 : ckOf Try.prog 27 = [.int .i64, .int .i64, .int .i64, .int .i64] := by kernel_rfl
theorem ty_inf27 : inf Try.prog 27 = some (some (.agg #[.int .i64 0, .int .i64 0, .int .i64 0, .int .i64 0]), 4, 32) := by kernel_rfl
theorem ty_cols27 : colsOf Try.prog 8 27 = [.cell, .cell, .cell, .cell] := by kernel_rfl
theorem ty_eq27 : eqFlat Try.prog 27 = some [true, true, true, true] := by kernel_rfl
theorem ty_f27_0 : fieldOf Try.prog 27 0 = some (0, 3) := by kernel_rfl
theorem ty_f27_1 : fieldOf Try.prog 27 1 = some (1, 3) := by kernel_rfl
theorem ty_f27_2 : fieldOf Try.prog 27 2 = some (2, 3) := by kernel_rfl
theorem ty_f27_3 : fieldOf Try.prog 27 3 = some (3, 3) := by kernel_rfl
theorem tY27 : (szOf Try.prog 27 = 4) ∧ (isSt Try.prog 27 = true) ∧ (isCell Try.prog 27 = false) ∧ (ckOf Try.prog 27 = [.int .i64, .int .i64, .int .i64, .int .i64]) ∧ (inf Try.prog 27 = some (some (.agg #[.int .i64 0, .int .i64 0, .int .i64 0, .int .i64 0]), 4, 32)) ∧ (colsOf Try.prog 8 27 = [.cell, .cell, .cell, .cell]) ∧ (eqFlat Try.prog 27 = some [true, true, true, true]) ∧ (fieldOf Try.prog 27 0 = some (0, 3)) ∧ (fieldOf Try.prog 27 1 = some (1, 3)) ∧ (fieldOf Try.prog 27 2 = some (2, 3)) ∧ (fieldOf Try.prog 27 3 = some (3, 3)) := ⟨ty_sz27, ty_st27, ty_cell27, ty_ck27, ty_inf27, ty_cols27, ty_eq27, ty_f27_0, ty_f27_1, ty_f27_2, ty_f27_3⟩
theorem ty_sz29 : szOf Try.prog 29 = 1 := by kernel_rfl
theorem ty_st29 : isSt Try.prog 29 = false := by kernel_rfl
theorem ty_cell29 : isCell Try.prog 29 = true := by kernel_rfl
theorem ty_ck29 : ckOf Try.prog 29 = [.sl 3] := by kernel_rfl
theorem ty_inf29 : inf Try.prog 29 = some (some (.slice none 0 0), 1, 24) := by kernel_rfl
theorem ty_cols29 : colsOf Try.prog 8 29 = [.sl 50 3 [.cell, .cell, .cell]] := by kernel_rfl
theorem tY29 : (szOf Try.prog 29 = 1) ∧ (isSt Try.prog 29 = false) ∧ (isCell Try.prog 29 = true) ∧ (ckOf Try.prog 29 = [.sl 3]) ∧ (inf Try.prog 29 = some (some (.slice none 0 0), 1, 24)) ∧ (colsOf Try.prog 8 29 = [.sl 50 3 [.cell, .cell, .cell]]) := ⟨ty_sz29, ty_st29, ty_cell29, ty_ck29, ty_inf29, ty_cols29⟩
theorem ty_sz30 : szOf Try.prog 30 = 1 := by kernel_rfl
theorem ty_st30 : isSt Try.prog 30 = false := by kernel_rfl
theorem ty_cell30 : isCell Try.prog 30 = true := by kernel_rfl
theorem ty_ck30 : ckOf Try.prog 30 = [.sl 2] := by kernel_rfl
theorem ty_inf30 : inf Try.prog 30 = some (some (.slice none 0 0), 1, 24) := by kernel_rfl
theorem ty_cols30 : colsOf Try.prog 8 30 = [.sl 53 2 [.cell, .sl 5 1 [.cell]]] := by kernel_rfl
theorem tY30 : (szOf Try.prog 30 = 1) ∧ (isSt Try.prog 30 = false) ∧ (isCell Try.prog 30 = true) ∧ (ckOf Try.prog 30 = [.sl 2]) ∧ (inf Try.prog 30 = some (some (.slice none 0 0), 1, 24)) ∧ (colsOf Try.prog 8 30 = [.sl 53 2 [.cell, .sl 5 1 [.cell]]]) := ⟨ty_sz30, ty_st30, ty_cell30, ty_ck30, ty_inf30, ty_cols30⟩
theorem ty_sz31 : szOf Try.prog 31 = 2 := by kernel_rfl
theorem ty_st31 : isSt Try.prog 31 = true := by kernel_rfl
theorem ty_cell31 : isCell Try.prog 31 = false := by kernel_rfl
theorem ty_ck31 : ckOf Try.prog 31 = [.sl 3, .sl 2] := by kernel_rfl
theorem ty_inf31 : inf Try.prog 31 = some (some (.agg #[.slice none 0 0, .slice none 0 0]), 2, 48) := by kernel_rfl
theorem ty_cols31 : colsOf Try.prog 8 31 = [.sl 50 3 [.cell, .cell, .cell], .sl 53 2 [.cell, .sl 5 1 [.cell]]] := by kernel_rfl
theorem ty_eq31 : eqFlat Try.prog 31 = none := by kernel_rfl
theorem ty_f31_0 : fieldOf Try.prog 31 0 = some (0, 29) := by kernel_rfl
theorem ty_f31_1 : fieldOf Try.prog 31 1 = some (1, 30) := by kernel_rfl
theorem tY31 : (szOf Try.prog 31 = 2) ∧ (isSt Try.prog 31 = true) ∧ (isCell Try.prog 31 = false) ∧ (ckOf Try.prog 31 = [.sl 3, .sl 2]) ∧ (inf Try.prog 31 = some (some (.agg #[.slice none 0 0, .slice none 0 0]), 2, 48)) ∧ (colsOf Try.prog 8 31 = [.sl 50 3 [.cell, .cell, .cell], .sl 53 2 [.cell, .sl 5 1 [.cell]]]) ∧ (eqFlat Try.prog 31 = none) ∧ (fieldOf Try.prog 31 0 = some (0, 29)) ∧ (fieldOf Try.prog 31 1 = some (1, 30)) := ⟨ty_sz31, ty_st31, ty_cell31, ty_ck31, ty_inf31, ty_cols31, ty_eq31, ty_f31_0, ty_f31_1⟩
theorem ty_sz32 : szOf Try.prog 32 = 2 := by kernel_rfl
theorem ty_st32 : isSt Try.prog 32 = true := by kernel_rfl
theorem ty_cell32 : isCell Try.prog 32 = false := by kernel_rfl
theorem ty_ck32 : ckOf Try.prog 32 = [.sl 3, .sl 2] := by kernel_rfl
theorem ty_inf32 : inf Try.prog 32 = some (some (.agg #[.slice none 0 0, .slice none 0 0]), 2, 48) := by kernel_rfl
theorem ty_cols32 : colsOf Try.prog 8 32 = [.sl 50 3 [.cell, .cell, .cell], .sl 53 2 [.cell, .sl 5 1 [.cell]]] := by kernel_rfl
theorem ty_eq32 : eqFlat Try.prog 32 = none := by kernel_rfl
theorem ty_f32_0 : fieldOf Try.prog 32 0 = some (0, 29) := by kernel_rfl
theorem ty_f32_1 : fieldOf Try.prog 32 1 = some (1, 30) := by kernel_rfl
theorem tY32 : (szOf Try.prog 32 = 2) ∧ (isSt Try.prog 32 = true) ∧ (isCell Try.prog 32 = false) ∧ (ckOf Try.prog 32 = [.sl 3, .sl 2]) ∧ (inf Try.prog 32 = some (some (.agg #[.slice none 0 0, .slice none 0 0]), 2, 48)) ∧ (colsOf Try.prog 8 32 = [.sl 50 3 [.cell, .cell, .cell], .sl 53 2 [.cell, .sl 5 1 [.cell]]]) ∧ (eqFlat Try.prog 32 = none) ∧ (fieldOf Try.prog 32 0 = some (0, 29)) ∧ (fieldOf Try.prog 32 1 = some (1, 30)) := ⟨ty_sz32, ty_st32, ty_cell32, ty_ck32, ty_inf32, ty_cols32, ty_eq32, ty_f32_0, ty_f32_1⟩
theorem ty_sz33 : szOf Try.prog 33 = 1 := by kernel_rfl
theorem ty_st33 : isSt Try.prog 33 = false := by kernel_rfl
theorem ty_cell33 : isCell Try.prog 33 = true := by kernel_rfl
theorem ty_ck33 : ckOf Try.prog 33 = [.sl 1] := by kernel_rfl
theorem ty_inf33 : inf Try.prog 33 = some (some (.slice none 0 0), 1, 24) := by kernel_rfl
theorem ty_cols33 : colsOf Try.prog 8 33 = [.sl 51 1 [.sl 5 1 [.cell]]] := by kernel_rfl
theorem tY33 : (szOf Try.prog 33 = 1) ∧ (isSt Try.prog 33 = false) ∧ (isCell Try.prog 33 = true) ∧ (ckOf Try.prog 33 = [.sl 1]) ∧ (inf Try.prog 33 = some (some (.slice none 0 0), 1, 24)) ∧ (colsOf Try.prog 8 33 = [.sl 51 1 [.sl 5 1 [.cell]]]) := ⟨ty_sz33, ty_st33, ty_cell33, ty_ck33, ty_inf33, ty_cols33⟩
theorem ty_sz37 : szOf Try.prog 37 = 4 := by kernel_rfl
theorem ty_st37 : isSt Try.prog 37 = true := by kernel_rfl
theorem ty_cell37 : isCell Try.prog 37 = false := by kernel_rfl
theorem ty_ck37 : ckOf Try.prog 37 = [.int .i64, .int .i64, .int .i64, .int .i64] := by kernel_rfl
theorem ty_inf37 : inf Try.prog 37 = some (some (.agg #[.int .i64 0, .int .i64 0, .int .i64 0, .int .i64 0]), 4, 32) := by kernel_rfl
theorem ty_cols37 : colsOf Try.prog 8 37 = [.cell, .cell, .cell, .cell] := by kernel_rfl
theorem ty_eq37 : eqFlat Try.prog 37 = some [true, true, true, true] := by kernel_rfl
theorem ty_f37_0 : fieldOf Try.prog 37 0 = some (0, 3) := by kernel_rfl
theorem ty_f37_1 : fieldOf Try.prog 37 1 = some (1, 3) := by kernel_rfl
theorem ty_f37_2 : fieldOf Try.prog 37 2 = some (2, 3) := by kernel_rfl
theorem ty_f37_3 : fieldOf Try.prog 37 3 = some (3, 3) := by kernel_rfl
theorem tY37 : (szOf Try.prog 37 = 4) ∧ (isSt Try.prog 37 = true) ∧ (isCell Try.prog 37 = false) ∧ (ckOf Try.prog 37 = [.int .i64, .int .i64, .int .i64, .int .i64]) ∧ (inf Try.prog 37 = some (some (.agg #[.int .i64 0, .int .i64 0, .int .i64 0, .int .i64 0]), 4, 32)) ∧ (colsOf Try.prog 8 37 = [.cell, .cell, .cell, .cell]) ∧ (eqFlat Try.prog 37 = some [true, true, true, true]) ∧ (fieldOf Try.prog 37 0 = some (0, 3)) ∧ (fieldOf Try.prog 37 1 = some (1, 3)) ∧ (fieldOf Try.prog 37 2 = some (2, 3)) ∧ (fieldOf Try.prog 37 3 = some (3, 3)) := ⟨ty_sz37, ty_st37, ty_cell37, ty_ck37, ty_inf37, ty_cols37, ty_eq37, ty_f37_0, ty_f37_1, ty_f37_2, ty_f37_3⟩
theorem ty_sz49 : szOf Try.prog 49 = 3 := by kernel_rfl
theorem ty_st49 : isSt Try.prog 49 = true := by kernel_rfl
theorem ty_cell49 : isCell Try.prog 49 = false := by kernel_rfl
theorem ty_ck49 : ckOf Try.prog 49 = [.int .i64, .int .i64, .int .i64] := by kernel_rfl
theorem ty_inf49 : inf Try.prog 49 = some (some (.agg #[.int .i64 0, .int .i64 0, .int .i64 0]), 3, 24) := by kernel_rfl
theorem ty_cols49 : colsOf Try.prog 8 49 = [.cell, .cell, .cell] := by kernel_rfl
theorem ty_eq49 : eqFlat Try.prog 49 = some [true, true, true] := by kernel_rfl
theorem ty_f49_0 : fieldOf Try.prog 49 0 = some (0, 3) := by kernel_rfl
theorem ty_f49_1 : fieldOf Try.prog 49 1 = some (1, 3) := by kernel_rfl
theorem ty_f49_2 : fieldOf Try.prog 49 2 = some (2, 3) := by kernel_rfl
theorem tY49 : (szOf Try.prog 49 = 3) ∧ (isSt Try.prog 49 = true) ∧ (isCell Try.prog 49 = false) ∧ (ckOf Try.prog 49 = [.int .i64, .int .i64, .int .i64]) ∧ (inf Try.prog 49 = some (some (.agg #[.int .i64 0, .int .i64 0, .int .i64 0]), 3, 24)) ∧ (colsOf Try.prog 8 49 = [.cell, .cell, .cell]) ∧ (eqFlat Try.prog 49 = some [true, true, true]) ∧ (fieldOf Try.prog 49 0 = some (0, 3)) ∧ (fieldOf Try.prog 49 1 = some (1, 3)) ∧ (fieldOf Try.prog 49 2 = some (2, 3)) := ⟨ty_sz49, ty_st49, ty_cell49, ty_ck49, ty_inf49, ty_cols49, ty_eq49, ty_f49_0, ty_f49_1, ty_f49_2⟩
theorem ty_sz50 : szOf Try.prog 50 = 3 := by kernel_rfl
theorem ty_st50 : isSt Try.prog 50 = true := by kernel_rfl
theorem ty_cell50 : isCell Try.prog 50 = false := by kernel_rfl
theorem ty_ck50 : ckOf Try.prog 50 = [.int .i64, .int .i64, .int .i64] := by kernel_rfl
theorem ty_inf50 : inf Try.prog 50 = some (some (.agg #[.int .i64 0, .int .i64 0, .int .i64 0]), 3, 24) := by kernel_rfl
theorem ty_cols50 : colsOf Try.prog 8 50 = [.cell, .cell, .cell] := by kernel_rfl
theorem ty_eq50 : eqFlat Try.prog 50 = some [true, true, true] := by kernel_rfl
theorem ty_f50_0 : fieldOf Try.prog 50 0 = some (0, 3) := by kernel_rfl
theorem ty_f50_1 : fieldOf Try.prog 50 1 = some (1, 3) := by kernel_rfl
theorem ty_f50_2 : fieldOf Try.prog 50 2 = some (2, 3) := by kernel_rfl
theorem tY50 : (szOf Try.prog 50 = 3) ∧ (isSt Try.prog 50 = true) ∧ (isCell Try.prog 50 = false) ∧ (ckOf Try.prog 50 = [.int .i64, .int .i64, .int .i64]) ∧ (inf Try.prog 50 = some (some (.agg #[.int .i64 0, .int .i64 0, .int .i64 0]), 3, 24)) ∧ (colsOf Try.prog 8 50 = [.cell, .cell, .cell]) ∧ (eqFlat Try.prog 50 = some [true, true, true]) ∧ (fieldOf Try.prog 50 0 = some (0, 3)) ∧ (fieldOf Try.prog 50 1 = some (1, 3)) ∧ (fieldOf Try.prog 50 2 = some (2, 3)) := ⟨ty_sz50, ty_st50, ty_cell50, ty_ck50, ty_inf50, ty_cols50, ty_eq50, ty_f50_0, ty_f50_1, ty_f50_2⟩
theorem ty_sz51 : szOf Try.prog 51 = 1 := by kernel_rfl
theorem ty_st51 : isSt Try.prog 51 = false := by kernel_rfl
theorem ty_cell51 : isCell Try.prog 51 = true := by kernel_rfl
theorem ty_ck51 : ckOf Try.prog 51 = [.sl 1] := by kernel_rfl
theorem ty_inf51 : inf Try.prog 51 = some (some (.slice none 0 0), 1, 24) := by kernel_rfl
theorem ty_cols51 : colsOf Try.prog 8 51 = [.sl 5 1 [.cell]] := by kernel_rfl
theorem tY51 : (szOf Try.prog 51 = 1) ∧ (isSt Try.prog 51 = false) ∧ (isCell Try.prog 51 = true) ∧ (ckOf Try.prog 51 = [.sl 1]) ∧ (inf Try.prog 51 = some (some (.slice none 0 0), 1, 24)) ∧ (colsOf Try.prog 8 51 = [.sl 5 1 [.cell]]) := ⟨ty_sz51, ty_st51, ty_cell51, ty_ck51, ty_inf51, ty_cols51⟩
theorem ty_sz52 : szOf Try.prog 52 = 2 := by kernel_rfl
theorem ty_st52 : isSt Try.prog 52 = true := by kernel_rfl
theorem ty_cell52 : isCell Try.prog 52 = false := by kernel_rfl
theorem ty_ck52 : ckOf Try.prog 52 = [.int .i64, .sl 1] := by kernel_rfl
theorem ty_inf52 : inf Try.prog 52 = some (some (.agg #[.int .i64 0, .slice none 0 0]), 2, 32) := by kernel_rfl
theorem ty_cols52 : colsOf Try.prog 8 52 = [.cell, .sl 5 1 [.cell]] := by kernel_rfl
theorem ty_eq52 : eqFlat Try.prog 52 = none := by kernel_rfl
theorem ty_f52_0 : fieldOf Try.prog 52 0 = some (0, 3) := by kernel_rfl
theorem ty_f52_1 : fieldOf Try.prog 52 1 = some (1, 51) := by kernel_rfl
theorem tY52 : (szOf Try.prog 52 = 2) ∧ (isSt Try.prog 52 = true) ∧ (isCell Try.prog 52 = false) ∧ (ckOf Try.prog 52 = [.int .i64, .sl 1]) ∧ (inf Try.prog 52 = some (some (.agg #[.int .i64 0, .slice none 0 0]), 2, 32)) ∧ (colsOf Try.prog 8 52 = [.cell, .sl 5 1 [.cell]]) ∧ (eqFlat Try.prog 52 = none) ∧ (fieldOf Try.prog 52 0 = some (0, 3)) ∧ (fieldOf Try.prog 52 1 = some (1, 51)) := ⟨ty_sz52, ty_st52, ty_cell52, ty_ck52, ty_inf52, ty_cols52, ty_eq52, ty_f52_0, ty_f52_1⟩
theorem ty_sz53 : szOf Try.prog 53 = 2 := by kernel_rfl
theorem ty_st53 : isSt Try.prog 53 = true := by kernel_rfl
theorem ty_cell53 : isCell Try.prog 53 = false := by kernel_rfl
theorem ty_ck53 : ckOf Try.prog 53 = [.int .i64, .sl 1] := by kernel_rfl
theorem ty_inf53 : inf Try.prog 53 = some (some (.agg #[.int .i64 0, .slice none 0 0]), 2, 32) := by kernel_rfl
theorem ty_cols53 : colsOf Try.prog 8 53 = [.cell, .sl 5 1 [.cell]] := by kernel_rfl
theorem ty_eq53 : eqFlat Try.prog 53 = none := by kernel_rfl
theorem ty_f53_0 : fieldOf Try.prog 53 0 = some (0, 3) := by kernel_rfl
theorem ty_f53_1 : fieldOf Try.prog 53 1 = some (1, 51) := by kernel_rfl
theorem tY53 : (szOf Try.prog 53 = 2) ∧ (isSt Try.prog 53 = true) ∧ (isCell Try.prog 53 = false) ∧ (ckOf Try.prog 53 = [.int .i64, .sl 1]) ∧ (inf Try.prog 53 = some (some (.agg #[.int .i64 0, .slice none 0 0]), 2, 32)) ∧ (colsOf Try.prog 8 53 = [.cell, .sl 5 1 [.cell]]) ∧ (eqFlat Try.prog 53 = none) ∧ (fieldOf Try.prog 53 0 = some (0, 3)) ∧ (fieldOf Try.prog 53 1 = some (1, 51)) := ⟨ty_sz53, ty_st53, ty_cell53, ty_ck53, ty_inf53, ty_cols53, ty_eq53, ty_f53_0, ty_f53_1⟩
theorem ty_sz68 : szOf Try.prog 68 = 2 := by kernel_rfl
theorem ty_st68 : isSt Try.prog 68 = true := by kernel_rfl
theorem ty_cell68 : isCell Try.prog 68 = false := by kernel_rfl
theorem ty_ck68 : ckOf Try.prog 68 = [.int .i64, .sl 1] := by kernel_rfl
theorem ty_inf68 : inf Try.prog 68 = some (some (.agg #[.int .i64 0, .slice none 0 0]), 2, 32) := by kernel_rfl
theorem ty_cols68 : colsOf Try.prog 8 68 = [.cell, .sl 5 1 [.cell]] := by kernel_rfl
theorem ty_eq68 : eqFlat Try.prog 68 = none := by kernel_rfl
theorem ty_f68_0 : fieldOf Try.prog 68 0 = some (0, 3) := by kernel_rfl
theorem ty_f68_1 : fieldOf Try.prog 68 1 = some (1, 51) := by kernel_rfl
theorem tY68 : (szOf Try.prog 68 = 2) ∧ (isSt Try.prog 68 = true) ∧ (isCell Try.prog 68 = false) ∧ (ckOf Try.prog 68 = [.int .i64, .sl 1]) ∧ (inf Try.prog 68 = some (some (.agg #[.int .i64 0, .slice none 0 0]), 2, 32)) ∧ (colsOf Try.prog 8 68 = [.cell, .sl 5 1 [.cell]]) ∧ (eqFlat Try.prog 68 = none) ∧ (fieldOf Try.prog 68 0 = some (0, 3)) ∧ (fieldOf Try.prog 68 1 = some (1, 51)) := ⟨ty_sz68, ty_st68, ty_cell68, ty_ck68, ty_inf68, ty_cols68, ty_eq68, ty_f68_0, ty_f68_1⟩
theorem ty_sz70 : szOf Try.prog 70 = 3 := by kernel_rfl
theorem ty_st70 : isSt Try.prog 70 = true := by kernel_rfl
theorem ty_cell70 : isCell Try.prog 70 = false := by kernel_rfl
theorem ty_ck70 : ckOf Try.prog 70 = [.int .i64, .int .i64, .int .i64] := by kernel_rfl
theorem ty_inf70 : inf Try.prog 70 = some (some (.agg #[.int .i64 0, .int .i64 0, .int .i64 0]), 3, 24) := by kernel_rfl
theorem ty_cols70 : colsOf Try.prog 8 70 = [.cell, .cell, .cell] := by kernel_rfl
theorem ty_eq70 : eqFlat Try.prog 70 = some [true, true, true] := by kernel_rfl
theorem ty_f70_0 : fieldOf Try.prog 70 0 = some (0, 3) := by kernel_rfl
theorem ty_f70_1 : fieldOf Try.prog 70 1 = some (1, 3) := by kernel_rfl
theorem ty_f70_2 : fieldOf Try.prog 70 2 = some (2, 3) := by kernel_rfl
theorem tY70 : (szOf Try.prog 70 = 3) ∧ (isSt Try.prog 70 = true) ∧ (isCell Try.prog 70 = false) ∧ (ckOf Try.prog 70 = [.int .i64, .int .i64, .int .i64]) ∧ (inf Try.prog 70 = some (some (.agg #[.int .i64 0, .int .i64 0, .int .i64 0]), 3, 24)) ∧ (colsOf Try.prog 8 70 = [.cell, .cell, .cell]) ∧ (eqFlat Try.prog 70 = some [true, true, true]) ∧ (fieldOf Try.prog 70 0 = some (0, 3)) ∧ (fieldOf Try.prog 70 1 = some (1, 3)) ∧ (fieldOf Try.prog 70 2 = some (2, 3)) := ⟨ty_sz70, ty_st70, ty_cell70, ty_ck70, ty_inf70, ty_cols70, ty_eq70, ty_f70_0, ty_f70_1, ty_f70_2⟩
theorem ty_sz87 : szOf Try.prog 87 = 1 := by kernel_rfl
theorem ty_st87 : isSt Try.prog 87 = false := by kernel_rfl
theorem ty_cell87 : isCell Try.prog 87 = true := by kernel_rfl
theorem ty_ck87 : ckOf Try.prog 87 = [.int .u32] := by kernel_rfl
theorem ty_inf87 : inf Try.prog 87 = some (some (.int .u32 0), 1, 4) := by kernel_rfl
theorem ty_cols87 : colsOf Try.prog 8 87 = [.cell] := by kernel_rfl
theorem tY87 : (szOf Try.prog 87 = 1) ∧ (isSt Try.prog 87 = false) ∧ (isCell Try.prog 87 = true) ∧ (ckOf Try.prog 87 = [.int .u32]) ∧ (inf Try.prog 87 = some (some (.int .u32 0), 1, 4)) ∧ (colsOf Try.prog 8 87 = [.cell]) := ⟨ty_sz87, ty_st87, ty_cell87, ty_ck87, ty_inf87, ty_cols87⟩
theorem ty_sz96 : szOf Try.prog 96 = 1 := by kernel_rfl
theorem ty_st96 : isSt Try.prog 96 = false := by kernel_rfl
theorem ty_cell96 : isCell Try.prog 96 = true := by kernel_rfl
theorem ty_ck96 : ckOf Try.prog 96 = [.other] := by kernel_rfl
theorem ty_inf96 : inf Try.prog 96 = some (some (.pointer none), 1, 8) := by kernel_rfl
theorem ty_cols96 : colsOf Try.prog 8 96 = [.cell] := by kernel_rfl
theorem tY96 : (szOf Try.prog 96 = 1) ∧ (isSt Try.prog 96 = false) ∧ (isCell Try.prog 96 = true) ∧ (ckOf Try.prog 96 = [.other]) ∧ (inf Try.prog 96 = some (some (.pointer none), 1, 8)) ∧ (colsOf Try.prog 8 96 = [.cell]) := ⟨ty_sz96, ty_st96, ty_cell96, ty_ck96, ty_inf96, ty_cols96⟩
end Go.Proofs.Ytheikjkfffepnaa
