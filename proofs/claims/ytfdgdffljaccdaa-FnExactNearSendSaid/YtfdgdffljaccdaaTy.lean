/-
  What the evaluation asks of the types of this seat: closed facts on the program's table. By a tool.
-/
import Derived.Test.YtfdgdffljaccdaaR1
namespace Go.Proofs.Ytfdgdffljaccdaa
theorem ty_sz2 : szOf Try.prog 2 = 1 := by kernel_rfl
theorem ty_st2 : isSt Try.prog 2 = false := by kernel_rfl
theorem ty_cell2 : isCell Try.prog 2 = true := by kernel_rfl
theorem ty_ck2 : ckOf Try.prog 2 = [.int .i64] := by kernel_rfl
theorem ty_inf2 : inf Try.prog 2 = some (some (.int .i64 0), 1, 8) := by kernel_rfl
theorem ty_cols2 : colsOf Try.prog 8 2 = [.cell] := by kernel_rfl
theorem tY2 : (szOf Try.prog 2 = 1) ∧ (isSt Try.prog 2 = false) ∧ (isCell Try.prog 2 = true) ∧ (ckOf Try.prog 2 = [.int .i64]) ∧ (inf Try.prog 2 = some (some (.int .i64 0), 1, 8)) ∧ (colsOf Try.prog 8 2 = [.cell]) := ⟨ty_sz2, ty_st2, ty_cell2, ty_ck2, ty_inf2, ty_cols2⟩
theorem ty_sz3 : szOf Try.prog 3 = 1 := by kernel_rfl
theorem ty_st3 : isSt Try.prog 3 = false := by kernel_rfl
theorem ty_cell3 : isCell Try.prog 3 = true := by kernel_rfl
theorem ty_ck3 : ckOf Try.prog 3 = [.int .i64] := by kernel_rfl
theorem ty_inf3 : inf Try.prog 3 = some (some (.int .i64 0), 1, 8) := by kernel_rfl
theorem ty_cols3 : colsOf Try.prog 8 3 = [.cell] := by kernel_rfl
theorem tY3 : (szOf Try.prog 3 = 1) ∧ (isSt Try.prog 3 = false) ∧ (isCell Try.prog 3 = true) ∧ (ckOf Try.prog 3 = [.int .i64]) ∧ (inf Try.prog 3 = some (some (.int .i64 0), 1, 8)) ∧ (colsOf Try.prog 8 3 = [.cell]) := ⟨ty_sz3, ty_st3, ty_cell3, ty_ck3, ty_inf3, ty_cols3⟩
theorem ty_sz4 : szOf Try.prog 4 = 1 := by kernel_rfl
theorem ty_st4 : isSt Try.prog 4 = false := by kernel_rfl
theorem ty_cell4 : isCell Try.prog 4 = true := by kernel_rfl
theorem ty_ck4 : ckOf Try.prog 4 = [.bool] := by kernel_rfl
theorem ty_inf4 : inf Try.prog 4 = some (some (.bool false), 1, 1) := by kernel_rfl
theorem ty_cols4 : colsOf Try.prog 8 4 = [.cell] := by kernel_rfl
theorem tY4 : (szOf Try.prog 4 = 1) ∧ (isSt Try.prog 4 = false) ∧ (isCell Try.prog 4 = true) ∧ (ckOf Try.prog 4 = [.bool]) ∧ (inf Try.prog 4 = some (some (.bool false), 1, 1)) ∧ (colsOf Try.prog 8 4 = [.cell]) := ⟨ty_sz4, ty_st4, ty_cell4, ty_ck4, ty_inf4, ty_cols4⟩
theorem ty_sz5 : szOf Try.prog 5 = 1 := by kernel_rfl
theorem ty_st5 : isSt Try.prog 5 = false := by kernel_rfl
theorem ty_cell5 : isCell Try.prog 5 = true := by kernel_rfl
theorem ty_ck5 : ckOf Try.prog 5 = [.int .u8] := by kernel_rfl
theorem ty_inf5 : inf Try.prog 5 = some (some (.int .u8 0), 1, 1) := by kernel_rfl
theorem ty_cols5 : colsOf Try.prog 8 5 = [.cell] := by kernel_rfl
theorem tY5 : (szOf Try.prog 5 = 1) ∧ (isSt Try.prog 5 = false) ∧ (isCell Try.prog 5 = true) ∧ (ckOf Try.prog 5 = [.int .u8]) ∧ (inf Try.prog 5 = some (some (.int .u8 0), 1, 1)) ∧ (colsOf Try.prog 8 5 = [.cell]) := ⟨ty_sz5, ty_st5, ty_cell5, ty_ck5, ty_inf5, ty_cols5⟩
theorem ty_sz9 : szOf Try.prog 9 = 1 := by kernel_rfl
theorem ty_st9 : isSt Try.prog 9 = false := by kernel_rfl
theorem ty_cell9 : isCell Try.prog 9 = true := by kernel_rfl
theorem ty_ck9 : ckOf Try.prog 9 = [.str] := by kernel_rfl
theorem ty_inf9 : inf Try.prog 9 = some (some (.string .empty), 1, 16) := by kernel_rfl
theorem ty_cols9 : colsOf Try.prog 8 9 = [.cell] := by kernel_rfl
theorem tY9 : (szOf Try.prog 9 = 1) ∧ (isSt Try.prog 9 = false) ∧ (isCell Try.prog 9 = true) ∧ (ckOf Try.prog 9 = [.str]) ∧ (inf Try.prog 9 = some (some (.string .empty), 1, 16)) ∧ (colsOf Try.prog 8 9 = [.cell]) := ⟨ty_sz9, ty_st9, ty_cell9, ty_ck9, ty_inf9, ty_cols9⟩
theorem ty_sz12 : szOf Try.prog 12 = 1 := by kernel_rfl
theorem ty_st12 : isSt Try.prog 12 = false := by kernel_rfl
theorem ty_cell12 : isCell Try.prog 12 = true := by kernel_rfl
theorem ty_ck12 : ckOf Try.prog 12 = [.int .u64] := by kernel_rfl
theorem ty_inf12 : inf Try.prog 12 = some (some (.int .u64 0), 1, 8) := by kernel_rfl
theorem ty_cols12 : colsOf Try.prog 8 12 = [.cell] := by kernel_rfl
theorem tY12 : (szOf Try.prog 12 = 1) ∧ (isSt Try.prog 12 = false) ∧ (isCell Try.prog 12 = true) ∧ (ckOf Try.prog 12 = [.int .u64]) ∧ (inf Try.prog 12 = some (some (.int .u64 0), 1, 8)) ∧ (colsOf Try.prog 8 12 = [.cell]) := ⟨ty_sz12, ty_st12, ty_cell12, ty_ck12, ty_inf12, ty_cols12⟩
theorem ty_sz21 : szOf Try.prog 21 = 1 := by kernel_rfl
theorem ty_st21 : isSt Try.prog 21 = false := by kernel_rfl
theorem ty_cell21 : isCell Try.prog 21 = true := by kernel_rfl
theorem ty_ck21 : ckOf Try.prog 21 = [.int .i32] := by kernel_rfl
theorem ty_inf21 : inf Try.prog 21 = some (some (.int .i32 0), 1, 4) := by kernel_rfl
theorem ty_cols21 : colsOf Try.prog 8 21 = [.cell] := by kernel_rfl
theorem tY21 : (szOf Try.prog 21 = 1) ∧ (isSt Try.prog 21 = false) ∧ (isCell Try.prog 21 = true) ∧ (ckOf Try.prog 21 = [.int .i32]) ∧ (inf Try.prog 21 = some (some (.int .i32 0), 1, 4)) ∧ (colsOf Try.prog 8 21 = [.cell]) := ⟨ty_sz21, ty_st21, ty_cell21, ty_ck21, ty_inf21, ty_cols21⟩
theorem ty_sz22 : szOf Try.prog 22 = 1 := by kernel_rfl
theorem ty_st22 : isSt Try.prog 22 = false := by kernel_rfl
theorem ty_cell22 : isCell Try.prog 22 = true := by kernel_rfl
theorem ty_ck22 : ckOf Try.prog 22 = [.sl 1] := by kernel_rfl
theorem ty_inf22 : inf Try.prog 22 = some (some (.slice none 0 0), 1, 24) := by kernel_rfl
theorem ty_cols22 : colsOf Try.prog 8 22 = [.sl 5 1 [.cell]] := by kernel_rfl
theorem tY22 : (szOf Try.prog 22 = 1) ∧ (isSt Try.prog 22 = false) ∧ (isCell Try.prog 22 = true) ∧ (ckOf Try.prog 22 = [.sl 1]) ∧ (inf Try.prog 22 = some (some (.slice none 0 0), 1, 24)) ∧ (colsOf Try.prog 8 22 = [.sl 5 1 [.cell]]) := ⟨ty_sz22, ty_st22, ty_cell22, ty_ck22, ty_inf22, ty_cols22⟩
theorem ty_sz23 : szOf Try.prog 23 = 1 := by kernel_rfl
theorem ty_st23 : isSt Try.prog 23 = false := by kernel_rfl
theorem ty_cell23 : isCell Try.prog 23 = true := by kernel_rfl
theorem ty_ck23 : ckOf Try.prog 23 = [.sl 3] := by kernel_rfl
theorem ty_inf23 : inf Try.prog 23 = some (some (.slice none 0 0), 1, 24) := by kernel_rfl
theorem ty_cols23 : colsOf Try.prog 8 23 = [.sl 74 3 [.cell, .cell, .cell]] := by kernel_rfl
theorem tY23 : (szOf Try.prog 23 = 1) ∧ (isSt Try.prog 23 = false) ∧ (isCell Try.prog 23 = true) ∧ (ckOf Try.prog 23 = [.sl 3]) ∧ (inf Try.prog 23 = some (some (.slice none 0 0), 1, 24)) ∧ (colsOf Try.prog 8 23 = [.sl 74 3 [.cell, .cell, .cell]]) := ⟨ty_sz23, ty_st23, ty_cell23, ty_ck23, ty_inf23, ty_cols23⟩
theorem ty_sz24 : szOf Try.prog 24 = 1 := by kernel_rfl
theorem ty_st24 : isSt Try.prog 24 = false := by kernel_rfl
theorem ty_cell24 : isCell Try.prog 24 = true := by kernel_rfl
theorem ty_ck24 : ckOf Try.prog 24 = [.sl 2] := by kernel_rfl
theorem ty_inf24 : inf Try.prog 24 = some (some (.slice none 0 0), 1, 24) := by kernel_rfl
theorem ty_cols24 : colsOf Try.prog 8 24 = [.sl 40 2 [.cell, .sl 5 1 [.cell]]] := by kernel_rfl
theorem tY24 : (szOf Try.prog 24 = 1) ∧ (isSt Try.prog 24 = false) ∧ (isCell Try.prog 24 = true) ∧ (ckOf Try.prog 24 = [.sl 2]) ∧ (inf Try.prog 24 = some (some (.slice none 0 0), 1, 24)) ∧ (colsOf Try.prog 8 24 = [.sl 40 2 [.cell, .sl 5 1 [.cell]]]) := ⟨ty_sz24, ty_st24, ty_cell24, ty_ck24, ty_inf24, ty_cols24⟩
theorem ty_sz25 : szOf Try.prog 25 = 2 := by kernel_rfl
theorem ty_st25 : isSt Try.prog 25 = true := by kernel_rfl
theorem ty_cell25 : isCell Try.prog 25 = false := by kernel_rfl
theorem ty_ck25 : ckOf Try.prog 25 = [.sl 3, .sl 2] := by kernel_rfl
theorem ty_inf25 : inf Try.prog 25 = some (some (.agg #[.slice none 0 0, .slice none 0 0]), 2, 48) := by kernel_rfl
theorem ty_cols25 : colsOf Try.prog 8 25 = [.sl 74 3 [.cell, .cell, .cell], .sl 40 2 [.cell, .sl 5 1 [.cell]]] := by kernel_rfl
theorem ty_eq25 : eqFlat Try.prog 25 = none := by kernel_rfl
theorem ty_f25_0 : fieldOf Try.prog 25 0 = some (0, 23) := by kernel_rfl
theorem ty_f25_1 : fieldOf Try.prog 25 1 = some (1, 24) := by kernel_rfl
theorem tY25 : (szOf Try.prog 25 = 2) ∧ (isSt Try.prog 25 = true) ∧ (isCell Try.prog 25 = false) ∧ (ckOf Try.prog 25 = [.sl 3, .sl 2]) ∧ (inf Try.prog 25 = some (some (.agg #[.slice none 0 0, .slice none 0 0]), 2, 48)) ∧ (colsOf Try.prog 8 25 = [.sl 74 3 [.cell, .cell, .cell], .sl 40 2 [.cell, .sl 5 1 [.cell]]]) ∧ (eqFlat Try.prog 25 = none) ∧ (fieldOf Try.prog 25 0 = some (0, 23)) ∧ (fieldOf Try.prog 25 1 = some (1, 24)) := ⟨ty_sz25, ty_st25, ty_cell25, ty_ck25, ty_inf25, ty_cols25, ty_eq25, ty_f25_0, ty_f25_1⟩
theorem ty_sz26 : szOf Try.prog 26 = 2 := by kernel_rfl
theorem ty_st26 : isSt Try.prog 26 = true := by kernel_rfl
theorem ty_cell26 : isCell Try.prog 26 = false := by kernel_rfl
theorem ty_ck26 : ckOf Try.prog 26 = [.sl 3, .sl 2] := by kernel_rfl
theorem ty_inf26 : inf Try.prog 26 = some (some (.agg #[.slice none 0 0, .slice none 0 0]), 2, 48) := by kernel_rfl
theorem ty_cols26 : colsOf Try.prog 8 26 = [.sl 74 3 [.cell, .cell, .cell], .sl 40 2 [.cell, .sl 5 1 [.cell]]] := by kernel_rfl
theorem ty_eq26 : eqFlat Try.prog 26 = none := by kernel_rfl
theorem ty_f26_0 : fieldOf Try.prog 26 0 = some (0, 23) := by kernel_rfl
theorem ty_f26_1 : fieldOf Try.prog 26 1 = some (1, 24) := by kernel_rfl
theorem tY26 : (szOf Try.prog 26 = 2) ∧ (isSt Try.prog 26 = true) ∧ (isCell Try.prog 26 = false) ∧ (ckOf Try.prog 26 = [.sl 3, .sl 2]) ∧ (inf Try.prog 26 = some (some (.agg #[.slice none 0 0, .slice none 0 0]), 2, 48)) ∧ (colsOf Try.prog 8 26 = [.sl 74 3 [.cell, .cell, .cell], .sl 40 2 [.cell, .sl 5 1 [.cell]]]) ∧ (eqFlat Try.prog 26 = none) ∧ (fieldOf Try.prog 26 0 = some (0, 23)) ∧ (fieldOf Try.prog 26 1 = some (1, 24)) := ⟨ty_sz26, ty_st26, ty_cell26, ty_ck26, ty_inf26, ty_cols26, ty_eq26, ty_f26_0, ty_f26_1⟩
theorem ty_sz39 : szOf Try.prog 39 = 2 := by kernel_rfl
theorem ty_st39 : isSt Try.prog 39 = true := by kernel_rfl
theorem ty_cell39 : isCell Try.prog 39 = false := by kernel_rfl
theorem ty_ck39 : ckOf Try.prog 39 = [.int .i64, .sl 1] := by kernel_rfl
theorem ty_inf39 : inf Try.prog 39 = some (some (.agg #[.int .i64 0, .slice none 0 0]), 2, 32) := by kernel_rfl
theorem ty_cols39 : colsOf Try.prog 8 39 = [.cell, .sl 5 1 [.cell]] := by kernel_rfl
theorem ty_eq39 : eqFlat Try.prog 39 = none := by kernel_rfl
theorem ty_f39_0 : fieldOf Try.prog 39 0 = some (0, 3) := by kernel_rfl
theorem ty_f39_1 : fieldOf Try.prog 39 1 = some (1, 22) := by kernel_rfl
theorem tY39 : (szOf Try.prog 39 = 2) ∧ (isSt Try.prog 39 = true) ∧ (isCell Try.prog 39 = false) ∧ (ckOf Try.prog 39 = [.int .i64, .sl 1]) ∧ (inf Try.prog 39 = some (some (.agg #[.int .i64 0, .slice none 0 0]), 2, 32)) ∧ (colsOf Try.prog 8 39 = [.cell, .sl 5 1 [.cell]]) ∧ (eqFlat Try.prog 39 = none) ∧ (fieldOf Try.prog 39 0 = some (0, 3)) ∧ (fieldOf Try.prog 39 1 = some (1, 22)) := ⟨ty_sz39, ty_st39, ty_cell39, ty_ck39, ty_inf39, ty_cols39, ty_eq39, ty_f39_0, ty_f39_1⟩
theorem ty_sz40 : szOf Try.prog 40 = 2 := by kernel_rfl
theorem ty_st40 : isSt Try.prog 40 = true := by kernel_rfl
theorem ty_cell40 : isCell Try.prog 40 = false := by kernel_rfl
theorem ty_ck40 : ckOf Try.prog 40 = [.int .i64, .sl 1] := by kernel_rfl
theorem ty_inf40 : inf Try.prog 40 = some (some (.agg #[.int .i64 0, .slice none 0 0]), 2, 32) := by kernel_rfl
theorem ty_cols40 : colsOf Try.prog 8 40 = [.cell, .sl 5 1 [.cell]] := by kernel_rfl
theorem ty_eq40 : eqFlat Try.prog 40 = none := by kernel_rfl
theorem ty_f40_0 : fieldOf Try.prog 40 0 = some (0, 3) := by kernel_rfl
theorem ty_f40_1 : fieldOf Try.prog 40 1 = some (1, 22) := by kernel_rfl
theorem tY40 : (szOf Try.prog 40 = 2) ∧ (isSt Try.prog 40 = true) ∧ (isCell Try.prog 40 = false) ∧ (ckOf Try.prog 40 = [.int .i64, .sl 1]) ∧ (inf Try.prog 40 = some (some (.agg #[.int .i64 0, .slice none 0 0]), 2, 32)) ∧ (colsOf Try.prog 8 40 = [.cell, .sl 5 1 [.cell]]) ∧ (eqFlat Try.prog 40 = none) ∧ (fieldOf Try.prog 40 0 = some (0, 3)) ∧ (fieldOf Try.prog 40 1 = some (1, 22)) := ⟨ty_sz40, ty_st40, ty_cell40, ty_ck40, ty_inf40, ty_cols40, ty_eq40, ty_f40_0, ty_f40_1⟩
theorem ty_sz42 : szOf Try.prog 42 = 4 := by kernel_rfl
theorem ty_st42 : isSt Try.prog 42 = true := by kernel_rfl
theorem ty_cell42 : isCell Try.prog 42 = false := by kernel_rfl
theorem ty_ck42 : ckOf Try.prog 42 = [.int .i64, .int .i64, .int .i64, .int .i64] := by kernel_rfl
theorem ty_inf42 : inf Try.prog 42 = some (some (.agg #[.int .i64 0, .int .i64 0, .int .i64 0, .int .i64 0]), 4, 32) := by kernel_rfl
theorem ty_cols42 : colsOf Try.prog 8 42 = [.cell, .cell, .cell, .cell] := by kernel_rfl
theorem ty_eq42 : eqFlat Try.prog 42 = some [true, true, true, true] := by kernel_rfl
theorem ty_f42_0 : fieldOf Try.prog 42 0 = some (0, 3) := by kernel_rfl
theorem ty_f42_1 : fieldOf Try.prog 42 1 = some (1, 3) := by kernel_rfl
theorem ty_f42_2 : fieldOf Try.prog 42 2 = some (2, 3) := by kernel_rfl
theorem ty_f42_3 : fieldOf Try.prog 42 3 = some (3, 3) := by kernel_rfl
theorem tY42 : (szOf Try.prog 42 = 4) ∧ (isSt Try.prog 42 = true) ∧ (isCell Try.prog 42 = false) ∧ (ckOf Try.prog 42 = [.int .i64, .int .i64, .int .i64, .int .i64]) ∧ (inf Try.prog 42 = some (some (.agg #[.int .i64 0, .int .i64 0, .int .i64 0, .int .i64 0]), 4, 32)) ∧ (colsOf Try.prog 8 42 = [.cell, .cell, .cell, .cell]) ∧ (eqFlat Try.prog 42 = some [true, true, true, true]) ∧ (fieldOf Try.prog 42 0 = some (0, 3)) ∧ (fieldOf Try.prog 42 1 = some (1, 3)) ∧ (fieldOf Try.prog 42 2 = some (2, 3)) ∧ (fieldOf Try.prog 42 3 = some (3, 3)) := ⟨ty_sz42, ty_st42, ty_cell42, ty_ck42, ty_inf42, ty_cols42, ty_eq42, ty_f42_0, ty_f42_1, ty_f42_2, ty_f42_3⟩
theorem ty_sz43 : szOf Try.prog 43 = 4 := by kernel_rfl
theorem ty_st43 : isSt Try.prog 43 = true := by kernel_rfl
theorem ty_cell43 : isCell Try.prog 43 = false := by kernel_rfl
theorem ty_ck43 : ckOf Try.prog 43 = [.int .i64, .int .i64, .int .i64, .int .i64] := by kernel_rfl
theorem ty_inf43 : inf Try.prog 43 = some (some (.agg #[.int .i64 0, .int .i64 0, .int .i64 0, .int .i64 0]), 4, 32) := by kernel_rfl
theorem ty_cols43 : colsOf Try.prog 8 43 = [.cell, .cell, .cell, .cell] := by kernel_rfl
theorem ty_eq43 : eqFlat Try.prog 43 = some [true, true, true, true] := by kernel_rfl
theorem ty_f43_0 : fieldOf Try.prog 43 0 = some (0, 3) := by kernel_rfl
theorem ty_f43_1 : fieldOf Try.prog 43 1 = some (1, 3) := by kernel_rfl
theorem ty_f43_2 : fieldOf Try.prog 43 2 = some (2, 3) := by kernel_rfl
theorem ty_f43_3 : fieldOf Try.prog 43 3 = some (3, 3) := by kernel_rfl
theorem tY43 : (szOf Try.prog 43 = 4) ∧ (isSt Try.prog 43 = true) ∧ (isCell Try.prog 43 = false) ∧ (ckOf Try.prog 43 = [.int .i64, .int .i64, .int .i64, .int .i64]) ∧ (inf Try.prog 43 = some (some (.agg #[.int .i64 0, .int .i64 0, .int .i64 0, .int .i64 0]), 4, 32)) ∧ (colsOf Try.prog 8 43 = [.cell, .cell, .cell, .cell]) ∧ (eqFlat Try.prog 43 = some [true, true, true, true]) ∧ (fieldOf Try.prog 43 0 = some (0, 3)) ∧ (fieldOf Try.prog 43 1 = some (1, 3)) ∧ (fieldOf Try.prog 43 2 = some (2, 3)) ∧ (fieldOf Try.prog 43 3 = some (3, 3)) := ⟨ty_sz43, ty_st43, ty_cell43, ty_ck43, ty_inf43, ty_cols43, ty_eq43, ty_f43_0, ty_f43_1, ty_f43_2, ty_f43_3⟩
theorem ty_sz46 : szOf Try.prog 46 = 1 := by kernel_rfl
theorem ty_st46 : isSt Try.prog 46 = false := by kernel_rfl
theorem ty_cell46 : isCell Try.prog 46 = true := by kernel_rfl
theorem ty_ck46 : ckOf Try.prog 46 = [.sl 1] := by kernel_rfl
theorem ty_inf46 : inf Try.prog 46 = some (some (.slice none 0 0), 1, 24) := by kernel_rfl
theorem ty_cols46 : colsOf Try.prog 8 46 = [.sl 22 1 [.sl 5 1 [.cell]]] := by kernel_rfl
theorem tY46 : (szOf Try.prog 46 = 1) ∧ (isSt Try.prog 46 = false) ∧ (isCell Try.prog 46 = true) ∧ (ckOf Try.prog 46 = [.sl 1]) ∧ (inf Try.prog 46 = some (some (.slice none 0 0), 1, 24)) ∧ (colsOf Try.prog 8 46 = [.sl 22 1 [.sl 5 1 [.cell]]]) := ⟨ty_sz46, ty_st46, ty_cell46, ty_ck46, ty_inf46, ty_cols46⟩
theorem ty_sz52 : szOf Try.prog 52 = 1 := by kernel_rfl
theorem ty_st52 : isSt Try.prog 52 = false := by kernel_rfl
theorem ty_cell52 : isCell Try.prog 52 = true := by kernel_rfl
theorem ty_ck52 : ckOf Try.prog 52 = [.sl 3] := by kernel_rfl
theorem ty_inf52 : inf Try.prog 52 = some (some (.slice none 0 0), 1, 24) := by kernel_rfl
theorem ty_cols52 : colsOf Try.prog 8 52 = [.sl 102 3 [.cell, .cell, .cell]] := by kernel_rfl
theorem tY52 : (szOf Try.prog 52 = 1) ∧ (isSt Try.prog 52 = false) ∧ (isCell Try.prog 52 = true) ∧ (ckOf Try.prog 52 = [.sl 3]) ∧ (inf Try.prog 52 = some (some (.slice none 0 0), 1, 24)) ∧ (colsOf Try.prog 8 52 = [.sl 102 3 [.cell, .cell, .cell]]) := ⟨ty_sz52, ty_st52, ty_cell52, ty_ck52, ty_inf52, ty_cols52⟩
theorem ty_sz53 : szOf Try.prog 53 = 1 := by kernel_rfl
theorem ty_st53 : isSt Try.prog 53 = false := by kernel_rfl
theorem ty_cell53 : isCell Try.prog 53 = true := by kernel_rfl
theorem ty_ck53 : ckOf Try.prog 53 = [.sl 2] := by kernel_rfl
theorem ty_inf53 : inf Try.prog 53 = some (some (.slice none 0 0), 1, 24) := by kernel_rfl
theorem ty_cols53 : colsOf Try.prog 8 53 = [.sl 100 2 [.cell, .sl 5 1 [.cell]]] := by kernel_rfl
theorem tY53 : (szOf Try.prog 53 = 1) ∧ (isSt Try.prog 53 = false) ∧ (isCell Try.prog 53 = true) ∧ (ckOf Try.prog 53 = [.sl 2]) ∧ (inf Try.prog 53 = some (some (.slice none 0 0), 1, 24)) ∧ (colsOf Try.prog 8 53 = [.sl 100 2 [.cell, .sl 5 1 [.cell]]]) := ⟨ty_sz53, ty_st53, ty_cell53, ty_ck53, ty_inf53, ty_cols53⟩
theorem ty_sz54 : szOf Try.prog 54 = 2 := by kernel_rfl
theorem ty_st54 : isSt Try.prog 54 = true := by kernel_rfl
theorem ty_cell54 : isCell Try.prog 54 = false := by kernel_rfl
theorem ty_ck54 : ckOf Try.prog 54 = [.sl 3, .sl 2] := by kernel_rfl
theorem ty_inf54 : inf Try.prog 54 = some (some (.agg #[.slice none 0 0, .slice none 0 0]), 2, 48) := by kernel_rfl
theorem ty_cols54 : colsOf Try.prog 8 54 = [.sl 102 3 [.cell, .cell, .cell], .sl 100 2 [.cell, .sl 5 1 [.cell]]] := by kernel_rfl
theorem ty_eq54 : eqFlat Try.prog 54 = none := by kernel_rfl
theorem ty_f54_0 : fieldOf Try.prog 54 0 = some (0, 52) := by kernel_rfl
theorem ty_f54_1 : fieldOf Try.prog 54 1 = some (1, 53) := by kernel_rfl
theorem tY54 : (szOf Try.prog 54 = 2) ∧ (isSt Try.prog 54 = true) ∧ (isCell Try.prog 54 = false) ∧ (ckOf Try.prog 54 = [.sl 3, .sl 2]) ∧ (inf Try.prog 54 = some (some (.agg #[.slice none 0 0, .slice none 0 0]), 2, 48)) ∧ (colsOf Try.prog 8 54 = [.sl 102 3 [.cell, .cell, .cell], .sl 100 2 [.cell, .sl 5 1 [.cell]]]) ∧ (eqFlat Try.prog 54 = none) ∧ (fieldOf Try.prog 54 0 = some (0, 52)) ∧ (fieldOf Try.prog 54 1 = some (1, 53)) := ⟨ty_sz54, ty_st54, ty_cell54, ty_ck54, ty_inf54, ty_cols54, ty_eq54, ty_f54_0, ty_f54_1⟩
theorem ty_sz55 : szOf Try.prog 55 = 2 := by kernel_rfl
theorem ty_st55 : isSt Try.prog 55 = true := by kernel_rfl
theorem ty_cell55 : isCell Try.prog 55 = false := by kernel_rfl
theorem ty_ck55 : ckOf Try.prog 55 = [.sl 3, .sl 2] := by kernel_rfl
theorem ty_inf55 : inf Try.prog 55 = some (some (.agg #[.slice none 0 0, .slice none 0 0]), 2, 48) := by kernel_rfl
theorem ty_cols55 : colsOf Try.prog 8 55 = [.sl 102 3 [.cell, .cell, .cell], .sl 100 2 [.cell, .sl 5 1 [.cell]]] := by kernel_rfl
theorem ty_eq55 : eqFlat Try.prog 55 = none := by kernel_rfl
theorem ty_f55_0 : fieldOf Try.prog 55 0 = some (0, 52) := by kernel_rfl
theorem ty_f55_1 : fieldOf Try.prog 55 1 = some (1, 53) := by kernel_rfl
theorem tY55 : (szOf Try.prog 55 = 2) ∧ (isSt Try.prog 55 = true) ∧ (isCell Try.prog 55 = false) ∧ (ckOf Try.prog 55 = [.sl 3, .sl 2]) ∧ (inf Try.prog 55 = some (some (.agg #[.slice none 0 0, .slice none 0 0]), 2, 48)) ∧ (colsOf Try.prog 8 55 = [.sl 102 3 [.cell, .cell, .cell], .sl 100 2 [.cell, .sl 5 1 [.cell]]]) ∧ (eqFlat Try.prog 55 = none) ∧ (fieldOf Try.prog 55 0 = some (0, 52)) ∧ (fieldOf Try.prog 55 1 = some (1, 53)) := ⟨ty_sz55, ty_st55, ty_cell55, ty_ck55, ty_inf55, ty_cols55, ty_eq55, ty_f55_0, ty_f55_1⟩
theorem ty_sz64 : szOf Try.prog 64 = 4 := by kernel_rfl
theorem ty_st64 : isSt Try.prog 64 = true := by kernel_rfl
theorem ty_cell64 : isCell Try.prog 64 = false := by kernel_rfl
theorem ty_ck64 : ckOf Try.prog 64 = [.int .i64, .int .i64, .int .i64, .int .i64] := by kernel_rfl
theorem ty_inf64 : inf Try.prog 64 = some (some (.agg #[.int .i64 0, .int .i64 0, .int .i64 0, .int .i64 0]), 4, 32) := by kernel_rfl
theorem ty_cols64 : colsOf Try.prog 8 64 = [.cell, .cell, .cell, .cell] := by kernel_rfl
theorem ty_eq64 : eqFlat Try.prog 64 = some [true, true, true, true] := by kernel_rfl
theorem ty_f64_0 : fieldOf Try.prog 64 0 = some (0, 3) := by kernel_rfl
theorem ty_f64_1 : fieldOf Try.prog 64 1 = some (1, 3) := by kernel_rfl
theorem ty_f64_2 : fieldOf Try.prog 64 2 = some (2, 3) := by kernel_rfl
theorem ty_f64_3 : fieldOf Try.prog 64 3 = some (3, 3) := by kernel_rfl
theorem tY64 : (szOf Try.prog 64 = 4) ∧ (isSt Try.prog 64 = true) ∧ (isCell Try.prog 64 = false) ∧ (ckOf Try.prog 64 = [.int .i64, .int .i64, .int .i64, .int .i64]) ∧ (inf Try.prog 64 = some (some (.agg #[.int .i64 0, .int .i64 0, .int .i64 0, .int .i64 0]), 4, 32)) ∧ (colsOf Try.prog 8 64 = [.cell, .cell, .cell, .cell]) ∧ (eqFlat Try.prog 64 = some [true, true, true, true]) ∧ (fieldOf Try.prog 64 0 = some (0, 3)) ∧ (fieldOf Try.prog 64 1 = some (1, 3)) ∧ (fieldOf Try.prog 64 2 = some (2, 3)) ∧ (fieldOf Try.prog 64 3 = some (3, 3)) := ⟨ty_sz64, ty_st64, ty_cell64, ty_ck64, ty_inf64, ty_cols64, ty_eq64, ty_f64_0, ty_f64_1, ty_f64_2, ty_f64_3⟩
theorem ty_sz73 : szOf Try.prog 73 = 3 := by kernel_rfl
theorem ty_st73 : isSt Try.prog 73 = true := by kernel_rfl
theorem ty_cell73 : isCell Try.prog 73 = false := by kernel_rfl
theorem ty_ck73 : ckOf Try.prog 73 = [.int .i64, .int .i64, .int .i64] := by kernel_rfl
theorem ty_inf73 : inf Try.prog 73 = some (some (.agg #[.int .i64 0, .int .i64 0, .int .i64 0]), 3, 24) := by kernel_rfl
theorem ty_cols73 : colsOf Try.prog 8 73 = [.cell, .cell, .cell] := by kernel_rfl
theorem ty_eq73 : eqFlat Try.prog 73 = some [true, true, true] := by kernel_rfl
theorem ty_f73_0 : fieldOf Try.prog 73 0 = some (0, 3) := by kernel_rfl
theorem ty_f73_1 : fieldOf Try.prog 73 1 = some (1, 3) := by kernel_rfl
theorem ty_f73_2 : fieldOf Try.prog 73 2 = some (2, 3) := by kernel_rfl
theorem tY73 : (szOf Try.prog 73 = 3) ∧ (isSt Try.prog 73 = true) ∧ (isCell Try.prog 73 = false) ∧ (ckOf Try.prog 73 = [.int .i64, .int .i64, .int .i64]) ∧ (inf Try.prog 73 = some (some (.agg #[.int .i64 0, .int .i64 0, .int .i64 0]), 3, 24)) ∧ (colsOf Try.prog 8 73 = [.cell, .cell, .cell]) ∧ (eqFlat Try.prog 73 = some [true, true, true]) ∧ (fieldOf Try.prog 73 0 = some (0, 3)) ∧ (fieldOf Try.prog 73 1 = some (1, 3)) ∧ (fieldOf Try.prog 73 2 = some (2, 3)) := ⟨ty_sz73, ty_st73, ty_cell73, ty_ck73, ty_inf73, ty_cols73, ty_eq73, ty_f73_0, ty_f73_1, ty_f73_2⟩
theorem ty_sz74 : szOf Try.prog 74 = 3 := by kernel_rfl
theorem ty_st74 : isSt Try.prog 74 = true := by kernel_rfl
theorem ty_cell74 : isCell Try.prog 74 = false := by kernel_rfl
theorem ty_ck74 : ckOf Try.prog 74 = [.int .i64, .int .i64, .int .i64] := by kernel_rfl
theorem ty_inf74 : inf Try.prog 74 = some (some (.agg #[.int .i64 0, .int .i64 0, .int .i64 0]), 3, 24) := by kernel_rfl
theorem ty_cols74 : colsOf Try.prog 8 74 = [.cell, .cell, .cell] := by kernel_rfl
theorem ty_eq74 : eqFlat Try.prog 74 = some [true, true, true] := by kernel_rfl
theorem ty_f74_0 : fieldOf Try.prog 74 0 = some (0, 3) := by kernel_rfl
theorem ty_f74_1 : fieldOf Try.prog 74 1 = some (1, 3) := by kernel_rfl
theorem ty_f74_2 : fieldOf Try.prog 74 2 = some (2, 3) := by kernel_rfl
theorem tY74 : (szOf Try.prog 74 = 3) ∧ (isSt Try.prog 74 = true) ∧ (isCell Try.prog 74 = false) ∧ (ckOf Try.prog 74 = [.int .i64, .int .i64, .int .i64]) ∧ (inf Try.prog 74 = some (some (.agg #[.int .i64 0, .int .i64 0, .int .i64 0]), 3, 24)) ∧ (colsOf Try.prog 8 74 = [.cell, .cell, .cell]) ∧ (eqFlat Try.prog 74 = some [true, true, true]) ∧ (fieldOf Try.prog 74 0 = some (0, 3)) ∧ (fieldOf Try.prog 74 1 = some (1, 3)) ∧ (fieldOf Try.prog 74 2 = some (2, 3)) := ⟨ty_sz74, ty_st74, ty_cell74, ty_ck74, ty_inf74, ty_cols74, ty_eq74, ty_f74_0, ty_f74_1, ty_f74_2⟩
theorem ty_sz95 : szOf Try.prog 95 = 2 := by kernel_rfl
theorem ty_st95 : isSt Try.prog 95 = true := by kernel_rfl
theorem ty_cell95 : isCell Try.prog 95 = false := by kernel_rfl
theorem ty_ck95 : ckOf Try.prog 95 = [.sl 1, .int .i64] := by kernel_rfl
theorem ty_inf95 : inf Try.prog 95 = some (some (.agg #[.slice none 0 0, .int .i64 0]), 2, 32) := by kernel_rfl
theorem ty_cols95 : colsOf Try.prog 8 95 = [.sl 5 1 [.cell], .cell] := by kernel_rfl
theorem ty_eq95 : eqFlat Try.prog 95 = none := by kernel_rfl
theorem ty_f95_0 : fieldOf Try.prog 95 0 = some (0, 22) := by kernel_rfl
theorem ty_f95_1 : fieldOf Try.prog 95 1 = some (1, 3) := by kernel_rfl
theorem tY95 : (szOf Try.prog 95 = 2) ∧ (isSt Try.prog 95 = true) ∧ (isCell Try.prog 95 = false) ∧ (ckOf Try.prog 95 = [.sl 1, .int .i64]) ∧ (inf Try.prog 95 = some (some (.agg #[.slice none 0 0, .int .i64 0]), 2, 32)) ∧ (colsOf Try.prog 8 95 = [.sl 5 1 [.cell], .cell]) ∧ (eqFlat Try.prog 95 = none) ∧ (fieldOf Try.prog 95 0 = some (0, 22)) ∧ (fieldOf Try.prog 95 1 = some (1, 3)) := ⟨ty_sz95, ty_st95, ty_cell95, ty_ck95, ty_inf95, ty_cols95, ty_eq95, ty_f95_0, ty_f95_1⟩
theorem ty_sz96 : szOf Try.prog 96 = 2 := by kernel_rfl
theorem ty_st96 : isSt Try.prog 96 = true := by kernel_rfl
theorem ty_cell96 : isCell Try.prog 96 = false := by kernel_rfl
theorem ty_ck96 : ckOf Try.prog 96 = [.sl 1, .int .i64] := by kernel_rfl
theorem ty_inf96 : inf Try.prog 96 = some (some (.agg #[.slice none 0 0, .int .i64 0]), 2, 32) := by kernel_rfl
theorem ty_cols96 : colsOf Try.prog 8 96 = [.sl 5 1 [.cell], .cell] := by kernel_rfl
theorem ty_eq96 : eqFlat Try.prog 96 = none := by kernel_rfl
theorem ty_f96_0 : fieldOf Try.prog 96 0 = some (0, 22) := by kernel_rfl
theorem ty_f96_1 : fieldOf Try.prog 96 1 = some (1, 3) := by kernel_rfl
theorem tY96 : (szOf Try.prog 96 = 2) ∧ (isSt Try.prog 96 = true) ∧ (isCell Try.prog 96 = false) ∧ (ckOf Try.prog 96 = [.sl 1, .int .i64]) ∧ (inf Try.prog 96 = some (some (.agg #[.slice none 0 0, .int .i64 0]), 2, 32)) ∧ (colsOf Try.prog 8 96 = [.sl 5 1 [.cell], .cell]) ∧ (eqFlat Try.prog 96 = none) ∧ (fieldOf Try.prog 96 0 = some (0, 22)) ∧ (fieldOf Try.prog 96 1 = some (1, 3)) := ⟨ty_sz96, ty_st96, ty_cell96, ty_ck96, ty_inf96, ty_cols96, ty_eq96, ty_f96_0, ty_f96_1⟩
theorem ty_sz100 : szOf Try.prog 100 = 2 := by kernel_rfl
theorem ty_st100 : isSt Try.prog 100 = true := by kernel_rfl
theorem ty_cell100 : isCell Try.prog 100 = false := by kernel_rfl
theorem ty_ck100 : ckOf Try.prog 100 = [.int .i64, .sl 1] := by kernel_rfl
theorem ty_inf100 : inf Try.prog 100 = some (some (.agg #[.int .i64 0, .slice none 0 0]), 2, 32) := by kernel_rfl
theorem ty_cols100 : colsOf Try.prog 8 100 = [.cell, .sl 5 1 [.cell]] := by kernel_rfl
theorem ty_eq100 : eqFlat Try.prog 100 = none := by kernel_rfl
theorem ty_f100_0 : fieldOf Try.prog 100 0 = some (0, 3) := by kernel_rfl
theorem ty_f100_1 : fieldOf Try.prog 100 1 = some (1, 22) := by kernel_rfl
theorem tY100 : (szOf Try.prog 100 = 2) ∧ (isSt Try.prog 100 = true) ∧ (isCell Try.prog 100 = false) ∧ (ckOf Try.prog 100 = [.int .i64, .sl 1]) ∧ (inf Try.prog 100 = some (some (.agg #[.int .i64 0, .slice none 0 0]), 2, 32)) ∧ (colsOf Try.prog 8 100 = [.cell, .sl 5 1 [.cell]]) ∧ (eqFlat Try.prog 100 = none) ∧ (fieldOf Try.prog 100 0 = some (0, 3)) ∧ (fieldOf Try.prog 100 1 = some (1, 22)) := ⟨ty_sz100, ty_st100, ty_cell100, ty_ck100, ty_inf100, ty_cols100, ty_eq100, ty_f100_0, ty_f100_1⟩
theorem ty_sz102 : szOf Try.prog 102 = 3 := by kernel_rfl
theorem ty_st102 : isSt Try.prog 102 = true := by kernel_rfl
theorem ty_cell102 : isCell Try.prog 102 = false := by kernel_rfl
theorem ty_ck102 : ckOf Try.prog 102 = [.int .i64, .int .i64, .int .i64] := by kernel_rfl
theorem ty_inf102 : inf Try.prog 102 = some (some (.agg #[.int .i64 0, .int .i64 0, .int .i64 0]), 3, 24) := by kernel_rfl
theorem ty_cols102 : colsOf Try.prog 8 102 = [.cell, .cell, .cell] := by kernel_rfl
theorem ty_eq102 : eqFlat Try.prog 102 = some [true, true, true] := by kernel_rfl
theorem ty_f102_0 : fieldOf Try.prog 102 0 = some (0, 3) := by kernel_rfl
theorem ty_f102_1 : fieldOf Try.prog 102 1 = some (1, 3) := by kernel_rfl
theorem ty_f102_2 : fieldOf Try.prog 102 2 = some (2, 3) := by kernel_rfl
theorem tY102 : (szOf Try.prog 102 = 3) ∧ (isSt Try.prog 102 = true) ∧ (isCell Try.prog 102 = false) ∧ (ckOf Try.prog 102 = [.int .i64, .int .i64, .int .i64]) ∧ (inf Try.prog 102 = some (some (.agg #[.int .i64 0, .int .i64 0, .int .i64 0]), 3, 24)) ∧ (colsOf Try.prog 8 102 = [.cell, .cell, .cell]) ∧ (eqFlat Try.prog 102 = some [true, true, true]) ∧ (fieldOf Try.prog 102 0 = some (0, 3)) ∧ (fieldOf Try.prog 102 1 = some (1, 3)) ∧ (fieldOf Try.prog 102 2 = some (2, 3)) := ⟨ty_sz102, ty_st102, ty_cell102, ty_ck102, ty_inf102, ty_cols102, ty_eq102, ty_f102_0, ty_f102_1, ty_f102_2⟩
theorem ty_sz113 : szOf Try.prog 113 = 1 := by kernel_rfl
theorem ty_st113 : isSt Try.prog 113 = false := by kernel_rfl
theorem ty_cell113 : isCell Try.prog 113 = true := by kernel_rfl
theorem ty_ck113 : ckOf Try.prog 113 = [.int .u32] := by kernel_rfl
theorem ty_inf113 : inf Try.prog 113 = some (some (.int .u32 0), 1, 4) := by kernel_rfl
theorem ty_cols113 : colsOf Try.prog 8 113 = [.cell] := by kernel_rfl
theorem tY113 : (szOf Try.prog 113 = 1) ∧ (isSt Try.prog 113 = false) ∧ (isCell Try.prog 113 = true) ∧ (ckOf Try.prog 113 = [.int .u32]) ∧ (inf Try.prog 113 = some (some (.int .u32 0), 1, 4)) ∧ (colsOf Try.prog 8 113 = [.cell]) := ⟨ty_sz113, ty_st113, ty_cell113, ty_ck113, ty_inf113, ty_cols113⟩
theorem ty_sz122 : szOf Try.prog 122 = 1 := by kernel_rfl
theorem ty_st122 : isSt Try.prog 122 = false := by kernel_rfl
theorem ty_cell122 : isCell Try.prog 122 = true := by kernel_rfl
theorem ty_ck122 : ckOf Try.prog 122 = [.other] := by kernel_rfl
theorem ty_inf122 : inf Try.prog 122 = some (some (.pointer none), 1, 8) := by kernel_rfl
theorem ty_cols122 : colsOf Try.prog 8 122 = [.cell] := by kernel_rfl
theorem tY122 : (szOf Try.prog 122 = 1) ∧ (isSt Try.prog 122 = false) ∧ (isCell Try.prog 122 = true) ∧ (ckOf Try.prog 122 = [.other]) ∧ (inf Try.prog 122 = some (some (.pointer none), 1, 8)) ∧ (colsOf Try.prog 8 122 = [.cell]) := ⟨ty_sz122, ty_st122, ty_cell122, ty_ck122, ty_inf122, ty_cols122⟩
end Go.Proofs.Ytfdgdffljaccdaa
