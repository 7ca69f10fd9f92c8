/-
  What the evaluation asks of the types of this seat: closed facts on the program's table. By a tool.
-/
import Derived.Test.YtlhgbpgikgkecaaR1
namespace Go.Proofs.Ytlhgbpgikgkecaa
theorem ty_sz2 : szOf Try.prog 2 = 1 := by kernel_rfl
theorem ty_st2 : isSt Try.prog 2 = false := by kernel_rfl
theorem ty_cell2 : isCell Try.prog 2 = true := by kernel_rfl
theorem ty_ck2 : ckOf Try.prog 2 = [.int .i64] := by kernel_rfl
theorem ty_inf2 : inf Try.prog 2 = some (some (.int .i64 0), 1, 8) := by kernel_rfl
theorem ty_cols2 : colsOf Try.prog 8 2 = [.cell] := by kernel_rfl
theorem tY2 : (szOf Try.prog 2 = 1) ∧ (isSt Try.prog 2 = false) ∧ (isCell Try.prog 2 = true) ∧ (ckOf Try.prog 2 = [.int .i64]) ∧ (inf Try.prog 2 = some (some (.int .i64 0), 1, 8)) ∧ (colsOf Try.prog 8 2 = [.cell]) := ⟨ty_sz2, ty_st2, ty_cell2, ty_ck2, ty_inf2, ty_cols2⟩
theorem ty_sz3 : szOf Try.prog 3 = 1 := by kernel_rfl
theorem ty_st3 : isSt Try.prog 3 = false := by kernel_rfl
theorem ty_cell3 : isCell Try.prog 3 = true := by kernel_rfl
theorem ty_ck3 : ckOf Try.prog 3 = [.int .i64] := by kernel_rfl
theorem ty_inf3 : inf Try.prog 3 = some (some (.int .i64 0), 1, 8) := by kernel_rfl
theorem ty_cols3 : colsOf Try.prog 8 3 = [.cell] := by kernel_rfl
theorem tY3 : (szOf Try.prog 3 = 1) ∧ (isSt Try.prog 3 = false) ∧ (isCell Try.prog 3 = true) ∧ (ckOf Try.prog 3 = [.int .i64]) ∧ (inf Try.prog 3 = some (some (.int .i64 0), 1, 8)) ∧ (colsOf Try.prog 8 3 = [.cell]) := ⟨ty_sz3, ty_st3, ty_cell3, ty_ck3, ty_inf3, ty_cols3⟩
theorem ty_sz4 : szOf Try.prog 4 = 1 := by kernel_rfl
theorem ty_st4 : isSt Try.prog 4 = false := by kernel_rfl
theorem ty_cell4 : isCell Try.prog 4 = true := by kernel_rfl
theorem ty_ck4 : ckOf Try.prog 4 = [.bool] := by kernel_rfl
theorem ty_inf4 : inf Try.prog 4 = some (some (.bool false), 1, 1) := by kernel_rfl
theorem ty_cols4 : colsOf Try.prog 8 4 = [.cell] := by kernel_rfl
theorem tY4 : (szOf Try.prog 4 = 1) ∧ (isSt Try.prog 4 = false) ∧ (isCell Try.prog 4 = true) ∧ (ckOf Try.prog 4 = [.bool]) ∧ (inf Try.prog 4 = some (some (.bool false), 1, 1)) ∧ (colsOf Try.prog 8 4 = [.cell]) := ⟨ty_sz4, ty_st4, ty_cell4, ty_ck4, ty_inf4, ty_cols4⟩
theorem ty_sz5 : szOf Try.prog 5 = 1 := by kernel_rfl
theorem ty_st5 : isSt Try.prog 5 = false := by kernel_rfl
theorem ty_cell5 : isCell Try.prog 5 = true := by kernel_rfl
theorem ty_ck5 : ckOf Try.prog 5 = [.int .u8] := by kernel_rfl
theorem ty_inf5 : inf Try.prog 5 = some (some (.int .u8 0), 1, 1) := by kernel_rfl
theorem ty_cols5 : colsOf Try.prog 8 5 = [.cell] := by kernel_rfl
theorem tY5 : (szOf Try.prog 5 = 1) ∧ (isSt Try.prog 5 = false) ∧ (isCell Try.prog 5 = true) ∧ (ckOf Try.prog 5 = [.int .u8]) ∧ (inf Try.prog 5 = some (some (.int .u8 0), 1, 1)) ∧ (colsOf Try.prog 8 5 = [.cell]) := ⟨ty_sz5, ty_st5, ty_cell5, ty_ck5, ty_inf5, ty_cols5⟩
theorem ty_sz9 : szOf Try.prog 9 = 1 := by kernel_rfl
theorem ty_st9 : isSt Try.prog 9 = false := by kernel_rfl
theorem ty_cell9 : isCell Try.prog 9 = true := by kernel_rfl
theorem ty_ck9 : ckOf Try.prog 9 = [.str] := by kernel_rfl
theorem ty_inf9 : inf Try.prog 9 = some (some (.string .empty), 1, 16) := by kernel_rfl
theorem ty_cols9 : colsOf Try.prog 8 9 = [.cell] := by kernel_rfl
theorem tY9 : (szOf Try.prog 9 = 1) ∧ (isSt Try.prog 9 = false) ∧ (isCell Try.prog 9 = true) ∧ (ckOf Try.prog 9 = [.str]) ∧ (inf Try.prog 9 = some (some (.string .empty), 1, 16)) ∧ (colsOf Try.prog 8 9 = [.cell]) := ⟨ty_sz9, ty_st9, ty_cell9, ty_ck9, ty_inf9, ty_cols9⟩
theorem ty_sz12 : szOf Try.prog 12 = 1 := by kernel_rfl
theorem ty_st12 : isSt Try.prog 12 = false := by kernel_rfl
theorem ty_cell12 : isCell Try.prog 12 = true := by kernel_rfl
theorem ty_ck12 : ckOf Try.prog 12 = [.int .u64] := by kernel_rfl
theorem ty_inf12 : inf Try.prog 12 = some (some (.int .u64 0), 1, 8) := by kernel_rfl
theorem ty_cols12 : colsOf Try.prog 8 12 = [.cell] := by kernel_rfl
theorem tY12 : (szOf Try.prog 12 = 1) ∧ (isSt Try.prog 12 = false) ∧ (isCell Try.prog 12 = true) ∧ (ckOf Try.prog 12 = [.int .u64]) ∧ (inf Try.prog 12 = some (some (.int .u64 0), 1, 8)) ∧ (colsOf Try.prog 8 12 = [.cell]) := ⟨ty_sz12, ty_st12, ty_cell12, ty_ck12, ty_inf12, ty_cols12⟩
theorem ty_sz21 : szOf Try.prog 21 = 1 := by kernel_rfl
theorem ty_st21 : isSt Try.prog 21 = false := by kernel_rfl
theorem ty_cell21 : isCell Try.prog 21 = true := by kernel_rfl
theorem ty_ck21 : ckOf Try.prog 21 = [.int .i32] := by kernel_rfl
theorem ty_inf21 : inf Try.prog 21 = some (some (.int .i32 0), 1, 4) := by kernel_rfl
theorem ty_cols21 : colsOf Try.prog 8 21 = [.cell] := by kernel_rfl
theorem tY21 : (szOf Try.prog 21 = 1) ∧ (isSt Try.prog 21 = false) ∧ (isCell Try.prog 21 = true) ∧ (ckOf Try.prog 21 = [.int .i32]) ∧ (inf Try.prog 21 = some (some (.int .i32 0), 1, 4)) ∧ (colsOf Try.prog 8 21 = [.cell]) := ⟨ty_sz21, ty_st21, ty_cell21, ty_ck21, ty_inf21, ty_cols21⟩
theorem ty_sz22 : szOf Try.prog 22 = 1 := by kernel_rfl
theorem ty_st22 : isSt Try.prog 22 = false := by kernel_rfl
theorem ty_cell22 : isCell Try.prog 22 = true := by kernel_rfl
theorem ty_ck22 : ckOf Try.prog 22 = [.sl 1] := by kernel_rfl
theorem ty_inf22 : inf Try.prog 22 = some (some (.slice none 0 0), 1, 24) := by kernel_rfl
theorem ty_cols22 : colsOf Try.prog 8 22 = [.sl 5 1 [.cell]] := by kernel_rfl
theorem tY22 : (szOf Try.prog 22 = 1) ∧ (isSt Try.prog 22 = false) ∧ (isCell Try.prog 22 = true) ∧ (ckOf Try.prog 22 = [.sl 1]) ∧ (inf Try.prog 22 = some (some (.slice none 0 0), 1, 24)) ∧ (colsOf Try.prog 8 22 = [.sl 5 1 [.cell]]) := ⟨ty_sz22, ty_st22, ty_cell22, ty_ck22, ty_inf22, ty_cols22⟩
theorem ty_sz23 : szOf Try.prog 23 = 4 := by kernel_rfl
theorem ty_st23 : isSt Try.prog 23 = true := by kernel_rfl
theorem ty_cell23 : isCell Try.prog 23 = false := by kernel_rfl
theorem ty_ck23 : ckOf Try.prog 23 = [.int .i64, .int .i64, .int .i64, .int .i64] := by kernel_rfl
theorem ty_inf23 : inf Try.prog 23 = some (some (.agg #[.int .i64 0, .int .i64 0, .int .i64 0, .int .i64 0]), 4, 32) := by kernel_rfl
theorem ty_cols23 : colsOf Try.prog 8 23 = [.cell, .cell, .cell, .cell] := by kernel_rfl
theorem ty_eq23 : eqFlat Try.prog 23 = some [true, true, true, true] := by kernel_rfl
theorem ty_f23_0 : fieldOf Try.prog 23 0 = some (0, 3) := by kernel_rfl
theorem ty_f23_1 : fieldOf Try.prog 23 1 = some (1, 3) := by kernel_rfl
theorem ty_f23_2 : fieldOf Try.prog 23 2 = some (2, 3) := by kernel_rfl
theorem ty_f23_3 : fieldOf Try.prog 23 3 = some (3, 3) := by kernel_rfl
theorem tY23 : (szOf Try.prog 23 = 4) ∧ (isSt Try.prog 23 = true) ∧ (isCell Try.prog 23 = false) ∧ (ckOf Try.prog 23 = [.int .i64, .int .i64, .int .i64, .int .i64]) ∧ (inf Try.prog 23 = some (some (.agg #[.int .i64 0, .int .i64 0, .int .i64 0, .int .i64 0]), 4, 32)) ∧ (colsOf Try.prog 8 23 = [.cell, .cell, .cell, .cell]) ∧ (eqFlat Try.prog 23 = some [true, true, true, true]) ∧ (fieldOf Try.prog 23 0 = some (0, 3)) ∧ (fieldOf Try.prog 23 1 = some (1, 3)) ∧ (fieldOf Try.prog 23 2 = some (2, 3)) ∧ (fieldOf Try.prog 23 3 = some (3, 3)) := ⟨ty_sz23, ty_st23, ty_cell23, ty_ck23, ty_inf23, ty_cols23, ty_eq23, ty_f23_0, ty_f23_1, ty_f23_2, ty_f23_3⟩
theorem ty_sz24 : szOf Try.prog 24 = 4 := by kernel_rfl
theorem ty_st24 : isSt Try.prog 24 = true := by kernel_rfl
theorem ty_cell24 : isCell Try.prog 24 = false := by kernel_rfl
theorem ty_ck24 : ckOf Try.prog 24 = [.int .i64, .int .i64, .int .i64, .int .i64] := by kernel_rfl
theorem ty_inf24 : inf Try.prog 24 = some (some (.agg #[.int .i64 0, .int .i64 0, .int .i64 0, .int .i64 0]), 4, 32) := by kernel_rfl
theorem ty_cols24 : colsOf Try.prog 8 24 = [.cell, .cell, .cell, .cell] := by kernel_rfl
theorem ty_eq24 : eqFlat Try.prog 24 = some [true, true, true, true] := by kernel_rfl
theorem ty_f24_0 : fieldOf Try.prog 24 0 = some (0, 3) := by kernel_rfl
theorem ty_f24_1 : fieldOf Try.prog 24 1 = some (1, 3) := by kernel_rfl
theorem ty_f24_2 : fieldOf Try.prog 24 2 = some (2, 3) := by kernel_rfl
theorem ty_f24_3 : fieldOf Try.prog 24 3 = some (3, 3) := by kernel_rfl
theorem tY24 : (szOf Try.prog 24 = 4) ∧ (isSt Try.prog 24 = true) ∧ (isCell Try.prog 24 = false) ∧ (ckOf Try.prog 24 = [.int .i64, .int .i64, .int .i64, .int .i64]) ∧ (inf Try.prog 24 = some (some (.agg #[.int .i64 0, .int .i64 0, .int .i64 0, .int .i64 0]), 4, 32)) ∧ (colsOf Try.prog 8 24 = [.cell, .cell, .cell, .cell]) ∧ (eqFlat Try.prog 24 = some [true, true, true, true]) ∧ (fieldOf Try.prog 24 0 = some (0, 3)) ∧ (fieldOf Try.prog 24 1 = some (1, 3)) ∧ (fieldOf Try.prog 24 2 = some (2, 3)) ∧ (fieldOf Try.prog 24 3 = some (3, 3)) := ⟨ty_sz24, ty_st24, ty_cell24, ty_ck24, ty_inf24, ty_cols24, ty_eq24, ty_f24_0, ty_f24_1, ty_f24_2, ty_f24_3⟩
theorem ty_sz32 : szOf Try.prog 32 = 1 := by kernel_rfl
theorem ty_st32 : isSt Try.prog 32 = false := by kernel_rfl
theorem ty_cell32 : isCell Try.prog 32 = true := by kernel_rfl
theorem ty_ck32 : ckOf Try.prog 32 = [.sl 4] := by kernel_rfl
theorem ty_inf32 : inf Try.prog 32 = some (some (.slice none 0 0), 1, 24) := by kernel_rfl
theorem ty_cols32 : colsOf Try.prog 8 32 = [.sl 24 4 [.cell, .cell, .cell, .cell]] := by kernel_rfl
theorem tY32 : (szOf Try.prog 32 = 1) ∧ (isSt Try.prog 32 = false) ∧ (isCell Try.prog 32 = true) ∧ (ckOf Try.prog 32 = [.sl 4]) ∧ (inf Try.prog 32 = some (some (.slice none 0 0), 1, 24)) ∧ (colsOf Try.prog 8 32 = [.sl 24 4 [.cell, .cell, .cell, .cell]]) := ⟨ty_sz32, ty_st32, ty_cell32, ty_ck32, ty_inf32, ty_cols32⟩
theorem ty_sz44 : szOf Try.prog 44 = 1 := by kernel_rfl
theorem ty_st44 : isSt Try.prog 44 = false := by kernel_rfl
theorem ty_cell44 : isCell Try.prog 44 = true := by kernel_rfl
theorem ty_ck44 : ckOf Try.prog 44 = [.sl 1] := by kernel_rfl
theorem ty_inf44 : inf Try.prog 44 = some (some (.slice none 0 0), 1, 24) := by kernel_rfl
theorem ty_cols44 : colsOf Try.prog 8 44 = [.sl 3 1 [.cell]] := by kernel_rfl
theorem tY44 : (szOf Try.prog 44 = 1) ∧ (isSt Try.prog 44 = false) ∧ (isCell Try.prog 44 = true) ∧ (ckOf Try.prog 44 = [.sl 1]) ∧ (inf Try.prog 44 = some (some (.slice none 0 0), 1, 24)) ∧ (colsOf Try.prog 8 44 = [.sl 3 1 [.cell]]) := ⟨ty_sz44, ty_st44, ty_cell44, ty_ck44, ty_inf44, ty_cols44⟩
theorem ty_sz62 : szOf Try.prog 62 = 2 := by kernel_rfl
theorem ty_st62 : isSt Try.prog 62 = true := by kernel_rfl
theorem ty_cell62 : isCell Try.prog 62 = false := by kernel_rfl
theorem ty_ck62 : ckOf Try.prog 62 = [.sl 1, .int .i64] := by kernel_rfl
theorem ty_inf62 : inf Try.prog 62 = some (some (.agg #[.slice none 0 0, .int .i64 0]), 2, 32) := by kernel_rfl
theorem ty_cols62 : colsOf Try.prog 8 62 = [.sl 5 1 [.cell], .cell] := by kernel_rfl
theorem ty_eq62 : eqFlat Try.prog 62 = none := by kernel_rfl
theorem ty_f62_0 : fieldOf Try.prog 62 0 = some (0, 22) := by kernel_rfl
theorem ty_f62_1 : fieldOf Try.prog 62 1 = some (1, 3) := by kernel_rfl
theorem tY62 : (szOf Try.prog 62 = 2) ∧ (isSt Try.prog 62 = true) ∧ (isCell Try.prog 62 = false) ∧ (ckOf Try.prog 62 = [.sl 1, .int .i64]) ∧ (inf Try.prog 62 = some (some (.agg #[.slice none 0 0, .int .i64 0]), 2, 32)) ∧ (colsOf Try.prog 8 62 = [.sl 5 1 [.cell], .cell]) ∧ (eqFlat Try.prog 62 = none) ∧ (fieldOf Try.prog 62 0 = some (0, 22)) ∧ (fieldOf Try.prog 62 1 = some (1, 3)) := ⟨ty_sz62, ty_st62, ty_cell62, ty_ck62, ty_inf62, ty_cols62, ty_eq62, ty_f62_0, ty_f62_1⟩
theorem ty_sz63 : szOf Try.prog 63 = 2 := by kernel_rfl
theorem ty_st63 : isSt Try.prog 63 = true := by kernel_rfl
theorem ty_cell63 : isCell Try.prog 63 = false := by kernel_rfl
theorem ty_ck63 : ckOf Try.prog 63 = [.sl 1, .int .i64] := by kernel_rfl
theorem ty_inf63 : inf Try.prog 63 = some (some (.agg #[.slice none 0 0, .int .i64 0]), 2, 32) := by kernel_rfl
theorem ty_cols63 : colsOf Try.prog 8 63 = [.sl 5 1 [.cell], .cell] := by kernel_rfl
theorem ty_eq63 : eqFlat Try.prog 63 = none := by kernel_rfl
theorem ty_f63_0 : fieldOf Try.prog 63 0 = some (0, 22) := by kernel_rfl
theorem ty_f63_1 : fieldOf Try.prog 63 1 = some (1, 3) := by kernel_rfl
theorem tY63 : (szOf Try.prog 63 = 2) ∧ (isSt Try.prog 63 = true) ∧ (isCell Try.prog 63 = false) ∧ (ckOf Try.prog 63 = [.sl 1, .int .i64]) ∧ (inf Try.prog 63 = some (some (.agg #[.slice none 0 0, .int .i64 0]), 2, 32)) ∧ (colsOf Try.prog 8 63 = [.sl 5 1 [.cell], .cell]) ∧ (eqFlat Try.prog 63 = none) ∧ (fieldOf Try.prog 63 0 = some (0, 22)) ∧ (fieldOf Try.prog 63 1 = some (1, 3)) := ⟨ty_sz63, ty_st63, ty_cell63, ty_ck63, ty_inf63, ty_cols63, ty_eq63, ty_f63_0, ty_f63_1⟩
theorem ty_sz71 : szOf Try.prog 71 = 1 := by kernel_rfl
theorem ty_st71 : isSt Try.prog 71 = false := by kernel_rfl
theorem ty_cell71 : isCell Try.prog 71 = true := by kernel_rfl
theorem ty_ck71 : ckOf Try.prog 71 = [.int .u32] := by kernel_rfl
theorem ty_inf71 : inf Try.prog 71 = some (some (.int .u32 0), 1, 4) := by kernel_rfl
theorem ty_cols71 : colsOf Try.prog 8 71 = [.cell] := by kernel_rfl
theorem tY71 : (szOf Try.prog 71 = 1) ∧ (isSt Try.prog 71 = false) ∧ (isCell Try.prog 71 = true) ∧ (ckOf Try.prog 71 = [.int .u32]) ∧ (inf Try.prog 71 = some (some (.int .u32 0), 1, 4)) ∧ (colsOf Try.prog 8 71 = [.cell]) := ⟨ty_sz71, ty_st71, ty_cell71, ty_ck71, ty_inf71, ty_cols71⟩
theorem ty_sz80 : szOf Try.prog 80 = 1 := by kernel_rfl
theorem ty_st80 : isSt Try.prog 80 = false := by kernel_rfl
theorem ty_cell80 : isCell Try.prog 80 = true := by kernel_rfl
theorem ty_ck80 : ckOf Try.prog 80 = [.other] := by kernel_rfl
theorem ty_inf80 : inf Try.prog 80 = some (some (.pointer none), 1, 8) := by kernel_rfl
theorem ty_cols80 : colsOf Try.prog 8 80 = [.cell] := by kernel_rfl
theorem tY80 : (szOf Try.prog 80 = 1) ∧ (isSt Try.prog 80 = false) ∧ (isCell Try.prog 80 = true) ∧ (ckOf Try.prog 80 = [.other]) ∧ (inf Try.prog 80 = some (some (.pointer none), 1, 8)) ∧ (colsOf Try.prog 8 80 = [.cell]) := ⟨ty_sz80, ty_st80, ty_cell80, ty_ck80, ty_inf80, ty_cols80⟩
end Go.Proofs.Ytlhgbpgikgkecaa
