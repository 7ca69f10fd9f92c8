/-
  What the evaluation asks of the types of this seat: closed facts on the program's table. By a tool.
-/
import Derived.Test.YtdanjfnobanehaaR1
namespace Go.Proofs.Ytdanjfnobanehaa
theorem ty_sz2 : szOf Try.prog 2 = 1 := by kernel_rfl
theorem ty_st2 : isSt Try.prog 2 = false := by kernel_rfl
theorem ty_cell2 : isCell Try.prog 2 = true := by kernel_rfl
theorem ty_ck2 : ckOf Try.prog 2 = [.int .i64] := by kernel_rfl
theorem ty_inf2 : inf Try.prog 2 = some (some (.int .i64 0), 1, 8) := by kernel_rfl
theorem tY2 : (szOf Try.prog 2 = 1) ∧ (isSt Try.prog 2 = false) ∧ (isCell Try.prog 2 = true) ∧ (ckOf Try.prog 2 = [.int .i64]) ∧ (inf Try.prog 2 = some (some (.int .i64 0), 1, 8)) := ⟨ty_sz2, ty_st2, ty_cell2, ty_ck2, ty_inf2⟩
theorem ty_sz3 : szOf Try.prog 3 = 1 := by kernel_rfl
theorem ty_st3 : isSt Try.prog 3 = false := by kernel_rfl
theorem ty_cell3 : isCell Try.prog 3 = true := by kernel_rfl
theorem ty_ck3 : ckOf Try.prog 3 = [.int .i64] := by kernel_rfl
theorem ty_inf3 : inf Try.prog 3 = some (some (.int .i64 0), 1, 8) := by kernel_rfl
theorem tY3 : (szOf Try.prog 3 = 1) ∧ (isSt Try.prog 3 = false) ∧ (isCell Try.prog 3 = true) ∧ (ckOf Try.prog 3 = [.int .i64]) ∧ (inf Try.prog 3 = some (some (.int .i64 0), 1, 8)) := ⟨ty_sz3, ty_st3, ty_cell3, ty_ck3, ty_inf3⟩
theorem ty_sz4 : szOf Try.prog 4 = 1 := by kernel_rfl
theorem ty_st4 : isSt Try.prog 4 = false := by kernel_rfl
theorem ty_cell4 : isCell Try.prog 4 = true := by kernel_rfl
theorem ty_ck4 : ckOf Try.prog 4 = [.bool] := by kernel_rfl
theorem ty_inf4 : inf Try.prog 4 = some (some (.bool false), 1, 1) := by kernel_rfl
theorem tY4 : (szOf Try.prog 4 = 1) ∧ (isSt Try.prog 4 = false) ∧ (isCell Try.prog 4 = true) ∧ (ckOf Try.prog 4 = [.bool]) ∧ (inf Try.prog 4 = some (some (.bool false), 1, 1)) := ⟨ty_sz4, ty_st4, ty_cell4, ty_ck4, ty_inf4⟩
theorem ty_sz5 : szOf Try.prog 5 = 1 := by kernel_rfl
theorem ty_st5 : isSt Try.prog 5 = false := by kernel_rfl
theorem ty_cell5 : isCell Try.prog 5 = true := by kernel_rfl
theorem ty_ck5 : ckOf Try.prog 5 = [.int .u8] := by kernel_rfl
theorem ty_inf5 : inf Try.prog 5 = some (some (.int .u8 0), 1, 1) := by kernel_rfl
theorem tY5 : (szOf Try.prog 5 = 1) ∧ (isSt Try.prog 5 = false) ∧ (isCell Try.prog 5 = true) ∧ (ckOf Try.prog 5 = [.int .u8]) ∧ (inf Try.prog 5 = some (some (.int .u8 0), 1, 1)) := ⟨ty_sz5, ty_st5, ty_cell5, ty_ck5, ty_inf5⟩
theorem ty_sz9 : szOf Try.prog 9 = 1 := by kernel_rfl
theorem ty_st9 : isSt Try.prog 9 = false := by kernel_rfl
theorem ty_cell9 : isCell Try.prog 9 = true := by kernel_rfl
theorem ty_ck9 : ckOf Try.prog 9 = [.str] := by kernel_rfl
theorem ty_inf9 : inf Try.prog 9 = some (some (.string .empty), 1, 16) := by kernel_rfl
theorem tY9 : (szOf Try.prog 9 = 1) ∧ (isSt Try.prog 9 = false) ∧ (isCell Try.prog 9 = true) ∧ (ckOf Try.prog 9 = [.str]) ∧ (inf Try.prog 9 = some (some (.string .empty), 1, 16)) := ⟨ty_sz9, ty_st9, ty_cell9, ty_ck9, ty_inf9⟩
theorem ty_sz12 : szOf Try.prog 12 = 1 := by kernel_rfl
theorem ty_st12 : isSt Try.prog 12 = false := by kernel_rfl
theorem ty_cell12 : isCell Try.prog 12 = true := by kernel_rfl
theorem ty_ck12 : ckOf Try.prog 12 = [.int .u64] := by kernel_rfl
theorem ty_inf12 : inf Try.prog 12 = some (some (.int .u64 0), 1, 8) := by kernel_rfl
theorem tY12 : (szOf Try.prog 12 = 1) ∧ (isSt Try.prog 12 = false) ∧ (isCell Try.prog 12 = true) ∧ (ckOf Try.prog 12 = [.int .u64]) ∧ (inf Try.prog 12 = some (some (.int .u64 0), 1, 8)) := ⟨ty_sz12, ty_st12, ty_cell12, ty_ck12, ty_inf12⟩
theorem ty_sz21 : szOf Try.prog 21 = 1 := by kernel_rfl
theorem ty_st21 : isSt Try.prog 21 = false := by kernel_rfl
theorem ty_cell21 : isCell Try.prog 21 = true := by kernel_rfl
theorem ty_ck21 : ckOf Try.prog 21 = [.int .i32] := by kernel_rfl
theorem ty_inf21 : inf Try.prog 21 = some (some (.int .i32 0), 1, 4) := by kernel_rfl
theorem tY21 : (szOf Try.prog 21 = 1) ∧ (isSt Try.prog 21 = false) ∧ (isCell Try.prog 21 = true) ∧ (ckOf Try.prog 21 = [.int .i32]) ∧ (inf Try.prog 21 = some (some (.int .i32 0), 1, 4)) := ⟨ty_sz21, ty_st21, ty_cell21, ty_ck21, ty_inf21⟩
theorem ty_sz22 : szOf Try.prog 22 = 1 := by kernel_rfl
theorem ty_st22 : isSt Try.prog 22 = false := by kernel_rfl
theorem ty_cell22 : isCell Try.prog 22 = true := by kernel_rfl
theorem ty_ck22 : ckOf Try.prog 22 = [.sl 1] := by kernel_rfl
theorem ty_inf22 : inf Try.prog 22 = some (some (.slice none 0 0), 1, 24) := by kernel_rfl
theorem tY22 : (szOf Try.prog 22 = 1) ∧ (isSt Try.prog 22 = false) ∧ (isCell Try.prog 22 = true) ∧ (ckOf Try.prog 22 = [.sl 1]) ∧ (inf Try.prog 22 = some (some (.slice none 0 0), 1, 24)) := ⟨ty_sz22, ty_st22, ty_cell22, ty_ck22, ty_inf22⟩
theorem ty_sz23 : szOf Try.prog 23 = 1 := by kernel_rfl
theorem ty_st23 : isSt Try.prog 23 = false := by kernel_rfl
theorem ty_cell23 : isCell Try.prog 23 = true := by kernel_rfl
theorem ty_ck23 : ckOf Try.prog 23 = [.sl 3] := by kernel_rfl
theorem ty_inf23 : inf Try.prog 23 = some (some (.slice none 0 0), 1, 24) := by kernel_rfl
theorem tY23 : (szOf Try.prog 23 = 1) ∧ (isSt Try.prog 23 = false) ∧ (isCell Try.prog 23 = true) ∧ (ckOf Try.prog 23 = [.sl 3]) ∧ (inf Try.prog 23 = some (some (.slice none 0 0), 1, 24)) := ⟨ty_sz23, ty_st23, ty_cell23, ty_ck23, ty_inf23⟩
theorem ty_sz24 : szOf Try.prog 24 = 1 := by kernel_rfl
theorem ty_st24 : isSt Try.prog 24 = false := by kernel_rfl
theorem ty_cell24 : isCell Try.prog 24 = true := by kernel_rfl
theorem ty_ck24 : ckOf Try.prog 24 = [.sl 2] := by kernel_rfl
theorem ty_inf24 : inf Try.prog 24 = some (some (.slice none 0 0), 1, 24) := by kernel_rfl
theorem tY24 : (szOf Try.prog 24 = 1) ∧ (isSt Try.prog 24 = false) ∧ (isCell Try.prog 24 = true) ∧ (ckOf Try.prog 24 = [.sl 2]) ∧ (inf Try.prog 24 = some (some (.slice none 0 0), 1, 24)) := ⟨ty_sz24, ty_st24, ty_cell24, ty_ck24, ty_inf24⟩
theorem ty_sz25 : szOf Try.prog 25 = 2 := by kernel_rfl
theorem ty_st25 : isSt Try.prog 25 = true := by kernel_rfl
theorem ty_cell25 : isCell Try.prog 25 = false := by kernel_rfl
theorem ty_ck25 : ckOf Try.prog 25 = [.sl 3, .sl 2] := by kernel_rfl
theorem ty_inf25 : inf Try.prog 25 = some (some (.agg #[.slice none 0 0, .slice none 0 0]), 2, 48) := by kernel_rfl
theorem ty_eq25 : eqFlat Try.prog 25 = none := by kernel_rfl
theorem ty_f25_0 : fieldOf Try.prog 25 0 = some (0, 23) := by kernel_rfl
theorem ty_f25_1 : fieldOf Try.prog 25 1 = some (1, 24) := by kernel_rfl
theorem tY25 : (szOf Try.prog 25 = 2) ∧ (isSt Try.prog 25 = true) ∧ (isCell Try.prog 25 = false) ∧ (ckOf Try.prog 25 = [.sl 3, .sl 2]) ∧ (inf Try.prog 25 = some (some (.agg #[.slice none 0 0, .slice none 0 0]), 2, 48)) ∧ (eqFlat Try.prog 25 = none) ∧ (fieldOf Try.prog 25 0 = some (0, 23)) ∧ (fieldOf Try.prog 25 1 = some (1, 24)) := ⟨ty_sz25, ty_st25, ty_cell25, ty_ck25, ty_inf25, ty_eq25, ty_f25_0, ty_f25_1⟩
theorem ty_sz26 : szOf Try.prog 26 = 2 := by kernel_rfl
theorem ty_st26 : isSt Try.prog 26 = true := by kernel_rfl
theorem ty_cell26 : isCell Try.prog 26 = false := by kernel_rfl
theorem ty_ck26 : ckOf Try.prog 26 = [.sl 3, .sl 2] := by kernel_rfl
theorem ty_inf26 : inf Try.prog 26 = some (some (.agg #[.slice none 0 0, .slice none 0 0]), 2, 48) := by kernel_rfl
theorem ty_eq26 : eqFlat Try.prog 26 = none := by kernel_rfl
theorem ty_f26_0 : fieldOf Try.prog 26 0 = some (0, 23) := by kernel_rfl
theorem ty_f26_1 : fieldOf Try.prog 26 1 = some (1, 24) := by kernel_rfl
theorem tY26 : (szOf Try.prog 26 = 2) ∧ (isSt Try.prog 26 = true) ∧ (isCell Try.prog 26 = false) ∧ (ckOf Try.prog 26 = [.sl 3, .sl 2]) ∧ (inf Try.prog 26 = some (some (.agg #[.slice none 0 0, .slice none 0 0]), 2, 48)) ∧ (eqFlat Try.prog 26 = none) ∧ (fieldOf Try.prog 26 0 = some (0, 23)) ∧ (fieldOf Try.prog 26 1 = some (1, 24)) := ⟨ty_sz26, ty_st26, ty_cell26, ty_ck26, ty_inf26, ty_eq26, ty_f26_0, ty_f26_1⟩
theorem ty_sz35 : szOf Try.prog 35 = 2 := by kernel_rfl
theorem ty_st35 : isSt Try.prog 35 = true := by kernel_rfl
theorem ty_cell35 : isCell Try.prog 35 = false := by kernel_rfl
theorem ty_ck35 : ckOf Try.prog 35 = [.int .i64, .sl 1] := by kernel_rfl
theorem ty_inf35 : inf Try.prog 35 = some (some (.agg #[.int .i64 0, .slice none 0 0]), 2, 32) := by kernel_rfl
theorem ty_eq35 : eqFlat Try.prog 35 = none := by kernel_rfl
theorem ty_f35_0 : fieldOf Try.prog 35 0 = some (0, 3) := by kernel_rfl
theorem ty_f35_1 : fieldOf Try.prog 35 1 = some (1, 22) := by kernel_rfl
theorem tY35 : (szOf Try.prog 35 = 2) ∧ (isSt Try.prog 35 = true) ∧ (isCell Try.prog 35 = false) ∧ (ckOf Try.prog 35 = [.int .i64, .sl 1]) ∧ (inf Try.prog 35 = some (some (.agg #[.int .i64 0, .slice none 0 0]), 2, 32)) ∧ (eqFlat Try.prog 35 = none) ∧ (fieldOf Try.prog 35 0 = some (0, 3)) ∧ (fieldOf Try.prog 35 1 = some (1, 22)) := ⟨ty_sz35, ty_st35, ty_cell35, ty_ck35, ty_inf35, ty_eq35, ty_f35_0, ty_f35_1⟩
theorem ty_sz36 : szOf Try.prog 36 = 2 := by kernel_rfl
theorem ty_st36 : isSt Try.prog 36 = true := by kernel_rfl
theorem ty_cell36 : isCell Try.prog 36 = false := by kernel_rfl
theorem ty_ck36 : ckOf Try.prog 36 = [.int .i64, .sl 1] := by kernel_rfl
theorem ty_inf36 : inf Try.prog 36 = some (some (.agg #[.int .i64 0, .slice none 0 0]), 2, 32) := by kernel_rfl
theorem ty_eq36 : eqFlat Try.prog 36 = none := by kernel_rfl
theorem ty_f36_0 : fieldOf Try.prog 36 0 = some (0, 3) := by kernel_rfl
theorem ty_f36_1 : fieldOf Try.prog 36 1 = some (1, 22) := by kernel_rfl
theorem tY36 : (szOf Try.prog 36 = 2) ∧ (isSt Try.prog 36 = true) ∧ (isCell Try.prog 36 = false) ∧ (ckOf Try.prog 36 = [.int .i64, .sl 1]) ∧ (inf Try.prog 36 = some (some (.agg #[.int .i64 0, .slice none 0 0]), 2, 32)) ∧ (eqFlat Try.prog 36 = none) ∧ (fieldOf Try.prog 36 0 = some (0, 3)) ∧ (fieldOf Try.prog 36 1 = some (1, 22)) := ⟨ty_sz36, ty_st36, ty_cell36, ty_ck36, ty_inf36, ty_eq36, ty_f36_0, ty_f36_1⟩
theorem ty_sz39 : szOf Try.prog 39 = 4 := by kernel_rfl
theorem ty_st39 : isSt Try.prog 39 = true := by kernel_rfl
theorem ty_cell39 : isCell Try.prog 39 = false := by kernel_rfl
theorem ty_ck39 : ckOf Try.prog 39 = [.int .i64, .int .i64, .int .i64, .int .i64] := by kernel_rfl
theorem ty_inf39 : inf Try.prog 39 = some (some (.agg #[.int .i64 0, .int .i64 0, .int .i64 0, .int .i64 0]), 4, 32) := by kernel_rfl
theorem ty_eq39 : eqFlat Try.prog 39 = some [true, true, true, true] := by kernel_rfl
theorem ty_f39_0 : fieldOf Try.prog 39 0 = some (0, 3) := by kernel_rfl
theorem ty_f39_1 : fieldOf Try.prog 39 1 = some (1, 3) := by kernel_rfl
theorem ty_f39_2 : fieldOf Try.prog 39 2 = some (2, 3) := by kernel_rfl
theorem ty_f39_3 : fieldOf Try.prog 39 3 = some (3, 3) := by kernel_rfl
theorem tY39 : (szOf Try.prog 39 = 4) ∧ (isSt Try.prog 39 = true) ∧ (isCell Try.prog 39 = false) ∧ (ckOf Try.prog 39 = [.int .i64, .int .i64, .int .i64, .int .i64]) ∧ (inf Try.prog 39 = some (some (.agg #[.int .i64 0, .int .i64 0, .int .i64 0, .int .i64 0]), 4, 32)) ∧ (eqFlat Try.prog 39 = some [true, true, true, true]) ∧ (fieldOf Try.prog 39 0 = some (0, 3)) ∧ (fieldOf Try.prog 39 1 = some (1, 3)) ∧ (fieldOf Try.prog 39 2 = some (2, 3)) ∧ (fieldOf Try.prog 39 3 = some (3, 3)) := ⟨ty_sz39, ty_st39, ty_cell39, ty_ck39, ty_inf39, ty_eq39, ty_f39_0, ty_f39_1, ty_f39_2, ty_f39_3⟩
theorem ty_sz40 : szOf Try.prog 40 = 4 := by kernel_rfl
theorem ty_st40 : isSt Try.prog 40 = true := by kernel_rfl
theorem ty_cell40 : isCell Try.prog 40 = false := by kernel_rfl
theorem ty_ck40 : ckOf Try.prog 40 = [.int .i64, .int .i64, .int .i64, .int .i64] := by kernel_rfl
theorem ty_inf40 : inf Try.prog 40 = some (some (.agg #[.int .i64 0, .int .i64 0, .int .i64 0, .int .i64 0]), 4, 32) := by kernel_rfl
theorem ty_eq40 : eqFlat Try.prog 40 = some [true, true, true, true] := by kernel_rfl
theorem ty_f40_0 : fieldOf Try.prog 40 0 = some (0, 3) := by kernel_rfl
theorem ty_f40_1 : fieldOf Try.prog 40 1 = some (1, 3) := by kernel_rfl
theorem ty_f40_2 : fieldOf Try.prog 40 2 = some (2, 3) := by kernel_rfl
theorem ty_f40_3 : fieldOf Try.prog 40 3 = some (3, 3) := by kernel_rfl
theorem tY40 : (szOf Try.prog 40 = 4) ∧ (isSt Try.prog 40 = true) ∧ (isCell Try.prog 40 = false) ∧ (ckOf Try.prog 40 = [.int .i64, .int .i64, .int .i64, .int .i64]) ∧ (inf Try.prog 40 = some (some (.agg #[.int .i64 0, .int .i64 0, .int .i64 0, .int .i64 0]), 4, 32)) ∧ (eqFlat Try.prog 40 = some [true, true, true, true]) ∧ (fieldOf Try.prog 40 0 = some (0, 3)) ∧ (fieldOf Try.prog 40 1 = some (1, 3)) ∧ (fieldOf Try.prog 40 2 = some (2, 3)) ∧ (fieldOf Try.prog 40 3 = some (3, 3)) := ⟨ty_sz40, ty_st40, ty_cell40, ty_ck40, ty_inf40, ty_eq40, ty_f40_0, ty_f40_1, ty_f40_2, ty_f40_3⟩
theorem ty_sz43 : szOf Try.prog 43 = 1 := by kernel_rfl
theorem ty_st43 : isSt Try.prog 43 = false := by kernel_rfl
theorem ty_cell43 : isCell Try.prog 43 = true := by kernel_rfl
theorem ty_ck43 : ckOf Try.prog 43 = [.sl 1] := by kernel_rfl
theorem ty_inf43 : inf Try.prog 43 = some (some (.slice none 0 0), 1, 24) := by kernel_rfl
theorem tY43 : (szOf Try.prog 43 = 1) ∧ (isSt Try.prog 43 = false) ∧ (isCell Try.prog 43 = true) ∧ (ckOf Try.prog 43 = [.sl 1]) ∧ (inf Try.prog 43 = some (some (.slice none 0 0), 1, 24)) := ⟨ty_sz43, ty_st43, ty_cell43, ty_ck43, ty_inf43⟩
theorem ty_sz49 : szOf Try.prog 49 = 9 := by kernel_rfl
theorem ty_st49 : isSt Try.prog 49 = true := by kernel_rfl
theorem ty_cell49 : isCell Try.prog 49 = false := by kernel_rfl
theorem ty_ck49 : ckOf Try.prog 49 = [.int .i64, .int .i64, .int .i64, .int .i64, .int .i64, .int .i64, .bool, .bool, .sl 1] := by kernel_rfl
theorem ty_inf49 : inf Try.prog 49 = some (some (.agg #[.int .i64 0, .int .i64 0, .int .i64 0, .int .i64 0, .int .i64 0, .int .i64 0, .bool false, .bool false, .slice none 0 0]), 9, 80) := by kernel_rfl
theorem ty_eq49 : eqFlat Try.prog 49 = none := by kernel_rfl
theorem ty_f49_0 : fieldOf Try.prog 49 0 = some (0, 3) := by kernel_rfl
theorem ty_f49_1 : fieldOf Try.prog 49 1 = some (1, 3) := by kernel_rfl
theorem ty_f49_2 : fieldOf Try.prog 49 2 = some (2, 3) := by kernel_rfl
theorem ty_f49_3 : fieldOf Try.prog 49 3 = some (3, 3) := by kernel_rfl
theorem ty_f49_4 : fieldOf Try.prog 49 4 = some (4, 3) := by kernel_rfl
theorem ty_f49_5 : fieldOf Try.prog 49 5 = some (5, 3) := by kernel_rfl
theorem ty_f49_6 : fieldOf Try.prog 49 6 = some (6, 4) := by kernel_rfl
theorem ty_f49_7 : fieldOf Try.prog 49 7 = some (7, 4) := by kernel_rfl
theorem ty_f49_8 : fieldOf Try.prog 49 8 = some (8, 22) := by kernel_rfl
theorem tY49 : (szOf Try.prog 49 = 9) ∧ (isSt Try.prog 49 = true) ∧ (isCell Try.prog 49 = false) ∧ (ckOf Try.prog 49 = [.int .i64, .int .i64, .int .i64, .int .i64, .int .i64, .int .i64, .bool, .bool, .sl 1]) ∧ (inf Try.prog 49 = some (some (.agg #[.int .i64 0, .int .i64 0, .int .i64 0, .int .i64 0, .int .i64 0, .int .i64 0, .bool false, .bool false, .slice none 0 0]), 9, 80)) ∧ (eqFlat Try.prog 49 = none) ∧ (fieldOf Try.prog 49 0 = some (0, 3)) ∧ (fieldOf Try.prog 49 1 = some (1, 3)) ∧ (fieldOf Try.prog 49 2 = some (2, 3)) ∧ (fieldOf Try.prog 49 3 = some (3, 3)) ∧ (fieldOf Try.prog 49 4 = some (4, 3)) ∧ (fieldOf Try.prog 49 5 = some (5, 3)) ∧ (fieldOf Try.prog 49 6 = some (6, 4)) ∧ (fieldOf Try.prog 49 7 = some (7, 4)) ∧ (fieldOf Try.prog 49 8 = some (8, 22)) := ⟨ty_sz49, ty_st49, ty_cell49, ty_ck49, ty_inf49, ty_eq49, ty_f49_0, ty_f49_1, ty_f49_2, ty_f49_3, ty_f49_4, ty_f49_5, ty_f49_6, ty_f49_7, ty_f49_8⟩
theorem ty_sz50 : szOf Try.prog 50 = 9 := by kernel_rfl
theorem ty_st50 : isSt Try.prog 50 = true := by kernel_rfl
theorem ty_cell50 : isCell Try.prog 50 = false := by kernel_rfl
theorem ty_ck50 : ckOf Try.prog 50 = [.int .i64, .int .i64, .int .i64, .int .i64, .int .i64, .int .i64, .bool, .bool, .sl 1] := by kernel_rfl
theorem ty_inf50 : inf Try.prog 50 = some (some (.agg #[.int .i64 0, .int .i64 0, .int .i64 0, .int .i64 0, .int .i64 0, .int .i64 0, .bool false, .bool false, .slice none 0 0]), 9, 80) := by kernel_rfl
theorem ty_eq50 : eqFlat Try.prog 50 = none := by kernel_rfl
theorem ty_f50_0 : fieldOf Try.prog 50 0 = some (0, 3) := by kernel_rfl
theorem ty_f50_1 : fieldOf Try.prog 50 1 = some (1, 3) := by kernel_rfl
theorem ty_f50_2 : fieldOf Try.prog 50 2 = some (2, 3) := by kernel_rfl
theorem ty_f50_3 : fieldOf Try.prog 50 3 = some (3, 3) := by kernel_rfl
theorem ty_f50_4 : fieldOf Try.prog 50 4 = some (4, 3) := by kernel_rfl
theorem ty_f50_5 : fieldOf Try.prog 50 5 = some (5, 3) := by kernel_rfl
theorem ty_f50_6 : fieldOf Try.prog 50 6 = some (6, 4) := by kernel_rfl
theorem ty_f50_7 : fieldOf Try.prog 50 7 = some (7, 4) := by kernel_rfl
theorem ty_f50_8 : fieldOf Try.prog 50 8 = some (8, 22) := by kernel_rfl
theorem tY50 : (szOf Try.prog 50 = 9) ∧ (isSt Try.prog 50 = true) ∧ (isCell Try.prog 50 = false) ∧ (ckOf Try.prog 50 = [.int .i64, .int .i64, .int .i64, .int .i64, .int .i64, .int .i64, .bool, .bool, .sl 1]) ∧ (inf Try.prog 50 = some (some (.agg #[.int .i64 0, .int .i64 0, .int .i64 0, .int .i64 0, .int .i64 0, .int .i64 0, .bool false, .bool false, .slice none 0 0]), 9, 80)) ∧ (eqFlat Try.prog 50 = none) ∧ (fieldOf Try.prog 50 0 = some (0, 3)) ∧ (fieldOf Try.prog 50 1 = some (1, 3)) ∧ (fieldOf Try.prog 50 2 = some (2, 3)) ∧ (fieldOf Try.prog 50 3 = some (3, 3)) ∧ (fieldOf Try.prog 50 4 = some (4, 3)) ∧ (fieldOf Try.prog 50 5 = some (5, 3)) ∧ (fieldOf Try.prog 50 6 = some (6, 4)) ∧ (fieldOf Try.prog 50 7 = some (7, 4)) ∧ (fieldOf Try.prog 50 8 = some (8, 22)) := ⟨ty_sz50, ty_st50, ty_cell50, ty_ck50, ty_inf50, ty_eq50, ty_f50_0, ty_f50_1, ty_f50_2, ty_f50_3, ty_f50_4, ty_f50_5, ty_f50_6, ty_f50_7, ty_f50_8⟩
theorem ty_sz60 : szOf Try.prog 60 = 1 := by kernel_rfl
theorem ty_st60 : isSt Try.prog 60 = false := by kernel_rfl
theorem ty_cell60 : isCell Try.prog 60 = true := by kernel_rfl
theorem ty_ck60 : ckOf Try.prog 60 = [.sl 3] := by kernel_rfl
theorem ty_inf60 : inf Try.prog 60 = some (some (.slice none 0 0), 1, 24) := by kernel_rfl
theorem tY60 : (szOf Try.prog 60 = 1) ∧ (isSt Try.prog 60 = false) ∧ (isCell Try.prog 60 = true) ∧ (ckOf Try.prog 60 = [.sl 3]) ∧ (inf Try.prog 60 = some (some (.slice none 0 0), 1, 24)) := ⟨ty_sz60, ty_st60, ty_cell60, ty_ck60, ty_inf60⟩
theorem ty_sz61 : szOf Try.prog 61 = 1 := by kernel_rfl
theorem ty_st61 : isSt Try.prog 61 = false := by kernel_rfl
theorem ty_cell61 : isCell Try.prog 61 = true := by kernel_rfl
theorem ty_ck61 : ckOf Try.prog 61 = [.sl 2] := by kernel_rfl
theorem ty_inf61 : inf Try.prog 61 = some (some (.slice none 0 0), 1, 24) := by kernel_rfl
theorem tY61 : (szOf Try.prog 61 = 1) ∧ (isSt Try.prog 61 = false) ∧ (isCell Try.prog 61 = true) ∧ (ckOf Try.prog 61 = [.sl 2]) ∧ (inf Try.prog 61 = some (some (.slice none 0 0), 1, 24)) := ⟨ty_sz61, ty_st61, ty_cell61, ty_ck61, ty_inf61⟩
theorem ty_sz62 : szOf Try.prog 62 = 2 := by kernel_rfl
theorem ty_st62 : isSt Try.prog 62 = true := by kernel_rfl
theorem ty_cell62 : isCell Try.prog 62 = false := by kernel_rfl
theorem ty_ck62 : ckOf Try.prog 62 = [.sl 3, .sl 2] := by kernel_rfl
theorem ty_inf62 : inf Try.prog 62 = some (some (.agg #[.slice none 0 0, .slice none 0 0]), 2, 48) := by kernel_rfl
theorem ty_eq62 : eqFlat Try.prog 62 = none := by kernel_rfl
theorem ty_f62_0 : fieldOf Try.prog 62 0 = some (0, 60) := by kernel_rfl
theorem ty_f62_1 : fieldOf Try.prog 62 1 = some (1, 61) := by kernel_rfl
theorem tY62 : (szOf Try.prog 62 = 2) ∧ (isSt Try.prog 62 = true) ∧ (isCell Try.prog 62 = false) ∧ (ckOf Try.prog 62 = [.sl 3, .sl 2]) ∧ (inf Try.prog 62 = some (some (.agg #[.slice none 0 0, .slice none 0 0]), 2, 48)) ∧ (eqFlat Try.prog 62 = none) ∧ (fieldOf Try.prog 62 0 = some (0, 60)) ∧ (fieldOf Try.prog 62 1 = some (1, 61)) := ⟨ty_sz62, ty_st62, ty_cell62, ty_ck62, ty_inf62, ty_eq62, ty_f62_0, ty_f62_1⟩
theorem ty_sz63 : szOf Try.prog 63 = 2 := by kernel_rfl
theorem ty_st63 : isSt Try.prog 63 = true := by kernel_rfl
theorem ty_cell63 : isCell Try.prog 63 = false := by kernel_rfl
theorem ty_ck63 : ckOf Try.prog 63 = [.sl 3, .sl 2] := by kernel_rfl
theorem ty_inf63 : inf Try.prog 63 = some (some (.agg #[.slice none 0 0, .slice none 0 0]), 2, 48) := by kernel_rfl
theorem ty_eq63 : eqFlat Try.prog 63 = none := by kernel_rfl
theorem ty_f63_0 : fieldOf Try.prog 63 0 = some (0, 60) := by kernel_rfl
theorem ty_f63_1 : fieldOf Try.prog 63 1 = some (1, 61) := by kernel_rfl
theorem tY63 : (szOf Try.prog 63 = 2) ∧ (isSt Try.prog 63 = true) ∧ (isCell Try.prog 63 = false) ∧ (ckOf Try.prog 63 = [.sl 3, .sl 2]) ∧ (inf Try.prog 63 = some (some (.agg #[.slice none 0 0, .slice none 0 0]), 2, 48)) ∧ (eqFlat Try.prog 63 = none) ∧ (fieldOf Try.prog 63 0 = some (0, 60)) ∧ (fieldOf Try.prog 63 1 = some (1, 61)) := ⟨ty_sz63, ty_st63, ty_cell63, ty_ck63, ty_inf63, ty_eq63, ty_f63_0, ty_f63_1⟩
theorem ty_sz69 : szOf Try.prog 69 = 4 := by kernel_rfl
theorem ty_st69 : isSt Try.prog 69 = true := by kernel_rfl
theorem ty_cell69 : isCell Try.prog 69 = false := by kernel_rfl
theorem ty_ck69 : ckOf Try.prog 69 = [.int .i64, .int .i64, .int .i64, .int .i64] := by kernel_rfl
theorem ty_inf69 : inf Try.prog 69 = some (some (.agg #[.int .i64 0, .int .i64 0, .int .i64 0, .int .i64 0]), 4, 32) := by kernel_rfl
theorem ty_eq69 : eqFlat Try.prog 69 = some [true, true, true, true] := by kernel_rfl
theorem ty_f69_0 : fieldOf Try.prog 69 0 = some (0, 3) := by kernel_rfl
theorem ty_f69_1 : fieldOf Try.prog 69 1 = some (1, 3) := by kernel_rfl
theorem ty_f69_2 : fieldOf Try.prog 69 2 = some (2, 3) := by kernel_rfl
theorem ty_f69_3 : fieldOf Try.prog 69 3 = some (3, 3) := by kernel_rfl
theorem tY69 : (szOf Try.prog 69 = 4) ∧ (isSt Try.prog 69 = true) ∧ (isCell Try.prog 69 = false) ∧ (ckOf Try.prog 69 = [.int .i64, .int .i64, .int .i64, .int .i64]) ∧ (inf Try.prog 69 = some (some (.agg #[.int .i64 0, .int .i64 0, .int .i64 0, .int .i64 0]), 4, 32)) ∧ (eqFlat Try.prog 69 = some [true, true, true, true]) ∧ (fieldOf Try.prog 69 0 = some (0, 3)) ∧ (fieldOf Try.prog 69 1 = some (1, 3)) ∧ (fieldOf Try.prog 69 2 = some (2, 3)) ∧ (fieldOf Try.prog 69 3 = some (3, 3)) := ⟨ty_sz69, ty_st69, ty_cell69, ty_ck69, ty_inf69, ty_eq69, ty_f69_0, ty_f69_1, ty_f69_2, ty_f69_3⟩
theorem ty_sz73 : szOf Try.prog 73 = 9 := by kernel_rfl
theorem ty_st73 : isSt Try.prog 73 = true := by kernel_rfl
theorem ty_cell73 : isCell Try.prog 73 = false := by kernel_rfl
theorem ty_ck73 : ckOf Try.prog 73 = [.int .i64, .int .i64, .int .i64, .int .i64, .int .i64, .int .i64, .bool, .bool, .sl 1] := by kernel_rfl
theorem ty_inf73 : inf Try.prog 73 = some (some (.agg #[.int .i64 0, .int .i64 0, .int .i64 0, .int .i64 0, .int .i64 0, .int .i64 0, .bool false, .bool false, .slice none 0 0]), 9, 80) := by kernel_rfl
theorem ty_eq73 : eqFlat Try.prog 73 = none := by kernel_rfl
theorem ty_f73_0 : fieldOf Try.prog 73 0 = some (0, 3) := by kernel_rfl
theorem ty_f73_1 : fieldOf Try.prog 73 1 = some (1, 3) := by kernel_rfl
theorem ty_f73_2 : fieldOf Try.prog 73 2 = some (2, 3) := by kernel_rfl
theorem ty_f73_3 : fieldOf Try.prog 73 3 = some (3, 3) := by kernel_rfl
theorem ty_f73_4 : fieldOf Try.prog 73 4 = some (4, 3) := by kernel_rfl
theorem ty_f73_5 : fieldOf Try.prog 73 5 = some (5, 3) := by kernel_rfl
theorem ty_f73_6 : fieldOf Try.prog 73 6 = some (6, 4) := by kernel_rfl
theorem ty_f73_7 : fieldOf Try.prog 73 7 = some (7, 4) := by kernel_rfl
theorem ty_f73_8 : fieldOf Try.prog 73 8 = some (8, 22) := by kernel_rfl
theorem tY73 : (szOf Try.prog 73 = 9) ∧ (isSt Try.prog 73 = true) ∧ (isCell Try.prog 73 = false) ∧ (ckOf Try.prog 73 = [.int .i64, .int .i64, .int .i64, .int .i64, .int .i64, .int .i64, .bool, .bool, .sl 1]) ∧ (inf Try.prog 73 = some (some (.agg #[.int .i64 0, .int .i64 0, .int .i64 0, .int .i64 0, .int .i64 0, .int .i64 0, .bool false, .bool false, .slice none 0 0]), 9, 80)) ∧ (eqFlat Try.prog 73 = none) ∧ (fieldOf Try.prog 73 0 = some (0, 3)) ∧ (fieldOf Try.prog 73 1 = some (1, 3)) ∧ (fieldOf Try.prog 73 2 = some (2, 3)) ∧ (fieldOf Try.prog 73 3 = some (3, 3)) ∧ (fieldOf Try.prog 73 4 = some (4, 3)) ∧ (fieldOf Try.prog 73 5 = some (5, 3)) ∧ (fieldOf Try.prog 73 6 = some (6, 4)) ∧ (fieldOf Try.prog 73 7 = some (7, 4)) ∧ (fieldOf Try.prog 73 8 = some (8, 22)) := ⟨ty_sz73, ty_st73, ty_cell73, ty_ck73, ty_inf73, ty_eq73, ty_f73_0, ty_f73_1, ty_f73_2, ty_f73_3, ty_f73_4, ty_f73_5, ty_f73_6, ty_f73_7, ty_f73_8⟩
theorem ty_sz88 : szOf Try.prog 88 = 3 := by kernel_rfl
theorem ty_st88 : isSt Try.prog 88 = true := by kernel_rfl
theorem ty_cell88 : isCell Try.prog 88 = false := by kernel_rfl
theorem ty_ck88 : ckOf Try.prog 88 = [.int .i64, .int .i64, .int .i64] := by kernel_rfl
theorem ty_inf88 : inf Try.prog 88 = some (some (.agg #[.int .i64 0, .int .i64 0, .int .i64 0]), 3, 24) := by kernel_rfl
theorem ty_eq88 : eqFlat Try.prog 88 = some [true, true, true] := by kernel_rfl
theorem ty_f88_0 : fieldOf Try.prog 88 0 = some (0, 3) := by kernel_rfl
theorem ty_f88_1 : fieldOf Try.prog 88 1 = some (1, 3) := by kernel_rfl
theorem ty_f88_2 : fieldOf Try.prog 88 2 = some (2, 3) := by kernel_rfl
theorem tY88 : (szOf Try.prog 88 = 3) ∧ (isSt Try.prog 88 = true) ∧ (isCell Try.prog 88 = false) ∧ (ckOf Try.prog 88 = [.int .i64, .int .i64, .int .i64]) ∧ (inf Try.prog 88 = some (some (.agg #[.int .i64 0, .int .i64 0, .int .i64 0]), 3, 24)) ∧ (eqFlat Try.prog 88 = some [true, true, true]) ∧ (fieldOf Try.prog 88 0 = some (0, 3)) ∧ (fieldOf Try.prog 88 1 = some (1, 3)) ∧ (fieldOf Try.prog 88 2 = some (2, 3)) := ⟨ty_sz88, ty_st88, ty_cell88, ty_ck88, ty_inf88, ty_eq88, ty_f88_0, ty_f88_1, ty_f88_2⟩
theorem ty_sz89 : szOf Try.prog 89 = 3 := by kernel_rfl
theorem ty_st89 : isSt Try.prog 89 = true := by kernel_rfl
theorem ty_cell89 : isCell Try.prog 89 = false := by kernel_rfl
theorem ty_ck89 : ckOf Try.prog 89 = [.int .i64, .int .i64, .int .i64] := by kernel_rfl
theorem ty_inf89 : inf Try.prog 89 = some (some (.agg #[.int .i64 0, .int .i64 0, .int .i64 0]), 3, 24) := by kernel_rfl
theorem ty_eq89 : eqFlat Try.prog 89 = some [true, true, true] := by kernel_rfl
theorem ty_f89_0 : fieldOf Try.prog 89 0 = some (0, 3) := by kernel_rfl
theorem ty_f89_1 : fieldOf Try.prog 89 1 = some (1, 3) := by kernel_rfl
theorem ty_f89_2 : fieldOf Try.prog 89 2 = some (2, 3) := by kernel_rfl
theorem tY89 : (szOf Try.prog 89 = 3) ∧ (isSt Try.prog 89 = true) ∧ (isCell Try.prog 89 = false) ∧ (ckOf Try.prog 89 = [.int .i64, .int .i64, .int .i64]) ∧ (inf Try.prog 89 = some (some (.agg #[.int .i64 0, .int .i64 0, .int .i64 0]), 3, 24)) ∧ (eqFlat Try.prog 89 = some [true, true, true]) ∧ (fieldOf Try.prog 89 0 = some (0, 3)) ∧ (fieldOf Try.prog 89 1 = some (1, 3)) ∧ (fieldOf Try.prog 89 2 = some (2, 3)) := ⟨ty_sz89, ty_st89, ty_cell89, ty_ck89, ty_inf89, ty_eq89, ty_f89_0, ty_f89_1, ty_f89_2⟩
theorem ty_sz112 : szOf Try.prog 112 = 2 := by kernel_rfl
theorem ty_st112 : isSt Try.prog 112 = true := by kernel_rfl
theorem ty_cell112 : isCell Try.prog 112 = false := by kernel_rfl
theorem ty_ck112 : ckOf Try.prog 112 = [.sl 1, .int .i64] := by kernel_rfl
theorem ty_inf112 : inf Try.prog 112 = some (some (.agg #[.slice none 0 0, .int .i64 0]), 2, 32) := by kernel_rfl
theorem ty_eq112 : eqFlat Try.prog 112 = none := by kernel_rfl
theorem ty_f112_0 : fieldOf Try.prog 112 0 = some (0, 22) := by kernel_rfl
theorem ty_f112_1 : fieldOf Try.prog 112 1 = some (1, 3) := by kernel_rfl
theorem tY112 : (szOf Try.prog 112 = 2) ∧ (isSt Try.prog 112 = true) ∧ (isCell Try.prog 112 = false) ∧ (ckOf Try.prog 112 = [.sl 1, .int .i64]) ∧ (inf Try.prog 112 = some (some (.agg #[.slice none 0 0, .int .i64 0]), 2, 32)) ∧ (eqFlat Try.prog 112 = none) ∧ (fieldOf Try.prog 112 0 = some (0, 22)) ∧ (fieldOf Try.prog 112 1 = some (1, 3)) := ⟨ty_sz112, ty_st112, ty_cell112, ty_ck112, ty_inf112, ty_eq112, ty_f112_0, ty_f112_1⟩
theorem ty_sz113 : szOf Try.prog 113 = 2 := by kernel_rfl
theorem ty_st113 : isSt Try.prog 113 = true := by kernel_rfl
theorem ty_cell113 : isCell Try.prog 113 = false := by kernel_rfl
theorem ty_ck113 : ckOf Try.prog 113 = [.sl 1, .int .i64] := by kernel_rfl
theorem ty_inf113 : inf Try.prog 113 = some (some (.agg #[.slice none 0 0, .int .i64 0]), 2, 32) := by kernel_rfl
theorem ty_eq113 : eqFlat Try.prog 113 = none := by kernel_rfl
theorem ty_f113_0 : fieldOf Try.prog 113 0 = some (0, 22) := by kernel_rfl
theorem ty_f113_1 : fieldOf Try.prog 113 1 = some (1, 3) := by kernel_rfl
theorem tY113 : (szOf Try.prog 113 = 2) ∧ (isSt Try.prog 113 = true) ∧ (isCell Try.prog 113 = false) ∧ (ckOf Try.prog 113 = [.sl 1, .int .i64]) ∧ (inf Try.prog 113 = some (some (.agg #[.slice none 0 0, .int .i64 0]), 2, 32)) ∧ (eqFlat Try.prog 113 = none) ∧ (fieldOf Try.prog 113 0 = some (0, 22)) ∧ (fieldOf Try.prog 113 1 = some (1, 3)) := ⟨ty_sz113, ty_st113, ty_cell113, ty_ck113, ty_inf113, ty_eq113, ty_f113_0, ty_f113_1⟩
theorem ty_sz119 : szOf Try.prog 119 = 2 := by kernel_rfl
theorem ty_st119 : isSt Try.prog 119 = true := by kernel_rfl
theorem ty_cell119 : isCell Try.prog 119 = false := by kernel_rfl
theorem ty_ck119 : ckOf Try.prog 119 = [.int .i64, .sl 1] := by kernel_rfl
theorem ty_inf119 : inf Try.prog 119 = some (some (.agg #[.int .i64 0, .slice none 0 0]), 2, 32) := by kernel_rfl
theorem ty_eq119 : eqFlat Try.prog 119 = none := by kernel_rfl
theorem ty_f119_0 : fieldOf Try.prog 119 0 = some (0, 3) := by kernel_rfl
theorem ty_f119_1 : fieldOf Try.prog 119 1 = some (1, 22) := by kernel_rfl
theorem tY119 : (szOf Try.prog 119 = 2) ∧ (isSt Try.prog 119 = true) ∧ (isCell Try.prog 119 = false) ∧ (ckOf Try.prog 119 = [.int .i64, .sl 1]) ∧ (inf Try.prog 119 = some (some (.agg #[.int .i64 0, .slice none 0 0]), 2, 32)) ∧ (eqFlat Try.prog 119 = none) ∧ (fieldOf Try.prog 119 0 = some (0, 3)) ∧ (fieldOf Try.prog 119 1 = some (1, 22)) := ⟨ty_sz119, ty_st119, ty_cell119, ty_ck119, ty_inf119, ty_eq119, ty_f119_0, ty_f119_1⟩
theorem ty_sz121 : szOf Try.prog 121 = 3 := by kernel_rfl
theorem ty_st121 : isSt Try.prog 121 = true := by kernel_rfl
theorem ty_cell121 : isCell Try.prog 121 = false := by kernel_rfl
theorem ty_ck121 : ckOf Try.prog 121 = [.int .i64, .int .i64, .int .i64] := by kernel_rfl
theorem ty_inf121 : inf Try.prog 121 = some (some (.agg #[.int .i64 0, .int .i64 0, .int .i64 0]), 3, 24) := by kernel_rfl
theorem ty_eq121 : eqFlat Try.prog 121 = some [true, true, true] := by kernel_rfl
theorem ty_f121_0 : fieldOf Try.prog 121 0 = some (0, 3) := by kernel_rfl
theorem ty_f121_1 : fieldOf Try.prog 121 1 = some (1, 3) := by kernel_rfl
theorem ty_f121_2 : fieldOf Try.prog 121 2 = some (2, 3) := by kernel_rfl
theorem tY121 : (szOf Try.prog 121 = 3) ∧ (isSt Try.prog 121 = true) ∧ (isCell Try.prog 121 = false) ∧ (ckOf Try.prog 121 = [.int .i64, .int .i64, .int .i64]) ∧ (inf Try.prog 121 = some (some (.agg #[.int .i64 0, .int .i64 0, .int .i64 0]), 3, 24)) ∧ (eqFlat Try.prog 121 = some [true, true, true]) ∧ (fieldOf Try.prog 121 0 = some (0, 3)) ∧ (fieldOf Try.prog 121 1 = some (1, 3)) ∧ (fieldOf Try.prog 121 2 = some (2, 3)) := ⟨ty_sz121, ty_st121, ty_cell121, ty_ck121, ty_inf121, ty_eq121, ty_f121_0, ty_f121_1, ty_f121_2⟩
theorem ty_sz132 : szOf Try.prog 132 = 1 := by kernel_rfl
theorem ty_st132 : isSt Try.prog 132 = false := by kernel_rfl
theorem ty_cell132 : isCell Try.prog 132 = true := by kernel_rfl
theorem ty_ck132 : ckOf Try.prog 132 = [.int .u32] := by kernel_rfl
theorem ty_inf132 : inf Try.prog 132 = some (some (.int .u32 0), 1, 4) := by kernel_rfl
theorem tY132 : (szOf Try.prog 132 = 1) ∧ (isSt Try.prog 132 = false) ∧ (isCell Try.prog 132 = true) ∧ (ckOf Try.prog 132 = [.int .u32]) ∧ (inf Try.prog 132 = some (some (.int .u32 0), 1, 4)) := ⟨ty_sz132, ty_st132, ty_cell132, ty_ck132, ty_inf132⟩
theorem ty_sz141 : szOf Try.prog 141 = 1 := by kernel_rfl
theorem ty_st141 : isSt Try.prog 141 = false := by kernel_rfl
theorem ty_cell141 : isCell Try.prog 141 = true := by kernel_rfl
theorem ty_ck141 : ckOf Try.prog 141 = [.other] := by kernel_rfl
theorem ty_inf141 : inf Try.prog 141 = some (some (.pointer none), 1, 8) := by kernel_rfl
theorem tY141 : (szOf Try.prog 141 = 1) ∧ (isSt Try.prog 141 = false) ∧ (isCell Try.prog 141 = true) ∧ (ckOf Try.prog 141 = [.other]) ∧ (inf Try.prog 141 = some (some (.pointer none), 1, 8)) := ⟨ty_sz141, ty_st141, ty_cell141, ty_ck141, ty_inf141⟩
end Go.Proofs.Ytdanjfnobanehaa
