/-
  What the evaluation asks of the types of this seat: closed facts on the program's table. By a tool.
-/
import Derived.Test.YtpompkogpdnlcaaRd
namespace Go.Proofs.Ytpompkogpdnlcaa
theorem ty_sz2 : szOf Try.prog 2 = 1 := by kernel_rfl
theorem ty_st2 : isSt Try.prog 2 = false := by kernel_rfl
theorem ty_cell2 : isCell Try.prog 2 = true := by kernel_rfl
theorem ty_ck2 : ckOf Try.prog 2 = [.int .i64] := by kernel_rfl
theorem ty_inf2 : inf Try.prog 2 = some (some (.int .i64 0), 1, 8) := by kernel_rfl
theorem ty_sz3 : szOf Try.prog 3 = 1 := by kernel_rfl
theorem ty_st3 : isSt Try.prog 3 = false := by kernel_rfl
theorem ty_cell3 : isCell Try.prog 3 = true := by kernel_rfl
theorem ty_ck3 : ckOf Try.prog 3 = [.int .i64] := by kernel_rfl
theorem ty_inf3 : inf Try.prog 3 = some (some (.int .i64 0), 1, 8) := by kernel_rfl
theorem ty_sz4 : szOf Try.prog 4 = 1 := by kernel_rfl
theorem ty_st4 : isSt Try.prog 4 = false := by kernel_rfl
theorem ty_cell4 : isCell Try.prog 4 = true := by kernel_rfl
theorem ty_ck4 : ckOf Try.prog 4 = [.bool] := by kernel_rfl
theorem ty_inf4 : inf Try.prog 4 = some (some (.bool false), 1, 1) := by kernel_rfl
theorem ty_sz5 : szOf Try.prog 5 = 1 := by kernel_rfl
theorem ty_st5 : isSt Try.prog 5 = false := by kernel_rfl
theorem ty_cell5 : isCell Try.prog 5 = true := by kernel_rfl
theorem ty_ck5 : ckOf Try.prog 5 = [.int .u8] := by kernel_rfl
theorem ty_inf5 : inf Try.prog 5 = some (some (.int .u8 0), 1, 1) := by kernel_rfl
theorem ty_sz9 : szOf Try.prog 9 = 1 := by kernel_rfl
theorem ty_st9 : isSt Try.prog 9 = false := by kernel_rfl
theorem ty_cell9 : isCell Try.prog 9 = true := by kernel_rfl
theorem ty_ck9 : ckOf Try.prog 9 = [.str] := by kernel_rfl
theorem ty_inf9 : inf Try.prog 9 = some (some (.string .empty), 1, 16) := by kernel_rfl
theorem ty_sz12 : szOf Try.prog 12 = 1 := by kernel_rfl
theorem ty_st12 : isSt Try.prog 12 = false := by kernel_rfl
theorem ty_cell12 : isCell Try.prog 12 = true := by kernel_rfl
theorem ty_ck12 : ckOf Try.prog 12 = [.int .u64] := by kernel_rfl
theorem ty_inf12 : inf Try.prog 12 = some (some (.int .u64 0), 1, 8) := by kernel_rfl
theorem ty_sz21 : szOf Try.prog 21 = 1 := by kernel_rfl
theorem ty_st21 : isSt Try.prog 21 = false := by kernel_rfl
theorem ty_cell21 : isCell Try.prog 21 = true := by kernel_rfl
theorem ty_ck21 : ckOf Try.prog 21 = [.int .i32] := by kernel_rfl
theorem ty_inf21 : inf Try.prog 21 = some (some (.int .i32 0), 1, 4) := by kernel_rfl
theorem ty_sz22 : szOf Try.prog 22 = 1 := by kernel_rfl
theorem ty_st22 : isSt Try.prog 22 = false := by kernel_rfl
theorem ty_cell22 : isCell Try.prog 22 = true := by kernel_rfl
theorem ty_ck22 : ckOf Try.prog 22 = [.sl 1] := by kernel_rfl
theorem ty_inf22 : inf Try.prog 22 = some (some (.slice none 0 0), 1, 24) := by kernel_rfl
theorem ty_sz23 : szOf Try.prog 23 = 4 := by kernel_rfl
theorem ty_st23 : isSt Try.prog 23 = true := by kernel_rfl
theorem ty_cell23 : isCell Try.prog 23 = false := by kernel_rfl
theorem ty_ck23 : ckOf Try.prog 23 = [.int .i64, .int .i64, .int .i64, .sl 1] := by kernel_rfl
theorem ty_inf23 : inf Try.prog 23 = some (some (.agg #[.int .i64 0, .int .i64 0, .int .i64 0, .slice none 0 0]), 4, 48) := by kernel_rfl
theorem ty_f23_0 : fieldOf Try.prog 23 0 = some (0, 3) := by kernel_rfl
theorem ty_f23_1 : fieldOf Try.prog 23 1 = some (1, 3) := by kernel_rfl
theorem ty_f23_2 : fieldOf Try.prog 23 2 = some (2, 3) := by kernel_rfl
theorem ty_f23_3 : fieldOf Try.prog 23 3 = some (3, 22) := by kernel_rfl
theorem ty_sz24 : szOf Try.prog 24 = 4 := by kernel_rfl
theorem ty_st24 : isSt Try.prog 24 = true := by kernel_rfl
theorem ty_cell24 : isCell Try.prog 24 = false := by kernel_rfl
theorem ty_ck24 : ckOf Try.prog 24 = [.int .i64, .int .i64, .int .i64, .sl 1] := by kernel_rfl
theorem ty_inf24 : inf Try.prog 24 = some (some (.agg #[.int .i64 0, .int .i64 0, .int .i64 0, .slice none 0 0]), 4, 48) := by kernel_rfl
theorem ty_f24_0 : fieldOf Try.prog 24 0 = some (0, 3) := by kernel_rfl
theorem ty_f24_1 : fieldOf Try.prog 24 1 = some (1, 3) := by kernel_rfl
theorem ty_f24_2 : fieldOf Try.prog 24 2 = some (2, 3) := by kernel_rfl
theorem ty_f24_3 : fieldOf Try.prog 24 3 = some (3, 22) := by kernel_rfl
theorem ty_sz38 : szOf Try.prog 38 = 4 := by kernel_rfl
theorem ty_st38 : isSt Try.prog 38 = true := by kernel_rfl
theorem ty_cell38 : isCell Try.prog 38 = false := by kernel_rfl
theorem ty_ck38 : ckOf Try.prog 38 = [.int .i64, .int .i64, .int .i64, .sl 1] := by kernel_rfl
theorem ty_inf38 : inf Try.prog 38 = some (some (.agg #[.int .i64 0, .int .i64 0, .int .i64 0, .slice none 0 0]), 4, 48) := by kernel_rfl
theorem ty_f38_0 : fieldOf Try.prog 38 0 = some (0, 3) := by kernel_rfl
theorem ty_f38_1 : fieldOf Try.prog 38 1 = some (1, 3) := by kernel_rfl
theorem ty_f38_2 : fieldOf Try.prog 38 2 = some (2, 3) := by kernel_rfl
theorem ty_f38_3 : fieldOf Try.prog 38 3 = some (3, 22) := by kernel_rfl
theorem ty_sz55 : szOf Try.prog 55 = 2 := by kernel_rfl
theorem ty_st55 : isSt Try.prog 55 = true := by kernel_rfl
theorem ty_cell55 : isCell Try.prog 55 = false := by kernel_rfl
theorem ty_ck55 : ckOf Try.prog 55 = [.sl 1, .int .i64] := by kernel_rfl
theorem ty_inf55 : inf Try.prog 55 = some (some (.agg #[.slice none 0 0, .int .i64 0]), 2, 32) := by kernel_rfl
theorem ty_f55_0 : fieldOf Try.prog 55 0 = some (0, 22) := by kernel_rfl
theorem ty_f55_1 : fieldOf Try.prog 55 1 = some (1, 3) := by kernel_rfl
theorem ty_sz56 : szOf Try.prog 56 = 2 := by kernel_rfl
theorem ty_st56 : isSt Try.prog 56 = true := by kernel_rfl
theorem ty_cell56 : isCell Try.prog 56 = false := by kernel_rfl
theorem ty_ck56 : ckOf Try.prog 56 = [.sl 1, .int .i64] := by kernel_rfl
theorem ty_inf56 : inf Try.prog 56 = some (some (.agg #[.slice none 0 0, .int .i64 0]), 2, 32) := by kernel_rfl
theorem ty_f56_0 : fieldOf Try.prog 56 0 = some (0, 22) := by kernel_rfl
theorem ty_f56_1 : fieldOf Try.prog 56 1 = some (1, 3) := by kernel_rfl
theorem ty_sz65 : szOf Try.prog 65 = 1 := by kernel_rfl
theorem ty_st65 : isSt Try.prog 65 = false := by kernel_rfl
theorem ty_cell65 : isCell Try.prog 65 = true := by kernel_rfl
theorem ty_ck65 : ckOf Try.prog 65 = [.int .u32] := by kernel_rfl
theorem ty_inf65 : inf Try.prog 65 = some (some (.int .u32 0), 1, 4) := by kernel_rfl
theorem ty_sz74 : szOf Try.prog 74 = 1 := by kernel_rfl
theorem ty_st74 : isSt Try.prog 74 = false := by kernel_rfl
theorem ty_cell74 : isCell Try.prog 74 = true := by kernel_rfl
theorem ty_ck74 : ckOf Try.prog 74 = [.other] := by kernel_rfl
theorem ty_inf74 : inf Try.prog 74 = some (some (.pointer none), 1, 8) := by kernel_rfl
end Go.Proofs.Ytpompkogpdnlcaa
