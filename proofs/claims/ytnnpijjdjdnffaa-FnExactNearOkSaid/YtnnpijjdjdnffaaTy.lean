/-
  What the evaluation asks of the types of this seat: closed facts on the program's table. By a tool.
-/
import Derived.Test.YtnnpijjdjdnffaaR1
namespace Go.Proofs.Ytnnpijjdjdnffaa
theorem ty_sz2 : szOf Try.prog 2 = 1 := by kernel_rfl
theorem ty_st2 : isSt Try.prog 2 = false := by kernel_rfl
theorem ty_cell2 : isCell Try.prog 2 = true := by kernel_rfl
theorem ty_ck2 : ckOf Try.prog 2 = [.int .i64] := by kernel_rfl
theorem ty_inf2 : inf Try.prog 2 = some (some (.int .i64 0), 1, 8) := by kernel_rfl
theorem ty_sz3 : szOf Try.prog 3 = 1 := by kernel_rfl
theorem ty_st3 : isSt Try.prog 3 = false := by kernel_rfl
theorem ty_cell3 : isCell Try.prog 3 = true := by kernel_rfl
theorem ty_ck3 : ckOf Try.prog 3 = [.int .i64] := by kernel_rfl
theorem ty_inf3 : inf Try.prog 3 = some (some (.int .i64 0), 1, 8) := by kernel_rfl
theorem ty_sz4 : szOf Try.prog 4 = 1 := by kernel_rfl
theorem ty_st4 : isSt Try.prog 4 = false := by kernel_rfl
theorem ty_cell4 : isCell Try.prog 4 = true := by kernel_rfl
theorem ty_ck4 : ckOf Try.prog 4 = [.bool] := by kernel_rfl
theorem ty_inf4 : inf Try.prog 4 = some (some (.bool false), 1, 1) := by kernel_rfl
theorem ty_sz5 : szOf Try.prog 5 = 1 := by kernel_rfl
theorem ty_st5 : isSt Try.prog 5 = false := by kernel_rfl
theorem ty_cell5 : isCell Try.prog 5 = true := by kernel_rfl
theorem ty_ck5 : ckOf Try.prog 5 = [.int .u8] := by kernel_rfl
theorem ty_inf5 : inf Try.prog 5 = some (some (.int .u8 0), 1, 1) := by kernel_rfl
theorem ty_sz9 : szOf Try.prog 9 = 1 := by kernel_rfl
theorem ty_st9 : isSt Try.prog 9 = false := by kernel_rfl
theorem ty_cell9 : isCell Try.prog 9 = true := by kernel_rfl
theorem ty_ck9 : ckOf Try.prog 9 = [.str] := by kernel_rfl
theorem ty_inf9 : inf Try.prog 9 = some (some (.string .empty), 1, 16) := by kernel_rfl
theorem ty_sz12 : szOf Try.prog 12 = 1 := by kernel_rfl
theorem ty_st12 : isSt Try.prog 12 = false := by kernel_rfl
theorem ty_cell12 : isCell Try.prog 12 = true := by kernel_rfl
theorem ty_ck12 : ckOf Try.prog 12 = [.int .u64] := by kernel_rfl
theorem ty_inf12 : inf Try.prog 12 = some (some (.int .u64 0), 1, 8) := by kernel_rfl
theorem ty_sz21 : szOf Try.prog 21 = 1 := by kernel_rfl
theorem ty_st21 : isSt Try.prog 21 = false := by kernel_rfl
theorem ty_cell21 : isCell Try.prog 21 = true := by kernel_rfl
theorem ty_ck21 : ckOf Try.prog 21 = [.int .i32] := by kernel_rfl
theorem ty_inf21 : inf Try.prog 21 = some (some (.int .i32 0), 1, 4) := by kernel_rfl
theorem ty_sz22 : szOf Try.prog 22 = 1 := by kernel_rfl
theorem ty_st22 : isSt Try.prog 22 = false := by kernel_rfl
theorem ty_cell22 : isCell Try.prog 22 = true := by kernel_rfl
theorem ty_ck22 : ckOf Try.prog 22 = [.sl 1] := by kernel_rfl
theorem ty_inf22 : inf Try.prog 22 = some (some (.slice none 0 0), 1, 24) := by kernel_rfl
theorem ty_sz23 : szOf Try.prog 23 = 4 := by kernel_rfl
theorem ty_st23 : isSt Try.prog 23 = true := by kernel_rfl
theorem ty_cell23 : isCell Try.prog 23 = false := by kernel_rfl
theorem ty_ck23 : ckOf Try.prog 23 = [.int .i64, .int .i64, .int .i64, .sl 1] := by kernel_rfl
theorem ty_inf23 : inf Try.prog 23 = some (some (.agg #[.int .i64 0, .int .i64 0, .int .i64 0, .slice none 0 0]), 4, 48) := by kernel_rfl
theorem ty_eq23 : eqFlat Try.prog 23 = none := by kernel_rfl
theorem ty_f23_0 : fieldOf Try.prog 23 0 = some (0, 3) := by kernel_rfl
theorem ty_f23_1 : fieldOf Try.prog 23 1 = some (1, 3) := by kernel_rfl
theorem ty_f23_2 : fieldOf Try.prog 23 2 = some (2, 3) := by kernel_rfl
theorem ty_f23_3 : fieldOf Try.prog 23 3 = some (3, 22) := by kernel_rfl
theorem ty_sz24 : szOf Try.prog 24 = 4 := by kernel_rfl
theorem ty_st24 : isSt Try.prog 24 = true := by kernel_rfl
theorem ty_cell24 : isCell Try.prog 24 = false := by kernel_rfl
theorem ty_ck24 : ckOf Try.prog 24 = [.int .i64, .int .i64, .int .i64, .sl 1] := by kernel_rfl
theorem ty_inf24 : inf Try.prog 24 = some (some (.agg #[.int .i64 0, .int .i64 0, .int .i64 0, .slice none 0 0]), 4, 48) := by kernel_rfl
theorem ty_eq24 : eqFlat Try.prog 24 = none := by kernel_rfl
theorem ty_f24_0 : fieldOf Try.prog 24 0 = some (0, 3) := by kernel_rfl
theorem ty_f24_1 : fieldOf Try.prog 24 1 = some (1, 3) := by kernel_rfl
theorem ty_f24_2 : fieldOf Try.prog 24 2 = some (2, 3) := by kernel_rfl
theorem ty_f24_3 : fieldOf Try.prog 24 3 = some (3, 22) := by kernel_rfl
theorem ty_sz35 : szOf Try.prog 35 = 4 := by kernel_rfl
theorem ty_st35 : isSt Try.prog 35 = true := by kernel_rfl
theorem ty_cell35 : isCell Try.prog 35 = false := by kernel_rfl
theorem ty_ck35 : ckOf Try.prog 35 = [.int .i64, .int .i64, .int .i64, .int .i64] := by kernel_rfl
theorem ty_inf35 : inf Try.prog 35 = some (some (.agg #[.int .i64 0, .int .i64 0, .int .i64 0, .int .i64 0]), 4, 32) := by kernel_rfl
theorem ty_eq35 : eqFlat Try.prog 35 = some [true, true, true, true] := by kernel_rfl
theorem ty_f35_0 : fieldOf Try.prog 35 0 = some (0, 3) := by kernel_rfl
theorem ty_f35_1 : fieldOf Try.prog 35 1 = some (1, 3) := by kernel_rfl
theorem ty_f35_2 : fieldOf Try.prog 35 2 = some (2, 3) := by kernel_rfl
theorem ty_f35_3 : fieldOf Try.prog 35 3 = some (3, 3) := by kernel_rfl
theorem ty_sz36 : szOf Try.prog 36 = 4 := by kernel_rfl
theorem ty_st36 : isSt Try.prog 36 = true := by kernel_rfl
theorem ty_cell36 : isCell Try.prog 36 = false := by kernel_rfl
theorem ty_ck36 : ckOf Try.prog 36 = [.int .i64, .int .i64, .int .i64, .int .i64] := by kernel_rfl
theorem ty_inf36 : inf Try.prog 36 = some (some (.agg #[.int .i64 0, .int .i64 0, .int .i64 0, .int .i64 0]), 4, 32) := by kernel_rfl
theorem ty_eq36 : eqFlat Try.prog 36 = some [true, true, true, true] := by kernel_rfl
theorem ty_f36_0 : fieldOf Try.prog 36 0 = some (0, 3) := by kernel_rfl
theorem ty_f36_1 : fieldOf Try.prog 36 1 = some (1, 3) := by kernel_rfl
theorem ty_f36_2 : fieldOf Try.prog 36 2 = some (2, 3) := by kernel_rfl
theorem ty_f36_3 : fieldOf Try.prog 36 3 = some (3, 3) := by kernel_rfl
theorem ty_sz38 : szOf Try.prog 38 = 4 := by kernel_rfl
theorem ty_st38 : isSt Try.prog 38 = true := by kernel_rfl
theorem ty_cell38 : isCell Try.prog 38 = false := by kernel_rfl
theorem ty_ck38 : ckOf Try.prog 38 = [.int .i64, .int .i64, .int .i64, .int .i64] := by kernel_rfl
theorem ty_inf38 : inf Try.prog 38 = some (some (.agg #[.int .i64 0, .int .i64 0, .int .i64 0, .int .i64 0]), 4, 32) := by kernel_rfl
theorem ty_eq38 : eqFlat Try.prog 38 = some [true, true, true, true] := by kernel_rfl
theorem ty_f38_0 : fieldOf Try.prog 38 0 = some (0, 3) := by kernel_rfl
theorem ty_f38_1 : fieldOf Try.prog 38 1 = some (1, 3) := by kernel_rfl
theorem ty_f38_2 : fieldOf Try.prog 38 2 = some (2, 3) := by kernel_rfl
theorem ty_f38_3 : fieldOf Try.prog 38 3 = some (3, 3) := by kernel_rfl
theorem ty_sz51 : szOf Try.prog 51 = 1 := by kernel_rfl
theorem ty_st51 : isSt Try.prog 51 = false := by kernel_rfl
theorem ty_cell51 : isCell Try.prog 51 = true := by kernel_rfl
theorem ty_ck51 : ckOf Try.prog 51 = [.sl 3] := by kernel_rfl
theorem ty_inf51 : inf Try.prog 51 = some (some (.slice none 0 0), 1, 24) := by kernel_rfl
theorem ty_sz52 : szOf Try.prog 52 = 1 := by kernel_rfl
theorem ty_st52 : isSt Try.prog 52 = false := by kernel_rfl
theorem ty_cell52 : isCell Try.prog 52 = true := by kernel_rfl
theorem ty_ck52 : ckOf Try.prog 52 = [.sl 2] := by kernel_rfl
theorem ty_inf52 : inf Try.prog 52 = some (some (.slice none 0 0), 1, 24) := by kernel_rfl
theorem ty_sz53 : szOf Try.prog 53 = 2 := by kernel_rfl
theorem ty_st53 : isSt Try.prog 53 = true := by kernel_rfl
theorem ty_cell53 : isCell Try.prog 53 = false := by kernel_rfl
theorem ty_ck53 : ckOf Try.prog 53 = [.sl 3, .sl 2] := by kernel_rfl
theorem ty_inf53 : inf Try.prog 53 = some (some (.agg #[.slice none 0 0, .slice none 0 0]), 2, 48) := by kernel_rfl
theorem ty_eq53 : eqFlat Try.prog 53 = none := by kernel_rfl
theorem ty_f53_0 : fieldOf Try.prog 53 0 = some (0, 51) := by kernel_rfl
theorem ty_f53_1 : fieldOf Try.prog 53 1 = some (1, 52) := by kernel_rfl
theorem ty_sz54 : szOf Try.prog 54 = 2 := by kernel_rfl
theorem ty_st54 : isSt Try.prog 54 = true := by kernel_rfl
theorem ty_cell54 : isCell Try.prog 54 = false := by kernel_rfl
theorem ty_ck54 : ckOf Try.prog 54 = [.sl 3, .sl 2] := by kernel_rfl
theorem ty_inf54 : inf Try.prog 54 = some (some (.agg #[.slice none 0 0, .slice none 0 0]), 2, 48) := by kernel_rfl
theorem ty_eq54 : eqFlat Try.prog 54 = none := by kernel_rfl
theorem ty_f54_0 : fieldOf Try.prog 54 0 = some (0, 51) := by kernel_rfl
theorem ty_f54_1 : fieldOf Try.prog 54 1 = some (1, 52) := by kernel_rfl
theorem ty_sz57 : szOf Try.prog 57 = 1 := by kernel_rfl
theorem ty_st57 : isSt Try.prog 57 = false := by kernel_rfl
theorem ty_cell57 : isCell Try.prog 57 = true := by kernel_rfl
theorem ty_ck57 : ckOf Try.prog 57 = [.sl 3] := by kernel_rfl
theorem ty_inf57 : inf Try.prog 57 = some (some (.slice none 0 0), 1, 24) := by kernel_rfl
theorem ty_sz58 : szOf Try.prog 58 = 1 := by kernel_rfl
theorem ty_st58 : isSt Try.prog 58 = false := by kernel_rfl
theorem ty_cell58 : isCell Try.prog 58 = true := by kernel_rfl
theorem ty_ck58 : ckOf Try.prog 58 = [.sl 2] := by kernel_rfl
theorem ty_inf58 : inf Try.prog 58 = some (some (.slice none 0 0), 1, 24) := by kernel_rfl
theorem ty_sz59 : szOf Try.prog 59 = 2 := by kernel_rfl
theorem ty_st59 : isSt Try.prog 59 = true := by kernel_rfl
theorem ty_cell59 : isCell Try.prog 59 = false := by kernel_rfl
theorem ty_ck59 : ckOf Try.prog 59 = [.sl 3, .sl 2] := by kernel_rfl
theorem ty_inf59 : inf Try.prog 59 = some (some (.agg #[.slice none 0 0, .slice none 0 0]), 2, 48) := by kernel_rfl
theorem ty_eq59 : eqFlat Try.prog 59 = none := by kernel_rfl
theorem ty_f59_0 : fieldOf Try.prog 59 0 = some (0, 57) := by kernel_rfl
theorem ty_f59_1 : fieldOf Try.prog 59 1 = some (1, 58) := by kernel_rfl
theorem ty_sz60 : szOf Try.prog 60 = 2 := by kernel_rfl
theorem ty_st60 : isSt Try.prog 60 = true := by kernel_rfl
theorem ty_cell60 : isCell Try.prog 60 = false := by kernel_rfl
theorem ty_ck60 : ckOf Try.prog 60 = [.sl 3, .sl 2] := by kernel_rfl
theorem ty_inf60 : inf Try.prog 60 = some (some (.agg #[.slice none 0 0, .slice none 0 0]), 2, 48) := by kernel_rfl
theorem ty_eq60 : eqFlat Try.prog 60 = none := by kernel_rfl
theorem ty_f60_0 : fieldOf Try.prog 60 0 = some (0, 57) := by kernel_rfl
theorem ty_f60_1 : fieldOf Try.prog 60 1 = some (1, 58) := by kernel_rfl
theorem ty_sz78 : szOf Try.prog 78 = 3 := by kernel_rfl
theorem ty_st78 : isSt Try.prog 78 = true := by kernel_rfl
theorem ty_cell78 : isCell Try.prog 78 = false := by kernel_rfl
theorem ty_ck78 : ckOf Try.prog 78 = [.int .i64, .int .i64, .int .i64] := by kernel_rfl
theorem ty_inf78 : inf Try.prog 78 = some (some (.agg #[.int .i64 0, .int .i64 0, .int .i64 0]), 3, 24) := by kernel_rfl
theorem ty_eq78 : eqFlat Try.prog 78 = some [true, true, true] := by kernel_rfl
theorem ty_f78_0 : fieldOf Try.prog 78 0 = some (0, 3) := by kernel_rfl
theorem ty_f78_1 : fieldOf Try.prog 78 1 = some (1, 3) := by kernel_rfl
theorem ty_f78_2 : fieldOf Try.prog 78 2 = some (2, 3) := by kernel_rfl
theorem ty_sz79 : szOf Try.prog 79 = 3 := by kernel_rfl
theorem ty_st79 : isSt Try.prog 79 = true := by kernel_rfl
theorem ty_cell79 : isCell Try.prog 79 = false := by kernel_rfl
theorem ty_ck79 : ckOf Try.prog 79 = [.int .i64, .int .i64, .int .i64] := by kernel_rfl
theorem ty_inf79 : inf Try.prog 79 = some (some (.agg #[.int .i64 0, .int .i64 0, .int .i64 0]), 3, 24) := by kernel_rfl
theorem ty_eq79 : eqFlat Try.prog 79 = some [true, true, true] := by kernel_rfl
theorem ty_f79_0 : fieldOf Try.prog 79 0 = some (0, 3) := by kernel_rfl
theorem ty_f79_1 : fieldOf Try.prog 79 1 = some (1, 3) := by kernel_rfl
theorem ty_f79_2 : fieldOf Try.prog 79 2 = some (2, 3) := by kernel_rfl
theorem ty_sz80 : szOf Try.prog 80 = 2 := by kernel_rfl
theorem ty_st80 : isSt Try.prog 80 = true := by kernel_rfl
theorem ty_cell80 : isCell Try.prog 80 = false := by kernel_rfl
theorem ty_ck80 : ckOf Try.prog 80 = [.int .i64, .sl 1] := by kernel_rfl
theorem ty_inf80 : inf Try.prog 80 = some (some (.agg #[.int .i64 0, .slice none 0 0]), 2, 32) := by kernel_rfl
theorem ty_eq80 : eqFlat Try.prog 80 = none := by kernel_rfl
theorem ty_f80_0 : fieldOf Try.prog 80 0 = some (0, 3) := by kernel_rfl
theorem ty_f80_1 : fieldOf Try.prog 80 1 = some (1, 22) := by kernel_rfl
theorem ty_sz81 : szOf Try.prog 81 = 2 := by kernel_rfl
theorem ty_st81 : isSt Try.prog 81 = true := by kernel_rfl
theorem ty_cell81 : isCell Try.prog 81 = false := by kernel_rfl
theorem ty_ck81 : ckOf Try.prog 81 = [.int .i64, .sl 1] := by kernel_rfl
theorem ty_inf81 : inf Try.prog 81 = some (some (.agg #[.int .i64 0, .slice none 0 0]), 2, 32) := by kernel_rfl
theorem ty_eq81 : eqFlat Try.prog 81 = none := by kernel_rfl
theorem ty_f81_0 : fieldOf Try.prog 81 0 = some (0, 3) := by kernel_rfl
theorem ty_f81_1 : fieldOf Try.prog 81 1 = some (1, 22) := by kernel_rfl
theorem ty_sz90 : szOf Try.prog 90 = 2 := by kernel_rfl
theorem ty_st90 : isSt Try.prog 90 = true := by kernel_rfl
theorem ty_cell90 : isCell Try.prog 90 = false := by kernel_rfl
theorem ty_ck90 : ckOf Try.prog 90 = [.sl 1, .int .i64] := by kernel_rfl
theorem ty_inf90 : inf Try.prog 90 = some (some (.agg #[.slice none 0 0, .int .i64 0]), 2, 32) := by kernel_rfl
theorem ty_eq90 : eqFlat Try.prog 90 = none := by kernel_rfl
theorem ty_f90_0 : fieldOf Try.prog 90 0 = some (0, 22) := by kernel_rfl
theorem ty_f90_1 : fieldOf Try.prog 90 1 = some (1, 3) := by kernel_rfl
theorem ty_sz91 : szOf Try.prog 91 = 2 := by kernel_rfl
theorem ty_st91 : isSt Try.prog 91 = true := by kernel_rfl
theorem ty_cell91 : isCell Try.prog 91 = false := by kernel_rfl
theorem ty_ck91 : ckOf Try.prog 91 = [.sl 1, .int .i64] := by kernel_rfl
theorem ty_inf91 : inf Try.prog 91 = some (some (.agg #[.slice none 0 0, .int .i64 0]), 2, 32) := by kernel_rfl
theorem ty_eq91 : eqFlat Try.prog 91 = none := by kernel_rfl
theorem ty_f91_0 : fieldOf Try.prog 91 0 = some (0, 22) := by kernel_rfl
theorem ty_f91_1 : fieldOf Try.prog 91 1 = some (1, 3) := by kernel_rfl
theorem ty_sz94 : szOf Try.prog 94 = 2 := by kernel_rfl
theorem ty_st94 : isSt Try.prog 94 = true := by kernel_rfl
theorem ty_cell94 : isCell Try.prog 94 = false := by kernel_rfl
theorem ty_ck94 : ckOf Try.prog 94 = [.int .i64, .sl 1] := by kernel_rfl
theorem ty_inf94 : inf Try.prog 94 = some (some (.agg #[.int .i64 0, .slice none 0 0]), 2, 32) := by kernel_rfl
theorem ty_eq94 : eqFlat Try.prog 94 = none := by kernel_rfl
theorem ty_f94_0 : fieldOf Try.prog 94 0 = some (0, 3) := by kernel_rfl
theorem ty_f94_1 : fieldOf Try.prog 94 1 = some (1, 22) := by kernel_rfl
theorem ty_sz96 : szOf Try.prog 96 = 3 := by kernel_rfl
theorem ty_st96 : isSt Try.prog 96 = true := by kernel_rfl
theorem ty_cell96 : isCell Try.prog 96 = false := by kernel_rfl
theorem ty_ck96 : ckOf Try.prog 96 = [.int .i64, .int .i64, .int .i64] := by kernel_rfl
theorem ty_inf96 : inf Try.prog 96 = some (some (.agg #[.int .i64 0, .int .i64 0, .int .i64 0]), 3, 24) := by kernel_rfl
theorem ty_eq96 : eqFlat Try.prog 96 = some [true, true, true] := by kernel_rfl
theorem ty_f96_0 : fieldOf Try.prog 96 0 = some (0, 3) := by kernel_rfl
theorem ty_f96_1 : fieldOf Try.prog 96 1 = some (1, 3) := by kernel_rfl
theorem ty_f96_2 : fieldOf Try.prog 96 2 = some (2, 3) := by kernel_rfl
theorem ty_sz108 : szOf Try.prog 108 = 1 := by kernel_rfl
theorem ty_st108 : isSt Try.prog 108 = false := by kernel_rfl
theorem ty_cell108 : isCell Try.prog 108 = true := by kernel_rfl
theorem ty_ck108 : ckOf Try.prog 108 = [.int .u32] := by kernel_rfl
theorem ty_inf108 : inf Try.prog 108 = some (some (.int .u32 0), 1, 4) := by kernel_rfl
theorem ty_sz117 : szOf Try.prog 117 = 1 := by kernel_rfl
theorem ty_st117 : isSt Try.prog 117 = false := by kernel_rfl
theorem ty_cell117 : isCell Try.prog 117 = true := by kernel_rfl
theorem ty_ck117 : ckOf Try.prog 117 = [.other] := by kernel_rfl
theorem ty_inf117 : inf Try.prog 117 = some (some (.pointer none), 1, 8) := by kernel_rfl
end Go.Proofs.Ytnnpijjdjdnffaa
