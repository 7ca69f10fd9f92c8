/-
  What the evaluation asks of the types of this seat: closed facts on the program's table. By a tool.
-/
import Derived.Test.YtnnpijjdjdnffabR1
namespace Go.Proofs.Ytnnpijjdjdnffab
theorem ty_sz2 : szOf Try.prog 2 = 1 := by kernel_rfl
theorem ty_st2 : isSt Try.prog 2 = false := by kernel_rfl
theorem ty_cell2 : isCell Try.prog 2 = true := by kernel_rfl
theorem ty_ck2 : ckOf Try.prog 2 = [.int .i64] := by kernel_rfl
theorem ty_inf2 : inf Try.prog 2 = some (some (.int .i64 0), 1, 8) := by kernel_rfl
theorem ty_sz3 : szOf Try.prog 3 = 1 := by kernel_rfl
theorem ty_st3 : isSt Try.prog 3 = false := by kernel_rfl
theorem ty_cell3 : isCell Try.prog 3 = true := by kernel_rfl
theorem ty_ck3 : ckOf Try.prog 3 = [.int .i64] := by kernel_rfl
theorem ty_inf3 : inf Try.prog 3 = some (some (.int .i64 0), 1, 8) := by kernel_rfl
theorem ty_sz4 : szOf Try.prog 4 = 1 := by kernel_rfl
theorem ty_st4 : isSt Try.prog 4 = false := by kernel_rfl
theorem ty_cell4 : isCell Try.prog 4 = true := by kernel_rfl
theorem ty_ck4 : ckOf Try.prog 4 = [.bool] := by kernel_rfl
theorem ty_inf4 : inf Try.prog 4 = some (some (.bool false), 1, 1) := by kernel_rfl
theorem ty_sz5 : szOf Try.prog 5 = 1 := by kernel_rfl
theorem ty_st5 : isSt Try.prog 5 = false := by kernel_rfl
theorem ty_cell5 : isCell Try.prog 5 = true := by kernel_rfl
theorem ty_ck5 : ckOf Try.prog 5 = [.int .u8] := by kernel_rfl
theorem ty_inf5 : inf Try.prog 5 = some (some (.int .u8 0), 1, 1) := by kernel_rfl
theorem ty_sz9 : szOf Try.prog 9 = 1 := by kernel_rfl
theorem ty_st9 : isSt Try.prog 9 = false := by kernel_rfl
theorem ty_cell9 : isCell Try.prog 9 = true := by kernel_rfl
theorem ty_ck9 : ckOf Try.prog 9 = [.str] := by kernel_rfl
theorem ty_inf9 : inf Try.prog 9 = some (some (.string .empty), 1, 16) := by kernel_rfl
theorem ty_sz12 : szOf Try.prog 12 = 1 := by kernel_rfl
theorem ty_st12 : isSt Try.prog 12 = false := by kernel_rfl
theorem ty_cell12 : isCell Try.prog 12 = true := by kernel_rfl
theorem ty_ck12 : ckOf Try.prog 12 = [.int .u64] := by kernel_rfl
theorem ty_inf12 : inf Try.prog 12 = some (some (.int .u64 0), 1, 8) := by kernel_rfl
theorem ty_sz21 : szOf Try.prog 21 = 1 := by kernel_rfl
theorem ty_st21 : isSt Try.prog 21 = false := by kernel_rfl
theorem ty_cell21 : isCell Try.prog 21 = true := by kernel_rfl
theorem ty_ck21 : ckOf Try.prog 21 = [.int .i32] := by kernel_rfl
theorem ty_inf21 : inf Try.prog 21 = some (some (.int .i32 0), 1, 4) := by kernel_rfl
theorem ty_sz22 : szOf Try.prog 22 = 1 := by kernel_rfl
theorem ty_st22 : isSt Try.prog 22 = false := by kernel_rfl
theorem ty_cell22 : isCell Try.prog 22 = true := by kernel_rfl
theorem ty_ck22 : ckOf Try.prog 22 = [.sl 1] := by kernel_rfl
theorem ty_inf22 : inf Try.prog 22 = some (some (.slice none 0 0), 1, 24) := by kernel_rfl
theorem ty_sz23 : szOf Try.prog 23 = 1 := by kernel_rfl
theorem ty_st23 : isSt Try.prog 23 = false := by kernel_rfl
theorem ty_cell23 : isCell Try.prog 23 = true := by kernel_rfl
theorem ty_ck23 : ckOf Try.prog 23 = [.sl 3] := by kernel_rfl
theorem ty_inf23 : inf Try.prog 23 = some (some (.slice none 0 0), 1, 24) := by kernel_rfl
theorem ty_sz24 : szOf Try.prog 24 = 1 := by kernel_rfl
theorem ty_st24 : isSt Try.prog 24 = false := by kernel_rfl
theorem ty_cell24 : isCell Try.prog 24 = true := by kernel_rfl
theorem ty_ck24 : ckOf Try.prog 24 = [.sl 2] := by kernel_rfl
theorem ty_inf24 : inf Try.prog 24 = some (some (.slice none 0 0), 1, 24) := by kernel_rfl
theorem ty_sz25 : szOf Try.prog 25 = 2 := by kernel_rfl
theorem ty_st25 : isSt Try.prog 25 = true := by kernel_rfl
theorem ty_cell25 : isCell Try.prog 25 = false := by kernel_rfl
theorem ty_ck25 : ckOf Try.prog 25 = [.sl 3, .sl 2] := by kernel_rfl
theorem ty_inf25 : inf Try.prog 25 = some (some (.agg #[.slice none 0 0, .slice none 0 0]), 2, 48) := by kernel_rfl
theorem ty_eq25 : eqFlat Try.prog 25 = none := by kernel_rfl
theorem ty_f25_0 : fieldOf Try.prog 25 0 = some (0, 23) := by kernel_rfl
theorem ty_f25_1 : fieldOf Try.prog 25 1 = some (1, 24) := by kernel_rfl
theorem ty_sz26 : szOf Try.prog 26 = 2 := by kernel_rfl
theorem ty_st26 : isSt Try.prog 26 = true := by kernel_rfl
theorem ty_cell26 : isCell Try.prog 26 = false := by kernel_rfl
theorem ty_ck26 : ckOf Try.prog 26 = [.sl 3, .sl 2] := by kernel_rfl
theorem ty_inf26 : inf Try.prog 26 = some (some (.agg #[.slice none 0 0, .slice none 0 0]), 2, 48) := by kernel_rfl
theorem ty_eq26 : eqFlat Try.prog 26 = none := by kernel_rfl
theorem ty_f26_0 : fieldOf Try.prog 26 0 = some (0, 23) := by kernel_rfl
theorem ty_f26_1 : fieldOf Try.prog 26 1 = some (1, 24) := by kernel_rfl
theorem ty_sz39 : szOf Try.prog 39 = 2 := by kernel_rfl
theorem ty_st39 : isSt Try.prog 39 = true := by kernel_rfl
theorem ty_cell39 : isCell Try.prog 39 = false := by kernel_rfl
theorem ty_ck39 : ckOf Try.prog 39 = [.int .i64, .sl 1] := by kernel_rfl
theorem ty_inf39 : inf Try.prog 39 = some (some (.agg #[.int .i64 0, .slice none 0 0]), 2, 32) := by kernel_rfl
theorem ty_eq39 : eqFlat Try.prog 39 = none := by kernel_rfl
theorem ty_f39_0 : fieldOf Try.prog 39 0 = some (0, 3) := by kernel_rfl
theorem ty_f39_1 : fieldOf Try.prog 39 1 = some (1, 22) := by kernel_rfl
theorem ty_sz40 : szOf Try.prog 40 = 2 := by kernel_rfl
theorem ty_st40 : isSt Try.prog 40 = true := by kernel_rfl
theorem ty_cell40 : isCell Try.prog 40 = false := by kernel_rfl
theorem ty_ck40 : ckOf Try.prog 40 = [.int .i64, .sl 1] := by kernel_rfl
theorem ty_inf40 : inf Try.prog 40 = some (some (.agg #[.int .i64 0, .slice none 0 0]), 2, 32) := by kernel_rfl
theorem ty_eq40 : eqFlat Try.prog 40 = none := by kernel_rfl
theorem ty_f40_0 : fieldOf Try.prog 40 0 = some (0, 3) := by kernel_rfl
theorem ty_f40_1 : fieldOf Try.prog 40 1 = some (1, 22) := by kernel_rfl
theorem ty_sz42 : szOf Try.prog 42 = 4 := by kernel_rfl
theorem ty_st42 : isSt Try.prog 42 = true := by kernel_rfl
theorem ty_cell42 : isCell Try.prog 42 = false := by kernel_rfl
theorem ty_ck42 : ckOf Try.prog 42 = [.int .i64, .int .i64, .int .i64, .int .i64] := by kernel_rfl
theorem ty_inf42 : inf Try.prog 42 = some (some (.agg #[.int .i64 0, .int .i64 0, .int .i64 0, .int .i64 0]), 4, 32) := by kernel_rfl
theorem ty_eq42 : eqFlat Try.prog 42 = some [true, true, true, true] := by kernel_rfl
theorem ty_f42_0 : fieldOf Try.prog 42 0 = some (0, 3) := by kernel_rfl
theorem ty_f42_1 : fieldOf Try.prog 42 1 = some (1, 3) := by kernel_rfl
theorem ty_f42_2 : fieldOf Try.prog 42 2 = some (2, 3) := by kernel_rfl
theorem ty_f42_3 : fieldOf Try.prog 42 3 = some (3, 3) := by kernel_rfl
theorem ty_sz43 : szOf Try.prog 43 = 4 := by kernel_rfl
theorem ty_st43 : isSt Try.prog 43 = true := by kernel_rfl
theorem ty_cell43 : isCell Try.prog 43 = false := by kernel_rfl
theorem ty_ck43 : ckOf Try.prog 43 = [.int .i64, .int .i64, .int .i64, .int .i64] := by kernel_rfl
theorem ty_inf43 : inf Try.prog 43 = some (some (.agg #[.int .i64 0, .int .i64 0, .int .i64 0, .int .i64 0]), 4, 32) := by kernel_rfl
theorem ty_eq43 : eqFlat Try.prog 43 = some [true, true, true, true] := by kernel_rfl
theorem ty_f43_0 : fieldOf Try.prog 43 0 = some (0, 3) := by kernel_rfl
theorem ty_f43_1 : fieldOf Try.prog 43 1 = some (1, 3) := by kernel_rfl
theorem ty_f43_2 : fieldOf Try.prog 43 2 = some (2, 3) := by kernel_rfl
theorem ty_f43_3 : fieldOf Try.prog 43 3 = some (3, 3) := by kernel_rfl
theorem ty_sz46 : szOf Try.prog 46 = 1 := by kernel_rfl
theorem ty_st46 : isSt Try.prog 46 = false := by kernel_rfl
theorem ty_cell46 : isCell Try.prog 46 = true := by kernel_rfl
theorem ty_ck46 : ckOf Try.prog 46 = [.sl 1] := by kernel_rfl
theorem ty_inf46 : inf Try.prog 46 = some (some (.slice none 0 0), 1, 24) := by kernel_rfl
theorem ty_sz52 : szOf Try.prog 52 = 1 := by kernel_rfl
theorem ty_st52 : isSt Try.prog 52 = false := by kernel_rfl
theorem ty_cell52 : isCell Try.prog 52 = true := by kernel_rfl
theorem ty_ck52 : ckOf Try.prog 52 = [.sl 3] := by kernel_rfl
theorem ty_inf52 : inf Try.prog 52 = some (some (.slice none 0 0), 1, 24) := by kernel_rfl
theorem ty_sz53 : szOf Try.prog 53 = 1 := by kernel_rfl
theorem ty_st53 : isSt Try.prog 53 = false := by kernel_rfl
theorem ty_cell53 : isCell Try.prog 53 = true := by kernel_rfl
theorem ty_ck53 : ckOf Try.prog 53 = [.sl 2] := by kernel_rfl
theorem ty_inf53 : inf Try.prog 53 = some (some (.slice none 0 0), 1, 24) := by kernel_rfl
theorem ty_sz54 : szOf Try.prog 54 = 2 := by kernel_rfl
theorem ty_st54 : isSt Try.prog 54 = true := by kernel_rfl
theorem ty_cell54 : isCell Try.prog 54 = false := by kernel_rfl
theorem ty_ck54 : ckOf Try.prog 54 = [.sl 3, .sl 2] := by kernel_rfl
theorem ty_inf54 : inf Try.prog 54 = some (some (.agg #[.slice none 0 0, .slice none 0 0]), 2, 48) := by kernel_rfl
theorem ty_eq54 : eqFlat Try.prog 54 = none := by kernel_rfl
theorem ty_f54_0 : fieldOf Try.prog 54 0 = some (0, 52) := by kernel_rfl
theorem ty_f54_1 : fieldOf Try.prog 54 1 = some (1, 53) := by kernel_rfl
theorem ty_sz55 : szOf Try.prog 55 = 2 := by kernel_rfl
theorem ty_st55 : isSt Try.prog 55 = true := by kernel_rfl
theorem ty_cell55 : isCell Try.prog 55 = false := by kernel_rfl
theorem ty_ck55 : ckOf Try.prog 55 = [.sl 3, .sl 2] := by kernel_rfl
theorem ty_inf55 : inf Try.prog 55 = some (some (.agg #[.slice none 0 0, .slice none 0 0]), 2, 48) := by kernel_rfl
theorem ty_eq55 : eqFlat Try.prog 55 = none := by kernel_rfl
theorem ty_f55_0 : fieldOf Try.prog 55 0 = some (0, 52) := by kernel_rfl
theorem ty_f55_1 : fieldOf Try.prog 55 1 = some (1, 53) := by kernel_rfl
theorem ty_sz62 : szOf Try.prog 62 = 4 := by kernel_rfl
theorem ty_st62 : isSt Try.prog 62 = true := by kernel_rfl
theorem ty_cell62 : isCell Try.prog 62 = false := by kernel_rfl
theorem ty_ck62 : ckOf Try.prog 62 = [.int .i64, .int .i64, .int .i64, .int .i64] := by kernel_rfl
theorem ty_inf62 : inf Try.prog 62 = some (some (.agg #[.int .i64 0, .int .i64 0, .int .i64 0, .int .i64 0]), 4, 32) := by kernel_rfl
theorem ty_eq62 : eqFlat Try.prog 62 = some [true, true, true, true] := by kernel_rfl
theorem ty_f62_0 : fieldOf Try.prog 62 0 = some (0, 3) := by kernel_rfl
theorem ty_f62_1 : fieldOf Try.prog 62 1 = some (1, 3) := by kernel_rfl
theorem ty_f62_2 : fieldOf Try.prog 62 2 = some (2, 3) := by kernel_rfl
theorem ty_f62_3 : fieldOf Try.prog 62 3 = some (3, 3) := by kernel_rfl
theorem ty_sz71 : szOf Try.prog 71 = 3 := by kernel_rfl
theorem ty_st71 : isSt Try.prog 71 = true := by kernel_rfl
theorem ty_cell71 : isCell Try.prog 71 = false := by kernel_rfl
theorem ty_ck71 : ckOf Try.prog 71 = [.int .i64, .int .i64, .int .i64] := by kernel_rfl
theorem ty_inf71 : inf Try.prog 71 = some (some (.agg #[.int .i64 0, .int .i64 0, .int .i64 0]), 3, 24) := by kernel_rfl
theorem ty_eq71 : eqFlat Try.prog 71 = some [true, true, true] := by kernel_rfl
theorem ty_f71_0 : fieldOf Try.prog 71 0 = some (0, 3) := by kernel_rfl
theorem ty_f71_1 : fieldOf Try.prog 71 1 = some (1, 3) := by kernel_rfl
theorem ty_f71_2 : fieldOf Try.prog 71 2 = some (2, 3) := by kernel_rfl
theorem ty_sz72 : szOf Try.prog 72 = 3 := by kernel_rfl
theorem ty_st72 : isSt Try.prog 72 = true := by kernel_rfl
theorem ty_cell72 : isCell Try.prog 72 = false := by kernel_rfl
theorem ty_ck72 : ckOf Try.prog 72 = [.int .i64, .int .i64, .int .i64] := by kernel_rfl
theorem ty_inf72 : inf Try.prog 72 = some (some (.agg #[.int .i64 0, .int .i64 0, .int .i64 0]), 3, 24) := by kernel_rfl
theorem ty_eq72 : eqFlat Try.prog 72 = some [true, true, true] := by kernel_rfl
theorem ty_f72_0 : fieldOf Try.prog 72 0 = some (0, 3) := by kernel_rfl
theorem ty_f72_1 : fieldOf Try.prog 72 1 = some (1, 3) := by kernel_rfl
theorem ty_f72_2 : fieldOf Try.prog 72 2 = some (2, 3) := by kernel_rfl
theorem ty_sz93 : szOf Try.prog 93 = 2 := by kernel_rfl
theorem ty_st93 : isSt Try.prog 93 = true := by kernel_rfl
theorem ty_cell93 : isCell Try.prog 93 = false := by kernel_rfl
theorem ty_ck93 : ckOf Try.prog 93 = [.sl 1, .int .i64] := by kernel_rfl
theorem ty_inf93 : inf Try.prog 93 = some (some (.agg #[.slice none 0 0, .int .i64 0]), 2, 32) := by kernel_rfl
theorem ty_eq93 : eqFlat Try.prog 93 = none := by kernel_rfl
theorem ty_f93_0 : fieldOf Try.prog 93 0 = some (0, 22) := by kernel_rfl
theorem ty_f93_1 : fieldOf Try.prog 93 1 = some (1, 3) := by kernel_rfl
theorem ty_sz94 : szOf Try.prog 94 = 2 := by kernel_rfl
theorem ty_st94 : isSt Try.prog 94 = true := by kernel_rfl
theorem ty_cell94 : isCell Try.prog 94 = false := by kernel_rfl
theorem ty_ck94 : ckOf Try.prog 94 = [.sl 1, .int .i64] := by kernel_rfl
theorem ty_inf94 : inf Try.prog 94 = some (some (.agg #[.slice none 0 0, .int .i64 0]), 2, 32) := by kernel_rfl
theorem ty_eq94 : eqFlat Try.prog 94 = none := by kernel_rfl
theorem ty_f94_0 : fieldOf Try.prog 94 0 = some (0, 22) := by kernel_rfl
theorem ty_f94_1 : fieldOf Try.prog 94 1 = some (1, 3) := by kernel_rfl
theorem ty_sz98 : szOf Try.prog 98 = 2 := by kernel_rfl
theorem ty_st98 : isSt Try.prog 98 = true := by kernel_rfl
theorem ty_cell98 : isCell Try.prog 98 = false := by kernel_rfl
theorem ty_ck98 : ckOf Try.prog 98 = [.int .i64, .sl 1] := by kernel_rfl
theorem ty_inf98 : inf Try.prog 98 = some (some (.agg #[.int .i64 0, .slice none 0 0]), 2, 32) := by kernel_rfl
theorem ty_eq98 : eqFlat Try.prog 98 = none := by kernel_rfl
theorem ty_f98_0 : fieldOf Try.prog 98 0 = some (0, 3) := by kernel_rfl
theorem ty_f98_1 : fieldOf Try.prog 98 1 = some (1, 22) := by kernel_rfl
theorem ty_sz100 : szOf Try.prog 100 = 3 := by kernel_rfl
theorem ty_st100 : isSt Try.prog 100 = true := by kernel_rfl
theorem ty_cell100 : isCell Try.prog 100 = false := by kernel_rfl
theorem ty_ck100 : ckOf Try.prog 100 = [.int .i64, .int .i64, .int .i64] := by kernel_rfl
theorem ty_inf100 : inf Try.prog 100 = some (some (.agg #[.int .i64 0, .int .i64 0, .int .i64 0]), 3, 24) := by kernel_rfl
theorem ty_eq100 : eqFlat Try.prog 100 = some [true, true, true] := by kernel_rfl
theorem ty_f100_0 : fieldOf Try.prog 100 0 = some (0, 3) := by kernel_rfl
theorem ty_f100_1 : fieldOf Try.prog 100 1 = some (1, 3) := by kernel_rfl
theorem ty_f100_2 : fieldOf Try.prog 100 2 = some (2, 3) := by kernel_rfl
theorem ty_sz111 : szOf Try.prog 111 = 1 := by kernel_rfl
theorem ty_st111 : isSt Try.prog 111 = false := by kernel_rfl
theorem ty_cell111 : isCell Try.prog 111 = true := by kernel_rfl
theorem ty_ck111 : ckOf Try.prog 111 = [.int .u32] := by kernel_rfl
theorem ty_inf111 : inf Try.prog 111 = some (some (.int .u32 0), 1, 4) := by kernel_rfl
theorem ty_sz120 : szOf Try.prog 120 = 1 := by kernel_rfl
theorem ty_st120 : isSt Try.prog 120 = false := by kernel_rfl
theorem ty_cell120 : isCell Try.prog 120 = true := by kernel_rfl
theorem ty_ck120 : ckOf Try.prog 120 = [.other] := by kernel_rfl
theorem ty_inf120 : inf Try.prog 120 = some (some (.pointer none), 1, 8) := by kernel_rfl
end Go.Proofs.Ytnnpijjdjdnffab
