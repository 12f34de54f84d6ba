import Derived.Test.YtaifeejciglkpaaMF22
set_option linter.unusedVariables false
namespace Go.Proofs.Ytaifeejciglkpaa
open Go.RowKit
theorem fair_1_1_0 : fairB 1 1 0 5 = true := by decide +kernel
theorem fair_1_1_1 : fairB 1 1 1 5 = true := by decide +kernel
theorem fair_1_1_2 : fairB 1 1 2 5 = true := by decide +kernel
theorem fair_2_1_0 : fairB 2 1 0 9 = true := by decide +kernel
theorem fair_2_1_1 : fairB 2 1 1 7 = true := by decide +kernel
theorem fair_2_1_2 : fairB 2 1 2 9 = true := by decide +kernel
theorem fair_2_1_3 : fairB 2 1 3 8 = true := by decide +kernel
theorem fair_2_1_4 : fairB 2 1 4 13 = true := by decide +kernel
theorem fair_2_1_5 : fairB 2 1 5 8 = true := by decide +kernel
theorem fair_3_1_0 : fairB 3 1 0 15 = true := by decide +kernel
theorem fair_3_1_1 : fairB 3 1 1 11 = true := by decide +kernel
theorem fair_3_1_2 : fairB 3 1 2 11 = true := by decide +kernel
theorem fair_4_1_0 : fairB 4 1 0 16 = true := by decide +kernel
theorem fair_4_1_1 : fairB 4 1 1 14 = true := by decide +kernel
theorem fair_4_1_2 : fairB 4 1 2 14 = true := by decide +kernel
theorem fair_4_1_3 : fairB 4 1 3 16 = true := by decide +kernel
theorem fair_4_1_4 : fairB 4 1 4 13 = true := by decide +kernel
theorem fair_4_1_5 : fairB 4 1 5 13 = true := by decide +kernel
theorem fair_4_1_6 : fairB 4 1 6 13 = true := by decide +kernel
theorem fair_4_1_7 : fairB 4 1 7 14 = true := by decide +kernel
theorem fair_4_1_8 : fairB 4 1 8 17 = true := by decide +kernel
theorem fair_4_1_9 : fairB 4 1 9 11 = true := by decide +kernel
theorem fair_4_1_10 : fairB 4 1 10 15 = true := by decide +kernel
theorem fair_4_1_11 : fairB 4 1 11 16 = true := by decide +kernel
theorem fair_5_1_0 : fairB 5 1 0 19 = true := by decide +kernel
theorem fair_5_1_1 : fairB 5 1 1 17 = true := by decide +kernel
theorem fair_5_1_2 : fairB 5 1 2 15 = true := by decide +kernel
theorem fair_5_1_3 : fairB 5 1 3 19 = true := by decide +kernel
theorem fair_5_1_4 : fairB 5 1 4 17 = true := by decide +kernel
theorem fair_5_1_5 : fairB 5 1 5 19 = true := by decide +kernel
theorem fair_5_1_6 : fairB 5 1 6 17 = true := by decide +kernel
theorem fair_5_1_7 : fairB 5 1 7 14 = true := by decide +kernel
theorem fair_5_1_8 : fairB 5 1 8 17 = true := by decide +kernel
theorem fair_5_1_9 : fairB 5 1 9 17 = true := by decide +kernel
theorem fair_5_1_10 : fairB 5 1 10 26 = true := by decide +kernel
theorem fair_5_1_11 : fairB 5 1 11 18 = true := by decide +kernel
theorem fair_5_1_12 : fairB 5 1 12 15 = true := by decide +kernel
theorem fair_5_1_13 : fairB 5 1 13 18 = true := by decide +kernel
theorem fair_5_1_14 : fairB 5 1 14 16 = true := by decide +kernel
theorem fair_6_1_0 : fairB 6 1 0 25 = true := by decide +kernel
theorem fair_6_1_1 : fairB 6 1 1 21 = true := by decide +kernel
theorem fair_6_1_2 : fairB 6 1 2 20 = true := by decide +kernel
theorem fair_6_1_3 : fairB 6 1 3 24 = true := by decide +kernel
theorem fair_6_1_4 : fairB 6 1 4 20 = true := by decide +kernel
theorem fair_6_1_5 : fairB 6 1 5 21 = true := by decide +kernel
theorem fair_7_1_0 : fairB 7 1 0 25 = true := by decide +kernel
end Go.Proofs.Ytaifeejciglkpaa
