import Derived.Test.YtaifeejciglkpaaMF22
set_option linter.unusedVariables false
namespace Go.Proofs.Ytaifeejciglkpaa
open Go.RowKit
theorem fair_8_1_13 : fairB 8 1 13 31 = true := by decide +kernel
theorem fair_8_1_14 : fairB 8 1 14 28 = true := by decide +kernel
theorem fair_8_1_15 : fairB 8 1 15 28 = true := by decide +kernel
theorem fair_8_1_16 : fairB 8 1 16 31 = true := by decide +kernel
theorem fair_8_1_17 : fairB 8 1 17 27 = true := by decide +kernel
theorem fair_8_1_18 : fairB 8 1 18 27 = true := by decide +kernel
theorem fair_8_1_19 : fairB 8 1 19 31 = true := by decide +kernel
theorem fair_8_1_20 : fairB 8 1 20 26 = true := by decide +kernel
theorem fair_8_1_21 : fairB 8 1 21 28 = true := by decide +kernel
theorem fair_8_1_22 : fairB 8 1 22 28 = true := by decide +kernel
theorem fair_8_1_23 : fairB 8 1 23 28 = true := by decide +kernel
theorem fair_1_2_0 : fairB 1 2 0 5 = true := by decide +kernel
theorem fair_1_2_1 : fairB 1 2 1 5 = true := by decide +kernel
theorem fair_1_2_2 : fairB 1 2 2 5 = true := by decide +kernel
theorem fair_2_2_0 : fairB 2 2 0 9 = true := by decide +kernel
theorem fair_2_2_1 : fairB 2 2 1 10 = true := by decide +kernel
theorem fair_2_2_2 : fairB 2 2 2 9 = true := by decide +kernel
theorem fair_2_2_3 : fairB 2 2 3 9 = true := by decide +kernel
theorem fair_2_2_4 : fairB 2 2 4 16 = true := by decide +kernel
theorem fair_2_2_5 : fairB 2 2 5 9 = true := by decide +kernel
theorem fair_3_2_0 : fairB 3 2 0 23 = true := by decide +kernel
theorem fair_3_2_1 : fairB 3 2 1 13 = true := by decide +kernel
theorem fair_3_2_2 : fairB 3 2 2 21 = true := by decide +kernel
theorem fair_4_2_0 : fairB 4 2 0 36 = true := by decide +kernel
theorem fair_4_2_1 : fairB 4 2 1 32 = true := by decide +kernel
theorem fair_4_2_2 : fairB 4 2 2 30 = true := by decide +kernel
end Go.Proofs.Ytaifeejciglkpaa
