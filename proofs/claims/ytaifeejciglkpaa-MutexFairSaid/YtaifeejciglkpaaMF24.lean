import Derived.Test.YtaifeejciglkpaaMF22
set_option linter.unusedVariables false
namespace Go.Proofs.Ytaifeejciglkpaa
open Go.RowKit
theorem fair_7_1_1 : fairB 7 1 1 22 = true := by decide +kernel
theorem fair_7_1_2 : fairB 7 1 2 22 = true := by decide +kernel
theorem fair_7_1_3 : fairB 7 1 3 25 = true := by decide +kernel
theorem fair_7_1_4 : fairB 7 1 4 23 = true := by decide +kernel
theorem fair_7_1_5 : fairB 7 1 5 28 = true := by decide +kernel
theorem fair_7_1_6 : fairB 7 1 6 23 = true := by decide +kernel
theorem fair_7_1_7 : fairB 7 1 7 29 = true := by decide +kernel
theorem fair_7_1_8 : fairB 7 1 8 31 = true := by decide +kernel
theorem fair_7_1_9 : fairB 7 1 9 23 = true := by decide +kernel
theorem fair_7_1_10 : fairB 7 1 10 23 = true := by decide +kernel
theorem fair_7_1_11 : fairB 7 1 11 32 = true := by decide +kernel
theorem fair_7_1_12 : fairB 7 1 12 24 = true := by decide +kernel
theorem fair_7_1_13 : fairB 7 1 13 24 = true := by decide +kernel
theorem fair_7_1_14 : fairB 7 1 14 36 = true := by decide +kernel
theorem fair_7_1_15 : fairB 7 1 15 23 = true := by decide +kernel
theorem fair_7_1_16 : fairB 7 1 16 27 = true := by decide +kernel
theorem fair_7_1_17 : fairB 7 1 17 27 = true := by decide +kernel
theorem fair_7_1_18 : fairB 7 1 18 24 = true := by decide +kernel
end Go.Proofs.Ytaifeejciglkpaa
