import Derived.Test.YtaifeejciglkpaaMF22
set_option linter.unusedVariables false
namespace Go.Proofs.Ytaifeejciglkpaa
open Go.RowKit
theorem fair_7_1_19 : fairB 7 1 19 23 = true := by decide +kernel
theorem fair_7_1_20 : fairB 7 1 20 24 = true := by decide +kernel
theorem fair_8_1_0 : fairB 8 1 0 28 = true := by decide +kernel
theorem fair_8_1_1 : fairB 8 1 1 27 = true := by decide +kernel
theorem fair_8_1_2 : fairB 8 1 2 27 = true := by decide +kernel
theorem fair_8_1_3 : fairB 8 1 3 28 = true := by decide +kernel
theorem fair_8_1_4 : fairB 8 1 4 24 = true := by decide +kernel
theorem fair_8_1_5 : fairB 8 1 5 27 = true := by decide +kernel
theorem fair_8_1_6 : fairB 8 1 6 28 = true := by decide +kernel
theorem fair_8_1_7 : fairB 8 1 7 26 = true := by decide +kernel
theorem fair_8_1_8 : fairB 8 1 8 28 = true := by decide +kernel
theorem fair_8_1_9 : fairB 8 1 9 26 = true := by decide +kernel
theorem fair_8_1_10 : fairB 8 1 10 28 = true := by decide +kernel
theorem fair_8_1_11 : fairB 8 1 11 27 = true := by decide +kernel
theorem fair_8_1_12 : fairB 8 1 12 24 = true := by decide +kernel
end Go.Proofs.Ytaifeejciglkpaa
