import Derived.Test.YtaifeejciglkpaaMF22
set_option linter.unusedVariables false
namespace Go.Proofs.Ytaifeejciglkpaa
open Go.RowKit
theorem fair_4_2_3 : fairB 4 2 3 30 = true := by decide +kernel
theorem fair_4_2_4 : fairB 4 2 4 32 = true := by decide +kernel
theorem fair_4_2_5 : fairB 4 2 5 29 = true := by decide +kernel
theorem fair_4_2_6 : fairB 4 2 6 32 = true := by decide +kernel
theorem fair_4_2_7 : fairB 4 2 7 31 = true := by decide +kernel
theorem fair_4_2_8 : fairB 4 2 8 32 = true := by decide +kernel
theorem fair_4_2_9 : fairB 4 2 9 31 = true := by decide +kernel
theorem fair_4_2_10 : fairB 4 2 10 32 = true := by decide +kernel
theorem fair_4_2_11 : fairB 4 2 11 30 = true := by decide +kernel
theorem fair_5_2_0 : fairB 5 2 0 51 = true := by decide +kernel
theorem fair_5_2_1 : fairB 5 2 1 40 = true := by decide +kernel
theorem fair_5_2_2 : fairB 5 2 2 44 = true := by decide +kernel
theorem fair_5_2_3 : fairB 5 2 3 43 = true := by decide +kernel
theorem fair_5_2_4 : fairB 5 2 4 40 = true := by decide +kernel
theorem fair_5_2_5 : fairB 5 2 5 49 = true := by decide +kernel
theorem fair_5_2_6 : fairB 5 2 6 43 = true := by decide +kernel
theorem fair_5_2_7 : fairB 5 2 7 39 = true := by decide +kernel
theorem fair_5_2_8 : fairB 5 2 8 43 = true := by decide +kernel
end Go.Proofs.Ytaifeejciglkpaa
