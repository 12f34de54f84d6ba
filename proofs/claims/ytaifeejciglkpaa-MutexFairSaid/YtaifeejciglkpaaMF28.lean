import Derived.Test.YtaifeejciglkpaaMF22
set_option linter.unusedVariables false
namespace Go.Proofs.Ytaifeejciglkpaa
open Go.RowKit
theorem fair_5_2_9 : fairB 5 2 9 43 = true := by decide +kernel
theorem fair_5_2_10 : fairB 5 2 10 64 = true := by decide +kernel
theorem fair_5_2_11 : fairB 5 2 11 43 = true := by decide +kernel
theorem fair_5_2_12 : fairB 5 2 12 44 = true := by decide +kernel
theorem fair_5_2_13 : fairB 5 2 13 44 = true := by decide +kernel
theorem fair_5_2_14 : fairB 5 2 14 44 = true := by decide +kernel
theorem fair_6_2_0 : fairB 6 2 0 64 = true := by decide +kernel
theorem fair_6_2_1 : fairB 6 2 1 57 = true := by decide +kernel
theorem fair_6_2_2 : fairB 6 2 2 55 = true := by decide +kernel
theorem fair_6_2_3 : fairB 6 2 3 67 = true := by decide +kernel
theorem fair_6_2_4 : fairB 6 2 4 53 = true := by decide +kernel
end Go.Proofs.Ytaifeejciglkpaa
