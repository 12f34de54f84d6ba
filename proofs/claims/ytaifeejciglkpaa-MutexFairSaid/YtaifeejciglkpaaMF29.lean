import Derived.Test.YtaifeejciglkpaaMF22
set_option linter.unusedVariables false
namespace Go.Proofs.Ytaifeejciglkpaa
open Go.RowKit
theorem fair_6_2_5 : fairB 6 2 5 55 = true := by decide +kernel
theorem fair_7_2_0 : fairB 7 2 0 75 = true := by decide +kernel
theorem fair_7_2_1 : fairB 7 2 1 72 = true := by decide +kernel
theorem fair_7_2_2 : fairB 7 2 2 69 = true := by decide +kernel
theorem fair_7_2_3 : fairB 7 2 3 67 = true := by decide +kernel
theorem fair_7_2_4 : fairB 7 2 4 68 = true := by decide +kernel
theorem fair_7_2_5 : fairB 7 2 5 69 = true := by decide +kernel
end Go.Proofs.Ytaifeejciglkpaa
