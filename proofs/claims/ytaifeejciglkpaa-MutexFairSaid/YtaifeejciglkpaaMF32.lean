import Derived.Test.YtaifeejciglkpaaMF22
set_option linter.unusedVariables false
namespace Go.Proofs.Ytaifeejciglkpaa
open Go.RowKit
theorem fair_7_2_18 : fairB 7 2 18 71 = true := by decide +kernel
theorem fair_7_2_19 : fairB 7 2 19 68 = true := by decide +kernel
theorem fair_7_2_20 : fairB 7 2 20 67 = true := by decide +kernel
theorem fair_8_2_0 : fairB 8 2 0 91 = true := by decide +kernel
theorem fair_8_2_1 : fairB 8 2 1 79 = true := by decide +kernel
end Go.Proofs.Ytaifeejciglkpaa
