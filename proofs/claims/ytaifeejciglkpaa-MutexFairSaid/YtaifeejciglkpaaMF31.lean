import Derived.Test.YtaifeejciglkpaaMF22
set_option linter.unusedVariables false
namespace Go.Proofs.Ytaifeejciglkpaa
open Go.RowKit
theorem fair_7_2_12 : fairB 7 2 12 70 = true := by decide +kernel
theorem fair_7_2_13 : fairB 7 2 13 70 = true := by decide +kernel
theorem fair_7_2_14 : fairB 7 2 14 114 = true := by decide +kernel
theorem fair_7_2_15 : fairB 7 2 15 69 = true := by decide +kernel
theorem fair_7_2_16 : fairB 7 2 16 69 = true := by decide +kernel
theorem fair_7_2_17 : fairB 7 2 17 64 = true := by decide +kernel
end Go.Proofs.Ytaifeejciglkpaa
