import Derived.Test.YtaifeejciglkpaaMF22
set_option linter.unusedVariables false
namespace Go.Proofs.Ytaifeejciglkpaa
open Go.RowKit
theorem fair_8_2_10 : fairB 8 2 10 83 = true := by decide +kernel
theorem fair_8_2_11 : fairB 8 2 11 84 = true := by decide +kernel
theorem fair_8_2_12 : fairB 8 2 12 83 = true := by decide +kernel
theorem fair_8_2_13 : fairB 8 2 13 81 = true := by decide +kernel
end Go.Proofs.Ytaifeejciglkpaa
