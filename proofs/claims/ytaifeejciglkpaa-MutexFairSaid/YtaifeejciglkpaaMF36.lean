import Derived.Test.YtaifeejciglkpaaMF22
set_option linter.unusedVariables false
namespace Go.Proofs.Ytaifeejciglkpaa
open Go.RowKit
theorem fair_8_2_14 : fairB 8 2 14 85 = true := by decide +kernel
theorem fair_8_2_15 : fairB 8 2 15 83 = true := by decide +kernel
theorem fair_8_2_16 : fairB 8 2 16 94 = true := by decide +kernel
theorem fair_8_2_17 : fairB 8 2 17 86 = true := by decide +kernel
end Go.Proofs.Ytaifeejciglkpaa
