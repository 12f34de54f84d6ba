import Derived.Test.YtaifeejciglkpaaMF22
set_option linter.unusedVariables false
namespace Go.Proofs.Ytaifeejciglkpaa
open Go.RowKit
theorem fair_8_2_18 : fairB 8 2 18 84 = true := by decide +kernel
theorem fair_8_2_19 : fairB 8 2 19 85 = true := by decide +kernel
theorem fair_8_2_20 : fairB 8 2 20 82 = true := by decide +kernel
theorem fair_8_2_21 : fairB 8 2 21 82 = true := by decide +kernel
end Go.Proofs.Ytaifeejciglkpaa
