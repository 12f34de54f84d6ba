import Derived.Test.YtaifeejciglkpaaMF22
set_option linter.unusedVariables false
namespace Go.Proofs.Ytaifeejciglkpaa
open Go.RowKit
theorem fair_8_2_2 : fairB 8 2 2 84 = true := by decide +kernel
theorem fair_8_2_3 : fairB 8 2 3 85 = true := by decide +kernel
theorem fair_8_2_4 : fairB 8 2 4 81 = true := by decide +kernel
theorem fair_8_2_5 : fairB 8 2 5 84 = true := by decide +kernel
end Go.Proofs.Ytaifeejciglkpaa
