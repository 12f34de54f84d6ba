import Derived.Test.YtaifeejciglkpaaMF22
set_option linter.unusedVariables false
namespace Go.Proofs.Ytaifeejciglkpaa
open Go.RowKit
theorem fair_8_2_6 : fairB 8 2 6 82 = true := by decide +kernel
theorem fair_8_2_7 : fairB 8 2 7 81 = true := by decide +kernel
theorem fair_8_2_8 : fairB 8 2 8 90 = true := by decide +kernel
theorem fair_8_2_9 : fairB 8 2 9 84 = true := by decide +kernel
end Go.Proofs.Ytaifeejciglkpaa
