import Derived.Test.YtaifeejciglkpaaMF22
set_option linter.unusedVariables false
namespace Go.Proofs.Ytaifeejciglkpaa
open Go.RowKit
theorem fair_8_2_22 : fairB 8 2 22 82 = true := by decide +kernel
theorem fair_8_2_23 : fairB 8 2 23 79 = true := by decide +kernel
end Go.Proofs.Ytaifeejciglkpaa
