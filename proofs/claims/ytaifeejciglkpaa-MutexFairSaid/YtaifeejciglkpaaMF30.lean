import Derived.Test.YtaifeejciglkpaaMF22
set_option linter.unusedVariables false
namespace Go.Proofs.Ytaifeejciglkpaa
open Go.RowKit
theorem fair_7_2_6 : fairB 7 2 6 67 = true := by decide +kernel
theorem fair_7_2_7 : fairB 7 2 7 77 = true := by decide +kernel
theorem fair_7_2_8 : fairB 7 2 8 70 = true := by decide +kernel
theorem fair_7_2_9 : fairB 7 2 9 68 = true := by decide +kernel
theorem fair_7_2_10 : fairB 7 2 10 68 = true := by decide +kernel
theorem fair_7_2_11 : fairB 7 2 11 62 = true := by decide +kernel
end Go.Proofs.Ytaifeejciglkpaa
