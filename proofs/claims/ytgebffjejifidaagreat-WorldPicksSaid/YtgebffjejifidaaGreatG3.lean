import Derived.Test.YtgebffjejifidaaGreatG1
import Derived.Deep.RegionHeld3
set_option linter.unusedVariables false
set_option linter.unusedSimpArgs false
namespace Go.Proofs.YtgebffjejifidaaGreat
end Go.Proofs.YtgebffjejifidaaGreat
