import Derived.Deep.Cut
import Derived.Test.YtaifeejciglkpaaMS7
import Derived.Test.YtaifeejciglkpaaMS5
set_option linter.unusedVariables false
set_option linter.unusedSimpArgs false
namespace Go.Proofs.Ytaifeejciglkpaa
open Go.RowKit
end Go.Proofs.Ytaifeejciglkpaa
