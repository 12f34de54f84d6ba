import Derived.Test.YtaifeejciglkpaaMS19
set_option linter.unusedVariables false
set_option linter.unusedSimpArgs false
namespace Go.Proofs.Ytaifeejciglkpaa
section
variable {k m t : Nat} {mode : Int} {q : Nat → Nat} {s : QS} {g : GV} {R : LS}
end
end Go.Proofs.Ytaifeejciglkpaa
set_option linter.unusedVariables false
set_option linter.unusedSimpArgs false
namespace Go.Proofs.Ytaifeejciglkpaa
end Go.Proofs.Ytaifeejciglkpaa
