import Derived.Deep.RegionHeld3
namespace Go.Proofs.YtlepokgagickmaaGreat
end Go.Proofs.YtlepokgagickmaaGreat
