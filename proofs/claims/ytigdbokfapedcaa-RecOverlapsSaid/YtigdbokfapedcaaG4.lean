import Derived.Deep.RegionHeld3
namespace Go.Proofs.Ytigdbokfapedcaa
end Go.Proofs.Ytigdbokfapedcaa
