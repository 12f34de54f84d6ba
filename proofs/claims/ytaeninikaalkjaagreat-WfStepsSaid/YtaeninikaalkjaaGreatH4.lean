import Derived.Deep.RegionHeld3
namespace Go.Proofs.YtaeninikaalkjaaGreat
section
variable {P : Program} {md : Region.Mode} {Q : Exit → Act → World → Prop} {S : World → Prop} {fuel : Nat} {listed : Array Bool} {a : Act} {w : World} {oi : Oper} {rest : List Oper}
end
end Go.Proofs.YtaeninikaalkjaaGreat
