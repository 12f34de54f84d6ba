import Derived.Test.YtgebffjejifidaaGreatG1
import Derived.Test.YtgebffjejifidaaGreatG24
import Derived.Test.YtgebffjejifidaaGreatG9
set_option linter.unusedVariables false
set_option linter.unusedSimpArgs false
namespace Go.Proofs.YtgebffjejifidaaGreat
open Go.RowKit Tryz
theorem qd9(B:Nat)(p A:Option Addr)(cp:Nat)(nv:Value)(r:LS)(w:World)(h:RunP w B p A cp nv r)(hl:r.ns.length<=900)(hx:Words r.xs)(ha:0<=r.a/\r.a<4294967296)(hb:0<=r.b/\r.b<4294967296):Calls prog 35 #[Value.pointer (some ⟨B,0,none⟩)] w (qj B p A cp w (.tuple #[]) r.pf):=zbo (yz h hl (zo _) qu) hx ha hb
theorem qoj:qz 35 :=fun args w=>by simp[callFunc,go_sem, func35, Tryz.f35]
theorem qvz(B:Nat)(p A:Option Addr)(cp:Nat)(nv:Value)(r:LS)(w:World)(h:RunQ w B p A cp nv r)(hx:Words r.xs)(ha:0<=r.a/\r.a<4294967296)(hb:0<=r.b/\r.b<4294967296):
 Calls prog 90 #[Value.pointer (some ⟨B,0,none⟩),.func (.func 35) #[] #[]] w (qcl B p A cp (r.next LS.pf) (qd B A) (fun _=>True) w):=
 qci qoj LS.pf h fun w nv h=>qd9 B p A cp nv _ w h (Nat.zero_le _) hx ha hb
end Go.Proofs.YtgebffjejifidaaGreat
