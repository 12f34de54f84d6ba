import Derived.Test.YtgebffjejifidaaGreatG1
import Derived.Test.YtgebffjejifidaaGreatG42
import Derived.Test.YtgebffjejifidaaGreatG9
set_option linter.unusedVariables false
set_option linter.unusedSimpArgs false
namespace Go.Proofs.YtgebffjejifidaaGreat
open Go.RowKit Tryz
theorem qsb(B:Nat)(p A:Option Addr)(cp:Nat)(nv:Value)(r:LS)(w:World)(h:RunP w B p A cp nv r)(hl:r.ns.length<=900)(hx:Words r.xs)(ha:0<=r.a/\r.a<4294967296):Calls prog 39 #[Value.pointer (some ⟨B,0,none⟩)] w (qj B p A cp w (.tuple #[]) r.wf):=zc7 (yz h hl (zo _) qu) hx ha
theorem qqb:qz 39 :=fun args w=>by simp[callFunc,go_sem, func39, Tryz.f39]
theorem qxe(B:Nat)(p A:Option Addr)(cp:Nat)(nv:Value)(r:LS)(w:World)(h:RunQ w B p A cp nv r)(hx:Words r.xs)(ha:0<=r.a/\r.a<4294967296):
 Calls prog 90 #[Value.pointer (some ⟨B,0,none⟩),.func (.func 39) #[] #[]] w (qcl B p A cp (r.next LS.wf) (qd B A) (fun _=>True) w):=
 qci qqb LS.wf h fun w nv h=>qsb B p A cp nv _ w h (Nat.zero_le _) hx ha
end Go.Proofs.YtgebffjejifidaaGreat
