import Derived.Test.YtgebffjejifidaaGreatG1
import Derived.Test.YtgebffjejifidaaGreatG31
import Derived.Test.YtgebffjejifidaaGreatG32
import Derived.Test.YtgebffjejifidaaGreatG33
import Derived.Test.YtgebffjejifidaaGreatG34
import Derived.Test.YtgebffjejifidaaGreatG35
import Derived.Test.YtgebffjejifidaaGreatG9
set_option linter.unusedVariables false
set_option linter.unusedSimpArgs false
set_option maxHeartbeats 4000000
namespace Go.Proofs.YtgebffjejifidaaGreat
open Go.RowKit Tryz
theorem zbr(B:Nat)(p A:Option Addr)(cp:Nat)(nv:Value)(r:LS)(w:World)(h:RunP w B p A cp nv r)(hl:r.ns.length<=900)(hx:Words r.xs)(ha:0<=r.a/\r.a<4294967296):Calls prog 78 #[Value.pointer (some ⟨B,0,none⟩)] w (ClS [241, 243, 247, 242, 244, 250, 245, 249] B p A cp r r.fq w):=by
 by_cases o0:r.op=1\/r.op=2
 . exact qzj B p A cp nv r w h hl hx ha o0
 by_cases o1:r.op=5\/r.op=3
 . exact zab B p A cp nv r w h hl hx ha o1
 by_cases o2:r.op=6\/r.op=4
 . exact zao B p A cp nv r w h hl hx ha o2
 by_cases o3:r.op=7
 . exact qzn B p A cp nv r w h hl hx ha o3
 exact qz5 B p A cp nv r w h hl hx ha om
theorem qut(B:Nat)(p A:Option Addr)(cp:Nat)(nv:Value)(r:LS)(w:World)(h:RunP w B p A cp nv r)(hl:r.ns.length<=900)(hx:Words r.xs)(ha:0<=r.a/\r.a<4294967296):Calls prog 37 #[Value.pointer (some ⟨B,0,none⟩)] w (qj B p A cp w (.tuple #[]) r.fq):=by
 have HS:=zh (zbr B p A cp nv r w h hl hx ha);have HP:=zh h;clear h hl hx ha;have hn:=qf2;have hn0:=qdq;go_enter func37, ntmps37;go_wp2_with fail;refine HS.out.mono ?_;rintro e w1 (⟨F,hF,caps,rfl,hO,hC⟩|⟨rfl,hO,hr⟩)
 . have HO:=zh hO;have HC:=zh hC;clear hO hC HS HP;simp only[List.mem_cons,List.not_mem_nil,or_false]at hF;rcases hF with rfl|rfl|rfl|rfl|rfl|rfl|rfl|rfl
   all_goals
    go_wp2_with fail;refine HC.out.mono ?_;rintro e w2 ⟨rfl,hO,hP⟩;have H:=zh (And.intro ((HO.out.mono (T:=qd B A) (fun _ _ h=>h.elim)).trans hO) hP);clear hO hP HO HC;go_wp2;go_returns;exact⟨rfl,H.out⟩
 . have HO:=zh hO;clear hO HS;go_wp2;go_returns;exact⟨rfl,HO.out.mono (fun _ _ h=>h.elim),nv,by rw[hr];exact HP.out.keep HO.out⟩
theorem qqp:qz 37 :=fun args w=>by simp[callFunc,go_sem, func37, Tryz.f37]
theorem qv8(B:Nat)(p A:Option Addr)(cp:Nat)(nv:Value)(r:LS)(w:World)(h:RunQ w B p A cp nv r)(hx:Words r.xs)(ha:0<=r.a/\r.a<4294967296):
 Calls prog 90 #[Value.pointer (some ⟨B,0,none⟩),.func (.func 37) #[] #[]] w (qcl B p A cp (r.next LS.fq) (qd B A) (fun _=>True) w):=
 qci qqp LS.fq h fun w nv h=>qut B p A cp nv _ w h (Nat.zero_le _) hx ha
end Go.Proofs.YtgebffjejifidaaGreat
