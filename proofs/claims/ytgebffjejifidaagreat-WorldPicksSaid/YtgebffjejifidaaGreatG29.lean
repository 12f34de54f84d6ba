import Derived.Test.YtgebffjejifidaaGreatG1
import Derived.Test.YtgebffjejifidaaGreatG28
import Derived.Test.YtgebffjejifidaaGreatG9
set_option linter.unusedVariables false
set_option linter.unusedSimpArgs false
set_option maxHeartbeats 4000000
namespace Go.Proofs.YtgebffjejifidaaGreat
open Go.RowKit Tryz
theorem qtj(B:Nat)(p A:Option Addr)(cp:Nat)(nv:Value)(r:LS)(w:World)(h:RunP w B p A cp nv r)(hl:r.ns.length<=900)(hx:Words r.xs)(ha:0<=r.a/\r.a<4294967296)(hb:0<=r.b/\r.b<4294967296):Calls prog 36 #[Value.pointer (some ⟨B,0,none⟩)] w (qj B p A cp w (.tuple #[]) r.pq):=by
 have HS:=zh (zc3 B p A cp nv r w h hl hx ha hb);have HP:=zh h;clear h hl hx ha hb;have hn:=qf2;have hn0:=qdq;go_enter func36, ntmps36;go_wp2_with fail;refine HS.out.mono ?_;rintro e w1 (⟨F,hF,caps,rfl,hO,hC⟩|⟨rfl,hO,hr⟩)
 . have HO:=zh hO;have HC:=zh hC;clear hO hC HS HP;simp only[List.mem_cons,List.not_mem_nil,or_false]at hF;rcases hF with rfl|rfl|rfl|rfl|rfl|rfl|rfl|rfl|rfl|rfl|rfl|rfl|rfl
   all_goals
    go_wp2_with fail;refine HC.out.mono ?_;rintro e w2 ⟨rfl,hO,hP⟩;have H:=zh (And.intro ((HO.out.mono (T:=qd B A) (fun _ _ h=>h.elim)).trans hO) hP);clear hO hP HO HC;go_wp2;go_returns;exact⟨rfl,H.out⟩
 . have HO:=zh hO;clear hO HS;go_wp2;go_returns;exact⟨rfl,HO.out.mono (fun _ _ h=>h.elim),nv,by rw[hr];exact HP.out.keep HO.out⟩
theorem qob:qz 36 :=fun args w=>by simp[callFunc,go_sem, func36, Tryz.f36]
theorem qvs(B:Nat)(p A:Option Addr)(cp:Nat)(nv:Value)(r:LS)(w:World)(h:RunQ w B p A cp nv r)(hx:Words r.xs)(ha:0<=r.a/\r.a<4294967296)(hb:0<=r.b/\r.b<4294967296):
 Calls prog 90 #[Value.pointer (some ⟨B,0,none⟩),.func (.func 36) #[] #[]] w (qcl B p A cp (r.next LS.pq) (qd B A) (fun _=>True) w):=
 qci qob LS.pq h fun w nv h=>qtj B p A cp nv _ w h (Nat.zero_le _) hx ha hb
end Go.Proofs.YtgebffjejifidaaGreat
