import Derived.Test.YtgebffjejifidaaGreatG1
import Derived.Laws.BitsAllLaws
import Derived.Laws.BitsLemmas
import Derived.Test.YtgebffjejifidaaGreatG10
import Derived.Test.YtgebffjejifidaaGreatG9
import Derived.Test.YtgebffjejifidaaGreatG2
set_option linter.unusedVariables false
set_option linter.unusedSimpArgs false
set_option maxHeartbeats 1000000
namespace Go.Proofs.YtgebffjejifidaaGreat
open Go.RowKit Tryz
theorem qm4:jy 1 :=⟨dc,dc,dc⟩
theorem qlz:jy 143 :=⟨dc,dc,dc⟩
theorem qmg:jy 164 :=⟨dc,dc,dc⟩
theorem qhs{v:Int}(h0:0<=v)(h1:v<4294967296):bits .and .u32 v 65536=v/65536%2*65536:=by
 obtain⟨m,rfl⟩:=Int.eq_ofNat_of_zero_le h0;have e:bits .and .u32 (m:Int) ((65536:Nat):Int)=((m &&& 65536:Nat):Int):=u32_and_nat m 65536 om dc;rw[show((65536:Nat):Int)=(65536:Int)from rfl]at e;rw[e]
 have e2:m &&& 65536=m/65536%2*65536:=by
  apply Nat.eq_of_testBit_eq;intro i;rw[Nat.testBit_and,show(65536:Nat)=2^16 from rfl,Nat.testBit_two_pow,Nat.testBit_mul_two_pow]
  by_cases h:16=i
  . subst h;simp[Nat.testBit_eq_decide_div_mod_eq]
  . by_cases h2:16<=i
    . have h3:∃j,i-16=j+1:=⟨i-17,om⟩;obtain⟨j,h3⟩:=h3;have h4:m/2^16%2<2:=Nat.mod_lt _ dc
      have h5:(m/2^16%2).testBit (j+1)=false:=Nat.testBit_lt_two_pow (Nat.lt_of_lt_of_le h4 (by
       have:=Nat.one_le_two_pow (n:=j)
       rw[Nat.pow_succ];omega))
      simp[h,h3,h5]
    . simp[h,h2]
 rw[e2];omega
theorem qbv(v:Int)(w:World)(h0:0<=v)(h1:v<4294967296):Calls prog 161 #[.int .u32 v] w fun e w'=>e= .returned (.bool (!ju v))/\w=w':=by
 have hb:=qhs h0 h1
 have HQ:=zh (show(!(v/65536%2*65536==0))=(!ju v) by
  unfold ju
  rcases Int.emod_two_eq (v/65536)with e|e<;>rw[e]<;>rfl)
 clear h0 h1;generalize (!ju v)=q at *;generalize v/65536%2*65536=z at *;go_enter func161, ntmps161;go_wp2;go_ret;exact⟨congrArg (fun x=>Ending.returned (.bool x)) HQ.out,rfl⟩
def qkv(F:Nat)(q:Int->Bool):Prop:=∀(v:Int) (w:World),0<=v->v<4294967296->Calls prog F #[.int .u32 v] w fun e w'=>e= .returned (.bool (q v))/\w=w'
theorem qrc:qkv 160 ju:=by
 intro v w h0 h1;have HT:=zh (qbv v w h0 h1);clear h0 h1;generalize ju v=q at *;go_enter func160, ntmps160;go_wp2_with fail;refine HT.out.mono ?_;rintro e w1 ⟨rfl,rfl⟩;clear HT;go_wp2;go_ret;exact⟨rfl,rfl⟩
theorem qpm:qkv 164 (fun v=>v==0):=by
 intro v w h0 h1;go_enter func164, ntmps164;go_wp2;go_ret;exact⟨rfl,rfl⟩
theorem qrv:qkv 166 (fun v=>v==1):=by
 intro v w h0 h1;go_enter func166, ntmps166;go_wp2;go_ret;exact⟨rfl,rfl⟩
theorem qod:qz 160 :=fun args w=>by simp[callFunc,go_sem, func160, Tryz.f160]
theorem qpz:qz 164 :=fun args w=>by simp[callFunc,go_sem, func164, Tryz.f164]
theorem qpd:qz 166 :=fun args w=>by simp[callFunc,go_sem, func166, Tryz.f166]
theorem qo7:qz 157 :=fun args w=>by simp[callFunc,go_sem, func157, Tryz.f157]
theorem qqk:qz 162 :=fun args w=>by simp[callFunc,go_sem, func162, Tryz.f162]
theorem qp2:qz 165 :=fun args w=>by simp[callFunc,go_sem, func165, Tryz.f165]
theorem qov:qz 167 :=fun args w=>by simp[callFunc,go_sem, func167, Tryz.f167]
section
variable{B g0 g1 g2:Nat}{p A:Option Addr}{cp m:Nat}{nv:Value}{r:LS}{w w0:World}
theorem qph(cl:Int)(S:St w0 B p A cp [] m r w)(hm:m+1<=1000):Calls prog 163 #[Value.pointer (some ⟨B,0,none⟩),.int .i64 cl] w (qj B p A cp w0 (.tuple #[]) ((r.note 2 cl).note 4 0)):=by
 go_enter func163, ntmps163;go_wp2_with fail;refine jr S (fun w S=> ?_) om;go_wp2_with fail;refine jr S (fun w S=> ?_) hm;go_wp2;go_returns;exact S.done
theorem qcm(B:Nat)(p A:Option Addr)(cp:Nat)(nv:Value)(r:LS)(cl:Int)(w:World)(h:RunP w B p A cp nv r)(hl:r.ns.length<=900):Calls prog 163 #[Value.pointer (some ⟨B,0,none⟩),.int .i64 cl] w (qj B p A cp w (.tuple #[]) ((r.note 2 cl).note 4 0)):=
 qph cl (yz h hl (zo _) qu) dc
theorem qvl(B:Nat)(p A:Option Addr)(cp:Nat)(nv:Value)(r:LS)(g0:Nat)(w:World)(h:RunP w B p A cp nv r)(hl:r.ns.length<=900)(hb:Row w g0 110 #[Value.pointer (some ⟨B,0,none⟩)]):Calls prog 157 #[.pointer (some ⟨g0,0,none⟩)] w (qj B p A cp w (.tuple #[]) (r.note 4 0)):=by
 have S:=yz h hl ((zo w).cons hb) (qi yh qu);have b0:=S.c0;clear h hl hb;go_enter func157, ntmps157;go_wp2_with fail;refine yn S fun w S b0=> ?_;go_wp2;go_returns;exact S.done
theorem qv7(B:Nat)(p A:Option Addr)(cp:Nat)(nv:Value)(r:LS)(g0:Nat)(w:World)(h:RunP w B p A cp nv r)(hl:r.ns.length<=900)(hb:Row w g0 110 #[Value.pointer (some ⟨B,0,none⟩)]):Calls prog 162 #[.pointer (some ⟨g0,0,none⟩)] w (qj B p A cp w (.tuple #[]) ((r.note 2 1).note 4 0)):=by
 have S:=yz h hl ((zo w).cons hb) (qi yh qu);have b0:=S.c0;clear h hl hb;go_enter func162, ntmps162;go_wp2_with fail;refine S.call (fun nv h=>qcm B p A cp nv r 1 _ h S.len) (m':=902) (by have:=S.len;simp only[LS.note,List.length_append,List.length_cons,List.length_nil];omega) fun w S=> ?_;go_wp2;go_returns;exact S.done
theorem qwb(B:Nat)(p A:Option Addr)(cp:Nat)(nv:Value)(r:LS)(g0:Nat)(w:World)(h:RunP w B p A cp nv r)(hl:r.ns.length<=900)(hb:Row w g0 110 #[Value.pointer (some ⟨B,0,none⟩)]):Calls prog 165 #[.pointer (some ⟨g0,0,none⟩)] w (qj B p A cp w (.tuple #[]) ((r.note 2 2).note 4 0)):=by
 have S:=yz h hl ((zo w).cons hb) (qi yh qu);have b0:=S.c0;clear h hl hb;go_enter func165, ntmps165;go_wp2_with fail;refine S.call (fun nv h=>qcm B p A cp nv r 2 _ h S.len) (m':=902) (by have:=S.len;simp only[LS.note,List.length_append,List.length_cons,List.length_nil];omega) fun w S=> ?_;go_wp2;go_returns;exact S.done
theorem qxy(B:Nat)(p A:Option Addr)(cp:Nat)(nv:Value)(r:LS)(g0:Nat)(w:World)(h:RunP w B p A cp nv r)(hl:r.ns.length<=900)(hb:Row w g0 110 #[Value.pointer (some ⟨B,0,none⟩)]):Calls prog 167 #[.pointer (some ⟨g0,0,none⟩)] w (qj B p A cp w (.tuple #[]) (r.note 9 0)):=by
 have S:=yz h hl ((zo w).cons hb) (qi yh qu);have b0:=S.c0;clear h hl hb;go_enter func167, ntmps167;go_wp2_with fail;refine yn S fun w S b0=> ?_;go_wp2;go_returns;exact S.done
theorem qjf(x:Int)(V:Value)(l:List Int)(S:St w B p A cp [(g0, 110, #[Value.pointer (some ⟨B,0,none⟩)]),(g2, 164, #[V])] 900 r w)(hw:Whats B A w V l)(hm9:l.length<=90)(h1:Row w g1 22 #[.int .u32 x]):
 Calls prog 254 #[.pointer (some ⟨g0,0,none⟩),.pointer (some ⟨g1,0,none⟩),.pointer (some ⟨g2,0,none⟩)] w (qj B p A cp w (.tuple #[]) (r.fChange x l)):=by
 have b1:w.cell? ⟨g1,0,none⟩=some (.int .u32 x):=h1.one;have b0:=S.c0;have HM9:=zh hm9;obtain⟨r1,hr1⟩:∃r1,r.doA 3 0 x 0=r1:=⟨_,rfl⟩;rw[show r.fChange x l=((r1.notes l).wake 0).fin true by rw[←hr1];rfl];have HR2:=zh hr1;have HW:=zh hw;clear hw hm9 hr1 h1;go_enter func254, ntmps254;go_wp2_with fail;clear b0 b1;refine qew S fun w1 S b0=> ?_;rw[HR2.out]at S;obtain⟨Z,c,rfl,hz⟩:=HW.out;generalize hm:l.length=m at *;have HM:=zh hm;have HZ:=zh hz;have b2:=S.rows.c1;clear HW hz hm HR2;go_wp2;clear b2 b0
 go_loopw [10] (fun iv wr=>∃k:Nat,k<=m/\iv= .int .i64 k/\St w B p A cp [(g0, 110, #[Value.pointer (some ⟨B,0,none⟩)]),(g2, 164, #[.slice Z m c])] (900+k) (r1.notes (l.take k)) wr) (fun iv _=>m-(intOf iv).toNat)
 case atStart=>exact⟨0,Nat.zero_le _,rfl,S⟩
 case round=>
  obtain⟨k,hk,rfl,S⟩:=hrel;have b0:=S.c0;have hm9:m<=90:=HM9.out
  by_cases hlt:k<m
  . obtain⟨y,hy⟩:∃y,l[k]? =some y:=⟨_,List.getElem?_eq_getElem (by rw[HM.out];exact hlt)⟩;obtain⟨b,o,rfl,hc⟩:=HZ.out _ S.only k y hy;have HN:=zh (qbc (r:=r1) hy);clear hy;go_wp2_with fail;clear hc b0;refine yn S (fun w2 S b0=> ?_) om;rw[←HN.out]at S;go_wp2
    go_roundw
    case rel=>exact⟨k+1,om,by go_num,S⟩
    case measure=>simp[intOf];omega
  . obtain rfl:k=m:=by omega
    rw[show l.take k=l by rw[←HM.out,List.take_length]]at S;go_wp2_with fail;refine qkh S fun w S b0=> ?_;go_wp2_with fail;refine xf S fun w S b0=> ?_;go_wp2;go_returns;exact S.done
theorem qbb(B:Nat)(p A:Option Addr)(cp:Nat)(nv:Value)(r:LS)(x:Int)(V:Value)(l:List Int)(w:World)(h:RunP w B p A cp nv r)(hl:r.ns.length<=900)(hw:Whats B A w V l)(hm:l.length<=90):
 Calls prog 154 #[Value.pointer (some ⟨B,0,none⟩),.int .u32 x,V] w (Clo 254 B p A cp (r.fChange x l) w):=by
 have e0:=(((Only.refl Nil w).alloc (.cells #[Value.pointer (some ⟨B,0,none⟩)] 110)).alloc (.cells #[.int .u32 x] 22)).alloc (.cells #[V] 164);have HC:=zh (qjf x V l (yz (h.keep e0) hl (((zo _).cons (Row.at (k:=w.heap.size+1+1) (by simp))).cons (((Row.new w _ _).alloc _).alloc _)) (qi yh (qi qmg qu))) (hw.move (e0.mono (fun _ _ h=>h.elim))) hm ((Row.new2 w _ _ _).alloc _));have HE:=zh e0;obtain⟨VA,vc,rfl,_⟩:=hw;clear h hl e0 hm;go_enter func154, ntmps154;go_wp2;go_ret;exact⟨_,rfl,HE.out,HC.out⟩
theorem qtz(S:St w B p A cp [(g0, 110, #[Value.pointer (some ⟨B,0,none⟩)])] 900 r w)(hx:Words r.xs):Calls prog 251 #[.pointer (some ⟨g0,0,none⟩)] w (qj B p A cp w (.tuple #[]) r.fCome):=by
 have HV:=zh (qq hx 0);clear hx;have b0:=S.c0;go_enter func251, ntmps251
 go_upto_region 0 with(fail)
 refine qb (n:=7) 6 (fun w=>w.cell? ⟨g0,0,none⟩=some (Value.pointer (some ⟨B,0,none⟩))) rfl kr b0 (fun hHeld=> ?_);replace S:=S.drew;clear b0;generalize w.drew=w1 at *;refine zt 0 rfl ?_;refine zt 1 rfl ?_;refine mpc 2 rfl kr br (fun K hK=> ?_);go_simp;refine qew S fun w2 S b0=> ?_;refine hK.out _ _ (.inr b0) ?_;clear hK K hHeld;refine za 3 rfl ?_;refine za 4 rfl ?_;refine za 5 rfl ?_;have c6:=S.c6;have f6:=S.froz 6;refine mpc 6 rfl kr br (fun K hK=> ?_);go_simp;refine hK.out _ _ (.inl kr) ?_;clear hK K c6 f6 b0;replace S:=S.setA (qa r.xs 0);generalize w2.setCell ⟨B,6,none⟩ (.int .u32 (qa r.xs 0))=w3 at *;refine qc kr ?_ _;have b0:=S.c0;have c6:w3.cell? ⟨B,6,none⟩=some (.int .u32 (qa r.xs 0)):=S.c6;go_wp2_with fail;clear c6;refine(qbv _ _ HV.out.1 HV.out.2).mono ?_;rintro e w4 ⟨rfl,rfl⟩
 cases hq:ju (qa r.xs 0)
 . have H:=zh hq;clear hq;go_wp2_with fail;refine yn S fun w S b0=> ?_;go_wp2_with fail;refine sGo S fun w S b0=> ?_;go_wp2;go_returns;exact S.fit (by unfold LS.fCome;exact qcj H.out)
 . have H:=zh hq;clear hq;go_wp2_with fail;refine S.call0 (fun nv h=>qcm B p A cp nv _ 1 _ h S.len) (m':=902) (by have:=S.len;simp only[LS.note,List.length_append,List.length_cons,List.length_nil];omega) fun w S b0=> ?_;go_wp2_with fail;refine xf S fun w S b0=> ?_;go_wp2;go_returns;exact S.fit (by unfold LS.fCome;exact qab H.out)
theorem qt5(S:St w B p A cp [(g0, 110, #[Value.pointer (some ⟨B,0,none⟩)])] 900 r w)(hx:Words r.xs):Calls prog 255 #[.pointer (some ⟨g0,0,none⟩)] w (qj B p A cp w (.tuple #[]) r.fReg):=by
 clear hx;have b0:=S.c0;go_enter func255, ntmps255
 go_upto_region 0 with(fail)
 refine qb (n:=7) 6 (fun w=>w.cell? ⟨g0,0,none⟩=some (Value.pointer (some ⟨B,0,none⟩))) rfl kr b0 (fun hHeld=> ?_);replace S:=S.drew;clear b0;generalize w.drew=w1 at *;refine zt 0 rfl ?_;refine zt 1 rfl ?_;refine mpc 2 rfl kr br (fun K hK=> ?_);go_simp;refine qeq S fun w2 S b0=> ?_;refine hK.out _ _ (.inr b0) ?_;clear hK K hHeld;refine za 3 rfl ?_;refine za 4 rfl ?_;refine za 5 rfl ?_;have c6:=S.c6;have f6:=S.froz 6;refine mpc 6 rfl kr br (fun K hK=> ?_);go_simp;refine hK.out _ _ (.inl kr) ?_;clear hK K c6 f6 b0;replace S:=S.setA (qa r.xs 0);generalize w2.setCell ⟨B,6,none⟩ (.int .u32 (qa r.xs 0))=w3 at *;refine qc kr ?_ _;have b0:=S.c0;go_wp2_with fail;refine yn S fun w4 S b0=> ?_;have c6:w4.cell? ⟨B,6,none⟩=some (.int .u32 (qa r.xs 0)):=S.c6
 by_cases hv:qa r.xs 0=0
 . go_wp2_with fail;refine sGo S fun w S b0=> ?_;go_wp2;go_returns;exact S.fit (by unfold LS.fReg;exact if_pos hv)
 . go_wp2_with fail;refine sGo S fun w S b0=> ?_;go_wp2;go_returns;exact S.fit (by unfold LS.fReg;exact if_neg hv)
theorem qpy(B:Nat)(p A:Option Addr)(cp:Nat)(nv:Value)(r:LS)(w:World)(h:RunP w B p A cp nv r)(hl:r.ns.length<=900)(hx:Words r.xs):
 Calls prog 152 #[Value.pointer (some ⟨B,0,none⟩)] w (Clo 251 B p A cp (r.fCome) w):=by
 obtain⟨e,S⟩:=mk1 h hl;have HC:=zh (qtz S hx);clear S h hl hx;go_enter func152, ntmps152;go_wp2;go_ret;exact⟨_,rfl,e,HC.out⟩
theorem qq8(B:Nat)(p A:Option Addr)(cp:Nat)(nv:Value)(r:LS)(w:World)(h:RunP w B p A cp nv r)(hl:r.ns.length<=900)(hx:Words r.xs):
 Calls prog 155 #[Value.pointer (some ⟨B,0,none⟩)] w (Clo 255 B p A cp (r.fReg) w):=by
 obtain⟨e,S⟩:=mk1 h hl;have HC:=zh (qt5 S hx);clear S h hl hx;go_enter func155, ntmps155;go_wp2;go_ret;exact⟨_,rfl,e,HC.out⟩
end
section
variable{B g0 g1 g2 g3 g4 g5:Nat}{p A:Option Addr}{cp m:Nat}{nv:Value}{r:LS}{w w0:World}
theorem qmp:qkv 253 ju:=by
 intro v w h0 h1;have HT:=zh (qbv v w h0 h1);clear h0 h1;generalize ju v=q at *;go_enter func253, ntmps253;go_wp2_with fail;refine HT.out.mono ?_;rintro e w1 ⟨rfl,rfl⟩;clear HT;go_wp2;go_ret;exact⟨rfl,rfl⟩
theorem qpe:qkv 258 isZ:=by
 intro v w h0 h1;have HQ:=zh (show(v==0)=isZ v from rfl);go_enter func258, ntmps258;go_wp2;go_ret;exact⟨congrArg (fun x=>Ending.returned (.bool x)) HQ.out,rfl⟩
theorem qpb:qz 253 :=fun args w=>by simp[callFunc,go_sem, func253, Tryz.f253]
theorem qpl:qz 258 :=fun args w=>by simp[callFunc,go_sem, func258, Tryz.f258]
theorem qfe(F:FuncId)(hcf:qz F){q:Int->Bool}(ha:qkv F q):HoldsAny (.func (.func F) #[] #[]) q:=by
 intro v w h0 h1;have HA:=zh (ha v w h0 h1);clear ha;generalize q v=b at *;have hn:=qa5;unfold qz at hcf
 go_enter_defers func311, ntmps311
 go_wp2_with fail;clear hcf;refine HA.out.mono ?_;rintro e w1 ⟨rfl,rfl⟩;clear HA;go_wp2;refine leaves_cons (f:= 319) (args:= #[]) (by simp) (by simp[go_sem]) ?_;refine(jp _).mono ?_;rintro e u' w'' ⟨rfl,rfl,rfl⟩;exact⟨_,results_tmp rfl _ _ _,rfl,Only.refl _ _⟩
theorem qn6(S:St w B p A cp [(g0, 110, #[Value.pointer (some ⟨B,0,none⟩)])] 900 r w)(hx:Words r.xs):Calls prog 252 #[.pointer (some ⟨g0,0,none⟩)] w (qj B p A cp w (.tuple #[]) (r.pAdmit 0 ju)):=by
 generalize hsn:(r.stepR 0 ju).seen=sn;generalize hdn:(r.stepR 0 ju).done=dn;obtain⟨r1,hr1⟩:∃r1,r.wait 0 ju=r1:=⟨_,rfl⟩;have H:=zh (And.intro hsn (And.intro hdn (And.intro hr1 hx)));have b0:=S.c0;clear hsn hdn hr1 hx;go_enter func252, ntmps252;go_wp2_with fail;clear b0;refine qes S (qfe _ qpb qmp).at H.out.2.2.2 H.out.1 H.out.2.1 H.out.2.2.1 fun w S b0=> ?_
 cases sn
 all_goals cases dn
 . go_wp2;go_returns;exact S.fit (by unfold LS.pAdmit;rw[H.out.1,H.out.2.1,H.out.2.2.1];rfl)
 . go_wp2_with fail;refine xf S fun w S b0=> ?_;go_wp2;go_returns;exact S.fit (by unfold LS.pAdmit;rw[H.out.1,H.out.2.1,H.out.2.2.1];rfl)
 . go_wp2_with fail;refine yn S fun w S b0=> ?_;go_wp2;go_returns;exact S.fit (by unfold LS.pAdmit;rw[H.out.1,H.out.2.1,H.out.2.2.1];rfl)
 . go_wp2_with fail;refine yn S fun w S b0=> ?_;go_wp2_with fail;refine xf S fun w S b0=> ?_;go_wp2;go_returns;exact S.fit (by unfold LS.pAdmit;rw[H.out.1,H.out.2.1,H.out.2.2.1];rfl)
theorem qoh(S:St w B p A cp [(g0, 110, #[Value.pointer (some ⟨B,0,none⟩)])] 900 r w)(hx:Words r.xs):Calls prog 257 #[.pointer (some ⟨g0,0,none⟩)] w (qj B p A cp w (.tuple #[]) (r.fWait)):=by
 generalize hsn:(r.stepR 0 isZ).seen=sn;generalize hdn:(r.stepR 0 isZ).done=dn;obtain⟨r1,hr1⟩:∃r1,r.wait 0 isZ=r1:=⟨_,rfl⟩;have H:=zh (And.intro hsn (And.intro hdn (And.intro hr1 hx)));have b0:=S.c0;clear hsn hdn hr1 hx;go_enter func257, ntmps257;go_wp2_with fail;clear b0;refine qes S (qfe _ qpl qpe).at H.out.2.2.2 H.out.1 H.out.2.1 H.out.2.2.1 fun w S b0=> ?_
 cases dn
 . go_wp2;go_returns;exact S.fit (by unfold LS.fWait;rw[H.out.2.1,H.out.2.2.1];rfl)
 . go_wp2_with fail;refine sGo S fun w S b0=> ?_;go_wp2;go_returns;exact S.fit (by unfold LS.fWait;rw[H.out.2.1,H.out.2.2.1];rfl)
theorem ql0(B:Nat)(p A:Option Addr)(cp:Nat)(nv:Value)(r:LS)(w:World)(h:RunP w B p A cp nv r)(hl:r.ns.length<=900)(hx:Words r.xs):
 Calls prog 153 #[Value.pointer (some ⟨B,0,none⟩)] w (Clo 252 B p A cp (r.pAdmit 0 ju) w):=by
 obtain⟨e,S⟩:=mk1 h hl;have HC:=zh (qn6 S hx);clear S h hl hx;go_enter func153, ntmps153;go_wp2;go_ret;exact⟨_,rfl,e,HC.out⟩
theorem qmb(B:Nat)(p A:Option Addr)(cp:Nat)(nv:Value)(r:LS)(w:World)(h:RunP w B p A cp nv r)(hl:r.ns.length<=900)(hx:Words r.xs):
 Calls prog 158 #[Value.pointer (some ⟨B,0,none⟩)] w (Clo 257 B p A cp (r.fWait) w):=by
 obtain⟨e,S⟩:=mk1 h hl;have HC:=zh (qoh S hx);clear S h hl hx;go_enter func158, ntmps158;go_wp2;go_ret;exact⟨_,rfl,e,HC.out⟩
theorem qme(FF:FuncId)(hcf:qz FF)(q:Int->Bool)(hq:qkv FF q)(S:St w B p A cp [(g0, 110, #[Value.pointer (some ⟨B,0,none⟩)]),(g1, 143, #[.func (.func FF) #[] #[]])] 900 r w)(hx:Words r.xs):
 Calls prog 259 #[.pointer (some ⟨g0,0,none⟩),.pointer (some ⟨g1,0,none⟩)] w (qj B p A cp w (.tuple #[]) (r.fLook (q (qa r.xs 0)))):=by
 have HT:=zh (fun w=>hq (qa r.xs 0) w (qq hx 0).1 (qq hx 0).2);have HCF:=zh hcf;clear hq hx hcf;have b0:=S.c0;go_enter func259, ntmps259
 go_upto_region 0 with(fail)
 refine qb (n:=7) 6 (fun w=>w.cell? ⟨g0,0,none⟩=some (Value.pointer (some ⟨B,0,none⟩))) rfl kr b0 (fun hHeld=> ?_);replace S:=S.drew;clear b0;generalize w.drew=w1 at *;refine zt 0 rfl ?_;refine zt 1 rfl ?_;refine mpc 2 rfl kr br (fun K hK=> ?_);go_simp;refine qeq S fun w2 S b0=> ?_;refine hK.out _ _ (.inr b0) ?_;clear hK K hHeld;refine za 3 rfl ?_;refine za 4 rfl ?_;refine za 5 rfl ?_;have c6:=S.c6;have f6:=S.froz 6;refine mpc 6 rfl kr br (fun K hK=> ?_);go_simp;refine hK.out _ _ (.inl kr) ?_;clear hK K c6 f6 b0;replace S:=S.setA (qa r.xs 0);generalize w2.setCell ⟨B,6,none⟩ (.int .u32 (qa r.xs 0))=w3 at *;refine qc kr ?_ _
 go_upto_region 1 with(fail)
 refine qb (n:=7) 6 (fun w=>w.cell? ⟨g0,0,none⟩=some (Value.pointer (some ⟨B,0,none⟩))/\w.cell? ⟨g1,0,none⟩=some (.func (.func FF) #[] #[])/\w.cell? ⟨B,6,none⟩=some (.int .u32 (qa r.xs 0))) rfl kr ⟨S.c0,S.rows.c1,S.c6⟩ (fun hHeld=> ?_);replace S:=S.drew;generalize w3.drew=w4 at *;refine zt 0 rfl ?_;refine zt 1 rfl ?_;refine za 2 rfl ?_;refine za 3 rfl ?_;refine za 4 rfl ?_;refine zt 5 rfl ?_;refine mpc 6 rfl kr br (fun K hK=> ?_);have hcf:∀(args:Array Value) (w:World),(callFunc FF args).run prog w= .ok (.enter FF args) w:=HCF.out;go_simp;refine(HT.out _).mono ?_;rintro e w9 ⟨rfl,rfl⟩;refine hK.out _ _ (.inl kr) ?_;clear hK K hHeld hcf HT HCF;refine qc kr ?_ _;have b0:=S.c0
 cases hz:q (qa r.xs 0)
 . have H:=zh hz;clear hz;go_wp2_with fail;refine yn S fun w S b0=> ?_;go_wp2_with fail;refine xf S fun w S b0=> ?_;go_wp2;go_returns;exact S.fit (by unfold LS.fLook;exact qcj H.out)
 . have H:=zh hz;clear hz;go_wp2_with fail;refine sGo S fun w S b0=> ?_;go_wp2;go_returns;exact S.fit (by unfold LS.fLook;exact qab H.out)
theorem qbw(FF:FuncId)(hcf:qz FF)(q:Int->Bool)(hq:qkv FF q)(B:Nat)(p A:Option Addr)(cp:Nat)(nv:Value)(r:LS)(w:World)(h:RunP w B p A cp nv r)(hl:r.ns.length<=900)(hx:Words r.xs):
 Calls prog 159 #[Value.pointer (some ⟨B,0,none⟩),.func (.func FF) #[] #[]] w (Clo 259 B p A cp (r.fLook (q (qa r.xs 0))) w):=by
 obtain⟨e,S⟩:=mk2 (v1:= .func (.func FF) #[] #[]) h hl qlz;have HC:=zh (qme FF hcf q hq S hx);clear h hl hx S hcf hq;go_enter func159, ntmps159;go_wp2;go_ret;exact⟨_,rfl,e,HC.out⟩
def LS.fClaim(r:LS)(fr to n:Int)(T:LS->LS):LS:=if r.at0 fr then(T (r.doA 5 0 fr to)).fin true else(r.doA 5 0 fr to).go n
def qu9(FF:FuncId)(T:LS->LS):Prop:=∀(B:Nat) (p A:Option Addr) (cp:Nat) (nv:Value) (r:LS) (g0:Nat) (w:World) (h:RunP w B p A cp nv r) (hl:r.ns.length<=900) (hb:Row w g0 110 #[Value.pointer (some ⟨B,0,none⟩)]),Calls prog FF #[.pointer (some ⟨g0,0,none⟩)] w (qj B p A cp w (.tuple #[]) (T r))
theorem qm3(FF:FuncId)(hcf:qz FF)(T:LS->LS)(ht:qu9 FF T)(fr to n:Int)(h1:Row w g1 22 #[.int .u32 fr])(h2:Row w g2 22 #[.int .u32 to])
 (S:St w B p A cp [(g0, 110, #[Value.pointer (some ⟨B,0,none⟩)]),(g3, 3, #[.int .i64 n]),(g4, 1, #[.func (.func FF) #[] #[.pointer (some ⟨g5,0,none⟩)]]),(g5, 110, #[Value.pointer (some ⟨B,0,none⟩)])] 900 r w):
 Calls prog 256 #[.pointer (some ⟨g0,0,none⟩),.pointer (some ⟨g1,0,none⟩),.pointer (some ⟨g2,0,none⟩),.pointer (some ⟨g3,0,none⟩),.pointer (some ⟨g4,0,none⟩)] w (qj B p A cp w (.tuple #[]) (r.fClaim fr to n T)):=by
 have b1:=h1.one;have b2:=h2.one;have b0:=S.c0;have HT:=zh ht;have HCF:=zh hcf;clear h1 h2 ht hcf;go_enter func256, ntmps256;go_wp2_with fail;clear b0 b1 b2;refine zbn S fun w1 S b0=> ?_
 cases hz:(qf r.xs 0 && (qa r.xs 0==fr))
 . have b3:=S.rows.c1;have H:=zh hz;clear hz;go_wp2_with fail;refine sGo S fun w S b0=> ?_;go_wp2;go_returns;exact S.fit (by unfold LS.fClaim;exact qcj H.out)
 . have b4:=S.rows.c2;have H:=zh hz;clear hz;have hcf:∀(args:Array Value) (w:World),(callFunc FF args).run prog w= .ok (.enter FF args) w:=HCF.out;go_wp2_with fail;clear b4 hcf;refine S.call0 (fun nv h=>HT.out B p A cp nv _ g5 _ h S.len (S.rows _ (.tail _ (.tail _ (.tail _ (.head _)))))) (Nat.le_refl _) fun w2 S b0=> ?_;go_wp2_with fail;refine xf S fun w S b0=> ?_;go_wp2;go_returns;exact S.fit (by unfold LS.fClaim;exact qab H.out)
theorem qaf(FF:FuncId)(hcf:qz FF)(T:LS->LS)(ht:qu9 FF T)(B:Nat)(p A:Option Addr)(cp:Nat)(nv:Value)(r:LS)(fr to n:Int)(g5:Nat)(w:World)(h:RunP w B p A cp nv r)(hl:r.ns.length<=900)(hb:Row w g5 110 #[Value.pointer (some ⟨B,0,none⟩)]):
 Calls prog 156 #[Value.pointer (some ⟨B,0,none⟩),.int .u32 fr,.int .u32 to,.int .i64 n,.func (.func FF) #[] #[.pointer (some ⟨g5,0,none⟩)]] w (Clo 256 B p A cp (r.fClaim fr to n T) w):=by
 have e0:=(((((Only.refl Nil w).alloc (.cells #[Value.pointer (some ⟨B,0,none⟩)] 110)).alloc (.cells #[.int .u32 fr] 22)).alloc (.cells #[.int .u32 to] 22)).alloc (.cells #[.int .i64 n] 3)).alloc (.cells #[.func (.func FF) #[] #[.pointer (some ⟨g5,0,none⟩)]] 1)
 have HC:=zh (qm3 FF hcf T ht fr to n ((((Row.new2 w _ _ _).alloc _).alloc _).alloc _) (((Row.at (k:=w.heap.size+1+1) (by simp)).alloc _).alloc _)
  (yz (h.keep e0) hl ((((zo _).cons (hb.only e0 id)).cons (Row.at (k:=w.heap.size+1+1+1+1) (by simp))).cons ((Row.at (k:=w.heap.size+1+1+1) (by simp)).alloc _)|>.cons (((((Row.new w _ _).alloc _).alloc _).alloc _).alloc _)) (qi yh (qi yv (qi qm4 (qi yh qu))))))
 have HE:=zh e0;clear h hl hb e0 hcf ht;generalize r.fClaim fr to n T=rr at *;go_enter func156, ntmps156;go_wp2;go_ret;exact⟨_,rfl,HE.out,HC.out⟩
end
end Go.Proofs.YtgebffjejifidaaGreat
