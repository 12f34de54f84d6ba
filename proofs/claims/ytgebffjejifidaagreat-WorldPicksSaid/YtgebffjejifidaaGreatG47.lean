import Derived.Test.YtgebffjejifidaaGreatG1
import Derived.Test.YtgebffjejifidaaGreatG53
import Derived.Test.YtgebffjejifidaaGreatG46
import Derived.Test.YtgebffjejifidaaGreatG14
import Derived.Test.YtgebffjejifidaaGreatG37
import Derived.Test.YtgebffjejifidaaGreatG11
import Derived.Test.YtgebffjejifidaaGreatG13
set_option linter.unusedVariables false
set_option linter.unusedSimpArgs false
set_option maxHeartbeats 4000000
set_option maxRecDepth 100000
namespace Go.Proofs.YtgebffjejifidaaGreat
open Go.RowKit Tryz
theorem qz6(B base:Nat)(A:Option Addr)(l cp:Nat)(nv:Value)(r:LS)(w:World)(h:RunR w B base A l cp nv r)(hl:r.ns.length<=900)(hx:Words r.xs)(ha:0<=r.a/\r.a<4294967296)(h1:r.op=1)(h2:r.line=5):
 Calls prog 98 #[Value.pointer (some ⟨B,0,none⟩)] w (qg B base A l cp w (.tuple #[]) ((r.doA 3 1 1 0).go 6)):=by
 have H1:=zh h1;clear h1;have H2:=zh h2;clear h2;have HX:=zh hx;have HL:=zh hl;have HA:=zh ha;have HH:=zh h;clear h hl hx ha
 have c4:w.cell? ⟨B,4,none⟩=some (.int .i64 (1)):=by rw[←H1.out];exact HH.out.row.cell_ (i:=4) rfl
 have c5:w.cell? ⟨B,5,none⟩=some (.int .i64 (5)):=by rw[←H2.out];exact HH.out.row.cell_ (i:=5) rfl
 go_enter func98, ntmps98
 go_upto_region 1 with(fail)
 refine qb (n:=10) 9 (fun w=>w.cell? ⟨B,4,none⟩=some (.int .i64 (1))/\w.cell? ⟨B,5,none⟩=some (.int .i64 (5))) rfl kr ⟨c4,c5⟩ (fun hHeld=> ?_);have HP0:=zh (HH.out.keep (Only.refl Nil w).drew);have HO0:=zh ((Only.refl (qd B A) w).drew);clear HH c4 c5;generalize w.drew=w2 at *;refine za 0 rfl ?_;refine za 1 rfl ?_;refine za 2 rfl ?_;refine zt 3 rfl ?_;refine za 4 rfl ?_;refine za 5 rfl ?_;refine za 6 rfl ?_;refine zt 7 rfl ?_;refine za 8 rfl ?_;refine mpc 9 rfl kr br (fun K hK=> ?_);go_simp;refine hK.out _ _ (.inl kr) ?_;clear hK K hHeld;refine qc kr ?_ _;go_wp2_with fail;refine(kx B base A l cp nv r 1 1 _ HP0.out).mono ?_;rintro e w1_ ⟨rfl,hO,nv1,hP⟩;have HO1:=zh (HO0.out.trans hO);have HP1:=zh hP;clear hO hP HP0 HO0;have c5:w1_.cell? ⟨B,5,none⟩=some (.int .i64 (r.line)):=HP1.out.row.cell_ (i:=5) rfl;have f5:w1_.frozen? ⟨B,5,none⟩=false:=HP1.out.row.frozen 5;go_wp2;clear c5 f5;have HPZ:=zh (HP1.out.setLine (6));have HOZ:=zh (HO1.out.setCell (p:=⟨B,5,none⟩) (.inr (.inl rfl)) (.int .i64 (6)));go_returns;exact⟨rfl,HOZ.out,nv1,HPZ.out⟩
theorem qsj(B base:Nat)(A:Option Addr)(l cp:Nat)(nv:Value)(r:LS)(w:World)(h:RunR w B base A l cp nv r)(hl:r.ns.length<=900)(hx:Words r.xs)(ha:0<=r.a/\r.a<4294967296)(h1:r.op=1)(hh:4<r.line)(hh5:r.line≠5):
 Calls prog 98 #[Value.pointer (some ⟨B,0,none⟩)] w (qg B base A l cp w (.tuple #[]) (r.qGive 6 true [4])):=by
 have H1:=zh h1;clear h1;obtain⟨ln,H2⟩:∃ln,Hid (r.line=ln):=⟨_,zh rfl⟩;rw[H2.out]at hh;rw[H2.out]at hh5
 have q0:decide ((0:Int)<=ln)=true:=by simp;omega
 have q4:decide (ln<=(4:Int))=false:=by simp;omega
 have n5:(ln==5)=false:=beq_eq_false_iff_ne.2 om;clear hh hh5;have HX:=zh hx;have HL:=zh hl;have HA:=zh ha;have HH:=zh h;clear h hl hx ha
 have c4:w.cell? ⟨B,4,none⟩=some (.int .i64 (1)):=by rw[←H1.out];exact HH.out.row.cell_ (i:=4) rfl
 have c5:w.cell? ⟨B,5,none⟩=some (.int .i64 (ln)):=by rw[←H2.out];exact HH.out.row.cell_ (i:=5) rfl
 go_enter func98, ntmps98
 go_upto_region 1 with(fail)
 refine qb (n:=10) 9 (fun w=>w.cell? ⟨B,4,none⟩=some (.int .i64 (1))/\w.cell? ⟨B,5,none⟩=some (.int .i64 (ln))) rfl kr ⟨c4,c5⟩ (fun hHeld=> ?_);have HP0:=zh (HH.out.keep (Only.refl Nil w).drew);have HO0:=zh ((Only.refl (qd B A) w).drew);clear HH c4 c5;generalize w.drew=w2 at *;refine za 0 rfl ?_;refine za 1 rfl ?_;refine za 2 rfl ?_;refine zt 3 rfl ?_;refine za 4 rfl ?_;refine za 5 rfl ?_;refine za 6 rfl ?_;refine zt 7 rfl ?_;refine za 8 rfl ?_;refine mpc 9 rfl kr br (fun K hK=> ?_);go_simp;refine hK.out _ _ (.inl kr) ?_;clear hK K hHeld;refine qc kr ?_ _;go_wp2_with fail;have e0:=(Only.refl Nil w2).alloc (.cells #[.int .i64 4] 3);have HPA:=zh (HP0.out.keep e0);have HOA:=zh (HO0.out.trans (e0.mono (T:=qd B A) (fun _ _ h=>h.elim)));refine(jj B base A l cp nv r 6 true _ [4] _ HPA.out HL.out HX.out HA.out (jo HP0.out 4) dc dc dc).mono ?_;clear e0;rintro e w3 ⟨rfl,hO,nv1,hP⟩;have HO1:=zh (HOA.out.trans hO);have HP1:=zh hP;clear hO hP HPA HOA;go_wp2;go_returns;exact⟨rfl,HO1.out,nv1,HP1.out⟩
theorem quh(B base:Nat)(A:Option Addr)(l cp:Nat)(nv:Value)(r:LS)(w:World)(h:RunR w B base A l cp nv r)(hl:r.ns.length<=900)(hx:Words r.xs)(ha:0<=r.a/\r.a<4294967296)(h1:r.op=7)(hh:r.line<0):
 Calls prog 98 #[Value.pointer (some ⟨B,0,none⟩)] w (qg B base A l cp w (.tuple #[]) (r.qGive 6 false [8])):=by
 have H1:=zh h1;clear h1;obtain⟨ln,H2⟩:∃ln,Hid (r.line=ln):=⟨_,zh rfl⟩;rw[H2.out]at hh
 have q0:decide ((0:Int)<=ln)=false:=by simp;omega
 have n2:(ln==2)=false:=beq_eq_false_iff_ne.2 om;have n3:(ln==3)=false:=beq_eq_false_iff_ne.2 om;clear hh;have HX:=zh hx;have HL:=zh hl;have HA:=zh ha;have HH:=zh h;clear h hl hx ha
 have c4:w.cell? ⟨B,4,none⟩=some (.int .i64 (7)):=by rw[←H1.out];exact HH.out.row.cell_ (i:=4) rfl
 have c5:w.cell? ⟨B,5,none⟩=some (.int .i64 (ln)):=by rw[←H2.out];exact HH.out.row.cell_ (i:=5) rfl
 go_enter func98, ntmps98
 go_upto_region 1 with(fail)
 refine qb (n:=10) 9 (fun w=>w.cell? ⟨B,4,none⟩=some (.int .i64 (7))/\w.cell? ⟨B,5,none⟩=some (.int .i64 (ln))) rfl kr ⟨c4,c5⟩ (fun hHeld=> ?_);have HP0:=zh (HH.out.keep (Only.refl Nil w).drew);have HO0:=zh ((Only.refl (qd B A) w).drew);clear HH c4 c5;generalize w.drew=w2 at *;refine za 0 rfl ?_;refine za 1 rfl ?_;refine za 2 rfl ?_;refine zt 3 rfl ?_;refine za 4 rfl ?_;refine za 5 rfl ?_;refine za 6 rfl ?_;refine zt 7 rfl ?_;refine za 8 rfl ?_;refine mpc 9 rfl kr br (fun K hK=> ?_);go_simp;refine hK.out _ _ (.inl kr) ?_;clear hK K hHeld;refine qc kr ?_ _;go_wp2_with fail;have e0:=(Only.refl Nil w2).alloc (.cells #[.int .i64 8] 3);have HPA:=zh (HP0.out.keep e0);have HOA:=zh (HO0.out.trans (e0.mono (T:=qd B A) (fun _ _ h=>h.elim)));refine(jj B base A l cp nv r 6 false _ [8] _ HPA.out HL.out HX.out HA.out (jo HP0.out 8) dc dc dc).mono ?_;clear e0;rintro e w3 ⟨rfl,hO,nv1,hP⟩;have HO1:=zh (HOA.out.trans hO);have HP1:=zh hP;clear hO hP HPA HOA;go_wp2;go_returns;exact⟨rfl,HO1.out,nv1,HP1.out⟩
theorem zau(B base:Nat)(A:Option Addr)(l cp:Nat)(nv:Value)(r:LS)(w:World)(h:RunR w B base A l cp nv r)(hl:r.ns.length<=900)(hx:Words r.xs)(ha:0<=r.a/\r.a<4294967296)(h1:r.op=2)(hh:r.line≠0):
 Calls prog 98 #[Value.pointer (some ⟨B,0,none⟩)] w (qg B base A l cp w (.tuple #[]) (r)):=by
 have H1:=zh h1;clear h1;obtain⟨ln,H2⟩:∃ln,Hid (r.line=ln):=⟨_,zh rfl⟩;rw[H2.out]at hh;have n0:(ln==0)=false:=beq_eq_false_iff_ne.2 om;clear hh;have HX:=zh hx;have HL:=zh hl;have HA:=zh ha;have HH:=zh h;clear h hl hx ha
 have c4:w.cell? ⟨B,4,none⟩=some (.int .i64 (2)):=by rw[←H1.out];exact HH.out.row.cell_ (i:=4) rfl
 have c5:w.cell? ⟨B,5,none⟩=some (.int .i64 (ln)):=by rw[←H2.out];exact HH.out.row.cell_ (i:=5) rfl
 go_enter func98, ntmps98
 go_upto_region 1 with(fail)
 refine qb (n:=10) 9 (fun w=>w.cell? ⟨B,4,none⟩=some (.int .i64 (2))/\w.cell? ⟨B,5,none⟩=some (.int .i64 (ln))) rfl kr ⟨c4,c5⟩ (fun hHeld=> ?_);have HP0:=zh (HH.out.keep (Only.refl Nil w).drew);have HO0:=zh ((Only.refl (qd B A) w).drew);clear HH c4 c5;generalize w.drew=w2 at *;refine za 0 rfl ?_;refine za 1 rfl ?_;refine za 2 rfl ?_;refine zt 3 rfl ?_;refine za 4 rfl ?_;refine za 5 rfl ?_;refine za 6 rfl ?_;refine zt 7 rfl ?_;refine za 8 rfl ?_;refine mpc 9 rfl kr br (fun K hK=> ?_);go_simp;refine hK.out _ _ (.inl kr) ?_;clear hK K hHeld;refine qc kr ?_ _;go_wp2;go_returns;exact⟨rfl,HO0.out,nv,HP0.out⟩
def LS.fqOf(r:LS)(op:Int)(c:Nat):LS:=match c with
 |1=>r.qEnter (if op=1 then 1 else 2)|2=>r.qTry|3=>(r.doA 3 1 1 0).go 6|4=>r.qGive 6 true [4]|5=>(((r.doA 3 1 4294967295 0).note 6 0).wake 1).fin true|6=>r.awaitQ|7=>r.qGive 0 true [7,8]
 |8=>if qa r.xs 1=0 then(r.qCount.note 4 0).fin true else(r.qCount.note 5 0).go 6
 |9=>if qa r.xs 1=1 then r.qCount.go 3 else(r.qCount.note 5 0).go 6
 |10=>((r.doA 3 1 4294967295 0).note 9 0).fin true|11=>r.qGive 6 false [8]|12=>(r.doA 3 1 1 0).go 1|13=>r.qGive 1 true [10]|_=>r
theorem zc2{r:LS}{op:Int}(h1:r.op=op)(c:Nat)(hc:qy op r.line=c):r.fq=r.fqOf op c:=by
 subst h1;subst hc;unfold LS.fq LS.fqOf LS.awaitQ;rfl
theorem qjt(B base:Nat)(A:Option Addr)(l cp:Nat)(nv:Value)(r:LS)(w:World)(h:RunR w B base A l cp nv r)(hl:r.ns.length<=900)(hx:Words r.xs)(ha:0<=r.a/\r.a<4294967296):Calls prog 98 #[Value.pointer (some ⟨B,0,none⟩)] w (qg B base A l cp w (.tuple #[]) r.fq):=by
 have cs:∀{op:Int} (h1:r.op=op) (c:Nat),qy op r.line=c->r.fq=r.fqOf op c:=fun h1 c hc=>zc2 h1 c hc
 by_cases o1:r.op=1
 . by_cases a:r.line<0
   . rw[cs o1 4 (by unfold qy;repeat (first|rw[if_pos om]|rw[if_neg om]))];exact qu1 B base A l cp nv r w h hl hx ha o1 a
   by_cases b:r.line<=4
   . rw[cs o1 1 (by unfold qy;repeat (first|rw[if_pos om]|rw[if_neg om]))];exact za2 B base A l cp nv r w h hl hx ha o1 ⟨om,b⟩
   by_cases c:r.line=5
   . rw[cs o1 3 (by unfold qy;repeat (first|rw[if_pos om]|rw[if_neg om]))];exact qz6 B base A l cp nv r w h hl hx ha o1 c
   . rw[cs o1 4 (by unfold qy;repeat (first|rw[if_pos om]|rw[if_neg om]))];exact qsj B base A l cp nv r w h hl hx ha o1 om c
 by_cases o2:r.op=2
 . by_cases a:r.line=0
   . rw[cs o2 5 (by unfold qy;repeat (first|rw[if_pos om]|rw[if_neg om]))];exact za1 B base A l cp nv r w h hl hx ha o2 a
   . rw[cs o2 0 (by unfold qy;repeat (first|rw[if_pos om]|rw[if_neg om]))];exact zau B base A l cp nv r w h hl hx ha o2 a
 by_cases o3:r.op=3
 . by_cases a:r.line<0
   . rw[cs o3 0 (by unfold qy;repeat (first|rw[if_pos om]|rw[if_neg om]))];exact qrd B base A l cp nv r w h hl hx ha o3 a
   by_cases b:r.line<=4
   . rw[cs o3 1 (by unfold qy;repeat (first|rw[if_pos om]|rw[if_neg om]))];exact qyh B base A l cp nv r w h hl hx ha o3 ⟨om,b⟩
   by_cases c:r.line=5
   . rw[cs o3 6 (by unfold qy;repeat (first|rw[if_pos om]|rw[if_neg om]))];exact zcd B base A l cp nv r w h hl hx ha o3 c
   . rw[cs o3 0 (by unfold qy;repeat (first|rw[if_pos om]|rw[if_neg om]))];exact qre B base A l cp nv r w h hl hx ha o3 om c
 by_cases o4:r.op=4
 . rw[cs o4 7 (by unfold qy;repeat (first|rw[if_pos om]|rw[if_neg om]))];exact qz4 B base A l cp nv r w h hl hx ha o4
 by_cases o5:r.op=5
 . by_cases a:r.line<0
   . rw[cs o5 4 (by unfold qy;repeat (first|rw[if_pos om]|rw[if_neg om]))];exact qtb B base A l cp nv r w h hl hx ha o5 a
   by_cases b:r.line<=1
   . rw[cs o5 2 (by unfold qy;repeat (first|rw[if_pos om]|rw[if_neg om]))];show Calls _ _ _ _ (qg _ _ _ _ _ _ _ r.qTry);rw[qrh o5];exact qzb B base A l cp nv r w h hl hx ha o5 ⟨om,b⟩
   by_cases c:r.line=5
   . rw[cs o5 3 (by unfold qy;repeat (first|rw[if_pos om]|rw[if_neg om]))];exact qz0 B base A l cp nv r w h hl hx ha o5 c
   . rw[cs o5 4 (by unfold qy;repeat (first|rw[if_pos om]|rw[if_neg om]))];exact qr7 B base A l cp nv r w h hl hx ha o5 om c
 by_cases o6:r.op=6
 . by_cases a:r.line<0
   . rw[cs o6 11 (by unfold qy;repeat (first|rw[if_pos om]|rw[if_neg om]))];exact qrx B base A l cp nv r w h hl hx ha o6 a
   by_cases b:r.line<=1
   . rw[cs o6 2 (by unfold qy;repeat (first|rw[if_pos om]|rw[if_neg om]))];show Calls _ _ _ _ (qg _ _ _ _ _ _ _ r.qTry);rw[qib o5];exact za6 B base A l cp nv r w h hl hx ha o6 ⟨om,b⟩
   by_cases c:r.line=2
   . rw[cs o6 8 (by unfold qy;repeat (first|rw[if_pos om]|rw[if_neg om]))];exact qyu B base A l cp nv r w h hl hx ha o6 c
   . rw[cs o6 11 (by unfold qy;repeat (first|rw[if_pos om]|rw[if_neg om]))];exact qro B base A l cp nv r w h hl hx ha o6 om c
 by_cases o7:r.op=7
 . by_cases a:r.line<0
   . rw[cs o7 11 (by unfold qy;repeat (first|rw[if_pos om]|rw[if_neg om]))];exact quh B base A l cp nv r w h hl hx ha o7 a
   by_cases b:r.line<=1
   . rw[cs o7 2 (by unfold qy;repeat (first|rw[if_pos om]|rw[if_neg om]))];show Calls _ _ _ _ (qg _ _ _ _ _ _ _ r.qTry);rw[qib o5];exact zb4 B base A l cp nv r w h hl hx ha o7 ⟨om,b⟩
   by_cases c:r.line=2
   . rw[cs o7 9 (by unfold qy;repeat (first|rw[if_pos om]|rw[if_neg om]))];exact zbf B base A l cp nv r w h hl hx ha o7 c
   by_cases c3:r.line=3
   . rw[cs o7 10 (by unfold qy;repeat (first|rw[if_pos om]|rw[if_neg om]))];exact zae B base A l cp nv r w h hl hx ha o7 c3
   . rw[cs o7 11 (by unfold qy;repeat (first|rw[if_pos om]|rw[if_neg om]))];exact qtm B base A l cp nv r w h hl hx ha o7 om c c3
 by_cases o8:r.op=8
 . by_cases a:r.line=0
   . rw[cs o8 12 (by unfold qy;repeat (first|rw[if_pos om]|rw[if_neg om]))];exact qzg B base A l cp nv r w h hl hx ha o8 a
   . rw[cs o8 13 (by unfold qy;repeat (first|rw[if_pos om]|rw[if_neg om]))];exact qyj B base A l cp nv r w h hl hx ha o8 a
 . rw[cs (op:=r.op) rfl 0 (by unfold qy;repeat (first|rw[if_pos om]|rw[if_neg om]))];exact zba B base A l cp nv r w h hl hx ha om
theorem qxv{v:Int}(hv:0<=v/\v<4294967296):uIs 0 65536 0 v=ju v:=by
 show(bits .and .u32 v 65536==0)=ju v;rw[qhs hv.1 hv.2];unfold ju;rcases Int.emod_two_eq (v/65536)with e|e<;>rw[e]<;>rfl
theorem zbp{v:Int}(hv:0<=v/\v<4294967296):uIs 0 4294967295 0 v=isZ v:=by
 show(bits .and .u32 v 4294967295==0)=(v==0);rw[qjd hv]
theorem qb5{r:LS}(x:Int){l:Int}(h:r.line=l):(r.go x).go l=r:=by subst h;rfl
theorem qxt(B base:Nat)(A:Option Addr)(l cp:Nat)(nv:Value)(r:LS)(w:World)(h:RunR w B base A l cp nv r)(hl:r.ns.length<=900)(hx:Words r.xs)(h1:r.op=1)(h2:r.line=1):
 Calls prog 99 #[Value.pointer (some ⟨B,0,none⟩)] w (qg B base A l cp w (.tuple #[]) r.rf):=by
 rw[qqt h1 h2];have HE:=zh (show r.stepR 0 (uIs 0 65536 0)=r.stepR 0 ju from xv (qxv (qq hx 0)));generalize hsn:(r.stepR 0 ju).seen=sn;generalize hdn:(r.stepR 0 ju).done=dn;obtain⟨r1,hr1⟩:∃r1,r.wait 0 ju=r1:=⟨_,rfl⟩;have HL1:=zh (show r1.ns.length<=900 by rw[←hr1];exact hl);have HW1:=zh (show r.wait 0 (uIs 0 65536 0)=r1 by rw[←hr1];unfold LS.wait;rw[HE.out]);have HSN:=zh (show(r.stepR 0 (uIs 0 65536 0)).seen=sn by rw[HE.out];exact hsn);have HDN:=zh (show(r.stepR 0 (uIs 0 65536 0)).done=dn by rw[HE.out];exact hdn);unfold LS.pAdmit;rw[hdn,hsn,hr1];obtain⟨RR,hRR⟩:∃RR,(if dn then(r1.noteIf sn 4).fin true else r1.noteIf sn 4)=RR:=⟨_,rfl⟩;rw[hRR];have HRR:=zh hRR;clear hRR;clear hr1 hsn hdn HE;have H1:=zh h1;have H2:=zh h2;clear h1 h2;have HX:=zh hx;have HL:=zh hl;have HH:=zh h;clear h hl hx
 have c4:w.cell? ⟨B,4,none⟩=some (.int .i64 (1)):=by rw[←H1.out];exact HH.out.row.cell_ (i:=4) rfl
 have c5:w.cell? ⟨B,5,none⟩=some (.int .i64 (1)):=by rw[←H2.out];exact HH.out.row.cell_ (i:=5) rfl
 go_enter func99, ntmps99
 go_upto_region 3 with(fail)
 have hw1:IntKind.i64.wrap (10)=10:=rfl;have hw2:IntKind.i64.wrap (11)=11:=rfl;refine qb (n:=10) 9 (fun w=>w.cell? ⟨B,4,none⟩=some (.int .i64 (1))/\w.cell? ⟨B,5,none⟩=some (.int .i64 (1))) rfl kr ⟨c4,c5⟩ (fun hHeld=> ?_);have HP0:=zh (HH.out.keep (Only.refl Nil w).drew);have HO0:=zh ((Only.refl (qd B A) w).drew);clear HH c4 c5;generalize w.drew=w2 at *;refine za 0 rfl ?_;refine za 1 rfl ?_;refine za 2 rfl ?_;refine zt 3 rfl ?_;refine mpa 4 rfl (.int .i64 (10)) (fun w=> ?_) ?_
 . go_simp
 refine za 5 rfl ?_;refine za 6 rfl ?_;refine za 7 rfl ?_;refine zt 8 rfl ?_;refine mpc 9 rfl kr br (fun K hK=> ?_);go_simp;refine hK.out _ _ (.inl kr) ?_;clear hK K hHeld hw1 hw2;refine qc kr ?_ _;go_wp2_with fail;refine(ke B base A l cp nv r 0 0 65536 0 _ HP0.out HX.out).mono ?_;rw[HSN.out,HDN.out,HW1.out];clear HSN HDN HW1;rintro e w3_ ⟨rfl,hO,nv3,hP⟩;have HO3:=zh (HO0.out.trans hO);have HP3:=zh hP;clear hO hP HP0 HO0
 cases sn
 all_goals cases dn
 . have eR:r1=RR:=HRR.out;subst eR;go_wp2;go_returns;exact⟨rfl,HO3.out,nv3,HP3.out⟩
 . have eR:(r1).fin true=RR:=HRR.out;subst eR;go_wp2_with fail;refine(yd B base A l cp nv3 _ _ true HP3.out).mono ?_;rintro e w5_ ⟨rfl,hO,nv5,hP⟩;have HO5:=zh (HO3.out.trans hO);have HP5:=zh hP;clear hO hP HP3 HO3;go_wp2;go_returns;exact⟨rfl,HO5.out,nv5,HP5.out⟩
 . have eR:(r1).note 4 0=RR:=HRR.out;subst eR;go_wp2_with fail;refine(qo B base A l cp nv3 _ 4 0 _ HP3.out (Nat.le_trans HL1.out dc)).mono ?_;rintro e w4_ ⟨rfl,hO,nv4,hP⟩;have HO4:=zh (HO3.out.trans hO);have HP4:=zh hP;clear hO hP HP3 HO3;go_wp2;go_returns;exact⟨rfl,HO4.out,nv4,HP4.out⟩
 . have eR:((r1).note 4 0).fin true=RR:=HRR.out;subst eR;go_wp2_with fail;refine(qo B base A l cp nv3 _ 4 0 _ HP3.out (Nat.le_trans HL1.out dc)).mono ?_;rintro e w4_ ⟨rfl,hO,nv4,hP⟩;have HO4:=zh (HO3.out.trans hO);have HP4:=zh hP;clear hO hP HP3 HO3;go_wp2_with fail;refine(yd B base A l cp nv4 _ _ true HP4.out).mono ?_;rintro e w5_ ⟨rfl,hO,nv5,hP⟩;have HO5:=zh (HO4.out.trans hO);have HP5:=zh hP;clear hO hP HP4 HO4;go_wp2;go_returns;exact⟨rfl,HO5.out,nv5,HP5.out⟩
theorem qxu(B base:Nat)(A:Option Addr)(l cp:Nat)(nv:Value)(r:LS)(w:World)(h:RunR w B base A l cp nv r)(hl:r.ns.length<=900)(hx:Words r.xs)(h1:r.op=4)(h2:r.line=0):
 Calls prog 99 #[Value.pointer (some ⟨B,0,none⟩)] w (qg B base A l cp w (.tuple #[]) r.rf):=by
 rw[qs6 h1 h2];obtain⟨r1,hr1⟩:∃r1,r.doA 3 0 4294901760 0=r1:=⟨_,rfl⟩;have HR1:=zh hr1;have HL1:=zh (show r1.ns.length<=900 by rw[←hr1];exact hl);unfold LS.fLeave;rw[hr1];clear hr1;have H1:=zh h1;have H2:=zh h2;clear h1 h2;have HX:=zh hx;have HL:=zh hl;have HH:=zh h;clear h hl hx
 have c4:w.cell? ⟨B,4,none⟩=some (.int .i64 (4)):=by rw[←H1.out];exact HH.out.row.cell_ (i:=4) rfl
 have c5:w.cell? ⟨B,5,none⟩=some (.int .i64 (0)):=by rw[←H2.out];exact HH.out.row.cell_ (i:=5) rfl
 go_enter func99, ntmps99
 go_upto_region 3 with(fail)
 have hw1:IntKind.i64.wrap (40)=40:=rfl;have hw2:IntKind.i64.wrap (40)=40:=rfl;refine qb (n:=10) 9 (fun w=>w.cell? ⟨B,4,none⟩=some (.int .i64 (4))/\w.cell? ⟨B,5,none⟩=some (.int .i64 (0))) rfl kr ⟨c4,c5⟩ (fun hHeld=> ?_);have HP0:=zh (HH.out.keep (Only.refl Nil w).drew);have HO0:=zh ((Only.refl (qd B A) w).drew);clear HH c4 c5;generalize w.drew=w2 at *;refine za 0 rfl ?_;refine za 1 rfl ?_;refine za 2 rfl ?_;refine zt 3 rfl ?_;refine mpa 4 rfl (.int .i64 (40)) (fun w=> ?_) ?_
 . go_simp
 refine za 5 rfl ?_;refine za 6 rfl ?_;refine za 7 rfl ?_;refine zt 8 rfl ?_;refine mpc 9 rfl kr br (fun K hK=> ?_);go_simp;refine hK.out _ _ (.inl kr) ?_;clear hK K hHeld hw1 hw2;refine qc kr ?_ _;go_wp2_with fail;refine(kx B base A l cp nv r 0 4294901760 _ HP0.out).mono ?_;rintro e w1_ ⟨rfl,hO,nv1,hP⟩;have HO1:=zh (HO0.out.trans hO);have HP1:=zh hP;clear hO hP HP0 HO0;rw[HR1.out]at HP1;go_wp2_with fail;refine(qo B base A l cp nv1 _ 7 0 _ HP1.out (Nat.le_trans HL1.out dc)).mono ?_;rintro e w2_ ⟨rfl,hO,nv2,hP⟩;have HO2:=zh (HO1.out.trans hO);have HP2:=zh hP;clear hO hP HP1 HO1;go_wp2_with fail;refine(qo B base A l cp nv2 _ 8 0 _ HP2.out (by have:=HL1.out;simp only[LS.note,LS.go,List.length_append,List.length_cons,List.length_nil];omega)).mono ?_;rintro e w3_ ⟨rfl,hO,nv3,hP⟩;have HO3:=zh (HO2.out.trans hO);have HP3:=zh hP;clear hO hP HP2 HO2;go_wp2_with fail;refine(vq B base A l cp nv3 _ 0 _ HP3.out).mono ?_;rintro e w4_ ⟨rfl,hO,nv4,hP⟩;have HO4:=zh (HO3.out.trans hO);have HP4:=zh hP;clear hO hP HP3 HO3;go_wp2_with fail;refine(yd B base A l cp nv4 _ _ true HP4.out).mono ?_;rintro e w5_ ⟨rfl,hO,nv5,hP⟩;have HO5:=zh (HO4.out.trans hO);have HP5:=zh hP;clear hO hP HP4 HO4;go_wp2;go_returns;exact⟨rfl,HO5.out,nv5,HP5.out⟩
theorem qxw(B base:Nat)(A:Option Addr)(l cp:Nat)(nv:Value)(r:LS)(w:World)(h:RunR w B base A l cp nv r)(hl:r.ns.length<=900)(hx:Words r.xs)(h1:r.op=8)(h2:r.line=0):
 Calls prog 99 #[Value.pointer (some ⟨B,0,none⟩)] w (qg B base A l cp w (.tuple #[]) r.rf):=by
 rw[qsv h1 h2];obtain⟨r1,hr1⟩:∃r1,r.doA 3 0 4294901761 0=r1:=⟨_,rfl⟩;have HR1:=zh hr1;have HL1:=zh (show r1.ns.length<=900 by rw[←hr1];exact hl);unfold LS.fDown;rw[hr1];clear hr1;have H1:=zh h1;have H2:=zh h2;clear h1 h2;have HX:=zh hx;have HL:=zh hl;have HH:=zh h;clear h hl hx
 have c4:w.cell? ⟨B,4,none⟩=some (.int .i64 (8)):=by rw[←H1.out];exact HH.out.row.cell_ (i:=4) rfl
 have c5:w.cell? ⟨B,5,none⟩=some (.int .i64 (0)):=by rw[←H2.out];exact HH.out.row.cell_ (i:=5) rfl
 go_enter func99, ntmps99
 go_upto_region 3 with(fail)
 have hw1:IntKind.i64.wrap (80)=80:=rfl;have hw2:IntKind.i64.wrap (80)=80:=rfl;refine qb (n:=10) 9 (fun w=>w.cell? ⟨B,4,none⟩=some (.int .i64 (8))/\w.cell? ⟨B,5,none⟩=some (.int .i64 (0))) rfl kr ⟨c4,c5⟩ (fun hHeld=> ?_);have HP0:=zh (HH.out.keep (Only.refl Nil w).drew);have HO0:=zh ((Only.refl (qd B A) w).drew);clear HH c4 c5;generalize w.drew=w2 at *;refine za 0 rfl ?_;refine za 1 rfl ?_;refine za 2 rfl ?_;refine zt 3 rfl ?_;refine mpa 4 rfl (.int .i64 (80)) (fun w=> ?_) ?_
 . go_simp
 refine za 5 rfl ?_;refine za 6 rfl ?_;refine za 7 rfl ?_;refine zt 8 rfl ?_;refine mpc 9 rfl kr br (fun K hK=> ?_);go_simp;refine hK.out _ _ (.inl kr) ?_;clear hK K hHeld hw1 hw2;refine qc kr ?_ _;go_wp2_with fail;refine(kx B base A l cp nv r 0 4294901761 _ HP0.out).mono ?_;rintro e w1_ ⟨rfl,hO,nv1,hP⟩;have HO1:=zh (HO0.out.trans hO);have HP1:=zh hP;clear hO hP HP0 HO0;rw[HR1.out]at HP1;go_wp2_with fail;refine(qo B base A l cp nv1 _ 10 0 _ HP1.out (Nat.le_trans HL1.out dc)).mono ?_;rintro e w2_ ⟨rfl,hO,nv2,hP⟩;have HO2:=zh (HO1.out.trans hO);have HP2:=zh hP;clear hO hP HP1 HO1;go_wp2_with fail;refine(vq B base A l cp nv2 _ 0 _ HP2.out).mono ?_;rintro e w3_ ⟨rfl,hO,nv3,hP⟩;have HO3:=zh (HO2.out.trans hO);have HP3:=zh hP;clear hO hP HP2 HO2;go_wp2_with fail;refine(yd B base A l cp nv3 _ _ true HP3.out).mono ?_;rintro e w4_ ⟨rfl,hO,nv4,hP⟩;have HO4:=zh (HO3.out.trans hO);have HP4:=zh hP;clear hO hP HP3 HO3;go_wp2;go_returns;exact⟨rfl,HO4.out,nv4,HP4.out⟩
theorem qxr(B base:Nat)(A:Option Addr)(l cp:Nat)(nv:Value)(r:LS)(w:World)(h:RunR w B base A l cp nv r)(hl:r.ns.length<=900)(hx:Words r.xs)(h1:r.op=5)(h2:r.line=1):
 Calls prog 99 #[Value.pointer (some ⟨B,0,none⟩)] w (qg B base A l cp w (.tuple #[]) r.rf):=by
 rw[qtp h1 h2];obtain⟨r1,hr1⟩:∃r1,r.doA 5 0 (r.a) ((r.a+1)%4294967296)=r1:=⟨_,rfl⟩;have HR1:=zh hr1;have HL1:=zh (show r1.ns.length<=900 by rw[←hr1];exact hl);have HG:=zh (show(r.go 0).doA 5 0 (r.a) ((r.a+1)%4294967296)=r1.go 0 by rw[←hr1];rfl);have HLN:=zh (qb5 (r:=r1) 0 (show r1.line=1 by rw[←hr1];exact h2));unfold LS.fSlip;rw[hr1];clear hr1 HR1;obtain⟨cl,hcl⟩:∃cl,r.at0 (r.a)=cl:=⟨_,rfl⟩;rw[hcl];have HCL:=zh (show(qf (r.go 0).xs 0 && (qa (r.go 0).xs 0==(r.a)))=cl from hcl);clear hcl;obtain⟨RR,hRR⟩:∃RR,(if cl then(((r1).note 2 1).note 4 0).fin true else r1.go 0)=RR:=⟨_,rfl⟩;rw[hRR];have HRR:=zh hRR;clear hRR;have H1:=zh h1;have H2:=zh h2;clear h1 h2;have HX:=zh hx;have HL:=zh hl;have HH:=zh h;clear h hl hx
 have c4:w.cell? ⟨B,4,none⟩=some (.int .i64 (5)):=by rw[←H1.out];exact HH.out.row.cell_ (i:=4) rfl
 have c5:w.cell? ⟨B,5,none⟩=some (.int .i64 (1)):=by rw[←H2.out];exact HH.out.row.cell_ (i:=5) rfl
 go_enter func99, ntmps99
 go_upto_region 3 with(fail)
 have hw1:IntKind.i64.wrap (50)=50:=rfl;have hw2:IntKind.i64.wrap (51)=51:=rfl;refine qb (n:=10) 9 (fun w=>w.cell? ⟨B,4,none⟩=some (.int .i64 (5))/\w.cell? ⟨B,5,none⟩=some (.int .i64 (1))) rfl kr ⟨c4,c5⟩ (fun hHeld=> ?_);have HP0:=zh (HH.out.keep (Only.refl Nil w).drew);have HO0:=zh ((Only.refl (qd B A) w).drew);clear HH c4 c5;generalize w.drew=w2 at *;refine za 0 rfl ?_;refine za 1 rfl ?_;refine za 2 rfl ?_;refine zt 3 rfl ?_;refine mpa 4 rfl (.int .i64 (50)) (fun w=> ?_) ?_
 . go_simp
 refine za 5 rfl ?_;refine za 6 rfl ?_;refine za 7 rfl ?_;refine zt 8 rfl ?_;refine mpc 9 rfl kr br (fun K hK=> ?_);go_simp;refine hK.out _ _ (.inl kr) ?_;clear hK K hHeld hw1 hw2;refine qc kr ?_ _;have c5:w2.cell? ⟨B,5,none⟩=some (.int .i64 (r.line)):=HP0.out.row.cell_ (i:=5) rfl;have f5:w2.frozen? ⟨B,5,none⟩=false:=HP0.out.row.frozen 5
 go_upto_region 59 with(fail)
 clear c5 f5;have HP1:=zh (HP0.out.setLine 0);have HO1:=zh (HO0.out.setCell (p:=⟨B,5,none⟩) (.inr (.inl rfl)) (.int .i64 0));clear HP0 HO0;generalize w2.setCell ⟨B,5,none⟩ (.int .i64 0)=w4 at *;have hx1:IntKind.u32.wrap (r.a+1)=(r.a+1)%4294967296:=rfl;have c6:w4.cell? ⟨B,6,none⟩=some (.int .u32 r.a):=HP1.out.row.cell_ (i:=6) rfl;refine qb (n:=11) 10 (fun w=>w.cell? ⟨B,6,none⟩=some (.int .u32 r.a)) rfl kr c6 (fun hHeld=> ?_);clear c6;have HP2:=zh (HP1.out.keep (Only.refl Nil w4).drew);have HO2:=zh HO1.out.drew;clear HP1 HO1;generalize w4.drew=w5 at *;refine za 0 rfl ?_;refine za 1 rfl ?_;refine za 2 rfl ?_;refine za 3 rfl ?_;refine zt 4 rfl ?_;refine za 5 rfl ?_;refine za 6 rfl ?_;refine za 7 rfl ?_;refine zt 8 rfl ?_;refine mpa 9 rfl (.int .u32 ((r.a+1)%4294967296)) (fun w=> ?_) ?_
 . go_simp
 refine mpc 10 rfl kr br (fun K hK=> ?_);go_simp;refine(xe B base A l cp nv _ 0 (r.a) ((r.a+1)%4294967296) _ HP2.out).mono ?_;rw[HCL.out,HG.out];rintro e w3_ ⟨rfl,hO,nv3,hP⟩;have HO3:=zh (HO2.out.trans hO);have HP3:=zh hP;clear hO hP HP2 HO2;refine hK.out _ _ (.inl kr) ?_;clear hK K hHeld hx1;refine qc kr ?_ _
 cases cl
 . have eR:r1.go 0=RR:=HRR.out;subst eR;go_wp2;go_returns;exact⟨rfl,HO3.out,nv3,HP3.out⟩
 . have eR:(((r1).note 2 1).note 4 0).fin true=RR:=HRR.out;subst eR;have c5:w3_.cell? ⟨B,5,none⟩=some (.int .i64 ((r1.go 0).line)):=HP3.out.row.cell_ (i:=5) rfl;have f5:w3_.frozen? ⟨B,5,none⟩=false:=HP3.out.row.frozen 5
   go_upto_region 61 with(fail)
   clear c5 f5;have HP4:=zh (HP3.out.setLine 1);have HO4:=zh (HO3.out.setCell (p:=⟨B,5,none⟩) (.inr (.inl rfl)) (.int .i64 1));clear HP3 HO3;rw[HLN.out]at HP4;generalize w3_.setCell ⟨B,5,none⟩ (.int .i64 1)=w6 at *;go_wp2_with fail;refine(qo B base A l cp nv3 _ 2 1 _ HP4.out (Nat.le_trans HL1.out dc)).mono ?_;rintro e w5_ ⟨rfl,hO,nv5,hP⟩;have HO5:=zh (HO4.out.trans hO);have HP5:=zh hP;clear hO hP HP4 HO4;go_wp2_with fail;refine(qo B base A l cp nv5 _ 4 0 _ HP5.out (by have:=HL1.out;simp only[LS.note,LS.go,List.length_append,List.length_cons,List.length_nil];omega)).mono ?_;rintro e w6_ ⟨rfl,hO,nv6,hP⟩;have HO6:=zh (HO5.out.trans hO);have HP6:=zh hP;clear hO hP HP5 HO5;go_wp2_with fail;refine(yd B base A l cp nv6 _ _ true HP6.out).mono ?_;rintro e w7_ ⟨rfl,hO,nv7,hP⟩;have HO7:=zh (HO6.out.trans hO);have HP7:=zh hP;clear hO hP HP6 HO6;go_wp2;go_returns;exact⟨rfl,HO7.out,nv7,HP7.out⟩
theorem qw7(B base:Nat)(A:Option Addr)(l cp:Nat)(nv:Value)(r:LS)(w:World)(h:RunR w B base A l cp nv r)(hl:r.ns.length<=900)(hx:Words r.xs)(h1:r.op=1)(h2:r.line=0):
 Calls prog 99 #[Value.pointer (some ⟨B,0,none⟩)] w (qg B base A l cp w (.tuple #[]) r.rf):=by
 rw[qsg h1 h2];obtain⟨r1,hr1⟩:∃r1,(r.doA 3 0 1 0).keepA (qa r.xs 0)=r1:=⟨_,rfl⟩;have HR1:=zh hr1;have HL1:=zh (show r1.ns.length<=900 by rw[←hr1];exact hl);have HA1:=zh (show r1.a=qa r.xs 0 by rw[←hr1];rfl);unfold LS.fCome;rw[hr1];clear hr1;have hv:=qq hx 0;have hb:=qhs hv.1 hv.2;have HZ:=zh (show(qa r.xs 0/65536%2*65536==0)=ju (qa r.xs 0) by unfold ju;rcases Int.emod_two_eq (qa r.xs 0/65536)with e|e<;>rw[e]<;>rfl);have HB:=zh hb;clear hv hb;obtain⟨RR,hRR⟩:∃RR,(if ju (qa r.xs 0)then((r1.note 2 1).note 4 0).fin true else(r1.note 2 1).go 1)=RR:=⟨_,rfl⟩;rw[hRR];have HRR:=zh hRR;clear hRR;have H1:=zh h1;have H2:=zh h2;clear h1 h2;have HX:=zh hx;have HL:=zh hl;have HH:=zh h;clear h hl hx
 have c4:w.cell? ⟨B,4,none⟩=some (.int .i64 (1)):=by rw[←H1.out];exact HH.out.row.cell_ (i:=4) rfl
 have c5:w.cell? ⟨B,5,none⟩=some (.int .i64 (0)):=by rw[←H2.out];exact HH.out.row.cell_ (i:=5) rfl
 go_enter func99, ntmps99
 go_upto_region 3 with(fail)
 have hw1:IntKind.i64.wrap (10)=10:=rfl;have hw2:IntKind.i64.wrap (10)=10:=rfl;refine qb (n:=10) 9 (fun w=>w.cell? ⟨B,4,none⟩=some (.int .i64 (1))/\w.cell? ⟨B,5,none⟩=some (.int .i64 (0))) rfl kr ⟨c4,c5⟩ (fun hHeld=> ?_);have HP0:=zh (HH.out.keep (Only.refl Nil w).drew);have HO0:=zh ((Only.refl (qd B A) w).drew);clear HH c4 c5;generalize w.drew=w2 at *;refine za 0 rfl ?_;refine za 1 rfl ?_;refine za 2 rfl ?_;refine zt 3 rfl ?_;refine mpa 4 rfl (.int .i64 (10)) (fun w=> ?_) ?_
 . go_simp
 refine za 5 rfl ?_;refine za 6 rfl ?_;refine za 7 rfl ?_;refine zt 8 rfl ?_;refine mpc 9 rfl kr br (fun K hK=> ?_);go_simp;refine hK.out _ _ (.inl kr) ?_;clear hK K hHeld hw1 hw2;refine qc kr ?_ _;go_wp2_with fail;refine(kx B base A l cp nv r 0 1 _ HP0.out).mono ?_;rintro e w1_ ⟨rfl,hO,nv1,hP⟩;have HO1:=zh (HO0.out.trans hO);have HP1:=zh hP;clear hO hP HP0 HO0;have c6:w1_.cell? ⟨B,6,none⟩=some (.int .u32 r.a):=HP1.out.row.cell_ (i:=6) rfl;have f6:w1_.frozen? ⟨B,6,none⟩=false:=HP1.out.row.frozen 6
 go_upto_region 6 with(fail)
 clear c6 f6;have HP2:=zh (HP1.out.setA (qa r.xs 0));have HO2:=zh (HO1.out.setCell (p:=⟨B,6,none⟩) (.inr (.inl rfl)) (.int .u32 (qa r.xs 0)));clear HP1 HO1;rw[HR1.out]at HP2;generalize w1_.setCell ⟨B,6,none⟩ (.int .u32 (qa r.xs 0))=w4 at *;go_wp2_with fail;refine(qo B base A l cp nv1 _ 2 1 _ HP2.out (Nat.le_trans HL1.out dc)).mono ?_;rintro e w5_ ⟨rfl,hO,nv5,hP⟩;have HO5:=zh (HO2.out.trans hO);have HP5:=zh hP;clear hO hP HP2 HO2
 have c6:w5_.cell? ⟨B,6,none⟩=some (.int .u32 (qa r.xs 0)):=by rw[←HA1.out];exact HP5.out.row.cell_ (i:=6) rfl
 obtain⟨q,hq⟩:∃q,ju (qa r.xs 0)=q:=⟨_,rfl⟩;have hb:=HB.out;have hz:(qa r.xs 0/65536%2*65536==0)=q:=HZ.out.trans hq;have hRR:=HRR.out;rw[hq]at hRR;generalize qa r.xs 0/65536%2*65536=z at *;clear hq HB HZ HRR
 cases q
 . have eR:(r1.note 2 1).go 1=RR:=hRR;clear hRR;subst eR;have c5:w5_.cell? ⟨B,5,none⟩=some (.int .i64 ((r1.note 2 1).line)):=HP5.out.row.cell_ (i:=5) rfl;have f5:w5_.frozen? ⟨B,5,none⟩=false:=HP5.out.row.frozen 5;go_wp2;clear c5 f5 c6 hb hz;have HPZ:=zh (HP5.out.setLine 1);have HOZ:=zh (HO5.out.setCell (p:=⟨B,5,none⟩) (.inr (.inl rfl)) (.int .i64 1));go_returns;exact⟨rfl,HOZ.out,nv5,HPZ.out⟩
 . have eR:((r1.note 2 1).note 4 0).fin true=RR:=hRR;clear hRR;subst eR;go_wp2_with fail;clear c6 hb hz;refine(qo B base A l cp nv5 _ 4 0 _ HP5.out (by have:=HL1.out;simp only[LS.note,LS.go,List.length_append,List.length_cons,List.length_nil];omega)).mono ?_;rintro e w6_ ⟨rfl,hO,nv6,hP⟩;have HO6:=zh (HO5.out.trans hO);have HP6:=zh hP;clear hO hP HP5 HO5;go_wp2_with fail;refine(yd B base A l cp nv6 _ _ true HP6.out).mono ?_;rintro e w7_ ⟨rfl,hO,nv7,hP⟩;have HO7:=zh (HO6.out.trans hO);have HP7:=zh hP;clear hO hP HP6 HO6;go_wp2;go_returns;exact⟨rfl,HO7.out,nv7,HP7.out⟩
theorem qwt(B base:Nat)(A:Option Addr)(l cp:Nat)(nv:Value)(r:LS)(w:World)(h:RunR w B base A l cp nv r)(hl:r.ns.length<=900)(hx:Words r.xs)(h1:r.op=3)(h2:r.line=1):
 Calls prog 99 #[Value.pointer (some ⟨B,0,none⟩)] w (qg B base A l cp w (.tuple #[]) r.rf):=by
 rw[que h1 h2];obtain⟨r1,hr1⟩:∃r1,r.doA 5 0 (0) (65536)=r1:=⟨_,rfl⟩;have HR1:=zh hr1;have HL1:=zh (show r1.ns.length<=900 by rw[←hr1];exact hl);have HG:=zh (show(r.go 2).doA 5 0 (0) (65536)=r1.go 2 by rw[←hr1];rfl);have HLN:=zh (qb5 (r:=r1) 2 (show r1.line=1 by rw[←hr1];exact h2));unfold LS.fTake;rw[hr1];clear hr1 HR1;obtain⟨cl,hcl⟩:∃cl,r.at0 (0)=cl:=⟨_,rfl⟩;rw[hcl];have HCL:=zh (show(qf (r.go 2).xs 0 && (qa (r.go 2).xs 0==(0)))=cl from hcl);clear hcl;obtain⟨RR,hRR⟩:∃RR,(if cl then((r1).note 4 0).fin true else r1.go 2)=RR:=⟨_,rfl⟩;rw[hRR];have HRR:=zh hRR;clear hRR;have H1:=zh h1;have H2:=zh h2;clear h1 h2;have HX:=zh hx;have HL:=zh hl;have HH:=zh h;clear h hl hx
 have c4:w.cell? ⟨B,4,none⟩=some (.int .i64 (3)):=by rw[←H1.out];exact HH.out.row.cell_ (i:=4) rfl
 have c5:w.cell? ⟨B,5,none⟩=some (.int .i64 (1)):=by rw[←H2.out];exact HH.out.row.cell_ (i:=5) rfl
 go_enter func99, ntmps99
 go_upto_region 3 with(fail)
 have hw1:IntKind.i64.wrap (30)=30:=rfl;have hw2:IntKind.i64.wrap (31)=31:=rfl;refine qb (n:=10) 9 (fun w=>w.cell? ⟨B,4,none⟩=some (.int .i64 (3))/\w.cell? ⟨B,5,none⟩=some (.int .i64 (1))) rfl kr ⟨c4,c5⟩ (fun hHeld=> ?_);have HP0:=zh (HH.out.keep (Only.refl Nil w).drew);have HO0:=zh ((Only.refl (qd B A) w).drew);clear HH c4 c5;generalize w.drew=w2 at *;refine za 0 rfl ?_;refine za 1 rfl ?_;refine za 2 rfl ?_;refine zt 3 rfl ?_;refine mpa 4 rfl (.int .i64 (30)) (fun w=> ?_) ?_
 . go_simp
 refine za 5 rfl ?_;refine za 6 rfl ?_;refine za 7 rfl ?_;refine zt 8 rfl ?_;refine mpc 9 rfl kr br (fun K hK=> ?_);go_simp;refine hK.out _ _ (.inl kr) ?_;clear hK K hHeld hw1 hw2;refine qc kr ?_ _;have c5:w2.cell? ⟨B,5,none⟩=some (.int .i64 (r.line)):=HP0.out.row.cell_ (i:=5) rfl;have f5:w2.frozen? ⟨B,5,none⟩=false:=HP0.out.row.frozen 5
 go_upto_region 30 with(fail)
 clear c5 f5;have HP1:=zh (HP0.out.setLine 2);have HO1:=zh (HO0.out.setCell (p:=⟨B,5,none⟩) (.inr (.inl rfl)) (.int .i64 2));clear HP0 HO0;generalize w2.setCell ⟨B,5,none⟩ (.int .i64 2)=w4 at *;go_wp2_with fail;refine(xe B base A l cp nv _ 0 (0) (65536) _ HP1.out).mono ?_;rw[HCL.out,HG.out];rintro e w3_ ⟨rfl,hO,nv3,hP⟩;have HO3:=zh (HO1.out.trans hO);have HP3:=zh hP;clear hO hP HP1 HO1
 cases cl
 . have eR:r1.go 2=RR:=HRR.out;subst eR;go_wp2;go_returns;exact⟨rfl,HO3.out,nv3,HP3.out⟩
 . have eR:((r1).note 4 0).fin true=RR:=HRR.out;subst eR;have c5:w3_.cell? ⟨B,5,none⟩=some (.int .i64 ((r1.go 2).line)):=HP3.out.row.cell_ (i:=5) rfl;have f5:w3_.frozen? ⟨B,5,none⟩=false:=HP3.out.row.frozen 5
   go_upto_region 32 with(fail)
   clear c5 f5;have HP4:=zh (HP3.out.setLine 1);have HO4:=zh (HO3.out.setCell (p:=⟨B,5,none⟩) (.inr (.inl rfl)) (.int .i64 1));clear HP3 HO3;rw[HLN.out]at HP4;generalize w3_.setCell ⟨B,5,none⟩ (.int .i64 1)=w6 at *;go_wp2_with fail;refine(qo B base A l cp nv3 _ 4 0 _ HP4.out (Nat.le_trans HL1.out dc)).mono ?_;rintro e w5_ ⟨rfl,hO,nv5,hP⟩;have HO5:=zh (HO4.out.trans hO);have HP5:=zh hP;clear hO hP HP4 HO4;go_wp2_with fail;refine(yd B base A l cp nv5 _ _ true HP5.out).mono ?_;rintro e w6_ ⟨rfl,hO,nv6,hP⟩;have HO6:=zh (HO5.out.trans hO);have HP6:=zh hP;clear hO hP HP5 HO5;go_wp2;go_returns;exact⟨rfl,HO6.out,nv6,HP6.out⟩
theorem qx5(B base:Nat)(A:Option Addr)(l cp:Nat)(nv:Value)(r:LS)(w:World)(h:RunR w B base A l cp nv r)(hl:r.ns.length<=900)(hx:Words r.xs)(h1:r.op=6)(h2:r.line=1):
 Calls prog 99 #[Value.pointer (some ⟨B,0,none⟩)] w (qg B base A l cp w (.tuple #[]) r.rf):=by
 rw[qqs h1 h2];obtain⟨r1,hr1⟩:∃r1,r.doA 5 0 (0) (65536)=r1:=⟨_,rfl⟩;have HR1:=zh hr1;have HL1:=zh (show r1.ns.length<=900 by rw[←hr1];exact hl);have HG:=zh (show(r.go 0).doA 5 0 (0) (65536)=r1.go 0 by rw[←hr1];rfl);have HLN:=zh (qb5 (r:=r1) 0 (show r1.line=1 by rw[←hr1];exact h2));unfold LS.fTry;rw[hr1];clear hr1 HR1;obtain⟨cl,hcl⟩:∃cl,r.at0 (0)=cl:=⟨_,rfl⟩;rw[hcl];have HCL:=zh (show(qf (r.go 0).xs 0 && (qa (r.go 0).xs 0==(0)))=cl from hcl);clear hcl;obtain⟨RR,hRR⟩:∃RR,(if cl then(((r1).note 2 2).note 4 0).fin true else r1.go 0)=RR:=⟨_,rfl⟩;rw[hRR];have HRR:=zh hRR;clear hRR;have H1:=zh h1;have H2:=zh h2;clear h1 h2;have HX:=zh hx;have HL:=zh hl;have HH:=zh h;clear h hl hx
 have c4:w.cell? ⟨B,4,none⟩=some (.int .i64 (6)):=by rw[←H1.out];exact HH.out.row.cell_ (i:=4) rfl
 have c5:w.cell? ⟨B,5,none⟩=some (.int .i64 (1)):=by rw[←H2.out];exact HH.out.row.cell_ (i:=5) rfl
 go_enter func99, ntmps99
 go_upto_region 3 with(fail)
 have hw1:IntKind.i64.wrap (60)=60:=rfl;have hw2:IntKind.i64.wrap (61)=61:=rfl;refine qb (n:=10) 9 (fun w=>w.cell? ⟨B,4,none⟩=some (.int .i64 (6))/\w.cell? ⟨B,5,none⟩=some (.int .i64 (1))) rfl kr ⟨c4,c5⟩ (fun hHeld=> ?_);have HP0:=zh (HH.out.keep (Only.refl Nil w).drew);have HO0:=zh ((Only.refl (qd B A) w).drew);clear HH c4 c5;generalize w.drew=w2 at *;refine za 0 rfl ?_;refine za 1 rfl ?_;refine za 2 rfl ?_;refine zt 3 rfl ?_;refine mpa 4 rfl (.int .i64 (60)) (fun w=> ?_) ?_
 . go_simp
 refine za 5 rfl ?_;refine za 6 rfl ?_;refine za 7 rfl ?_;refine zt 8 rfl ?_;refine mpc 9 rfl kr br (fun K hK=> ?_);go_simp;refine hK.out _ _ (.inl kr) ?_;clear hK K hHeld hw1 hw2;refine qc kr ?_ _;have c5:w2.cell? ⟨B,5,none⟩=some (.int .i64 (r.line)):=HP0.out.row.cell_ (i:=5) rfl;have f5:w2.frozen? ⟨B,5,none⟩=false:=HP0.out.row.frozen 5
 go_upto_region 66 with(fail)
 clear c5 f5;have HP1:=zh (HP0.out.setLine 0);have HO1:=zh (HO0.out.setCell (p:=⟨B,5,none⟩) (.inr (.inl rfl)) (.int .i64 0));clear HP0 HO0;generalize w2.setCell ⟨B,5,none⟩ (.int .i64 0)=w4 at *;go_wp2_with fail;refine(xe B base A l cp nv _ 0 (0) (65536) _ HP1.out).mono ?_;rw[HCL.out,HG.out];rintro e w3_ ⟨rfl,hO,nv3,hP⟩;have HO3:=zh (HO1.out.trans hO);have HP3:=zh hP;clear hO hP HP1 HO1
 cases cl
 . have eR:r1.go 0=RR:=HRR.out;subst eR;go_wp2;go_returns;exact⟨rfl,HO3.out,nv3,HP3.out⟩
 . have eR:(((r1).note 2 2).note 4 0).fin true=RR:=HRR.out;subst eR;have c5:w3_.cell? ⟨B,5,none⟩=some (.int .i64 ((r1.go 0).line)):=HP3.out.row.cell_ (i:=5) rfl;have f5:w3_.frozen? ⟨B,5,none⟩=false:=HP3.out.row.frozen 5
   go_upto_region 68 with(fail)
   clear c5 f5;have HP4:=zh (HP3.out.setLine 1);have HO4:=zh (HO3.out.setCell (p:=⟨B,5,none⟩) (.inr (.inl rfl)) (.int .i64 1));clear HP3 HO3;rw[HLN.out]at HP4;generalize w3_.setCell ⟨B,5,none⟩ (.int .i64 1)=w6 at *;go_wp2_with fail;refine(qo B base A l cp nv3 _ 2 2 _ HP4.out (Nat.le_trans HL1.out dc)).mono ?_;rintro e w5_ ⟨rfl,hO,nv5,hP⟩;have HO5:=zh (HO4.out.trans hO);have HP5:=zh hP;clear hO hP HP4 HO4;go_wp2_with fail;refine(qo B base A l cp nv5 _ 4 0 _ HP5.out (by have:=HL1.out;simp only[LS.note,LS.go,List.length_append,List.length_cons,List.length_nil];omega)).mono ?_;rintro e w6_ ⟨rfl,hO,nv6,hP⟩;have HO6:=zh (HO5.out.trans hO);have HP6:=zh hP;clear hO hP HP5 HO5;go_wp2_with fail;refine(yd B base A l cp nv6 _ _ true HP6.out).mono ?_;rintro e w7_ ⟨rfl,hO,nv7,hP⟩;have HO7:=zh (HO6.out.trans hO);have HP7:=zh hP;clear hO hP HP6 HO6;go_wp2;go_returns;exact⟨rfl,HO7.out,nv7,HP7.out⟩
theorem qvx(B base:Nat)(A:Option Addr)(l cp:Nat)(nv:Value)(r:LS)(w:World)(h:RunR w B base A l cp nv r)(hl:r.ns.length<=900)(hx:Words r.xs)(hh:r.line<0\/2<r.line\/r.op<1\/8<r.op):
 Calls prog 99 #[Value.pointer (some ⟨B,0,none⟩)] w (qg B base A l cp w (.tuple #[]) r):=by
 have HH:=zh h;have c4:w.cell? ⟨B,4,none⟩=some (.int .i64 r.op):=h.row.cell_ (i:=4) rfl;have c5:w.cell? ⟨B,5,none⟩=some (.int .i64 r.line):=h.row.cell_ (i:=5) rfl;clear h hl hx;generalize r.op=ol at *;generalize r.line=ln at *
 by_cases q0:ln<0
 . clear hh;go_enter func99, ntmps99;go_wp2;go_returns;exact⟨rfl,Only.refl _ _,nv,HH.out⟩
 by_cases q1:2<ln
 . clear hh;go_enter func99, ntmps99;go_wp2;go_returns;exact⟨rfl,Only.refl _ _,nv,HH.out⟩
 by_cases q2:ol<1
 . clear hh;go_enter func99, ntmps99;go_wp2;go_returns;exact⟨rfl,Only.refl _ _,nv,HH.out⟩
 . have q3:8<ol:=by omega
   clear hh;go_enter func99, ntmps99;go_wp2;go_returns;exact⟨rfl,Only.refl _ _,nv,HH.out⟩
theorem qwc(B base:Nat)(A:Option Addr)(l cp:Nat)(nv:Value)(r:LS)(w:World)(h:RunR w B base A l cp nv r)(hl:r.ns.length<=900)(hx:Words r.xs)(h1:r.op=3)(h2:r.line=2):
 Calls prog 99 #[Value.pointer (some ⟨B,0,none⟩)] w (qg B base A l cp w (.tuple #[]) r.rf):=by
 rw[qun h1 h2];have HE:=zh (show r.stepR 0 (uIs 0 4294967295 0)=r.stepR 0 isZ from xv (zbp (qq hx 0)));generalize hsn:(r.stepR 0 isZ).seen=sn;generalize hdn:(r.stepR 0 isZ).done=dn;obtain⟨r1,hr1⟩:∃r1,r.wait 0 isZ=r1:=⟨_,rfl⟩;have HL1:=zh (show r1.ns.length<=900 by rw[←hr1];exact hl);have HW1:=zh (show r.wait 0 (uIs 0 4294967295 0)=r1 by rw[←hr1];unfold LS.wait;rw[HE.out]);have HSN:=zh (show(r.stepR 0 (uIs 0 4294967295 0)).seen=sn by rw[HE.out];exact hsn);have HDN:=zh (show(r.stepR 0 (uIs 0 4294967295 0)).done=dn by rw[HE.out];exact hdn);unfold LS.fWait;rw[hdn,hr1];obtain⟨RR,hRR⟩:∃RR,(if dn then r1.go 1 else r1)=RR:=⟨_,rfl⟩;rw[hRR];have HRR:=zh hRR;clear hRR;clear hr1 hsn hdn HE;have H1:=zh h1;have H2:=zh h2;clear h1 h2;have HX:=zh hx;have HL:=zh hl;have HH:=zh h;clear h hl hx
 have c4:w.cell? ⟨B,4,none⟩=some (.int .i64 (3)):=by rw[←H1.out];exact HH.out.row.cell_ (i:=4) rfl
 have c5:w.cell? ⟨B,5,none⟩=some (.int .i64 (2)):=by rw[←H2.out];exact HH.out.row.cell_ (i:=5) rfl
 go_enter func99, ntmps99
 go_upto_region 3 with(fail)
 have hw1:IntKind.i64.wrap (30)=30:=rfl;have hw2:IntKind.i64.wrap (32)=32:=rfl;refine qb (n:=10) 9 (fun w=>w.cell? ⟨B,4,none⟩=some (.int .i64 (3))/\w.cell? ⟨B,5,none⟩=some (.int .i64 (2))) rfl kr ⟨c4,c5⟩ (fun hHeld=> ?_);have HP0:=zh (HH.out.keep (Only.refl Nil w).drew);have HO0:=zh ((Only.refl (qd B A) w).drew);clear HH c4 c5;generalize w.drew=w2 at *;refine za 0 rfl ?_;refine za 1 rfl ?_;refine za 2 rfl ?_;refine zt 3 rfl ?_;refine mpa 4 rfl (.int .i64 (30)) (fun w=> ?_) ?_
 . go_simp
 refine za 5 rfl ?_;refine za 6 rfl ?_;refine za 7 rfl ?_;refine zt 8 rfl ?_;refine mpc 9 rfl kr br (fun K hK=> ?_);go_simp;refine hK.out _ _ (.inl kr) ?_;clear hK K hHeld hw1 hw2;refine qc kr ?_ _;go_wp2_with fail;refine(ke B base A l cp nv r 0 0 4294967295 0 _ HP0.out HX.out).mono ?_;rw[HSN.out,HDN.out,HW1.out];clear HSN HDN HW1;rintro e w3_ ⟨rfl,hO,nv3,hP⟩;have HO3:=zh (HO0.out.trans hO);have HP3:=zh hP;clear hO hP HP0 HO0
 cases dn
 . have eR:r1=RR:=HRR.out;subst eR;go_wp2;go_returns;exact⟨rfl,HO3.out,nv3,HP3.out⟩
 . have eR:r1.go 1=RR:=HRR.out;subst eR;have c5:w3_.cell? ⟨B,5,none⟩=some (.int .i64 (r1.line)):=HP3.out.row.cell_ (i:=5) rfl;have f5:w3_.frozen? ⟨B,5,none⟩=false:=HP3.out.row.frozen 5;go_wp2;clear c5 f5;have HPZ:=zh (HP3.out.setLine (1));have HOZ:=zh (HO3.out.setCell (p:=⟨B,5,none⟩) (.inr (.inl rfl)) (.int .i64 (1)));go_returns;exact⟨rfl,HOZ.out,nv3,HPZ.out⟩
theorem qxj(B base:Nat)(A:Option Addr)(l cp:Nat)(nv:Value)(r:LS)(w:World)(h:RunR w B base A l cp nv r)(hl:r.ns.length<=900)(hx:Words r.xs)(h1:r.op=2)(h2:r.line=0):
 Calls prog 99 #[Value.pointer (some ⟨B,0,none⟩)] w (qg B base A l cp w (.tuple #[]) r.rf):=by
 rw[qup h1 h2];obtain⟨r1,hr1⟩:∃r1,r.doA 3 0 4294967295 0=r1:=⟨_,rfl⟩;have HR1:=zh hr1;have HL1:=zh (show r1.ns.length<=900 by rw[←hr1];exact hl);unfold LS.fGo;rw[hr1];clear hr1;have H1:=zh h1;have H2:=zh h2;clear h1 h2;have HX:=zh hx;have HL:=zh hl;have HH:=zh h;clear h hl hx
 have c4:w.cell? ⟨B,4,none⟩=some (.int .i64 (2)):=by rw[←H1.out];exact HH.out.row.cell_ (i:=4) rfl
 have c5:w.cell? ⟨B,5,none⟩=some (.int .i64 (0)):=by rw[←H2.out];exact HH.out.row.cell_ (i:=5) rfl
 go_enter func99, ntmps99
 go_upto_region 3 with(fail)
 have hw1:IntKind.i64.wrap (20)=20:=rfl;have hw2:IntKind.i64.wrap (20)=20:=rfl;refine qb (n:=10) 9 (fun w=>w.cell? ⟨B,4,none⟩=some (.int .i64 (2))/\w.cell? ⟨B,5,none⟩=some (.int .i64 (0))) rfl kr ⟨c4,c5⟩ (fun hHeld=> ?_);have HP0:=zh (HH.out.keep (Only.refl Nil w).drew);have HO0:=zh ((Only.refl (qd B A) w).drew);clear HH c4 c5;generalize w.drew=w2 at *;refine za 0 rfl ?_;refine za 1 rfl ?_;refine za 2 rfl ?_;refine zt 3 rfl ?_;refine mpa 4 rfl (.int .i64 (20)) (fun w=> ?_) ?_
 . go_simp
 refine za 5 rfl ?_;refine za 6 rfl ?_;refine za 7 rfl ?_;refine zt 8 rfl ?_;refine mpc 9 rfl kr br (fun K hK=> ?_);go_simp;refine hK.out _ _ (.inl kr) ?_;clear hK K hHeld hw1 hw2;refine qc kr ?_ _;go_wp2_with fail;refine(kx B base A l cp nv r 0 4294967295 _ HP0.out).mono ?_;rintro e w1_ ⟨rfl,hO,nv1,hP⟩;have HO1:=zh (HO0.out.trans hO);have HP1:=zh hP;clear hO hP HP0 HO0;rw[HR1.out]at HP1;go_wp2_with fail;refine(qo B base A l cp nv1 _ 6 0 _ HP1.out (Nat.le_trans HL1.out dc)).mono ?_;rintro e w2_ ⟨rfl,hO,nv2,hP⟩;have HO2:=zh (HO1.out.trans hO);have HP2:=zh hP;clear hO hP HP1 HO1;go_wp2_with fail;refine(vq B base A l cp nv2 _ 0 _ HP2.out).mono ?_;rintro e w3_ ⟨rfl,hO,nv3,hP⟩;have HO3:=zh (HO2.out.trans hO);have HP3:=zh hP;clear hO hP HP2 HO2;go_wp2_with fail;refine(yd B base A l cp nv3 _ _ true HP3.out).mono ?_;rintro e w4_ ⟨rfl,hO,nv4,hP⟩;have HO4:=zh (HO3.out.trans hO);have HP4:=zh hP;clear hO hP HP3 HO3;go_wp2;go_returns;exact⟨rfl,HO4.out,nv4,HP4.out⟩
theorem qxm(B base:Nat)(A:Option Addr)(l cp:Nat)(nv:Value)(r:LS)(w:World)(h:RunR w B base A l cp nv r)(hl:r.ns.length<=900)(hx:Words r.xs)(h1:r.op=3)(h2:r.line=0):
 Calls prog 99 #[Value.pointer (some ⟨B,0,none⟩)] w (qg B base A l cp w (.tuple #[]) r.rf):=by
 rw[quy h1 h2];obtain⟨r1,hr1⟩:∃r1,(r.doA 1 0 0 0).keepA (qa r.xs 0)=r1:=⟨_,rfl⟩;have HR1:=zh hr1;have HL1:=zh (show r1.ns.length<=900 by rw[←hr1];exact hl);have HA1:=zh (show r1.a=qa r.xs 0 by rw[←hr1];rfl);unfold LS.fReg;rw[hr1];clear hr1;obtain⟨RR,hRR⟩:∃RR,(if qa r.xs 0=0 then(r1.note 2 2).go 1 else(r1.note 2 2).go 2)=RR:=⟨_,rfl⟩;rw[hRR];have HRR:=zh hRR;clear hRR;have H1:=zh h1;have H2:=zh h2;clear h1 h2;have HX:=zh hx;have HL:=zh hl;have HH:=zh h;clear h hl hx
 have c4:w.cell? ⟨B,4,none⟩=some (.int .i64 (3)):=by rw[←H1.out];exact HH.out.row.cell_ (i:=4) rfl
 have c5:w.cell? ⟨B,5,none⟩=some (.int .i64 (0)):=by rw[←H2.out];exact HH.out.row.cell_ (i:=5) rfl
 go_enter func99, ntmps99
 go_upto_region 3 with(fail)
 have hw1:IntKind.i64.wrap (30)=30:=rfl;have hw2:IntKind.i64.wrap (30)=30:=rfl;refine qb (n:=10) 9 (fun w=>w.cell? ⟨B,4,none⟩=some (.int .i64 (3))/\w.cell? ⟨B,5,none⟩=some (.int .i64 (0))) rfl kr ⟨c4,c5⟩ (fun hHeld=> ?_);have HP0:=zh (HH.out.keep (Only.refl Nil w).drew);have HO0:=zh ((Only.refl (qd B A) w).drew);clear HH c4 c5;generalize w.drew=w2 at *;refine za 0 rfl ?_;refine za 1 rfl ?_;refine za 2 rfl ?_;refine zt 3 rfl ?_;refine mpa 4 rfl (.int .i64 (30)) (fun w=> ?_) ?_
 . go_simp
 refine za 5 rfl ?_;refine za 6 rfl ?_;refine za 7 rfl ?_;refine zt 8 rfl ?_;refine mpc 9 rfl kr br (fun K hK=> ?_);go_simp;refine hK.out _ _ (.inl kr) ?_;clear hK K hHeld hw1 hw2;refine qc kr ?_ _;go_wp2_with fail;refine(kl B base A l cp nv r 0 _ HP0.out).mono ?_;rintro e w1_ ⟨rfl,hO,nv1,hP⟩;have HO1:=zh (HO0.out.trans hO);have HP1:=zh hP;clear hO hP HP0 HO0;have c6:w1_.cell? ⟨B,6,none⟩=some (.int .u32 r.a):=HP1.out.row.cell_ (i:=6) rfl;have f6:w1_.frozen? ⟨B,6,none⟩=false:=HP1.out.row.frozen 6
 go_upto_region 24 with(fail)
 clear c6 f6;have HP2:=zh (HP1.out.setA (qa r.xs 0));have HO2:=zh (HO1.out.setCell (p:=⟨B,6,none⟩) (.inr (.inl rfl)) (.int .u32 (qa r.xs 0)));clear HP1 HO1;rw[HR1.out]at HP2;generalize w1_.setCell ⟨B,6,none⟩ (.int .u32 (qa r.xs 0))=w4 at *;go_wp2_with fail;refine(qo B base A l cp nv1 _ 2 2 _ HP2.out (Nat.le_trans HL1.out dc)).mono ?_;rintro e w5_ ⟨rfl,hO,nv5,hP⟩;have HO5:=zh (HO2.out.trans hO);have HP5:=zh hP;clear hO hP HP2 HO2
 have c6:w5_.cell? ⟨B,6,none⟩=some (.int .u32 (qa r.xs 0)):=by rw[←HA1.out];exact HP5.out.row.cell_ (i:=6) rfl
 have HA2:=zh (show(r1.note 2 2).a=qa r.xs 0 from HA1.out);generalize r1.note 2 2=r2 at *;obtain⟨v,hv⟩:∃v,qa r.xs 0=v:=⟨_,rfl⟩;have hRR:=HRR.out;rw[hv]at hRR c6;clear HRR HA1;have c5:w5_.cell? ⟨B,5,none⟩=some (.int .i64 (r2.line)):=HP5.out.row.cell_ (i:=5) rfl;have f5:w5_.frozen? ⟨B,5,none⟩=false:=HP5.out.row.frozen 5
 go_upto_region 26 with(fail)
 clear c5 f5 c6;have HP6:=zh (HP5.out.setLine 2);have HO6:=zh (HO5.out.setCell (p:=⟨B,5,none⟩) (.inr (.inl rfl)) (.int .i64 2))
 have c6:(w5_.setCell ⟨B,5,none⟩ (.int .i64 2)).cell? ⟨B,6,none⟩=some (.int .u32 v):=by rw[←hv,←HA2.out];exact HP6.out.row.cell_ (i:=6) rfl
 clear HP5 HO5 hv HA2;generalize w5_.setCell ⟨B,5,none⟩ (.int .i64 2)=w6 at *
 by_cases hz:v=0
 . have eR:=hRR;rw[if_pos hz]at eR;clear hRR;subst eR;subst hz;have c5:w6.cell? ⟨B,5,none⟩=some (.int .i64 ((r2.go 2).line)):=HP6.out.row.cell_ (i:=5) rfl;have f5:w6.frozen? ⟨B,5,none⟩=false:=HP6.out.row.frozen 5;go_wp2;clear c5 f5 c6;have HPZ:=zh (HP6.out.setLine 1);have HOZ:=zh (HO6.out.setCell (p:=⟨B,5,none⟩) (.inr (.inl rfl)) (.int .i64 1));go_returns;exact⟨rfl,HOZ.out,nv5,HPZ.out⟩
 . have eR:=hRR;rw[if_neg hz]at eR;clear hRR;subst eR;have hzz:(v==0)=false:=beq_eq_false_iff_ne.2 hz;clear hz;go_wp2;go_returns;exact⟨rfl,HO6.out,nv5,HP6.out⟩
theorem qxn(B base:Nat)(A:Option Addr)(l cp:Nat)(nv:Value)(r:LS)(w:World)(h:RunR w B base A l cp nv r)(hl:r.ns.length<=900)(hx:Words r.xs)(h1:r.op=5)(h2:r.line=0):
 Calls prog 99 #[Value.pointer (some ⟨B,0,none⟩)] w (qg B base A l cp w (.tuple #[]) r.rf):=by
 rw[qua h1 h2];obtain⟨r1,hr1⟩:∃r1,(r.doA 1 0 0 0).keepA (qa r.xs 0)=r1:=⟨_,rfl⟩;have HR1:=zh hr1;have HL1:=zh (show r1.ns.length<=900 by rw[←hr1];exact hl);have HA1:=zh (show r1.a=qa r.xs 0 by rw[←hr1];rfl);unfold LS.fLook;rw[hr1];have HOP:=zh (show r1.op=5 by rw[←hr1];exact h1);clear hr1;have hv:=qq hx 0;have hb:=qhs hv.1 hv.2;have HZ:=zh (show(qa r.xs 0/65536%2*65536==0)=ju (qa r.xs 0) by unfold ju;rcases Int.emod_two_eq (qa r.xs 0/65536)with e|e<;>rw[e]<;>rfl);have HB:=zh hb;clear hv hb;obtain⟨q,hq⟩:∃q,ju (qa r.xs 0)=q:=⟨_,rfl⟩;rw[hq];have HQ:=zh hq;clear hq;obtain⟨RR,hRR⟩:∃RR,(if q then r1.go 1 else(r1.note 5 0).fin false)=RR:=⟨_,rfl⟩;rw[hRR];have HRR:=zh hRR;clear hRR;have H1:=zh h1;have H2:=zh h2;clear h1 h2;have HX:=zh hx;have HL:=zh hl;have HH:=zh h;clear h hl hx
 have c4:w.cell? ⟨B,4,none⟩=some (.int .i64 (5)):=by rw[←H1.out];exact HH.out.row.cell_ (i:=4) rfl
 have c5:w.cell? ⟨B,5,none⟩=some (.int .i64 (0)):=by rw[←H2.out];exact HH.out.row.cell_ (i:=5) rfl
 go_enter func99, ntmps99
 go_upto_region 3 with(fail)
 have hw1:IntKind.i64.wrap (50)=50:=rfl;have hw2:IntKind.i64.wrap (50)=50:=rfl;refine qb (n:=10) 9 (fun w=>w.cell? ⟨B,4,none⟩=some (.int .i64 (5))/\w.cell? ⟨B,5,none⟩=some (.int .i64 (0))) rfl kr ⟨c4,c5⟩ (fun hHeld=> ?_);have HP0:=zh (HH.out.keep (Only.refl Nil w).drew);have HO0:=zh ((Only.refl (qd B A) w).drew);clear HH c4 c5;generalize w.drew=w2 at *;refine za 0 rfl ?_;refine za 1 rfl ?_;refine za 2 rfl ?_;refine zt 3 rfl ?_;refine mpa 4 rfl (.int .i64 (50)) (fun w=> ?_) ?_
 . go_simp
 refine za 5 rfl ?_;refine za 6 rfl ?_;refine za 7 rfl ?_;refine zt 8 rfl ?_;refine mpc 9 rfl kr br (fun K hK=> ?_);go_simp;refine hK.out _ _ (.inl kr) ?_;clear hK K hHeld hw1 hw2;refine qc kr ?_ _;go_wp2_with fail;refine(kl B base A l cp nv r 0 _ HP0.out).mono ?_;rintro e w1_ ⟨rfl,hO,nv1,hP⟩;have HO1:=zh (HO0.out.trans hO);have HP1:=zh hP;clear hO hP HP0 HO0;have c6:w1_.cell? ⟨B,6,none⟩=some (.int .u32 r.a):=HP1.out.row.cell_ (i:=6) rfl;have f6:w1_.frozen? ⟨B,6,none⟩=false:=HP1.out.row.frozen 6
 go_upto_region 48 with(fail)
 clear c6 f6;have HP2:=zh (HP1.out.setA (qa r.xs 0));have HO2:=zh (HO1.out.setCell (p:=⟨B,6,none⟩) (.inr (.inl rfl)) (.int .u32 (qa r.xs 0)));clear HP1 HO1;rw[HR1.out]at HP2;generalize w1_.setCell ⟨B,6,none⟩ (.int .u32 (qa r.xs 0))=w4 at *
 have c6:w4.cell? ⟨B,6,none⟩=some (.int .u32 (qa r.xs 0)):=by rw[←HA1.out];exact HP2.out.row.cell_ (i:=6) rfl
 have c4:w4.cell? ⟨B,4,none⟩=some (.int .i64 5):=by rw[←HOP.out];exact HP2.out.row.cell_ (i:=4) rfl
 have hb:=HB.out;have hz:=HZ.out.trans HQ.out;generalize qa r.xs 0/65536%2*65536=z at *;clear HB HZ HQ HOP
 cases q
 . have eR:(r1.note 5 0).fin false=RR:=HRR.out;subst eR;go_wp2_with fail;clear c4 c6 hb hz;refine(qo B base A l cp nv1 _ 5 0 _ HP2.out (Nat.le_trans HL1.out dc)).mono ?_;rintro e w6_ ⟨rfl,hO,nv6,hP⟩;have HO6:=zh (HO2.out.trans hO);have HP6:=zh hP;clear hO hP HP2 HO2;go_wp2_with fail;refine(yd B base A l cp nv6 _ _ false HP6.out).mono ?_;rintro e w7_ ⟨rfl,hO,nv7,hP⟩;have HO7:=zh (HO6.out.trans hO);have HP7:=zh hP;clear hO hP HP6 HO6;go_wp2;go_returns;exact⟨rfl,HO7.out,nv7,HP7.out⟩
 . have eR:r1.go 1=RR:=HRR.out;subst eR;have c5:w4.cell? ⟨B,5,none⟩=some (.int .i64 (r1.line)):=HP2.out.row.cell_ (i:=5) rfl;have f5:w4.frozen? ⟨B,5,none⟩=false:=HP2.out.row.frozen 5;go_wp2;clear c5 f5 c4 c6 hb hz;have HPZ:=zh (HP2.out.setLine 1);have HOZ:=zh (HO2.out.setCell (p:=⟨B,5,none⟩) (.inr (.inl rfl)) (.int .i64 1));go_returns;exact⟨rfl,HOZ.out,nv1,HPZ.out⟩
theorem qy1(B base:Nat)(A:Option Addr)(l cp:Nat)(nv:Value)(r:LS)(w:World)(h:RunR w B base A l cp nv r)(hl:r.ns.length<=900)(hx:Words r.xs)(h1:r.op=6)(h2:r.line=0):
 Calls prog 99 #[Value.pointer (some ⟨B,0,none⟩)] w (qg B base A l cp w (.tuple #[]) r.rf):=by
 rw[qrn h1 h2];obtain⟨r1,hr1⟩:∃r1,(r.doA 1 0 0 0).keepA (qa r.xs 0)=r1:=⟨_,rfl⟩;have HR1:=zh hr1;have HL1:=zh (show r1.ns.length<=900 by rw[←hr1];exact hl);have HA1:=zh (show r1.a=qa r.xs 0 by rw[←hr1];rfl);unfold LS.fLook;rw[hr1];have HOP:=zh (show r1.op=6 by rw[←hr1];exact h1);clear hr1;have hv:=qq hx 0;have hb:=qhs hv.1 hv.2;have HZ:=zh (show(qa r.xs 0/65536%2*65536==0)=ju (qa r.xs 0) by unfold ju;rcases Int.emod_two_eq (qa r.xs 0/65536)with e|e<;>rw[e]<;>rfl);have HB:=zh hb;clear hv hb;obtain⟨q,hq⟩:∃q,(qa r.xs 0==0)=q:=⟨_,rfl⟩;rw[hq];have HQ:=zh hq;clear hq;obtain⟨RR,hRR⟩:∃RR,(if q then r1.go 1 else(r1.note 5 0).fin false)=RR:=⟨_,rfl⟩;rw[hRR];have HRR:=zh hRR;clear hRR;have H1:=zh h1;have H2:=zh h2;clear h1 h2;have HX:=zh hx;have HL:=zh hl;have HH:=zh h;clear h hl hx
 have c4:w.cell? ⟨B,4,none⟩=some (.int .i64 (6)):=by rw[←H1.out];exact HH.out.row.cell_ (i:=4) rfl
 have c5:w.cell? ⟨B,5,none⟩=some (.int .i64 (0)):=by rw[←H2.out];exact HH.out.row.cell_ (i:=5) rfl
 go_enter func99, ntmps99
 go_upto_region 3 with(fail)
 have hw1:IntKind.i64.wrap (60)=60:=rfl;have hw2:IntKind.i64.wrap (60)=60:=rfl;refine qb (n:=10) 9 (fun w=>w.cell? ⟨B,4,none⟩=some (.int .i64 (6))/\w.cell? ⟨B,5,none⟩=some (.int .i64 (0))) rfl kr ⟨c4,c5⟩ (fun hHeld=> ?_);have HP0:=zh (HH.out.keep (Only.refl Nil w).drew);have HO0:=zh ((Only.refl (qd B A) w).drew);clear HH c4 c5;generalize w.drew=w2 at *;refine za 0 rfl ?_;refine za 1 rfl ?_;refine za 2 rfl ?_;refine zt 3 rfl ?_;refine mpa 4 rfl (.int .i64 (60)) (fun w=> ?_) ?_
 . go_simp
 refine za 5 rfl ?_;refine za 6 rfl ?_;refine za 7 rfl ?_;refine zt 8 rfl ?_;refine mpc 9 rfl kr br (fun K hK=> ?_);go_simp;refine hK.out _ _ (.inl kr) ?_;clear hK K hHeld hw1 hw2;refine qc kr ?_ _;go_wp2_with fail;refine(kl B base A l cp nv r 0 _ HP0.out).mono ?_;rintro e w1_ ⟨rfl,hO,nv1,hP⟩;have HO1:=zh (HO0.out.trans hO);have HP1:=zh hP;clear hO hP HP0 HO0;have c6:w1_.cell? ⟨B,6,none⟩=some (.int .u32 r.a):=HP1.out.row.cell_ (i:=6) rfl;have f6:w1_.frozen? ⟨B,6,none⟩=false:=HP1.out.row.frozen 6
 go_upto_region 48 with(fail)
 clear c6 f6;have HP2:=zh (HP1.out.setA (qa r.xs 0));have HO2:=zh (HO1.out.setCell (p:=⟨B,6,none⟩) (.inr (.inl rfl)) (.int .u32 (qa r.xs 0)));clear HP1 HO1;rw[HR1.out]at HP2;generalize w1_.setCell ⟨B,6,none⟩ (.int .u32 (qa r.xs 0))=w4 at *
 have c6:w4.cell? ⟨B,6,none⟩=some (.int .u32 (qa r.xs 0)):=by rw[←HA1.out];exact HP2.out.row.cell_ (i:=6) rfl
 have c4:w4.cell? ⟨B,4,none⟩=some (.int .i64 6):=by rw[←HOP.out];exact HP2.out.row.cell_ (i:=4) rfl
 have hb:=HB.out;have hz:=HQ.out;generalize qa r.xs 0/65536%2*65536=z at *;clear HB HZ HQ HOP
 cases q
 . have eR:(r1.note 5 0).fin false=RR:=HRR.out;subst eR;go_wp2_with fail;clear c4 c6 hb hz;refine(qo B base A l cp nv1 _ 5 0 _ HP2.out (Nat.le_trans HL1.out dc)).mono ?_;rintro e w6_ ⟨rfl,hO,nv6,hP⟩;have HO6:=zh (HO2.out.trans hO);have HP6:=zh hP;clear hO hP HP2 HO2;go_wp2_with fail;refine(yd B base A l cp nv6 _ _ false HP6.out).mono ?_;rintro e w7_ ⟨rfl,hO,nv7,hP⟩;have HO7:=zh (HO6.out.trans hO);have HP7:=zh hP;clear hO hP HP6 HO6;go_wp2;go_returns;exact⟨rfl,HO7.out,nv7,HP7.out⟩
 . have eR:r1.go 1=RR:=HRR.out;subst eR;have c5:w4.cell? ⟨B,5,none⟩=some (.int .i64 (r1.line)):=HP2.out.row.cell_ (i:=5) rfl;have f5:w4.frozen? ⟨B,5,none⟩=false:=HP2.out.row.frozen 5;go_wp2;clear c5 f5 c4 c6 hb hz;have HPZ:=zh (HP2.out.setLine 1);have HOZ:=zh (HO2.out.setCell (p:=⟨B,5,none⟩) (.inr (.inl rfl)) (.int .i64 1));go_returns;exact⟨rfl,HOZ.out,nv1,HPZ.out⟩
theorem qvy(B base:Nat)(A:Option Addr)(l cp:Nat)(nv:Value)(r:LS)(w:World)(h:RunR w B base A l cp nv r)(hl:r.ns.length<=900)(hx:Words r.xs)(h1:r.op=7)(h2:r.line=0):
 Calls prog 99 #[Value.pointer (some ⟨B,0,none⟩)] w (qg B base A l cp w (.tuple #[]) r.rf):=by
 rw[qse h1 h2];obtain⟨r1,hr1⟩:∃r1,(r.doA 1 0 0 0).keepA (qa r.xs 0)=r1:=⟨_,rfl⟩;have HR1:=zh hr1;have HL1:=zh (show r1.ns.length<=900 by rw[←hr1];exact hl);have HA1:=zh (show r1.a=qa r.xs 0 by rw[←hr1];rfl);unfold LS.fLook;rw[hr1];have HOP:=zh (show r1.op=7 by rw[←hr1];exact h1);clear hr1;have hv:=qq hx 0;have hb:=qhs hv.1 hv.2;have HZ:=zh (show(qa r.xs 0/65536%2*65536==0)=ju (qa r.xs 0) by unfold ju;rcases Int.emod_two_eq (qa r.xs 0/65536)with e|e<;>rw[e]<;>rfl);have HB:=zh hb;clear hv hb;obtain⟨q,hq⟩:∃q,(qa r.xs 0==1)=q:=⟨_,rfl⟩;rw[hq];have HQ:=zh hq;clear hq;obtain⟨RR,hRR⟩:∃RR,(if q then r1.go 1 else(r1.note 5 0).fin false)=RR:=⟨_,rfl⟩;rw[hRR];have HRR:=zh hRR;clear hRR;have H1:=zh h1;have H2:=zh h2;clear h1 h2;have HX:=zh hx;have HL:=zh hl;have HH:=zh h;clear h hl hx
 have c4:w.cell? ⟨B,4,none⟩=some (.int .i64 (7)):=by rw[←H1.out];exact HH.out.row.cell_ (i:=4) rfl
 have c5:w.cell? ⟨B,5,none⟩=some (.int .i64 (0)):=by rw[←H2.out];exact HH.out.row.cell_ (i:=5) rfl
 go_enter func99, ntmps99
 go_upto_region 3 with(fail)
 have hw1:IntKind.i64.wrap (70)=70:=rfl;have hw2:IntKind.i64.wrap (70)=70:=rfl;refine qb (n:=10) 9 (fun w=>w.cell? ⟨B,4,none⟩=some (.int .i64 (7))/\w.cell? ⟨B,5,none⟩=some (.int .i64 (0))) rfl kr ⟨c4,c5⟩ (fun hHeld=> ?_);have HP0:=zh (HH.out.keep (Only.refl Nil w).drew);have HO0:=zh ((Only.refl (qd B A) w).drew);clear HH c4 c5;generalize w.drew=w2 at *;refine za 0 rfl ?_;refine za 1 rfl ?_;refine za 2 rfl ?_;refine zt 3 rfl ?_;refine mpa 4 rfl (.int .i64 (70)) (fun w=> ?_) ?_
 . go_simp
 refine za 5 rfl ?_;refine za 6 rfl ?_;refine za 7 rfl ?_;refine zt 8 rfl ?_;refine mpc 9 rfl kr br (fun K hK=> ?_);go_simp;refine hK.out _ _ (.inl kr) ?_;clear hK K hHeld hw1 hw2;refine qc kr ?_ _;go_wp2_with fail;refine(kl B base A l cp nv r 0 _ HP0.out).mono ?_;rintro e w1_ ⟨rfl,hO,nv1,hP⟩;have HO1:=zh (HO0.out.trans hO);have HP1:=zh hP;clear hO hP HP0 HO0;have c6:w1_.cell? ⟨B,6,none⟩=some (.int .u32 r.a):=HP1.out.row.cell_ (i:=6) rfl;have f6:w1_.frozen? ⟨B,6,none⟩=false:=HP1.out.row.frozen 6
 go_upto_region 48 with(fail)
 clear c6 f6;have HP2:=zh (HP1.out.setA (qa r.xs 0));have HO2:=zh (HO1.out.setCell (p:=⟨B,6,none⟩) (.inr (.inl rfl)) (.int .u32 (qa r.xs 0)));clear HP1 HO1;rw[HR1.out]at HP2;generalize w1_.setCell ⟨B,6,none⟩ (.int .u32 (qa r.xs 0))=w4 at *
 have c6:w4.cell? ⟨B,6,none⟩=some (.int .u32 (qa r.xs 0)):=by rw[←HA1.out];exact HP2.out.row.cell_ (i:=6) rfl
 have c4:w4.cell? ⟨B,4,none⟩=some (.int .i64 7):=by rw[←HOP.out];exact HP2.out.row.cell_ (i:=4) rfl
 have hb:=HB.out;have hz:=HQ.out;generalize qa r.xs 0/65536%2*65536=z at *;clear HB HZ HQ HOP
 cases q
 . have eR:(r1.note 5 0).fin false=RR:=HRR.out;subst eR;go_wp2_with fail;clear c4 c6 hb hz;refine(qo B base A l cp nv1 _ 5 0 _ HP2.out (Nat.le_trans HL1.out dc)).mono ?_;rintro e w6_ ⟨rfl,hO,nv6,hP⟩;have HO6:=zh (HO2.out.trans hO);have HP6:=zh hP;clear hO hP HP2 HO2;go_wp2_with fail;refine(yd B base A l cp nv6 _ _ false HP6.out).mono ?_;rintro e w7_ ⟨rfl,hO,nv7,hP⟩;have HO7:=zh (HO6.out.trans hO);have HP7:=zh hP;clear hO hP HP6 HO6;go_wp2;go_returns;exact⟨rfl,HO7.out,nv7,HP7.out⟩
 . have eR:r1.go 1=RR:=HRR.out;subst eR;have c5:w4.cell? ⟨B,5,none⟩=some (.int .i64 (r1.line)):=HP2.out.row.cell_ (i:=5) rfl;have f5:w4.frozen? ⟨B,5,none⟩=false:=HP2.out.row.frozen 5;go_wp2;clear c5 f5 c4 c6 hb hz;have HPZ:=zh (HP2.out.setLine 1);have HOZ:=zh (HO2.out.setCell (p:=⟨B,5,none⟩) (.inr (.inl rfl)) (.int .i64 1));go_returns;exact⟨rfl,HOZ.out,nv1,HPZ.out⟩
theorem qv5(B base:Nat)(A:Option Addr)(l cp:Nat)(nv:Value)(r:LS)(w:World)(h:RunR w B base A l cp nv r)(hl:r.ns.length<=900)(hx:Words r.xs)(h1:r.op=7)(h2:r.line=1):
 Calls prog 99 #[Value.pointer (some ⟨B,0,none⟩)] w (qg B base A l cp w (.tuple #[]) r.rf):=by
 rw[qr4 h1 h2];obtain⟨r1,hr1⟩:∃r1,r.doA 5 0 (1) (65536)=r1:=⟨_,rfl⟩;have HR1:=zh hr1;have HL1:=zh (show r1.ns.length<=900 by rw[←hr1];exact hl);have HG:=zh (show(r.go 0).doA 5 0 (1) (65536)=r1.go 0 by rw[←hr1];rfl);have HLN:=zh (qb5 (r:=r1) 0 (show r1.line=1 by rw[←hr1];exact h2));unfold LS.fUp;rw[hr1];clear hr1 HR1;obtain⟨cl,hcl⟩:∃cl,r.at0 (1)=cl:=⟨_,rfl⟩;rw[hcl];have HCL:=zh (show(qf (r.go 0).xs 0 && (qa (r.go 0).xs 0==(1)))=cl from hcl);clear hcl;obtain⟨RR,hRR⟩:∃RR,(if cl then((r1).note 9 0).fin true else r1.go 0)=RR:=⟨_,rfl⟩;rw[hRR];have HRR:=zh hRR;clear hRR;have H1:=zh h1;have H2:=zh h2;clear h1 h2;have HX:=zh hx;have HL:=zh hl;have HH:=zh h;clear h hl hx
 have c4:w.cell? ⟨B,4,none⟩=some (.int .i64 (7)):=by rw[←H1.out];exact HH.out.row.cell_ (i:=4) rfl
 have c5:w.cell? ⟨B,5,none⟩=some (.int .i64 (1)):=by rw[←H2.out];exact HH.out.row.cell_ (i:=5) rfl
 go_enter func99, ntmps99
 go_upto_region 3 with(fail)
 have hw1:IntKind.i64.wrap (70)=70:=rfl;have hw2:IntKind.i64.wrap (71)=71:=rfl;refine qb (n:=10) 9 (fun w=>w.cell? ⟨B,4,none⟩=some (.int .i64 (7))/\w.cell? ⟨B,5,none⟩=some (.int .i64 (1))) rfl kr ⟨c4,c5⟩ (fun hHeld=> ?_);have HP0:=zh (HH.out.keep (Only.refl Nil w).drew);have HO0:=zh ((Only.refl (qd B A) w).drew);clear HH c4 c5;generalize w.drew=w2 at *;refine za 0 rfl ?_;refine za 1 rfl ?_;refine za 2 rfl ?_;refine zt 3 rfl ?_;refine mpa 4 rfl (.int .i64 (70)) (fun w=> ?_) ?_
 . go_simp
 refine za 5 rfl ?_;refine za 6 rfl ?_;refine za 7 rfl ?_;refine zt 8 rfl ?_;refine mpc 9 rfl kr br (fun K hK=> ?_);go_simp;refine hK.out _ _ (.inl kr) ?_;clear hK K hHeld hw1 hw2;refine qc kr ?_ _;have c5:w2.cell? ⟨B,5,none⟩=some (.int .i64 (r.line)):=HP0.out.row.cell_ (i:=5) rfl;have f5:w2.frozen? ⟨B,5,none⟩=false:=HP0.out.row.frozen 5
 go_upto_region 73 with(fail)
 clear c5 f5;have HP1:=zh (HP0.out.setLine 0);have HO1:=zh (HO0.out.setCell (p:=⟨B,5,none⟩) (.inr (.inl rfl)) (.int .i64 0));clear HP0 HO0;generalize w2.setCell ⟨B,5,none⟩ (.int .i64 0)=w4 at *;go_wp2_with fail;refine(xe B base A l cp nv _ 0 (1) (65536) _ HP1.out).mono ?_;rw[HCL.out,HG.out];rintro e w3_ ⟨rfl,hO,nv3,hP⟩;have HO3:=zh (HO1.out.trans hO);have HP3:=zh hP;clear hO hP HP1 HO1
 cases cl
 . have eR:r1.go 0=RR:=HRR.out;subst eR;go_wp2;go_returns;exact⟨rfl,HO3.out,nv3,HP3.out⟩
 . have eR:((r1).note 9 0).fin true=RR:=HRR.out;subst eR;have c5:w3_.cell? ⟨B,5,none⟩=some (.int .i64 ((r1.go 0).line)):=HP3.out.row.cell_ (i:=5) rfl;have f5:w3_.frozen? ⟨B,5,none⟩=false:=HP3.out.row.frozen 5
   go_upto_region 75 with(fail)
   clear c5 f5;have HP4:=zh (HP3.out.setLine 1);have HO4:=zh (HO3.out.setCell (p:=⟨B,5,none⟩) (.inr (.inl rfl)) (.int .i64 1));clear HP3 HO3;rw[HLN.out]at HP4;generalize w3_.setCell ⟨B,5,none⟩ (.int .i64 1)=w6 at *;go_wp2_with fail;refine(qo B base A l cp nv3 _ 9 0 _ HP4.out (Nat.le_trans HL1.out dc)).mono ?_;rintro e w5_ ⟨rfl,hO,nv5,hP⟩;have HO5:=zh (HO4.out.trans hO);have HP5:=zh hP;clear hO hP HP4 HO4;go_wp2_with fail;refine(yd B base A l cp nv5 _ _ true HP5.out).mono ?_;rintro e w6_ ⟨rfl,hO,nv6,hP⟩;have HO6:=zh (HO5.out.trans hO);have HP6:=zh hP;clear hO hP HP5 HO5;go_wp2;go_returns;exact⟨rfl,HO6.out,nv6,HP6.out⟩
end Go.Proofs.YtgebffjejifidaaGreat
