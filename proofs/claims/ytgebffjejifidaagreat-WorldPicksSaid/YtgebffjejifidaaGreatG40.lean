import Derived.Test.YtgebffjejifidaaGreatG1
import Derived.Test.YtgebffjejifidaaGreatG2
import Derived.Test.YtgebffjejifidaaGreatG9
import Derived.Test.YtgebffjejifidaaGreatG10
import Derived.Test.YtgebffjejifidaaGreatG8
set_option linter.unusedVariables false
set_option linter.unusedSimpArgs false
set_option maxHeartbeats 1000000
set_option maxRecDepth 100000
namespace Go.Proofs.YtgebffjejifidaaGreat
open Go.RowKit Tryz
theorem qsd(v:Int):qdw v 0 8=rF v:=by
 show v/pw 0%pw 8=v%256;rw[show pw 0=1 from rfl,show pw 8=256 from rfl,Int.ediv_one]
theorem qu7(v:Int):qdw v 8 8=oF v:=by
 show v/pw 8%pw 8=v/256%256;rw[show pw 8=256 from rfl]
theorem qya(v:Int):qdw v 16 8=iF v:=by
 show v/pw 16%pw 8=v/65536%256;rw[show pw 16=65536 from rfl,show pw 8=256 from rfl]
theorem ql8(v:Int):qg1 v 8 8=qbn v:=by
 show(qmn v 8 8 ((qdw v 8 8+1)%4294967296)-v)%4294967296=_;rw[qu7 v];show(v+((oF v+1)%4294967296%pw 8-v/pw 8%pw 8)*pw 8-v)%4294967296=_;rw[show pw 8=256 from rfl];unfold qbn oF;omega
theorem vx(v s:Int)(w:World)(hv:0<=v/\v<4294967296):
 Calls prog 172 #[.int .u32 v,.int .i64 s] w fun e w'=>e= .returned (.int .u32 (qdw v s 8))/\Drew w w':=by
 have HV:=zh hv;clear hv;go_enter func172, ntmps172;go_wp2_with fail;refine(qd8 v s 8 _ HV.out).mono ?_;rintro e w1 ⟨rfl,hd⟩;have HD:=zh hd;clear hd;go_wp2;go_ret;exact⟨rfl,HD.out⟩
theorem qas(v:Int)(w:World)(hv:0<=v/\v<4294967296):
 Calls prog 168 #[.int .u32 v] w fun e w'=>e= .returned (.bool (zz v))/\Drew w w':=by
 have HV:=zh hv;have HQ:=zh (show(iF v==oF v)=zz v from rfl);clear hv;generalize zz v=q at *;go_enter func168, ntmps168;go_wp2_with fail;refine(vx v 16 _ HV.out).mono ?_;rw[qya];rintro e w1 ⟨rfl,hd⟩;have HD:=zh hd;clear hd;go_wp2_with fail;refine(vx v 8 _ HV.out).mono ?_;rw[qu7];rintro e w2 ⟨rfl,hd⟩;have HD2:=zh (HD.out.trans hd);clear hd HD;generalize iF v=i at *;generalize oF v=o at *;go_wp2;go_ret;exact⟨congrArg (fun x=>Ending.returned (.bool x)) HQ.out,HD2.out⟩
def qny(F:Nat)(q:Int->Bool):Prop:=∀(v:Int) (w:World),0<=v->v<4294967296->Calls prog F #[.int .u32 v] w fun e w'=>e= .returned (.bool (q v))/\Drew w w'
theorem qmq:qny 168 zz:=fun v w h0 h1=>qas v w ⟨h0,h1⟩
theorem qq3:qny 176 (fun v=>zz v && rF v==0):=by
 intro v w h0 h1;have HV:=zh (And.intro h0 h1);have HT:=zh (qas v w ⟨h0,h1⟩);clear h0 h1;dsimp only
 cases hq:zz v
 . rw[hq]at HT;go_enter func176, ntmps176;go_wp2_with fail;refine HT.out.mono ?_;rintro e w1 ⟨rfl,hd⟩;have HD:=zh hd;clear hd HT hq;go_wp2;go_ret;exact⟨rfl,HD.out⟩
 . rw[hq]at HT;obtain⟨z,hz⟩:∃z,rF v=z:=⟨_,rfl⟩;have HQ:=zh (show(true && rF v==0)=(z==0) by rw[hz];rfl);go_enter func176, ntmps176;go_wp2_with fail;refine HT.out.mono ?_;rintro e w1 ⟨rfl,hd⟩;have HD:=zh hd;clear hd HT hq;go_wp2_with fail;refine(vx v 0 _ HV.out).mono ?_;rw[qsd,hz];rintro e w2 ⟨rfl,hd⟩;have HD2:=zh (HD.out.trans hd);clear hd HD hz;go_wp2;go_ret;exact⟨congrArg (fun x=>Ending.returned (.bool x)) HQ.out.symm,HD2.out⟩
theorem qpn:qny 177 (fun v=>zz v && rF v==1):=by
 intro v w h0 h1;have HV:=zh (And.intro h0 h1);have HT:=zh (qas v w ⟨h0,h1⟩);clear h0 h1;dsimp only
 cases hq:zz v
 . rw[hq]at HT;go_enter func177, ntmps177;go_wp2_with fail;refine HT.out.mono ?_;rintro e w1 ⟨rfl,hd⟩;have HD:=zh hd;clear hd HT hq;go_wp2;go_ret;exact⟨rfl,HD.out⟩
 . rw[hq]at HT;obtain⟨z,hz⟩:∃z,rF v=z:=⟨_,rfl⟩;have HQ:=zh (show(true && rF v==1)=(z==1) by rw[hz];rfl);go_enter func177, ntmps177;go_wp2_with fail;refine HT.out.mono ?_;rintro e w1 ⟨rfl,hd⟩;have HD:=zh hd;clear hd HT hq;go_wp2_with fail;refine(vx v 0 _ HV.out).mono ?_;rw[qsd,hz];rintro e w2 ⟨rfl,hd⟩;have HD2:=zh (HD.out.trans hd);clear hd HD hz;go_wp2;go_ret;exact⟨congrArg (fun x=>Ending.returned (.bool x)) HQ.out.symm,HD2.out⟩
theorem qpr:qz 168 :=fun args w=>by simp[callFunc,go_sem, func168, Tryz.f168]
theorem qqn:qz 176 :=fun args w=>by simp[callFunc,go_sem, func176, Tryz.f176]
theorem qpv:qz 177 :=fun args w=>by simp[callFunc,go_sem, func177, Tryz.f177]
section
variable{B:Nat}{p A:Option Addr}{cp:Nat}{r:LS}{w0 w:World}
theorem qfx(S:St w0 B p A cp [] 900 r w)(ha:0<=r.a/\r.a<4294967296):Calls prog 88 #[Value.pointer (some ⟨B,0,none⟩)] w fun e w'=>e= .returned (.int .u32 (qbn r.a))/\St w0 B p A cp [] 900 r w':=by
 have c6:=S.c6;go_enter func88, ntmps88;go_wp2_with fail;clear c6;refine(qqw r.a 8 8 _ ha).mono ?_;rw[ql8];rintro e w1 ⟨rfl,hd⟩;replace S:=S.drewd hd;clear hd;go_wp2;go_ret;exact⟨rfl,S⟩
theorem qk6(cl:Int)(S:St w0 B p A cp [] 901 r w):Calls prog 175 #[Value.pointer (some ⟨B,0,none⟩),.int .i64 cl] w (qj B p A cp w0 (.tuple #[]) ((r.note 2 cl).note 4 0)):=by
 go_enter func175, ntmps175;go_wp2_with fail;refine jr S fun w S=> ?_;go_wp2_with fail;refine jr S fun w S=> ?_;go_wp2;go_returns;exact S.done
theorem qqf(S:St w0 B p A cp [] 900 r w):Calls prog 85 #[Value.pointer (some ⟨B,0,none⟩)] w (qj B p A cp w0 (.tuple #[]) r.gCome):=by
 go_enter func85, ntmps85;go_wp2_with fail;refine qi4 S fun w S=> ?_;have c6:=S.c6;have f6:=S.froz 6;replace S:=S.setA (qa r.xs 0);go_wp2_with fail;refine jr S fun w S=> ?_;go_wp2_with fail;refine xGo S fun w S=> ?_;go_wp2;go_returns;exact S.done
theorem qhz(S:St w0 B p A cp [] 900 r w):Calls prog 87 #[Value.pointer (some ⟨B,0,none⟩)] w (qj B p A cp w0 (.tuple #[]) r.gLoad):=by
 go_enter func87, ntmps87;go_wp2_with fail;refine qeh S fun w S=> ?_;have c6:=S.c6;have f6:=S.froz 6;replace S:=S.setA (qa r.xs 0);go_wp2_with fail;refine xGo S fun w S=> ?_;go_wp2;go_returns;exact S.done
theorem qhb(S:St w0 B p A cp [] 900 r w)(hx:Words r.xs):Calls prog 80 #[Value.pointer (some ⟨B,0,none⟩)] w (qj B p A cp w0 (.tuple #[]) (r.gSee false)):=by
 go_enter func80, ntmps80;go_wp2_with fail;refine qeh S fun w2 S=> ?_;have c6:=S.c6;have f6:=S.froz 6;replace S:=S.setA (qa r.xs 0);have d6:=S.c6;go_wp2_with fail;clear d6;refine(qas (qa r.xs 0) _ (qq hx 0)).mono ?_;obtain⟨b,hz⟩:∃b,zz (qa r.xs 0)=b:=⟨_,rfl⟩;rw[hz];have H:=zh hz;clear hz;rintro e w4 ⟨rfl,hd⟩;replace S:=S.drewd hd;clear hd
 cases b
 . go_wp2_with fail;refine xGo S fun w S=> ?_;go_wp2;go_returns;exact S.fit (by unfold LS.gSee;exact qcj H.out)
 . go_wp2_with fail;refine xGo S fun w S=> ?_;go_wp2;go_returns;exact S.fit (by unfold LS.gSee;exact qab H.out)
theorem qdt(FF:FuncId)(hcf:qz FF)(q:Int->Bool)(hq:qny FF q)(S:St w0 B p A cp [] 900 r w)(hx:Words r.xs):
 Calls prog 174 #[Value.pointer (some ⟨B,0,none⟩),.func (.func FF) #[] #[]] w (qj B p A cp w0 (.tuple #[]) (r.fLook (q (qa r.xs 0)))):=by
 have HT:=zh (fun w=>hq (qa r.xs 0) w (qq hx 0).1 (qq hx 0).2);have HCF:=zh hcf;clear hq hx hcf;go_enter func174, ntmps174;go_wp2_with fail;refine qeh S fun w2 S=> ?_;have c6:=S.c6;have f6:=S.froz 6;replace S:=S.setA (qa r.xs 0);have d6:=S.c6;have hcf:∀(args:Array Value) (w:World),(callFunc FF args).run prog w= .ok (.enter FF args) w:=HCF.out;go_wp2_with fail;clear d6 hcf;refine(HT.out _).mono ?_;obtain⟨b,hz⟩:∃b,q (qa r.xs 0)=b:=⟨_,rfl⟩;rw[hz];have H:=zh hz;clear hz;rintro e w4 ⟨rfl,hd⟩;replace S:=S.drewd hd;clear hd HT HCF
 cases b
 . go_wp2_with fail;refine jr S fun w S=> ?_;go_wp2_with fail;refine qeu S fun w S=> ?_;go_wp2;go_returns;exact S.fit (by unfold LS.fLook;exact qcj H.out)
 . go_wp2_with fail;refine xGo S fun w S=> ?_;go_wp2;go_returns;exact S.fit (by unfold LS.fLook;exact qab H.out)
theorem qcs(x:Int)(V:Value)(l:List Int)(S:St w0 B p A cp [] 900 r w)(hw:Whats B A w V l)(hm9:l.length<=90):Calls prog 84 #[Value.pointer (some ⟨B,0,none⟩),.int .u32 x,V] w (qj B p A cp w0 (.tuple #[]) (r.fChange x l)):=by
 obtain⟨r1,hr1⟩:∃r1,r.doA 3 0 x 0=r1:=⟨_,rfl⟩;rw[show r.fChange x l=((r1.notes l).wake 0).fin true by rw[←hr1];rfl];have HR2:=zh hr1;have HM9:=zh hm9;obtain⟨Z,c,rfl,hz⟩:=hw;generalize hm:l.length=m at *;have HM:=zh hm;have HZ:=zh hz;have HO:=zh S.only;obtain⟨nv,hp⟩:=S.run;have S:=yz hp S.len (zo _) qu;clear hz hm hr1 hm9 hp;go_enter func84, ntmps84;go_wp2_with fail;refine qi4 S fun w1 S=> ?_;rw[HR2.out]at S;clear HR2;go_wp2
 go_loopw [13] (fun iv wr=>∃k:Nat,k<=m/\iv= .int .i64 k/\St w B p A cp [] (900+k) (r1.notes (l.take k)) wr) (fun iv _=>m-(intOf iv).toNat)
 case atStart=>exact⟨0,Nat.zero_le _,rfl,S⟩
 case round=>
  obtain⟨k,hk,rfl,S⟩:=hrel;have hm9:m<=90:=HM9.out
  by_cases hlt:k<m
  . obtain⟨y,hy⟩:∃y,l[k]? =some y:=⟨_,List.getElem?_eq_getElem (by rw[HM.out];exact hlt)⟩;obtain⟨b,o,rfl,hc⟩:=HZ.out _ S.only k y hy;have HN:=zh (qbc (r:=r1) hy);clear hy;go_wp2_with fail;clear hc;refine jr S (fun w2 S=> ?_) om;rw[←HN.out]at S;go_wp2
    go_roundw
    case rel=>exact⟨k+1,om,by go_num,S⟩
    case measure=>simp[intOf];omega
  . obtain rfl:k=m:=by omega
    rw[show l.take k=l by rw[←HM.out,List.take_length]]at S;go_wp2_with fail;refine qnc S fun w S=> ?_;go_wp2_with fail;refine qeu S fun w S=> ?_;go_wp2;go_returns;exact⟨rfl,HO.out.trans S.only,S.run⟩
def LS.gClaim(r:LS)(x n:Int):LS:=if r.at0 r.a then(r.gCas x).fin true else(r.gCas x).go n
theorem qbe(x n:Int)(q:Bool)(S:St w0 B p A cp [] 900 r w)(hq:r.at0 r.a=q):Calls prog 82 #[Value.pointer (some ⟨B,0,none⟩),.int .u32 x,.int .i64 n] w (qj B p A cp w0 (.bool q) (r.gClaim x n)):=by
 have c6:=S.c6;have hx1:IntKind.u32.wrap (r.a+x)=(r.a+x)%4294967296:=rfl;have HQ:=zh hq;clear hq;go_enter func82, ntmps82
 go_upto_region 1 with(fail)
 refine qb (n:=15) 13 (fun w=>w.cell? ⟨B,6,none⟩=some (.int .u32 r.a)) rfl kr c6 (fun hHeld=> ?_);replace S:=S.drew;clear c6;generalize w.drew=w1 at *;refine za 0 rfl ?_;refine za 1 rfl ?_;refine za 2 rfl ?_;refine za 3 rfl ?_;refine za 4 rfl ?_;refine zt 5 rfl ?_;refine za 6 rfl ?_;refine za 7 rfl ?_;refine za 8 rfl ?_;refine za 9 rfl ?_;refine zt 10 rfl ?_;refine za 11 rfl ?_;refine mpa 12 rfl (.int .u32 ((r.a+x)%4294967296)) (fun w=> ?_) ?_
 . go_simp
 refine mpc 13 rfl kr br (fun K hK=> ?_);go_simp;refine qz8 S fun w2 S=> ?_;refine hK.out _ _ (.inl kr) ?_;clear hK K hHeld hx1;rw[show(qf r.xs 0 && (qa r.xs 0==r.a))=q from HQ.out];refine za 14 rfl ?_;refine qc kr ?_ _
 cases q
 . go_wp2_with fail;refine xGo S fun w S=> ?_;go_wp2;go_returns;exact S.fit (by unfold LS.gClaim;exact qcj HQ.out)
 . go_wp2_with fail;refine qeu S fun w S=> ?_;go_wp2;go_returns;exact S.fit (by unfold LS.gClaim;exact qab HQ.out)
end
theorem qzq(B gt:Nat)(r:LS)(hv nv:Value)(v:Int)(w:World)(hb:Row w gt 110 #[Value.pointer (some ⟨B,0,none⟩)])(hr:Row w B 108 (r.cells hv nv))(h0:0<=v)(h1:v<4294967296)(hq:zz v=true):
 Calls prog 170 #[.int .u32 v,.pointer (some ⟨gt,0,none⟩)] w fun e w'=>e= .returned (.bool true)/\Only (· =B) w w'/\Row w' B 108 ((r.keepA v).cells hv nv):=by
 have HT:=zh (fun w=>hq▸qas v w ⟨h0,h1⟩);have HB:=zh hb;have HR:=zh hr;clear hb hr hq h0 h1;go_enter func170, ntmps170;go_wp2_with fail;refine(HT.out _).mono ?_;rintro e w1 ⟨rfl,hd⟩;have b0:w1.cell? ⟨gt,0,none⟩=some (Value.pointer (some ⟨B,0,none⟩)):=(HB.out.only (S:=Nil) hd.only id).cell_ (i:=0) rfl;have HR1:=zh (HR.out.only (S:=Nil) hd.only id);have HO1:=zh ((hd.only (S:=Nil)).mono (T:=(· =B)) (fun _ _ h=>h.elim));have c6:w1.cell? ⟨B,6,none⟩=some (.int .u32 r.a):=HR1.out.cell_ (i:=6) rfl;have f6:w1.frozen? ⟨B,6,none⟩=false:=HR1.out.frozen 6;clear hd HR HB;have HR2:=zh (show Row (w1.setCell ⟨B,6,none⟩ (.int .u32 v)) B 108 ((r.keepA v).cells hv nv)from HR1.out.set 6 (.int .u32 v));have HO2:=zh (HO1.out.setCell (p:=⟨B,6,none⟩) (.inr rfl) (.int .u32 v))
 go_upto_region 3 with(fail)
 clear b0 c6 f6 HR1 HO1;generalize w1.setCell ⟨B,6,none⟩ (.int .u32 v)=w2 at *;go_wp2_with fail;refine(HT.out _).mono ?_;rintro e w3 ⟨rfl,hd⟩;have HR3:=zh (HR2.out.only (S:=Nil) hd.only id);have HO3:=zh (HO2.out.trans ((hd.only (S:=Nil)).mono (T:=(· =B)) (fun _ _ h=>h.elim)));clear hd HT;go_wp2;go_ret;exact⟨rfl,HO3.out,HR3.out⟩
theorem zca(B gt:Nat)(r:LS)(hv nv:Value)(v:Int)(w:World)(hr:Row w B 108 (r.cells hv nv))(h0:0<=v)(h1:v<4294967296)(hq:zz v=false):
 Calls prog 170 #[.int .u32 v,.pointer (some ⟨gt,0,none⟩)] w fun e w'=>e= .returned (.bool false)/\Only (· =B) w w'/\Row w' B 108 (r.cells hv nv):=by
 have HT:=zh (fun w=>hq▸qas v w ⟨h0,h1⟩);have HR:=zh hr;clear hr hq h0 h1;go_enter func170, ntmps170;go_wp2_with fail;refine(HT.out _).mono ?_;rintro e w1 ⟨rfl,hd⟩;have HR1:=zh (HR.out.only (S:=Nil) hd.only id);have HO1:=zh ((hd.only (S:=Nil)).mono (T:=(· =B)) (fun _ _ h=>h.elim));clear hd HR;go_wp2_with fail;refine(HT.out _).mono ?_;rintro e w3 ⟨rfl,hd⟩;have HR3:=zh (HR1.out.only (S:=Nil) hd.only id);have HO3:=zh (HO1.out.trans ((hd.only (S:=Nil)).mono (T:=(· =B)) (fun _ _ h=>h.elim)));clear hd HT;go_wp2;go_ret;exact⟨rfl,HO3.out,HR3.out⟩
theorem qta(B gt:Nat)(p A:Option Addr)(cp:Nat)(nv:Value)(r:LS)(w:World)(h:RunP w B p A cp nv r)(hb:Row w gt 110 #[Value.pointer (some ⟨B,0,none⟩)]):
 HoldsK A B w (.func (.func 170) #[] #[.pointer (some ⟨gt,0,none⟩)]) zz (r.cells (.pointer p) nv) (fun v=>(r.keepA v).cells (.pointer p) nv):=by
 intro v w1 hO hr h0 h1;have hb1:Row w1 gt 110 #[Value.pointer (some ⟨B,0,none⟩)]:=h.aside hb hO.turned2 yh;have hn:=qa5
 cases hq:zz v
 . show Calls prog 311 _ w1 (fun e w'=>e= .returned (.bool false)/\Only (· =B) w1 w'/\Row w' B 108 (r.cells (.pointer p) nv));have HT:=zh (zca B gt r (.pointer p) nv v w1 hr h0 h1 hq);clear h hb hO hb1 hr hq
   go_enter_defers func311, ntmps311
   go_wp2_with fail;refine HT.out.mono ?_;rintro e w2 ⟨rfl,hO,hr⟩;have HO:=zh hO;have HR:=zh hr;clear hO hr HT;go_wp2;refine leaves_cons (f:= 319) (args:= #[]) (by simp) (by simp[go_sem]) ?_;refine(jp _).mono ?_;rintro e u' w'' ⟨rfl,rfl,rfl⟩;exact⟨_,results_tmp rfl _ _ _,rfl,HO.out,HR.out⟩
 . show Calls prog 311 _ w1 (fun e w'=>e= .returned (.bool true)/\Only (· =B) w1 w'/\Row w' B 108 ((r.keepA v).cells (.pointer p) nv));have HT:=zh (qzq B gt r (.pointer p) nv v w1 hb1 hr h0 h1 hq);clear h hb hO hb1 hr hq
   go_enter_defers func311, ntmps311
   go_wp2_with fail;refine HT.out.mono ?_;rintro e w2 ⟨rfl,hO,hr⟩;have HO:=zh hO;have HR:=zh hr;clear hO hr HT;go_wp2;refine leaves_cons (f:= 319) (args:= #[]) (by simp) (by simp[go_sem]) ?_;refine(jp _).mono ?_;rintro e u' w'' ⟨rfl,rfl,rfl⟩;exact⟨_,results_tmp rfl _ _ _,rfl,HO.out,HR.out⟩
theorem qvi(r:LS):r.waitK 0 zz=r.seeW:=by
 unfold LS.waitK LS.waitM LS.seeW LS.kept LS.kw
 cases(r.stepR 0 zz).seen<;>rfl
section
variable{B:Nat}{p A:Option Addr}{cp:Nat}{r:LS}{w0 w:World}
theorem qy8(S:St w0 B p A cp [] 900 r w):St w0 B p A cp [(w.heap.size, 110, #[Value.pointer (some ⟨B,0,none⟩)])] 900 r (w.alloc (.cells #[Value.pointer (some ⟨B,0,none⟩)] 110)):=by
 have e:=(Only.refl Nil w).alloc (.cells #[Value.pointer (some ⟨B,0,none⟩)] 110);exact⟨S.only.trans (e.mono (fun _ _ h=>h.elim)),(zo _).cons (Row.new w _ _),qi yh qu,S.run.imp fun _ h=>h.keep e,S.len⟩
theorem qj4(S:St w0 B p A cp [] 900 r w)(hx:Words r.xs):Calls prog 83 #[Value.pointer (some ⟨B,0,none⟩)] w (qj B p A cp w0 (.tuple #[]) r.gWait):=by
 generalize hsn:(r.stepR 0 zz).seen=sn;generalize hdn:(r.stepR 0 zz).done=dn;have H:=zh (And.intro hsn (And.intro hdn hx));clear hsn hdn hx;replace S:=qy8 S;go_enter func83, ntmps83
 go_upto_region 1 with(fail)
 generalize w.alloc (.cells #[Value.pointer (some ⟨B,0,none⟩)] 110)=w1 at *;generalize w.heap.size=g0 at *;have b0:=S.c0;go_wp2_with fail;clear b0;refine S.call0 (r':=r.seeW) (v:= .tuple #[.bool sn,.bool dn]) (fun nv h=> ?_) (m':=900) (by unfold LS.seeW;split<;>exact S.len) fun w S b0=> ?_
 . have hw:=qdx B p A cp nv r 0 (.func 170) #[] #[.pointer (some ⟨g0,0,none⟩)] zz _ h (qta B g0 p A cp nv r _ h (S.rows _ (.head _))) H.out.2.2;rw[qvi,H.out.1,H.out.2.1]at hw;exact hw
 . cases dn
   . go_wp2;go_returns;exact S.fit (by unfold LS.gWait;exact qcj H.out.2.1)
   . go_wp2_with fail;refine sGo S fun w S b0=> ?_;go_wp2;go_returns;exact S.fit (by unfold LS.gWait;exact qab H.out.2.1)
theorem qsp(g:Nat)(a v:Int)(B:Nat)(w:World)(hb:Row w g 110 #[Value.pointer (some ⟨B,0,none⟩)])(c6:w.cell? ⟨B,6,none⟩=some (.int .u32 a))(ha:0<=a/\a<4294967296)(h0:0<=v)(h1:v<4294967296):
 Calls prog 171 #[.int .u32 v,.pointer (some ⟨g,0,none⟩)] w fun e w'=>e= .returned (.bool (qbp (iF a) v))/\Only Nil w w':=by
 have b0:w.cell? ⟨g,0,none⟩=some (Value.pointer (some ⟨B,0,none⟩)):=hb.cell_ (i:=0) rfl;obtain⟨o,ho⟩:∃o,oF v=o:=⟨_,rfl⟩;obtain⟨i,hi⟩:∃i,iF a=i:=⟨_,rfl⟩;obtain⟨z,hz⟩:∃z,rF v=z:=⟨_,rfl⟩;have HO:=zh (fun w=>ho▸qu7 v▸vx v 8 w ⟨h0,h1⟩);have HI:=zh (fun w=>hi▸qya a▸vx a 16 w ha);have HZ:=zh (fun w=>hz▸qsd v▸vx v 0 w ⟨h0,h1⟩);rw[show qbp (iF a) v=(o==i && z==0) by unfold qbp;rw[ho,hi,hz]];clear hb ho hi hz ha h0 h1;go_enter func171, ntmps171
 go_upto_region 1 with(fail)
 refine qb (n:=15) 7 (fun w=>w.cell? ⟨g,0,none⟩=some (Value.pointer (some ⟨B,0,none⟩))/\w.cell? ⟨B,6,none⟩=some (.int .u32 a)) rfl kr ⟨b0,c6⟩ (fun hHeld=> ?_);have HD:=zh (show Drew w w.drew from⟨1,rfl⟩);generalize w.drew=w1 at *;refine zt 2 rfl ?_;refine za 3 rfl ?_;refine za 4 rfl ?_;refine za 5 rfl ?_;refine zt 6 rfl ?_;refine za 0 rfl ?_;refine mpc 1 rfl kr br (fun K hK=> ?_);go_simp;refine(HO.out _).mono ?_;rintro e w2 ⟨rfl,hd⟩;refine hK.out _ _ (.inr ⟨(hd.cell _).trans hHeld.1,(hd.cell _).trans hHeld.2⟩) ?_;have HD2:=zh (HD.out.trans hd);clear hK K hHeld hd HD HO;refine mpc 7 rfl kr br (fun K hK=> ?_);go_simp;refine(HI.out _).mono ?_;rintro e w3 ⟨rfl,hd⟩;refine hK.out _ _ (.inl kr) ?_;have HD3:=zh (HD2.out.trans hd);clear hK K hd HD2 HI
 by_cases h:o=i
 . subst h;have HQ:=zh (show(o==o && z==0)=(z==0) by rw[beq_self_eq_true,Bool.true_and]);refine mpa 8 rfl (.bool true) (fun w=> ?_) ?_
   . go_simp
   refine za 9 rfl ?_;refine za 10 rfl ?_;refine mpc 11 rfl kr br (fun K hK=> ?_);go_simp;refine(HZ.out _).mono ?_;rintro e w4 ⟨rfl,hd⟩;refine hK.out _ _ (.inl kr) ?_;have HD4:=zh (HD3.out.trans hd);clear hK K hd HD3 HZ;refine za 12 rfl ?_;refine za 13 rfl ?_;refine za 14 rfl ?_;refine qc kr ?_ _;go_wp2;go_ret;exact⟨by rw[HQ.out];rfl,HD4.out.only⟩
 . have hq:(o==i)=false:=by simpa using h
   have HQ:=zh (show(o==i && z==0)=false by rw[hq];rfl);refine mpa 8 rfl (.bool false) (fun w=> ?_) ?_
   . go_simp
   refine za 9 rfl ?_;refine mpp 10 rfl ?_
   try simp only[Act.put,k1,k2,k3]
   refine mpp 11 rfl ?_
   try simp only[Act.put,k1,k2,k3]
   refine mpp 12 rfl ?_
   try simp only[Act.put,k1,k2,k3]
   refine za 13 rfl ?_;refine za 14 rfl ?_;refine qc kr ?_ _;go_wp2;go_ret;exact⟨by rw[HQ.out];rfl,HD3.out.only⟩
theorem qld(g:Nat)(nv:Value)(h:RunP w B p A cp nv r)(hb:Row w g 110 #[Value.pointer (some ⟨B,0,none⟩)])(ha:0<=r.a/\r.a<4294967296):qbx A w (.func (.func 171) #[] #[.pointer (some ⟨g,0,none⟩)]) (qbp (iF r.a)):=by
 intro v w1 hO h0 h1;have hb1:Row w1 g 110 #[Value.pointer (some ⟨B,0,none⟩)]:=h.aside hb hO.turned2 yh;have hr1:Row w1 B 108 (r.cells (.pointer p) nv):=h.row.only hO (fun e=>h.far (.inr e) rfl);have HT:=zh (qsp g r.a v B w1 hb1 (hr1.cell_ (i:=6) rfl) ha h0 h1);generalize qbp (iF r.a) v=q at *;clear h hO hb1 hr1 ha h0 h1 hb;have hn:=qa5
 go_enter_defers func311, ntmps311
 go_wp2_with fail;refine HT.out.mono ?_;rintro e w2 ⟨rfl,hO⟩;have HO:=zh hO;clear hO HT;go_wp2;refine leaves_cons (f:= 319) (args:= #[]) (by simp) (by simp[go_sem]) ?_;refine(jp _).mono ?_;rintro e u' w'' ⟨rfl,rfl,rfl⟩;exact⟨_,results_tmp rfl _ _ _,rfl,HO.out⟩
theorem ql6(S:St w0 B p A cp [] 900 r w)(hx:Words r.xs)(ha:0<=r.a/\r.a<4294967296):Calls prog 86 #[Value.pointer (some ⟨B,0,none⟩)] w (qj B p A cp w0 (.tuple #[]) (r.pAdmit 0 (qbp (iF r.a)))):=by
 obtain⟨q,hq⟩:∃q,qbp (iF r.a)=q:=⟨_,rfl⟩;generalize hsn:(r.stepR 0 q).seen=sn;generalize hdn:(r.stepR 0 q).done=dn;obtain⟨r1,hr1⟩:∃r1,r.wait 0 q=r1:=⟨_,rfl⟩;have H:=zh (And.intro hsn (And.intro hdn (And.intro hr1 hx)));rw[hq];replace S:=qy8 S
 have HH:=zh (show qbx A (w.alloc (.cells #[Value.pointer (some ⟨B,0,none⟩)] 110)) (.func (.func 171) #[] #[.pointer (some ⟨w.heap.size,0,none⟩)]) q by
  obtain⟨nv,h⟩:=S.run
  exact hq▸qld w.heap.size nv h (S.rows _ (.head _)) ha)
 clear hsn hdn hr1 hx hq ha;go_enter func86, ntmps86
 go_upto_region 1 with(fail)
 generalize w.alloc (.cells #[Value.pointer (some ⟨B,0,none⟩)] 110)=w1 at *;generalize w.heap.size=g0 at *;have b0:=S.c0;go_wp2_with fail;clear b0;refine qes S HH.out H.out.2.2.2 H.out.1 H.out.2.1 H.out.2.2.1 fun w S b0=> ?_;clear HH
 cases sn
 all_goals cases dn
 . go_wp2;go_returns;exact S.fit (by unfold LS.pAdmit;rw[H.out.1,H.out.2.1,H.out.2.2.1];rfl)
 . go_wp2_with fail;refine xf S fun w S b0=> ?_;go_wp2;go_returns;exact S.fit (by unfold LS.pAdmit;rw[H.out.1,H.out.2.1,H.out.2.2.1];rfl)
 . go_wp2_with fail;refine yn S fun w S b0=> ?_;go_wp2;go_returns;exact S.fit (by unfold LS.pAdmit;rw[H.out.1,H.out.2.1,H.out.2.2.1];rfl)
 . go_wp2_with fail;refine yn S fun w S b0=> ?_;go_wp2_with fail;refine xf S fun w S b0=> ?_;go_wp2;go_returns;exact S.fit (by unfold LS.pAdmit;rw[H.out.1,H.out.2.1,H.out.2.2.1];rfl)
end
end Go.Proofs.YtgebffjejifidaaGreat
