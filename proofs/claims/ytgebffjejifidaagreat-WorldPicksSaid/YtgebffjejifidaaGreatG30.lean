import Derived.Test.YtgebffjejifidaaGreatG1
import Derived.Test.YtgebffjejifidaaGreatG9
import Derived.Test.YtgebffjejifidaaGreatG2
import Derived.Test.YtgebffjejifidaaGreatG10
set_option linter.unusedVariables false
set_option linter.unusedSimpArgs false
set_option maxHeartbeats 1000000
namespace Go.Proofs.YtgebffjejifidaaGreat
open Go.RowKit Tryz
theorem qfc:jy 4 :=⟨dc,dc,dc⟩
theorem qfy:jy 164 :=⟨dc,dc,dc⟩
theorem qea{r r':LS}{cl:Int}{d:Bool}(h:r.mxEnter 0 cl=(r',d)):r.qEnter cl=if d then r'.go 5 else r':=by unfold LS.qEnter;rw[h]
theorem qf9{r r':LS}{a:Int}{ok:Bool}{l:List Int}{d:Bool}(h:r.mxGive 0 a l=(r',d)):r.qGive a ok l=if d then r'.fin ok else r':=by unfold LS.qGive;rw[h]
def LS.qTryG(r:LS)(cl n:Int):LS:=
 if(r.mxTry 0 0).2.2 then((r.mxTry 0 0).1.note 2 cl).go n else if(r.mxTry 0 0).2.1 then((r.mxTry 0 0).1.note 5 0).fin false else(r.mxTry 0 0).1
theorem qdm{r r':LS}{cl n:Int}{d i:Bool}(h:r.mxTry 0 0=(r',d,i)):r.qTryG cl n=if i then(r'.note 2 cl).go n else if d then(r'.note 5 0).fin false else r':=by unfold LS.qTryG;rw[h]
theorem qam{r:LS}(h:(r.mxTry 0 0).2.1=false):(r.mxTry 0 0).2.2=false:=by
 unfold LS.mxTry at h ⊢
 by_cases l0:r.line=0
 . rw[if_pos l0]
 by_cases l1:r.line=0+1
 . rw[if_neg l0,if_pos l1]at h;cases h
 . rw[if_neg l0,if_neg l1]
theorem qj1(r:LS):(r.mxTry 0 0).1.ns=r.ns:=by unfold LS.mxTry;(repeat' split)<;>rfl
theorem qrh{r:LS}(h:r.op=5):r.qTry=r.qTryG 1 5:=by
 unfold LS.qTry LS.qTryG;have hd:=qam (r:=r);rw[if_pos h];generalize r.mxTry 0 0=t at hd ⊢;obtain⟨r',d,i⟩:=t
 cases d
 . have:i=false:=hd rfl;subst this;rfl
 . cases i<;>rfl
theorem qib{r:LS}(h:r.op≠5):r.qTry=r.qTryG 2 2:=by
 unfold LS.qTry LS.qTryG;have hd:=qam (r:=r);rw[if_neg h];generalize r.mxTry 0 0=t at hd ⊢;obtain⟨r',d,i⟩:=t
 cases d
 . have:i=false:=hd rfl;subst this;rfl
 . cases i<;>rfl
section
variable{B g0 g1 g2 g3:Nat}{p A:Option Addr}{cp:Nat}{nv:Value}{r:LS}{w:World}
theorem qo9(cl:Int)(S:St w B p A cp [(g0, 110, #[Value.pointer (some ⟨B,0,none⟩)]),(g1, 3, #[.int .i64 cl])] 900 r w)(hx:Words r.xs)(ha:0<=r.a/\r.a<4294967296):Calls prog 241 #[.pointer (some ⟨g0,0,none⟩),.pointer (some ⟨g1,0,none⟩)] w (qj B p A cp w (.tuple #[]) (r.qEnter cl)):=by
 obtain⟨r',d,hd⟩:∃r' d,r.mxEnter 0 cl=(r',d):=⟨_,_,rfl⟩;have HC:=zh (fun nv h=>(by have hc:=qgz B p A cp nv r 0 cl w h S.len hx ha;rw[hd]at hc;exact hc:Calls prog 226 #[Value.pointer (some ⟨B,0,none⟩),.int .i64 0,.int .i64 cl] w (qj B p A cp w (.bool d) r')));have H:=zh (qea hd);have b0:=S.c0;have b1:=S.rows.c1;clear hd hx ha
 cases d
 all_goals (go_enter func241, ntmps241)
 . go_wp2_with fail;refine S.call0 HC.out (Nat.le_refl _) fun w S b0=> ?_;go_wp2;go_returns;exact S.fit (by rw[H.out];rfl)
 . go_wp2_with fail;refine S.call0 HC.out (Nat.le_refl _) fun w S b0=> ?_;go_wp2_with fail;refine sGo S fun w S b0=> ?_;go_wp2;go_returns;exact S.fit (by rw[H.out];rfl)
theorem qga(cl:Int)(h:RunP w B p A cp nv r)(hl:r.ns.length<=900)(hx:Words r.xs)(ha:0<=r.a/\r.a<4294967296):Calls prog 142 #[Value.pointer (some ⟨B,0,none⟩),.int .i64 cl] w (Clo 241 B p A cp (r.qEnter cl) w):=by
 obtain⟨e,S⟩:=mk2 h hl yv;have HC:=zh (qo9 cl S hx ha);clear S h hl hx ha;go_enter func142, ntmps142;go_wp2;go_ret;exact⟨_,rfl,e,HC.out⟩
theorem qt9(a:Int)(ok:Bool)(V:Value)(l:List Int)(S:St w B p A cp [(g0, 110, #[Value.pointer (some ⟨B,0,none⟩)]),(g1, 3, #[.int .i64 a]),(g2, 164, #[V]),(g3, 4, #[.bool ok])] 900 r w)(hx:Words r.xs)(ha:0<=r.a/\r.a<4294967296)(hw:Whats B A w V l)(hm:l.length<=90)(hr0: -1000<=a)(hr1:a<=1000):
 Calls prog 243 #[.pointer (some ⟨g0,0,none⟩),.pointer (some ⟨g1,0,none⟩),.pointer (some ⟨g2,0,none⟩),.pointer (some ⟨g3,0,none⟩)] w (qj B p A cp w (.tuple #[]) (r.qGive a ok l)):=by
 obtain⟨r',d,hd⟩:∃r' d,r.mxGive 0 a l=(r',d):=⟨_,_,rfl⟩;have hc:=fun nv h=>qk0 B p A cp nv r 0 a w h S.len hx ha V l hw hm hr0 hr1;rw[hd]at hc;have HC:=zh hc;have H:=zh (qf9 (ok:=ok) hd);obtain⟨VA,vc,rfl,_⟩:=hw;have b0:=S.c0;have b1:=S.rows.c1;have b2:=S.rows.c2;clear hc hd hx ha hm hr0 hr1
 cases d
 all_goals (go_enter func243, ntmps243)
 . go_wp2_with fail;refine S.call0 HC.out (Nat.le_refl _) fun w S b0=> ?_;go_wp2;go_returns;exact S.fit (by rw[H.out];rfl)
 . go_wp2_with fail;refine S.call0 HC.out (Nat.le_refl _) fun w S b0=> ?_;have b3:=S.rows.c3;go_wp2_with fail;refine xf S fun w S b0=> ?_;go_wp2;go_returns;exact S.fit (by rw[H.out];rfl)
theorem xp(a:Int)(ok:Bool){V:Value}{l:List Int}(h:RunP w B p A cp nv r)(hl:r.ns.length<=900)(hx:Words r.xs)(ha:0<=r.a/\r.a<4294967296)(hw:Whats B A w V l)(hm:l.length<=90)(hr0: -1000<=a)(hr1:a<=1000):
 Calls prog 144 #[Value.pointer (some ⟨B,0,none⟩),.int .i64 a,.bool ok,V] w (Clo 243 B p A cp (r.qGive a ok l) w):=by
 obtain⟨e,S⟩:=mk4 (v1:= .int .i64 a) (v2:= .bool ok) (v3:=V) h hl yv qfc qfy;have HC:=zh (qt9 a ok V l ⟨S.only,((((zo _).cons (S.rows _ (.tail _ (.tail _ (.head _))))).cons (S.rows _ (.tail _ (.tail _ (.tail _ (.head _)))))).cons (S.rows _ (.tail _ (.head _)))).cons (S.rows _ (.head _)),qi yh (qi yv (qi qfy (qi qfc qu))),S.run,S.len⟩ hx ha (hw.move (e.mono (fun _ _ h=>h.elim))) hm hr0 hr1);obtain⟨VA,vc,rfl,_⟩:=hw;clear S h hl hx ha hm hr0 hr1;go_enter func144, ntmps144;go_wp2;go_ret;exact⟨_,rfl,e,HC.out⟩
theorem qvq(cl n:Int)(S:St w B p A cp [(g0, 110, #[Value.pointer (some ⟨B,0,none⟩)]),(g1, 3, #[.int .i64 cl]),(g2, 3, #[.int .i64 n])] 900 r w)(hx:Words r.xs)(ha:0<=r.a/\r.a<4294967296):
 Calls prog 247 #[.pointer (some ⟨g0,0,none⟩),.pointer (some ⟨g1,0,none⟩),.pointer (some ⟨g2,0,none⟩)] w (qj B p A cp w (.tuple #[]) (r.qTryG cl n)):=by
 have hg:(r.mxTry 0 0).1.ns.length<=900:=by rw[qj1];exact S.len
 have hdi:=qam (r:=r);obtain⟨r',d,i,hd⟩:∃r' d i,r.mxTry 0 0=(r',d,i):=⟨_,_,_,rfl⟩;have hc:=fun nv h=>qnf B p A cp nv r 0 0 w h S.len hx ha dc dc;rw[hd]at hc hdi hg;have HC:=zh hc;have HG:=zh (show r'.ns.length<=900 from hg);have H:=zh (qdm (cl:=cl) (n:=n) hd);have b0:=S.c0;clear hc hd hx ha hg
 cases i
 . cases d
   . clear hdi;go_enter func247, ntmps247;go_wp2_with fail;refine S.call0 HC.out HG.out fun w S b0=> ?_;go_wp2;go_returns;exact S.fit (by rw[H.out];rfl)
   . clear hdi;go_enter func247, ntmps247;go_wp2_with fail;refine S.call0 HC.out HG.out fun w S b0=> ?_;go_wp2_with fail;refine yn S fun w S b0=> ?_;go_wp2_with fail;refine xf S fun w S b0=> ?_;go_wp2;go_returns;exact S.fit (by rw[H.out];rfl)
 . cases d
   . cases hdi rfl
   . clear hdi;go_enter func247, ntmps247;go_wp2_with fail;refine S.call0 HC.out HG.out fun w S b0=> ?_;have b1:=S.rows.c1;go_wp2_with fail;refine yn S fun w S b0=> ?_;have b2:=S.rows.c2;go_wp2_with fail;refine sGo S fun w S b0=> ?_;go_wp2;go_returns;exact S.fit (by rw[H.out];rfl)
theorem qff(cl n:Int)(h:RunP w B p A cp nv r)(hl:r.ns.length<=900)(hx:Words r.xs)(ha:0<=r.a/\r.a<4294967296):Calls prog 147 #[Value.pointer (some ⟨B,0,none⟩),.int .i64 cl,.int .i64 n] w (Clo 247 B p A cp (r.qTryG cl n) w):=by
 obtain⟨e,S⟩:=mk3 h hl yv yv;have HC:=zh (qvq cl n S hx ha);clear S h hl hx ha;go_enter func147, ntmps147;go_wp2;go_ret;exact⟨_,rfl,e,HC.out⟩
theorem qvk(n:Int)(S:St w B p A cp [(g0, 110, #[Value.pointer (some ⟨B,0,none⟩)]),(g1, 3, #[.int .i64 n])] 900 r w):Calls prog 242 #[.pointer (some ⟨g0,0,none⟩),.pointer (some ⟨g1,0,none⟩)] w (qj B p A cp w (.tuple #[]) ((r.doA 3 1 1 0).go n)):=by
 have b0:=S.c0;go_enter func242, ntmps242;go_wp2_with fail;refine qew S fun w S b0=> ?_;have b1:=S.rows.c1;go_wp2_with fail;refine sGo S fun w S b0=> ?_;go_wp2;go_returns;exact S.done
theorem qf8(n:Int)(h:RunP w B p A cp nv r)(hl:r.ns.length<=900):Calls prog 143 #[Value.pointer (some ⟨B,0,none⟩),.int .i64 n] w (Clo 242 B p A cp ((r.doA 3 1 1 0).go n) w):=by
 obtain⟨e,S⟩:=mk2 h hl yv;have HC:=zh (qvk n S);clear S h hl;go_enter func143, ntmps143;go_wp2;go_ret;exact⟨_,rfl,e,HC.out⟩
theorem qu3(S:St w B p A cp [(g0, 110, #[Value.pointer (some ⟨B,0,none⟩)])] 900 r w):Calls prog 244 #[.pointer (some ⟨g0,0,none⟩)] w (qj B p A cp w (.tuple #[]) ((((r.doA 3 1 4294967295 0).note 6 0).wake 1).fin true)):=by
 have b0:=S.c0;go_enter func244, ntmps244;go_wp2_with fail;refine qew S fun w S b0=> ?_;go_wp2_with fail;refine yn S fun w S b0=> ?_;go_wp2_with fail;refine qkh S fun w S b0=> ?_;go_wp2_with fail;refine xf S fun w S b0=> ?_;go_wp2;go_returns;exact S.done
theorem qoo(h:RunP w B p A cp nv r)(hl:r.ns.length<=900):Calls prog 145 #[Value.pointer (some ⟨B,0,none⟩)] w (Clo 244 B p A cp ((((r.doA 3 1 4294967295 0).note 6 0).wake 1).fin true) w):=by
 obtain⟨e,S⟩:=mk1 h hl;have HC:=zh (qu3 S);clear S h hl;go_enter func145, ntmps145;go_wp2;go_ret;exact⟨_,rfl,e,HC.out⟩
theorem qs8(S:St w B p A cp [(g0, 110, #[Value.pointer (some ⟨B,0,none⟩)])] 900 r w):Calls prog 250 #[.pointer (some ⟨g0,0,none⟩)] w (qj B p A cp w (.tuple #[]) (((r.doA 3 1 4294967295 0).note 9 0).fin true)):=by
 have b0:=S.c0;go_enter func250, ntmps250;go_wp2_with fail;refine qew S fun w S b0=> ?_;go_wp2_with fail;refine yn S fun w S b0=> ?_;go_wp2_with fail;refine xf S fun w S b0=> ?_;go_wp2;go_returns;exact S.done
theorem qp9(h:RunP w B p A cp nv r)(hl:r.ns.length<=900):Calls prog 151 #[Value.pointer (some ⟨B,0,none⟩)] w (Clo 250 B p A cp (((r.doA 3 1 4294967295 0).note 9 0).fin true) w):=by
 obtain⟨e,S⟩:=mk1 h hl;have HC:=zh (qs8 S);clear S h hl;go_enter func151, ntmps151;go_wp2;go_ret;exact⟨_,rfl,e,HC.out⟩
theorem qow(S:St w B p A cp [(g0, 110, #[Value.pointer (some ⟨B,0,none⟩)])] 900 r w):Calls prog 149 #[.pointer (some ⟨g0,0,none⟩)] w (qj B p A cp w (.tuple #[]) ((r.note 4 0).fin true)):=by
 have b0:=S.c0;go_enter func149, ntmps149;go_wp2_with fail;refine yn S fun w S b0=> ?_;go_wp2_with fail;refine xf S fun w S b0=> ?_;go_wp2;go_returns;exact S.done
theorem qpq(S:St w B p A cp [(g0, 110, #[Value.pointer (some ⟨B,0,none⟩)])] 900 r w):Calls prog 150 #[.pointer (some ⟨g0,0,none⟩)] w (qj B p A cp w (.tuple #[]) (r.go 3)):=by
 have b0:=S.c0;go_enter func150, ntmps150;go_wp2_with fail;refine sGo S fun w S b0=> ?_;go_wp2;go_returns;exact S.done
theorem qjv:qz 149 :=fun args w=>by simp[callFunc,go_sem, func149, Tryz.f149]
theorem qks:qz 150 :=fun args w=>by simp[callFunc,go_sem, func150, Tryz.f150]
end
theorem quc(v:Int)(w:World):Calls prog 246 #[.int .u32 v] w fun e w'=>e= .returned (.bool (v==0))/\w=w':=by
 go_enter func246, ntmps246;go_wp2;go_ret;exact⟨rfl,rfl⟩
theorem holds_fzero:HoldsAny (.func (.func 246) #[] #[]) isZ:=by
 intro v w h0 h1;have hn:=qa5
 go_enter_defers func311, ntmps311
 go_wp2_with fail;refine(quc v _).mono ?_;rintro e w1 ⟨rfl,rfl⟩;have HQ:=zh (show isZ v=(v==0)from rfl);generalize hq:(v==0)=q at *;clear hq;go_wp2;refine leaves_cons (f:= 319) (args:= #[]) (by simp) (by simp[go_sem]) ?_;refine(jp _).mono ?_;rintro e u' w'' ⟨rfl,rfl,rfl⟩;exact⟨_,results_tmp rfl _ _ _,by rw[HQ.out];rfl,Only.refl _ _⟩
def LS.awaitQ(r:LS):LS:=if(r.stepR 1 isZ).done then((r.wait 1 isZ).noteIf (r.stepR 1 isZ).seen 4).fin true else(r.wait 1 isZ).noteIf (r.stepR 1 isZ).seen 4
section
variable{B g0 g1 g2 g3:Nat}{p A:Option Addr}{cp:Nat}{nv:Value}{r:LS}{w:World}
theorem qot(S:St w B p A cp [(g0, 110, #[Value.pointer (some ⟨B,0,none⟩)])] 900 r w)(hx:Words r.xs):Calls prog 245 #[.pointer (some ⟨g0,0,none⟩)] w (qj B p A cp w (.tuple #[]) r.awaitQ):=by
 generalize hsn:(r.stepR 1 isZ).seen=sn;generalize hdn:(r.stepR 1 isZ).done=dn;obtain⟨r1,hr1⟩:∃r1,r.wait 1 isZ=r1:=⟨_,rfl⟩;have H:=zh (And.intro hsn (And.intro hdn (And.intro hr1 hx)));have b0:=S.c0;clear hsn hdn hr1 hx;go_enter func245, ntmps245;go_wp2_with fail;clear b0;refine qes S holds_fzero.at H.out.2.2.2 H.out.1 H.out.2.1 H.out.2.2.1 fun w S b0=> ?_
 cases sn
 all_goals cases dn
 . go_wp2;go_returns;exact S.fit (by unfold LS.awaitQ;rw[H.out.1,H.out.2.1,H.out.2.2.1];rfl)
 . go_wp2_with fail;refine xf S fun w S b0=> ?_;go_wp2;go_returns;exact S.fit (by unfold LS.awaitQ;rw[H.out.1,H.out.2.1,H.out.2.2.1];rfl)
 . go_wp2_with fail;refine yn S fun w S b0=> ?_;go_wp2;go_returns;exact S.fit (by unfold LS.awaitQ;rw[H.out.1,H.out.2.1,H.out.2.2.1];rfl)
 . go_wp2_with fail;refine yn S fun w S b0=> ?_;go_wp2_with fail;refine xf S fun w S b0=> ?_;go_wp2;go_returns;exact S.fit (by unfold LS.awaitQ;rw[H.out.1,H.out.2.1,H.out.2.2.1];rfl)
theorem qn0(h:RunP w B p A cp nv r)(hl:r.ns.length<=900)(hx:Words r.xs):Calls prog 146 #[Value.pointer (some ⟨B,0,none⟩)] w (Clo 245 B p A cp r.awaitQ w):=by
 obtain⟨e,S⟩:=mk1 h hl;have HC:=zh (qot S hx);clear S h hl hx;go_enter func146, ntmps146;go_wp2;go_ret;exact⟨_,rfl,e,HC.out⟩
def LS.qWeigh(r:LS)(own:Int)(T:LS->LS):LS:=if qa r.xs 1=own then T r.qCount else(r.qCount.note 5 0).go 6
theorem qmf:jy 1 :=⟨dc,dc,dc⟩
structure qy6(FF:FuncId)(T:LS->LS):Prop where
 of:∀{B g0:Nat} {p A:Option Addr} {cp:Nat} {r:LS} {w:World} (S:St w B p A cp [(g0, 110, #[Value.pointer (some ⟨B,0,none⟩)])] 900 r w),Calls prog FF #[.pointer (some ⟨g0,0,none⟩)] w (qj B p A cp w (.tuple #[]) (T r))
theorem qmz(FF:FuncId)(hcf:qz FF)(T:LS->LS)(ht:qy6 FF T)(own:Int)(h1:Row w g1 22 #[.int .u32 own])(h2:¬At A g1)
 (S:St w B p A cp [(g0, 110, #[Value.pointer (some ⟨B,0,none⟩)]),(g2, 1, #[.func (.func FF) #[] #[.pointer (some ⟨g3,0,none⟩)]]),(g3, 110, #[Value.pointer (some ⟨B,0,none⟩)])] 900 r w):
 Calls prog 249 #[.pointer (some ⟨g0,0,none⟩),.pointer (some ⟨g1,0,none⟩),.pointer (some ⟨g2,0,none⟩)] w (qj B p A cp w (.tuple #[]) (r.qWeigh own T)):=by
 have HT:=zh ht;have HCF:=zh hcf;have HB:=zh h1
 have hb:∀w',Only (qd B A) w w'->Row w' g1 22 #[.int .u32 own]:=fun w' ho=>HB.out.only ho (fun e=>by
  obtain⟨nv,hP⟩:=S.run;rcases e with e|e
  . exact qh HB.out hP.row dc e
  . exact h2 e)
 have HW:=zh hb;clear ht hcf h1 h2 hb HB;have b0:=S.c0;go_enter func249, ntmps249
 go_upto_region 0 with(fail)
 refine qb (n:=7) 6 (fun w=>w.cell? ⟨g0,0,none⟩=some (Value.pointer (some ⟨B,0,none⟩))) rfl kr b0 (fun hHeld=> ?_);replace S:=S.drew;clear b0;generalize w.drew=w1 at *;refine zt 0 rfl ?_;refine zt 1 rfl ?_;refine mpc 2 rfl kr br (fun K hK=> ?_);go_simp;refine qeq S fun w2 S b0=> ?_;refine hK.out _ _ (.inr b0) ?_;clear hK K hHeld;refine za 3 rfl ?_;refine za 4 rfl ?_;refine za 5 rfl ?_;have c6:=S.c6;have f6:=S.froz 6;refine mpc 6 rfl kr br (fun K hK=> ?_);go_simp;refine hK.out _ _ (.inl kr) ?_;clear hK K c6 f6 b0;replace S:=S.setA (qa r.xs 1);generalize w2.setCell ⟨B,6,none⟩ (.int .u32 (qa r.xs 1))=w3 at *;refine qc kr ?_ _;have b0:=S.c0;have b1:=(HW.out _ S.only).one;clear b0
 go_upto_region 1 with(fail)
 refine qb (n:=7) 6 (fun w=>w.cell? ⟨g0,0,none⟩=some (Value.pointer (some ⟨B,0,none⟩))/\w.cell? ⟨B,6,none⟩=some (.int .u32 (qa r.xs 1))/\w.cell? ⟨g1,0,none⟩=some (.int .u32 own)) rfl kr ⟨S.c0,S.c6,b1⟩ (fun hHeld=> ?_);replace S:=S.drew;clear b1;generalize w3.drew=w4 at *;refine zt 0 rfl ?_;refine za 1 rfl ?_;refine za 2 rfl ?_;refine za 3 rfl ?_;refine zt 4 rfl ?_;refine zt 5 rfl ?_;refine mpc 6 rfl kr br (fun K hK=> ?_);go_simp;obtain⟨z,hz⟩:∃z,(qa r.xs 1==own)=z:=⟨_,rfl⟩;rw[hz];have H:=zh hz;clear hz;refine hK.out _ _ (.inl kr) ?_;clear hK K hHeld HW;refine qc kr ?_ _;have b0:=S.c0
 cases z
 . go_wp2_with fail;refine yn S fun w S b0=> ?_;go_wp2_with fail;refine sGo S fun w S b0=> ?_;go_wp2;go_returns;exact S.fit (by unfold LS.qWeigh;exact if_neg (beq_eq_false_iff_ne.1 H.out))
 . have b2:=S.rows.c1;have hcf:∀(args:Array Value) (w:World),(callFunc FF args).run prog w= .ok (.enter FF args) w:=HCF.out;go_wp2_with fail;clear b2 hcf;refine S.call0 (fun nv h=>HT.out.of (yz h S.len ((zo _).cons (S.rows _ (.tail _ (.tail _ (.head _))))) (qi yh qu))) (Nat.le_refl _) fun w S b0=> ?_;go_wp2;go_returns;exact S.fit (by unfold LS.qWeigh;exact if_pos (beq_iff_eq.1 H.out))
theorem qer(FF:FuncId)(hcf:qz FF)(T:LS->LS)(ht:qy6 FF T)(own:Int){g3:Nat}(h:RunP w B p A cp nv r)(hl:r.ns.length<=900)(hb:Row w g3 110 #[Value.pointer (some ⟨B,0,none⟩)]):
 Calls prog 148 #[Value.pointer (some ⟨B,0,none⟩),.int .u32 own,.func (.func FF) #[] #[.pointer (some ⟨g3,0,none⟩)]] w (Clo 249 B p A cp (r.qWeigh own T) w):=by
 have e0:=(((Only.refl Nil w).alloc (.cells #[Value.pointer (some ⟨B,0,none⟩)] 110)).alloc (.cells #[.int .u32 own] 22)).alloc (.cells #[.func (.func FF) #[] #[.pointer (some ⟨g3,0,none⟩)]] 1)
 have HC:=zh (qmz FF hcf T ht own ((Row.new2 w _ _ _).alloc _) (fun e=>by have:=h.memo.lt _ (.inr e);omega)
  (yz (h.keep e0) hl (((zo _).cons (hb.only e0 id)).cons (Row.at (k:=w.heap.size+1+1) (by simp))|>.cons (((Row.new w _ _).alloc _).alloc _)) (qi yh (qi qmf (qi yh qu)))))
 have HE:=zh e0;clear h hl hb e0 hcf ht;go_enter func148, ntmps148;go_wp2;go_ret;exact⟨_,rfl,HE.out,HC.out⟩
end
theorem qao{r:LS}{a:Int}{ok:Bool}{l:List Int}(h0:r.line≠a)(h1:r.line≠a+1)(h2:r.line≠a+2)(h3:r.line≠a+3):r.qGive a ok l=r:=
 qf9 (by unfold LS.mxGive;rw[if_neg h0,if_neg h1,if_neg h2,if_neg h3]) (d:=false)
theorem qle{r:LS}(h:qy r.op r.line=0):r.fq=r:=by unfold LS.fq;rw[h];rfl
end Go.Proofs.YtgebffjejifidaaGreat
