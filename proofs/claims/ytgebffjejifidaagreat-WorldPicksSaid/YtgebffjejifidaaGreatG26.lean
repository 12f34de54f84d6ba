import Derived.Test.YtgebffjejifidaaGreatG1
import Derived.Test.YtgebffjejifidaaGreatG9
import Derived.Test.YtgebffjejifidaaGreatG2
import Derived.Test.YtgebffjejifidaaGreatG10
set_option linter.unusedVariables false
set_option linter.unusedSimpArgs false
set_option maxHeartbeats 1000000
namespace Go.Proofs.YtgebffjejifidaaGreat
open Go.RowKit Tryz
theorem qmu:jy 4 :=⟨dc,dc,dc⟩
theorem qos(v:Int):qdw v 0 1=v%2:=by
 show v/pw 0%pw 1=v%2;rw[show pw 0=1 from rfl,show pw 1=2 from rfl,Int.ediv_one]
theorem qgx(v:Int)(w:World)(hv:0<=v/\v<4294967296):
 Calls prog 229 #[.int .u32 v] w fun e w'=>e= .returned (.int .u32 (yw v))/\Drew w w':=by
 have HV:=zh hv;clear hv;go_enter func229, ntmps229;go_wp2_with fail;refine(qd8 v 0 1 _ HV.out).mono ?_;rw[qos];generalize hb:v%2=b
 have hb2:0<=b/\b<2:=by omega
 have HB:=zh (show yw v=2+b by unfold yw;rw[hb]);clear hb;rintro e w1 ⟨rfl,hd⟩;have HD:=zh hd;clear hd;go_wp2;go_ret;refine⟨congrArg (fun x=>Ending.returned (.int .u32 x)) ?_,HD.out⟩;rw[HB.out]
theorem qox{r r':LS}{d:Bool}(h:r.mxEnter 2 2=(r',d)):r.wEnter=if d then r'.go 5 else r':=by unfold LS.wEnter;rw[h]
theorem qji{r r':LS}{a:Int}{ok:Bool}{d:Bool}(h:r.mxGive 2 a [8]=(r',d)):r.wGive a ok=if d then r'.fin ok else r':=by unfold LS.wGive;rw[h]
theorem qxo{r r':LS}{d i:Bool}(h:r.mxTry 2 0=(r',d,i)):r.wTry=if d then(if i then(r'.note 2 2).go 2 else(r'.note 5 0).fin false)else r':=by unfold LS.wTry;rw[h]
theorem qqj{r:LS}(h:(r.mxTry 2 0).2.1=false):(r.mxTry 2 0).2.2=false:=by
 unfold LS.mxTry at h ⊢
 by_cases l0:r.line=0
 . rw[if_pos l0]
 by_cases l1:r.line=0+1
 . rw[if_neg l0,if_pos l1]at h;cases h
 . rw[if_neg l0,if_neg l1]
theorem qw2(r:LS):(r.mxTry 2 0).1.ns=r.ns:=by unfold LS.mxTry;(repeat' split)<;>rfl
section
variable{B g0 g1 g2:Nat}{p A:Option Addr}{cp:Nat}{nv:Value}{r:LS}{w:World}
theorem qds(r':LS)(h:RunP w B p A cp nv r)(hl:r.ns.length<=900)(hc:∀w' nv,RunP w' B p A cp nv r->Calls prog 35 #[Value.pointer (some ⟨B,0,none⟩)] w' (qj B p A cp w' (.tuple #[]) r')):
 Calls prog 133 #[Value.pointer (some ⟨B,0,none⟩)] w (Clo 224 B p A cp r' w):=by
 have hclo:∀{g0:Nat} {w:World} (S:St w B p A cp [(g0, 110, #[Value.pointer (some ⟨B,0,none⟩)])] 900 r w),Calls prog 224 #[.pointer (some ⟨g0,0,none⟩)] w (qj B p A cp w (.tuple #[]) r'):=by
  intro g0 w S;have HC:=zh (hc w);have b0:=S.c0;clear hc;go_enter func224, ntmps224;go_wp2_with fail;refine S.call0 HC.out (Nat.le_refl _) fun w S b0=> ?_;go_wp2;go_returns;exact S.done
 obtain⟨e,S⟩:=mk1 h hl;have HC:=zh (hclo S);clear S h hl hc hclo;go_enter func133, ntmps133;go_wp2;go_ret;exact⟨_,rfl,e,HC.out⟩
theorem qlr(S:St w B p A cp [(g0, 110, #[Value.pointer (some ⟨B,0,none⟩)])] 900 r w)(hx:Words r.xs)(ha:0<=r.a/\r.a<4294967296):Calls prog 225 #[.pointer (some ⟨g0,0,none⟩)] w (qj B p A cp w (.tuple #[]) r.wEnter):=by
 obtain⟨r',d,hd⟩:∃r' d,r.mxEnter 2 2=(r',d):=⟨_,_,rfl⟩;have hc:=fun nv h=>qgz B p A cp nv r 2 2 w h S.len hx ha;rw[hd]at hc;have HC:=zh hc;have H:=zh (qox hd);have b0:=S.c0;clear hc hd hx ha
 cases d
 all_goals (go_enter func225, ntmps225)
 . go_wp2_with fail;refine S.call0 HC.out (Nat.le_refl _) fun w S b0=> ?_;go_wp2;go_returns;exact S.fit (by rw[H.out];rfl)
 . go_wp2_with fail;refine S.call0 HC.out (Nat.le_refl _) fun w S b0=> ?_;go_wp2_with fail;refine sGo S fun w S b0=> ?_;go_wp2;go_returns;exact S.fit (by rw[H.out];rfl)
theorem qk5(h:RunP w B p A cp nv r)(hl:r.ns.length<=900)(hx:Words r.xs)(ha:0<=r.a/\r.a<4294967296):Calls prog 134 #[Value.pointer (some ⟨B,0,none⟩)] w (Clo 225 B p A cp r.wEnter w):=by
 obtain⟨e,S⟩:=mk1 h hl;have HC:=zh (qlr S hx ha);clear S h hl hx ha;go_enter func134, ntmps134;go_wp2;go_ret;exact⟨_,rfl,e,HC.out⟩
theorem qpg(a:Int)(ok:Bool)(S:St w B p A cp [(g0, 110, #[Value.pointer (some ⟨B,0,none⟩)]),(g1, 3, #[.int .i64 a]),(g2, 4, #[.bool ok])] 900 r w)(hx:Words r.xs)(ha:0<=r.a/\r.a<4294967296)(hr0: -1000<=a)(hr1:a<=1000):
 Calls prog 234 #[.pointer (some ⟨g0,0,none⟩),.pointer (some ⟨g1,0,none⟩),.pointer (some ⟨g2,0,none⟩)] w (qj B p A cp w (.tuple #[]) (r.wGive a ok)):=by
 have e0:=(Only.refl Nil w).alloc (.cells #[.int .i64 8] 3);obtain⟨r',d,hd⟩:∃r' d,r.mxGive 2 a [8]=(r',d):=⟨_,_,rfl⟩;obtain⟨nv0,h0⟩:=S.run;have hc:=fun nv h=>qk0 B p A cp nv r 2 a (w.alloc (.cells #[.int .i64 8] 3)) h S.len hx ha _ [8] (vz h0 8) dc hr0 hr1;rw[hd]at hc;have HC:=zh hc;have H:=zh (qji (ok:=ok) hd);have S8:=S.keep e0;have b0:=S.c0;have b1:=S.rows.c1;clear hc hd hx ha hr0 hr1 e0 h0 S
 cases d
 all_goals (go_enter func234, ntmps234)
 . go_wp2_with fail;refine S8.call0 HC.out (Nat.le_refl _) fun w S b0=> ?_;go_wp2;go_returns;exact S.fit (by rw[H.out];rfl)
 . go_wp2_with fail;refine S8.call0 HC.out (Nat.le_refl _) fun w S b0=> ?_;have b2:=S.rows.c2;go_wp2_with fail;refine xf S fun w S b0=> ?_;go_wp2;go_returns;exact S.fit (by rw[H.out];rfl)
theorem qb6(a:Int)(ok:Bool)(h:RunP w B p A cp nv r)(hl:r.ns.length<=900)(hx:Words r.xs)(ha:0<=r.a/\r.a<4294967296)(hr0: -1000<=a)(hr1:a<=1000):Calls prog 140 #[Value.pointer (some ⟨B,0,none⟩),.int .i64 a,.bool ok] w (Clo 234 B p A cp (r.wGive a ok) w):=by
 obtain⟨e,S⟩:=mk3 h hl yv qmu;have HC:=zh (qpg a ok S hx ha hr0 hr1);clear S h hl hx ha hr0 hr1;go_enter func140, ntmps140;go_wp2;go_ret;exact⟨_,rfl,e,HC.out⟩
theorem qtn(S:St w B p A cp [(g0, 110, #[Value.pointer (some ⟨B,0,none⟩)])] 900 r w)(hx:Words r.xs)(ha:0<=r.a/\r.a<4294967296):Calls prog 297 #[.pointer (some ⟨g0,0,none⟩)] w (qj B p A cp w (.tuple #[]) r.wTry):=by
 have hg:(r.mxTry 2 0).1.ns.length<=900:=by rw[qw2];exact S.len
 have hdi:=qqj (r:=r);obtain⟨r',d,i,hd⟩:∃r' d i,r.mxTry 2 0=(r',d,i):=⟨_,_,_,rfl⟩;have hc:=fun nv h=>qnf B p A cp nv r 2 0 w h S.len hx ha dc dc;rw[hd]at hc hdi hg;have HC:=zh hc;have HG:=zh (show r'.ns.length<=900 from hg);have H:=zh (qxo hd);have b0:=S.c0;clear hc hd hx ha hg
 cases d
 . have hi:i=false:=hdi rfl;subst hi;clear hdi;go_enter func297, ntmps297;go_wp2_with fail;refine S.call0 HC.out HG.out fun w S b0=> ?_;go_wp2;go_returns;exact S.fit (by rw[H.out];rfl)
 . cases i
   . clear hdi;go_enter func297, ntmps297;go_wp2_with fail;refine S.call0 HC.out HG.out fun w S b0=> ?_;go_wp2_with fail;refine yn S fun w S b0=> ?_;go_wp2_with fail;refine xf S fun w S b0=> ?_;go_wp2;go_returns;exact S.fit (by rw[H.out];rfl)
   . clear hdi;go_enter func297, ntmps297;go_wp2_with fail;refine S.call0 HC.out HG.out fun w S b0=> ?_;go_wp2_with fail;refine yn S fun w S b0=> ?_;go_wp2_with fail;refine sGo S fun w S b0=> ?_;go_wp2;go_returns;exact S.fit (by rw[H.out];rfl)
theorem qgu(h:RunP w B p A cp nv r)(hl:r.ns.length<=900)(hx:Words r.xs)(ha:0<=r.a/\r.a<4294967296):Calls prog 236 #[Value.pointer (some ⟨B,0,none⟩)] w (Clo 297 B p A cp r.wTry w):=by
 obtain⟨e,S⟩:=mk1 h hl;have HC:=zh (qtn S hx ha);clear S h hl hx ha;go_enter func236, ntmps236;go_wp2;go_ret;exact⟨_,rfl,e,HC.out⟩
theorem qqq(n:Int)(S:St w B p A cp [(g0, 110, #[Value.pointer (some ⟨B,0,none⟩)]),(g1, 3, #[.int .i64 n])] 900 r w):Calls prog 227 #[.pointer (some ⟨g0,0,none⟩),.pointer (some ⟨g1,0,none⟩)] w (qj B p A cp w (.tuple #[]) (r.wKeep n)):=by
 have b0:=S.c0;go_enter func227, ntmps227
 go_upto_region 0 with(fail)
 refine qb (n:=7) 6 (fun w=>w.cell? ⟨g0,0,none⟩=some (Value.pointer (some ⟨B,0,none⟩))) rfl kr b0 (fun hHeld=> ?_);replace S:=S.drew;clear b0;generalize w.drew=w1 at *;refine zt 0 rfl ?_;refine zt 1 rfl ?_;refine mpc 2 rfl kr br (fun K hK=> ?_);go_simp;refine qeq S fun w2 S b0=> ?_;refine hK.out _ _ (.inr b0) ?_;clear hK K hHeld;refine za 3 rfl ?_;refine za 4 rfl ?_;refine za 5 rfl ?_;have c7:=S.c7;have f7:=S.froz 7;refine mpc 6 rfl kr br (fun K hK=> ?_);go_simp;refine hK.out _ _ (.inl kr) ?_;clear hK K c7 f7 b0;replace S:=S.setB (qa r.xs 3);generalize w2.setCell ⟨B,7,none⟩ (.int .u32 (qa r.xs 3))=w3 at *;refine qc kr ?_ _;have b0:=S.c0;have b1:=S.rows.c1;go_wp2_with fail;refine sGo S fun w S b0=> ?_;go_wp2;go_returns;exact S.done
theorem qa2(n:Int)(h:RunP w B p A cp nv r)(hl:r.ns.length<=900):Calls prog 135 #[Value.pointer (some ⟨B,0,none⟩),.int .i64 n] w (Clo 227 B p A cp (r.wKeep n) w):=by
 obtain⟨e,S⟩:=mk2 h hl yv;have HC:=zh (qqq n S);clear S h hl;go_enter func135, ntmps135;go_wp2;go_ret;exact⟨_,rfl,e,HC.out⟩
theorem qti(S:St w B p A cp [(g0, 110, #[Value.pointer (some ⟨B,0,none⟩)])] 900 r w):Calls prog 298 #[.pointer (some ⟨g0,0,none⟩)] w (qj B p A cp w (.tuple #[]) (r.pLook 0 3)):=by
 have b0:=S.c0;go_enter func298, ntmps298
 go_upto_region 0 with(fail)
 refine qb (n:=7) 6 (fun w=>w.cell? ⟨g0,0,none⟩=some (Value.pointer (some ⟨B,0,none⟩))) rfl kr b0 (fun hHeld=> ?_);replace S:=S.drew;clear b0;generalize w.drew=w1 at *;refine zt 0 rfl ?_;refine zt 1 rfl ?_;refine mpc 2 rfl kr br (fun K hK=> ?_);go_simp;refine qeq S fun w2 S b0=> ?_;refine hK.out _ _ (.inr b0) ?_;clear hK K hHeld;refine za 3 rfl ?_;refine za 4 rfl ?_;refine za 5 rfl ?_;have c6:=S.c6;have f6:=S.froz 6;refine mpc 6 rfl kr br (fun K hK=> ?_);go_simp;refine hK.out _ _ (.inl kr) ?_;clear hK K c6 f6 b0;replace S:=S.setA (qa r.xs 0);generalize w2.setCell ⟨B,6,none⟩ (.int .u32 (qa r.xs 0))=w3 at *;refine qc kr ?_ _;have b0:=S.c0;go_wp2_with fail;refine sGo S fun w S b0=> ?_;go_wp2;go_returns;exact S.done
theorem qh7(h:RunP w B p A cp nv r)(hl:r.ns.length<=900):Calls prog 237 #[Value.pointer (some ⟨B,0,none⟩)] w (Clo 298 B p A cp (r.pLook 0 3) w):=by
 obtain⟨e,S⟩:=mk1 h hl;have HC:=zh (qti S);clear S h hl;go_enter func237, ntmps237;go_wp2;go_ret;exact⟨_,rfl,e,HC.out⟩
theorem qv3(n:Int)(S:St w B p A cp [(g0, 110, #[Value.pointer (some ⟨B,0,none⟩)]),(g1, 3, #[.int .i64 n])] 900 r w)(hbb:0<=r.b/\r.b<4294967296):Calls prog 228 #[.pointer (some ⟨g0,0,none⟩),.pointer (some ⟨g1,0,none⟩)] w (qj B p A cp w (.tuple #[]) (r.pAppear n)):=by
 have HBB:=zh hbb;have b0:=S.c0;clear hbb;go_enter func228, ntmps228
 go_upto_region 0 with(fail)
 refine qb (n:=13) 12 (fun w=>w.cell? ⟨g0,0,none⟩=some (Value.pointer (some ⟨B,0,none⟩))/\w.cell? ⟨B,7,none⟩=some (.int .u32 r.b)) rfl kr ⟨b0,S.c7⟩ (fun hHeld=> ?_);replace S:=S.drew;clear b0;generalize w.drew=w1 at *;refine zt 0 rfl ?_;refine zt 1 rfl ?_;refine zt 2 rfl ?_;refine za 3 rfl ?_;refine za 4 rfl ?_;refine za 5 rfl ?_;refine zt 6 rfl ?_;refine mpc 7 rfl kr br (fun K hK=> ?_);go_simp;refine(qgx r.b _ HBB.out).mono ?_;rintro e w2 ⟨rfl,hd⟩;replace S:=S.drewd hd;clear hd;have h2:w2.cell? ⟨g0,0,none⟩=some (Value.pointer (some ⟨B,0,none⟩))/\w2.cell? ⟨B,7,none⟩=some (.int .u32 r.b):=⟨S.c0,S.c7⟩;refine hK.out _ _ (.inr h2) ?_;clear hK K hHeld;refine mpc 8 rfl kr br (fun K hK=> ?_);go_simp;refine qew S fun w3 S b0=> ?_;have h3:w3.cell? ⟨g0,0,none⟩=some (Value.pointer (some ⟨B,0,none⟩))/\w3.cell? ⟨B,7,none⟩=some (.int .u32 r.b):=⟨b0,S.c7⟩;refine hK.out _ _ (.inr h3) ?_;clear hK K h2;refine za 9 rfl ?_;refine za 10 rfl ?_;refine za 11 rfl ?_;have c6:=S.c6;have f6:=S.froz 6;refine mpc 12 rfl kr br (fun K hK=> ?_);go_simp;refine hK.out _ _ (.inl kr) ?_;clear hK K c6 f6 b0 h3;replace S:=S.setA (qa r.xs 0);generalize w3.setCell ⟨B,6,none⟩ (.int .u32 (qa r.xs 0))=w4 at *;refine qc kr ?_ _;have b0:=S.c0;go_wp2_with fail;refine yn S fun w S b0=> ?_;have b1:=S.rows.c1;go_wp2_with fail;refine sGo S fun w S b0=> ?_;go_wp2;go_returns;exact S.done
theorem qe1(n:Int)(h:RunP w B p A cp nv r)(hl:r.ns.length<=900)(hbb:0<=r.b/\r.b<4294967296):Calls prog 136 #[Value.pointer (some ⟨B,0,none⟩),.int .i64 n] w (Clo 228 B p A cp (r.pAppear n) w):=by
 obtain⟨e,S⟩:=mk2 h hl yv;have HC:=zh (qv3 n S hbb);clear S h hl hbb;go_enter func136, ntmps136;go_wp2;go_ret;exact⟨_,rfl,e,HC.out⟩
theorem qu6(inn what:Int)(S:St w B p A cp [(g0, 110, #[Value.pointer (some ⟨B,0,none⟩)]),(g2, 3, #[.int .i64 what])] 900 r w)(hbb:0<=r.b/\r.b<4294967296)(h1:Row w g1 22 #[.int .u32 inn]):
 Calls prog 232 #[.pointer (some ⟨g0,0,none⟩),.pointer (some ⟨g1,0,none⟩),.pointer (some ⟨g2,0,none⟩)] w (qj B p A cp w (.tuple #[]) (r.pVanish inn what)):=by
 have HBB:=zh hbb;have HW:=zh h1;have b0:=S.c0;clear hbb h1;have hw:IntKind.u32.wrap (inn-yw r.b)=(inn-yw r.b)%4294967296:=rfl;go_enter func232, ntmps232
 go_upto_region 0 with(fail)
 refine qb (n:=10) 9 (fun w=>w.cell? ⟨g0,0,none⟩=some (Value.pointer (some ⟨B,0,none⟩))/\w.cell? ⟨g1,0,none⟩=some (.int .u32 inn)/\w.cell? ⟨B,7,none⟩=some (.int .u32 r.b)) rfl kr ⟨b0,HW.out.one,S.c7⟩ (fun hHeld=> ?_);replace S:=S.drew;have HW1:=zh HW.out.drew;clear b0 HW;generalize w.drew=w1 at *;refine zt 0 rfl ?_;refine zt 1 rfl ?_;refine zt 2 rfl ?_;refine za 3 rfl ?_;refine za 4 rfl ?_;refine za 5 rfl ?_;refine zt 6 rfl ?_;refine mpc 7 rfl kr br (fun K hK=> ?_);go_simp;refine(qgx r.b _ HBB.out).mono ?_;rintro e w2 ⟨rfl,hd⟩;replace S:=S.drewd hd;have h2:w2.cell? ⟨g0,0,none⟩=some (Value.pointer (some ⟨B,0,none⟩))/\w2.cell? ⟨g1,0,none⟩=some (.int .u32 inn)/\w2.cell? ⟨B,7,none⟩=some (.int .u32 r.b):=⟨S.c0,(hd.row HW1.out).one,S.c7⟩;refine hK.out _ _ (.inr h2) ?_;clear hK K hHeld HW1 hd;refine mpa 8 rfl (.int .u32 ((inn-yw r.b)%4294967296)) (fun w=> ?_) ?_
 . go_simp
 refine mpc 9 rfl kr br (fun K hK=> ?_);go_simp;refine qew S fun w3 S b0=> ?_;refine hK.out _ _ (.inl kr) ?_;clear hK K h2 hw;refine qc kr ?_ _;have b2:=S.rows.c1;go_wp2_with fail;refine yn S fun w S b0=> ?_;go_wp2_with fail;refine qkh S fun w S b0=> ?_;go_wp2_with fail;refine sGo S fun w S b0=> ?_;go_wp2;go_returns;exact S.done
theorem qgv(inn what:Int)(h:RunP w B p A cp nv r)(hl:r.ns.length<=900)(hbb:0<=r.b/\r.b<4294967296):Calls prog 138 #[Value.pointer (some ⟨B,0,none⟩),.int .u32 inn,.int .i64 what] w (Clo 232 B p A cp (r.pVanish inn what) w):=by
 have e0:=(((Only.refl Nil w).alloc (.cells #[Value.pointer (some ⟨B,0,none⟩)] 110)).alloc (.cells #[.int .u32 inn] 22)).alloc (.cells #[.int .i64 what] 3);have HC:=zh (qu6 inn what (yz (h.keep e0) hl (((zo _).cons (Row.at (k:=w.heap.size+1+1) (by simp))).cons (((Row.new w _ _).alloc _).alloc _)) (qi yh (qi yv qu))) hbb ((Row.new2 w _ _ _).alloc _));have HE:=zh e0;clear h hl hbb e0;go_enter func138, ntmps138;go_wp2;go_ret;exact⟨_,rfl,HE.out,HC.out⟩
theorem qsf(S:St w B p A cp [(g0, 110, #[Value.pointer (some ⟨B,0,none⟩)])] 900 r w):Calls prog 233 #[.pointer (some ⟨g0,0,none⟩)] w (qj B p A cp w (.tuple #[]) r.wCount):=by
 have b0:=S.c0;have hw:IntKind.u32.wrap (r.b+1)=(r.b+1)%4294967296:=rfl;go_enter func233, ntmps233
 go_upto_region 0 with(fail)
 refine qb (n:=8) 7 (fun w=>w.cell? ⟨g0,0,none⟩=some (Value.pointer (some ⟨B,0,none⟩))/\w.cell? ⟨B,7,none⟩=some (.int .u32 r.b)) rfl kr ⟨b0,S.c7⟩ (fun hHeld=> ?_);replace S:=S.drew;clear b0;generalize w.drew=w1 at *;refine zt 0 rfl ?_;refine zt 1 rfl ?_;refine za 2 rfl ?_;refine za 3 rfl ?_;refine za 4 rfl ?_;refine zt 5 rfl ?_;refine mpa 6 rfl (.int .u32 ((r.b+1)%4294967296)) (fun w=> ?_) ?_
 . go_simp
 refine mpc 7 rfl kr br (fun K hK=> ?_);go_simp;refine S.call0 (fun nv h=>qap B p A cp nv r 3 ((r.b+1)%4294967296) _ h) S.len fun w2 S b0=> ?_;refine hK.out _ _ (.inl kr) ?_;clear hK K hHeld hw;refine qc kr ?_ _;go_wp2_with fail;refine sGo S fun w S b0=> ?_;go_wp2;go_returns;exact S.done
theorem qhi(h:RunP w B p A cp nv r)(hl:r.ns.length<=900):Calls prog 139 #[Value.pointer (some ⟨B,0,none⟩)] w (Clo 233 B p A cp r.wCount w):=by
 obtain⟨e,S⟩:=mk1 h hl;have HC:=zh (qsf S);clear S h hl;go_enter func139, ntmps139;go_wp2;go_ret;exact⟨_,rfl,e,HC.out⟩
theorem qp6(S:St w B p A cp [(g0, 110, #[Value.pointer (some ⟨B,0,none⟩)])] 900 r w):Calls prog 302 #[.pointer (some ⟨g0,0,none⟩)] w (qj B p A cp w (.tuple #[]) r.pStop):=by
 have b0:=S.c0;go_enter func302, ntmps302;go_wp2_with fail;refine qew S fun w S b0=> ?_;go_wp2_with fail;refine xf S fun w S b0=> ?_;go_wp2;go_returns;exact S.done
theorem qm1(h:RunP w B p A cp nv r)(hl:r.ns.length<=900):Calls prog 240 #[Value.pointer (some ⟨B,0,none⟩)] w (Clo 302 B p A cp r.pStop w):=by
 obtain⟨e,S⟩:=mk1 h hl;have HC:=zh (qp6 S);clear S h hl;go_enter func240, ntmps240;go_wp2;go_ret;exact⟨_,rfl,e,HC.out⟩
end
theorem qt0(B g0:Nat)(a v:Int)(w:World)(hb:Row w g0 110 #[Value.pointer (some ⟨B,0,none⟩)])(c6:w.cell? ⟨B,6,none⟩=some (.int .u32 a)):
 Calls prog 231 #[.int .u32 v,.pointer (some ⟨g0,0,none⟩)] w fun e w'=>e= .returned (.bool (v==a))/\Only Nil w w':=by
 have b0:w.cell? ⟨g0,0,none⟩=some (Value.pointer (some ⟨B,0,none⟩)):=hb.cell_ (i:=0) rfl;have hw:IntKind.u32.wrap (a-256)=(a-256)%4294967296:=rfl;clear hb;go_enter func231, ntmps231;go_wp2;go_ret;exact⟨rfl,Only.refl _ _⟩
theorem qwn(B g0:Nat)(a v:Int)(w:World)(hb:Row w g0 110 #[Value.pointer (some ⟨B,0,none⟩)])(c6:w.cell? ⟨B,6,none⟩=some (.int .u32 a)):
 Calls prog 301 #[.int .u32 v,.pointer (some ⟨g0,0,none⟩)] w fun e w'=>e= .returned (.bool (v==(a-256)%4294967296))/\Only Nil w w':=by
 have b0:w.cell? ⟨g0,0,none⟩=some (Value.pointer (some ⟨B,0,none⟩)):=hb.cell_ (i:=0) rfl;have hw:IntKind.u32.wrap (a-256)=(a-256)%4294967296:=rfl;clear hb;go_enter func301, ntmps301;go_wp2;go_ret;exact⟨rfl,Only.refl _ _⟩
theorem qkf(B g0:Nat)(p A:Option Addr)(cp:Nat)(nv:Value)(r:LS)(w:World)(h:RunP w B p A cp nv r)(hb:Row w g0 110 #[Value.pointer (some ⟨B,0,none⟩)]):qbx A w (.func (.func 231) #[] #[.pointer (some ⟨g0,0,none⟩)]) r.mine:=by
 intro v w1 hO h0 h1;have hb1:Row w1 g0 110 #[Value.pointer (some ⟨B,0,none⟩)]:=h.aside hb hO.turned2 yh;have hr1:Row w1 B 108 (r.cells (.pointer p) nv):=h.row.only hO (fun e=>h.far (.inr e) rfl);have c6:w1.cell? ⟨B,6,none⟩=some (.int .u32 r.a):=hr1.cell_ (i:=6) rfl;have HT:=zh (qt0 B g0 r.a v w1 hb1 c6);clear h hb hO hb1 hr1 c6;have hn:=qa5
 go_enter_defers func311, ntmps311
 go_wp2_with fail;refine HT.out.mono ?_;rintro e w2 ⟨rfl,hO⟩;have HO:=zh hO;clear hO HT;have HQ:=zh (show r.mine v=(v==r.a)from rfl);generalize hq:(v==r.a)=q at *;clear hq;go_wp2;refine leaves_cons (f:= 319) (args:= #[]) (by simp) (by simp[go_sem]) ?_;refine(jp _).mono ?_;rintro e u' w'' ⟨rfl,rfl,rfl⟩;exact⟨_,results_tmp rfl _ _ _,by rw[HQ.out];rfl,HO.out⟩
theorem qml(B g0:Nat)(p A:Option Addr)(cp:Nat)(nv:Value)(r:LS)(w:World)(h:RunP w B p A cp nv r)(hb:Row w g0 110 #[Value.pointer (some ⟨B,0,none⟩)]):qbx A w (.func (.func 301) #[] #[.pointer (some ⟨g0,0,none⟩)]) r.butMe:=by
 intro v w1 hO h0 h1;have hb1:Row w1 g0 110 #[Value.pointer (some ⟨B,0,none⟩)]:=h.aside hb hO.turned2 yh;have hr1:Row w1 B 108 (r.cells (.pointer p) nv):=h.row.only hO (fun e=>h.far (.inr e) rfl);have c6:w1.cell? ⟨B,6,none⟩=some (.int .u32 r.a):=hr1.cell_ (i:=6) rfl;have HT:=zh (qwn B g0 r.a v w1 hb1 c6);clear h hb hO hb1 hr1 c6;have hn:=qa5
 go_enter_defers func311, ntmps311
 go_wp2_with fail;refine HT.out.mono ?_;rintro e w2 ⟨rfl,hO⟩;have HO:=zh hO;clear hO HT;have HQ:=zh (show r.butMe v=(v==(r.a-256)%4294967296)from rfl);generalize hq:(v==(r.a-256)%4294967296)=q at *;clear hq;go_wp2;refine leaves_cons (f:= 319) (args:= #[]) (by simp) (by simp[go_sem]) ?_;refine(jp _).mono ?_;rintro e u' w'' ⟨rfl,rfl,rfl⟩;exact⟨_,results_tmp rfl _ _ _,by rw[HQ.out];rfl,HO.out⟩
section
variable{B g0 g1:Nat}{p A:Option Addr}{cp:Nat}{nv:Value}{r:LS}{w:World}
theorem qqg(S:St w B p A cp [(g0, 110, #[Value.pointer (some ⟨B,0,none⟩)])] 900 r w)(hx:Words r.xs):Calls prog 230 #[.pointer (some ⟨g0,0,none⟩)] w (qj B p A cp w (.tuple #[]) (r.pAdmit 1 r.mine)):=by
 generalize hsn:(r.stepR 1 r.mine).seen=sn;generalize hdn:(r.stepR 1 r.mine).done=dn;obtain⟨r1,hr1⟩:∃r1,r.wait 1 r.mine=r1:=⟨_,rfl⟩;have H:=zh (And.intro hsn (And.intro hdn (And.intro hr1 hx)));have b0:=S.c0;obtain⟨nv,hP⟩:=S.run;have HH:=zh (qkf B g0 p A cp nv r _ hP (S.rows _ (.head _)));clear hsn hdn hr1 hx hP;go_enter func230, ntmps230;go_wp2_with fail;clear b0;refine qes S HH.out H.out.2.2.2 H.out.1 H.out.2.1 H.out.2.2.1 fun w S b0=> ?_;clear HH
 cases sn
 all_goals cases dn
 . go_wp2;go_returns;exact S.fit (by unfold LS.pAdmit;rw[H.out.1,H.out.2.1,H.out.2.2.1];rfl)
 . go_wp2_with fail;refine xf S fun w S b0=> ?_;go_wp2;go_returns;exact S.fit (by unfold LS.pAdmit;rw[H.out.1,H.out.2.1,H.out.2.2.1];rfl)
 . go_wp2_with fail;refine yn S fun w S b0=> ?_;go_wp2;go_returns;exact S.fit (by unfold LS.pAdmit;rw[H.out.1,H.out.2.1,H.out.2.2.1];rfl)
 . go_wp2_with fail;refine yn S fun w S b0=> ?_;go_wp2_with fail;refine xf S fun w S b0=> ?_;go_wp2;go_returns;exact S.fit (by unfold LS.pAdmit;rw[H.out.1,H.out.2.1,H.out.2.2.1];rfl)
theorem qg9(h:RunP w B p A cp nv r)(hl:r.ns.length<=900)(hx:Words r.xs):Calls prog 137 #[Value.pointer (some ⟨B,0,none⟩)] w (Clo 230 B p A cp (r.pAdmit 1 r.mine) w):=by
 obtain⟨e,S⟩:=mk1 h hl;have HC:=zh (qqg S hx);clear S h hl hx;go_enter func137, ntmps137;go_wp2;go_ret;exact⟨_,rfl,e,HC.out⟩
theorem qkw(S:St w B p A cp [(g0, 110, #[Value.pointer (some ⟨B,0,none⟩)])] 900 r w)(hx:Words r.xs):Calls prog 300 #[.pointer (some ⟨g0,0,none⟩)] w (qj B p A cp w (.tuple #[]) r.wOthers):=by
 generalize hsn:(r.stepR 1 r.butMe).seen=sn;generalize hdn:(r.stepR 1 r.butMe).done=dn;obtain⟨r1,hr1⟩:∃r1,r.wait 1 r.butMe=r1:=⟨_,rfl⟩;have H:=zh (And.intro hsn (And.intro hdn (And.intro hr1 hx)));have b0:=S.c0;obtain⟨nv,hP⟩:=S.run;have HH:=zh (qml B g0 p A cp nv r _ hP (S.rows _ (.head _)));clear hsn hdn hr1 hx hP;go_enter func300, ntmps300;go_wp2_with fail;clear b0;refine qes S HH.out H.out.2.2.2 H.out.1 H.out.2.1 H.out.2.2.1 fun w S b0=> ?_;clear HH
 cases sn
 all_goals cases dn
 . go_wp2;go_returns;exact S.fit (by unfold LS.wOthers;rw[H.out.1,H.out.2.1,H.out.2.2.1];rfl)
 . go_wp2_with fail;refine sGo S fun w S b0=> ?_;go_wp2;go_returns;exact S.fit (by unfold LS.wOthers;rw[H.out.1,H.out.2.1,H.out.2.2.1];rfl)
 . go_wp2_with fail;refine yn S fun w S b0=> ?_;go_wp2;go_returns;exact S.fit (by unfold LS.wOthers;rw[H.out.1,H.out.2.1,H.out.2.2.1];rfl)
 . go_wp2_with fail;refine yn S fun w S b0=> ?_;go_wp2_with fail;refine sGo S fun w S b0=> ?_;go_wp2;go_returns;exact S.fit (by unfold LS.wOthers;rw[H.out.1,H.out.2.1,H.out.2.2.1];rfl)
theorem qip(h:RunP w B p A cp nv r)(hl:r.ns.length<=900)(hx:Words r.xs):Calls prog 239 #[Value.pointer (some ⟨B,0,none⟩)] w (Clo 300 B p A cp r.wOthers w):=by
 obtain⟨e,S⟩:=mk1 h hl;have HC:=zh (qkw S hx);clear S h hl hx;go_enter func239, ntmps239;go_wp2;go_ret;exact⟨_,rfl,e,HC.out⟩
theorem qn2(n:Int)(S:St w B p A cp [(g0, 110, #[Value.pointer (some ⟨B,0,none⟩)]),(g1, 3, #[.int .i64 n])] 900 r w):Calls prog 299 #[.pointer (some ⟨g0,0,none⟩),.pointer (some ⟨g1,0,none⟩)] w (qj B p A cp w (.tuple #[]) (r.wWeigh n)):=by
 have b0:=S.c0;go_enter func299, ntmps299
 go_upto_region 0 with(fail)
 refine qb (n:=7) 6 (fun w=>w.cell? ⟨g0,0,none⟩=some (Value.pointer (some ⟨B,0,none⟩))) rfl kr b0 (fun hHeld=> ?_);replace S:=S.drew;clear b0;generalize w.drew=w1 at *;refine zt 0 rfl ?_;refine zt 1 rfl ?_;refine mpc 2 rfl kr br (fun K hK=> ?_);go_simp;refine qeq S fun w2 S b0=> ?_;refine hK.out _ _ (.inr b0) ?_;clear hK K hHeld;refine za 3 rfl ?_;refine za 4 rfl ?_;refine za 5 rfl ?_;have c7:=S.c7;have f7:=S.froz 7;refine mpc 6 rfl kr br (fun K hK=> ?_);go_simp;refine hK.out _ _ (.inl kr) ?_;clear hK K c7 f7 b0;replace S:=S.setB (qa r.xs 1);generalize w2.setCell ⟨B,7,none⟩ (.int .u32 (qa r.xs 1))=w3 at *;refine qc kr ?_ _;have b0:=S.c0;clear b0
 go_upto_region 1 with(fail)
 refine qb (n:=13) 12 (fun w=>w.cell? ⟨g0,0,none⟩=some (Value.pointer (some ⟨B,0,none⟩))/\w.cell? ⟨B,6,none⟩=some (.int .u32 r.a)/\w.cell? ⟨B,7,none⟩=some (.int .u32 (qa r.xs 1))/\w.cell? ⟨g1,0,none⟩=some (.int .i64 n)) rfl kr ⟨S.c0,S.c6,S.c7,S.rows.c1⟩ (fun hHeld=> ?_);replace S:=S.drew;generalize w3.drew=w4 at *;refine zt 0 rfl ?_;refine za 1 rfl ?_;refine za 2 rfl ?_;refine za 3 rfl ?_;refine zt 4 rfl ?_;refine zt 5 rfl ?_;refine za 6 rfl ?_;refine za 7 rfl ?_;refine za 8 rfl ?_;refine zt 9 rfl ?_;refine zt 11 rfl ?_;refine mpc 10 rfl kr br (fun K hK=> ?_);go_simp;refine(qc9 r.a (qa r.xs 1) _).mono ?_;obtain⟨ah,hz⟩:∃ah,zv r.a (qa r.xs 1)=ah:=⟨_,rfl⟩;rw[hz];have H:=zh hz;clear hz;rintro e w9 ⟨rfl,rfl⟩;refine hK.out _ _ (.inr hHeld) ?_;clear hK K;refine mpc 12 rfl kr br (fun K hK=> ?_);go_simp;refine hK.out _ _ (.inl kr) ?_;clear hK K hHeld;refine qc kr ?_ _;have b0:=S.c0
 by_cases h1:ah<=n
 . go_wp2_with fail;refine sGo S fun w S b0=> ?_;go_wp2;go_returns;exact S.fit (by unfold LS.wWeigh;rw[H.out,if_pos h1])
 . go_wp2_with fail;refine yn S fun w S b0=> ?_;go_wp2_with fail;refine sGo S fun w S b0=> ?_;go_wp2;go_returns;exact S.fit (by unfold LS.wWeigh;rw[H.out,if_neg (show ¬ah<=n by omega)])
theorem qee(n:Int)(h:RunP w B p A cp nv r)(hl:r.ns.length<=900):Calls prog 238 #[Value.pointer (some ⟨B,0,none⟩),.int .i64 n] w (Clo 299 B p A cp (r.wWeigh n) w):=by
 obtain⟨e,S⟩:=mk2 h hl yv;have HC:=zh (qn2 n S);clear S h hl;go_enter func238, ntmps238;go_wp2;go_ret;exact⟨_,rfl,e,HC.out⟩
end
end Go.Proofs.YtgebffjejifidaaGreat
