import Derived.Test.YtgebffjejifidaaGreatG15
import Derived.Test.YtgebffjejifidaaGreatG2
import Derived.Test.YtgebffjejifidaaGreatG1
import Derived.Test.YtgebffjejifidaaGreatG11
set_option linter.unusedVariables false
set_option linter.unusedSimpArgs false
set_option maxHeartbeats 40000000
set_option maxRecDepth 100000
namespace Go.Proofs.YtgebffjejifidaaGreat
open Go.RowKit Tryz
section
variable{B base:Nat}{A:Option Addr}{l cp:Nat}{r:LS}{w0 w:World}
theorem qfq(S:SR w0 B base A l cp 900 r w)(hx:Words r.xs)(ha:0<=r.a/\r.a<4294967296)(hb:0<=r.b/\r.b<4294967296)(hh:(r.op=6/\r.line=6)\/(r.op=7/\r.line=6)\/(r.op=6/\r.line=7)\/(r.op=7/\r.line=7)\/(r.op=7/\r.line=8)\/(r.op=6/\r.line=9)\/(r.op=7/\r.line=9)):Calls prog 96 #[Value.pointer (some ⟨B,0,none⟩)] w (qg B base A l cp w0 (.tuple #[]) r.pf):=by
 have hno:¬rdI r:=by unfold rdI;omega
 have hrd:=ku S hno;obtain⟨ol,H1⟩:∃ol,Hid (r.op=ol):=⟨_,zh rfl⟩;obtain⟨ln,H2⟩:∃ln,Hid (r.line=ln):=⟨_,zh rfl⟩;rw[H1.out,H2.out]at hh;have HX:=zh hx;have HA:=zh ha;have HB:=zh hb;clear hx ha hb
 have q0:¬ln<0:=by omega
 have q1:¬9<ln:=by omega
 have q2:¬ol<1:=by omega
 have q3:¬8<ol:=by omega
 have hw1:IntKind.i64.wrap (ol*10)=ol*10:=IntWalk.i64_in _ om;have hw2:IntKind.i64.wrap (ol*10+ln)=ol*10+ln:=IntWalk.i64_in _ om;have HH:=zh hh;have HR:=zh hrd;have d0:=decide_eq_false q0;have d1:=decide_eq_false q1;have d2:=decide_eq_false q2;have d3:=decide_eq_false q3;clear hh hrd hno q0 q1 q2 q3;go_enter func96, ntmps96;go_wp2_with fail;refine(HR.out).mono ?_;rintro e w1 ⟨rfl,hd⟩;replace S:=S.drewd hd;clear hd HR
 have c4:w1.cell? ⟨B,4,none⟩=some (.int .i64 ol):=by rw[←H1.out];exact S.c4
 have c5:w1.cell? ⟨B,5,none⟩=some (.int .i64 ln):=by rw[←H2.out];exact S.c5
 have c6:=S.c6;have e0:=(Only.refl Nil w1).alloc (.cells #[.int .i64 0,.int .u32 4294967295,.int .u32 r.a] 179);have HS:=zh (S.keep e0);have HU:=zh (Row.new w1 179 #[.int .i64 0,.int .u32 4294967295,.int .u32 r.a]);clear e0
 go_upto_region 3 with(fail)
 clear d0 d1 d2 d3 c4 c5 c6 S;generalize w1.alloc (.cells #[.int .i64 0,.int .u32 4294967295,.int .u32 r.a] 179)=w2 at *;generalize w1.heap.size=gu at *;have S:=HS.out;clear HS
 have c4:w2.cell? ⟨B,4,none⟩=some (.int .i64 ol):=by rw[←H1.out];exact S.c4
 have c5:w2.cell? ⟨B,5,none⟩=some (.int .i64 ln):=by rw[←H2.out];exact S.c5
 go_upto_region 4 with(fail)
 refine qb (n:=10) 9 (fun w=>w.cell? ⟨B,4,none⟩=some (.int .i64 ol)/\w.cell? ⟨B,5,none⟩=some (.int .i64 ln)) rfl kr ⟨c4,c5⟩ (fun hHeld=> ?_);clear c4 c5;replace S:=S.drew;refine za 0 rfl ?_;refine za 1 rfl ?_;refine za 2 rfl ?_;refine zt 3 rfl ?_;refine mpa 4 rfl (.int .i64 (ol*10)) (fun w=> ?_) ?_
 . go_simp
 refine za 5 rfl ?_;refine za 6 rfl ?_;refine za 7 rfl ?_;refine zt 8 rfl ?_;refine mpc 9 rfl kr br (fun K hK=> ?_);go_simp;refine hK.out _ _ (.inl kr) ?_;clear hK K hHeld hw1 hw2;refine qc kr ?_ _;have hh:=HH.out;clear HH;have HU:=zh HU.out.drew;generalize w2.drew=w3 at *;rcases hh with⟨rfl,rfl⟩|⟨rfl,rfl⟩|⟨rfl,rfl⟩|⟨rfl,rfl⟩|⟨rfl,rfl⟩|⟨rfl,rfl⟩|⟨rfl,rfl⟩
 . have c7:=S.c7;go_wp2_with fail;clear c7;refine(qah r.b _ HB.out).mono ?_;rintro e w4 ⟨rfl,rfl⟩;go_wp2_with fail;refine ks (x:=yw r.b) S fun w4 S=> ?_;have c6:=S.c6;have f6:=S.froz 6;replace S:=S.setA (qa r.xs 0);go_wp2_with fail;clear c6 f6;refine qm S fun w S=> ?_;have c5:=S.c5;have f5:=S.froz 5;replace S:=S.setLine (7);go_wp2;go_returns;exact S.fit (by rw[qyw H1.out H2.out];rfl)
 . have c7:=S.c7;go_wp2_with fail;clear c7;refine(qah r.b _ HB.out).mono ?_;rintro e w4 ⟨rfl,rfl⟩;go_wp2_with fail;refine ks (x:=yw r.b) S fun w4 S=> ?_;have c6:=S.c6;have f6:=S.froz 6;replace S:=S.setA (qa r.xs 0);go_wp2_with fail;clear c6 f6;refine qm S fun w S=> ?_;have c5:=S.c5;have f5:=S.froz 5;replace S:=S.setLine (7);go_wp2;go_returns;exact S.fit (by rw[qzu H1.out H2.out];rfl)
 . obtain⟨sn,hsn⟩:∃sn,(r.stepR 1 (r.mine)).seen=sn:=⟨_,rfl⟩;obtain⟨dn,hdn⟩:∃dn,(r.stepR 1 (r.mine)).done=dn:=⟨_,rfl⟩;obtain⟨r1,hr1⟩:∃r1,r.wait 1 (r.mine)=r1:=⟨_,rfl⟩;have H:=zh (And.intro hsn (And.intro hdn hr1));clear hsn hdn hr1;have u0:=HU.out.cell_ (i:=0) rfl;have u1:=HU.out.cell_ (i:=1) rfl;have u2:=HU.out.cell_ (i:=2) rfl;go_wp2_with fail;clear u0 u1 u2;refine qbl (q:=r.mine) S HX.out (qa7 (qq HX.out 1)) H.out.1 H.out.2.1 H.out.2.2 fun w7 S=> ?_
   cases sn
   all_goals cases dn
   . go_wp2;go_returns;exact S.fit (by rw[qim H1.out H2.out];unfold LS.pAdmit;rw[H.out.1,H.out.2.1,H.out.2.2];try rfl)
   . go_wp2_with fail;refine yu S fun w S=> ?_;go_wp2;go_returns;exact S.fit (by rw[qim H1.out H2.out];unfold LS.pAdmit;rw[H.out.1,H.out.2.1,H.out.2.2];try rfl)
   . go_wp2_with fail;refine qm S fun w S=> ?_;go_wp2;go_returns;exact S.fit (by rw[qim H1.out H2.out];unfold LS.pAdmit;rw[H.out.1,H.out.2.1,H.out.2.2];try rfl)
   . go_wp2_with fail;refine qm S fun w S=> ?_;go_wp2_with fail;refine yu S fun w S=> ?_;go_wp2;go_returns;exact S.fit (by rw[qim H1.out H2.out];unfold LS.pAdmit;rw[H.out.1,H.out.2.1,H.out.2.2];try rfl)
 . obtain⟨sn,hsn⟩:∃sn,(r.stepR 1 (r.butMe)).seen=sn:=⟨_,rfl⟩;obtain⟨dn,hdn⟩:∃dn,(r.stepR 1 (r.butMe)).done=dn:=⟨_,rfl⟩;obtain⟨r1,hr1⟩:∃r1,r.wait 1 (r.butMe)=r1:=⟨_,rfl⟩;have H:=zh (And.intro hsn (And.intro hdn hr1));clear hsn hdn hr1;have c6:=S.c6;have hx1:IntKind.u32.wrap (r.a-256)=(r.a-256)%4294967296:=rfl;go_wp2_with fail;clear c6 hx1;refine qbl (q:=r.butMe) S HX.out (qhc (qq HX.out 1)) H.out.1 H.out.2.1 H.out.2.2 fun w7 S=> ?_
   cases sn
   all_goals cases dn
   . go_wp2;go_returns;exact S.fit (by rw[qj0 H1.out H2.out];unfold LS.pOthers;rw[H.out.1,H.out.2.1,H.out.2.2];try rfl)
   . have c5:=S.c5;have f5:=S.froz 5;replace S:=S.setLine (8);go_wp2;go_returns;exact S.fit (by rw[qj0 H1.out H2.out];unfold LS.pOthers;rw[H.out.1,H.out.2.1,H.out.2.2];try rfl)
   . go_wp2_with fail;refine qm S fun w S=> ?_;go_wp2;go_returns;exact S.fit (by rw[qj0 H1.out H2.out];unfold LS.pOthers;rw[H.out.1,H.out.2.1,H.out.2.2];try rfl)
   . go_wp2_with fail;refine qm S fun w S=> ?_;have c5:=S.c5;have f5:=S.froz 5;replace S:=S.setLine (8);go_wp2;go_returns;exact S.fit (by rw[qj0 H1.out H2.out];unfold LS.pOthers;rw[H.out.1,H.out.2.1,H.out.2.2];try rfl)
 . go_wp2_with fail;refine ks S fun w S=> ?_;go_wp2_with fail;refine yu S fun w S=> ?_;go_wp2;go_returns;exact S.fit (by rw[zb5 H1.out H2.out];rfl)
 . go_wp2_with fail;refine ks S fun w S=> ?_;go_wp2_with fail;refine qm S fun w S=> ?_;go_wp2_with fail;refine vl S fun w S=> ?_
   have c4:w.cell? ⟨B,4,none⟩=some (.int .i64 6):=by rw[←H1.out];exact S.c4
   go_wp2_with fail;clear c4;refine yu S fun w S=> ?_;go_wp2;go_returns;exact S.fit (by rw[qyx H1.out H2.out];rfl)
 . go_wp2_with fail;refine ks S fun w S=> ?_;go_wp2_with fail;refine qm S fun w S=> ?_;go_wp2_with fail;refine vl S fun w S=> ?_
   have c4:w.cell? ⟨B,4,none⟩=some (.int .i64 7):=by rw[←H1.out];exact S.c4
   go_wp2_with fail;clear c4;refine yu S fun w S=> ?_;go_wp2;go_returns;exact S.fit (by rw[qyk H1.out H2.out];rfl)
end
section
variable{B base:Nat}{A:Option Addr}{l cp:Nat}{r:LS}{w0 w:World}
theorem qx8(S:SR w0 B base A l cp 900 r w)(hh:r.line<0\/9<r.line\/r.op<1\/8<r.op):Calls prog 96 #[Value.pointer (some ⟨B,0,none⟩)] w (qg B base A l cp w0 (.tuple #[]) r):=by
 have hno:¬rdI r:=by unfold rdI;omega
 obtain⟨ol,H1⟩:∃ol,Hid (r.op=ol):=⟨_,zh rfl⟩;obtain⟨ln,H2⟩:∃ln,Hid (r.line=ln):=⟨_,zh rfl⟩;rw[H1.out,H2.out]at hh
 by_cases q0:ln<0
 . clear hh;have hrd:=zh (ku S hno);clear hno;go_enter func96, ntmps96;go_wp2_with fail;refine(hrd.out).mono ?_;rintro e w1 ⟨rfl,hd⟩;replace S:=S.drewd hd;clear hd hrd
   have c4:w1.cell? ⟨B,4,none⟩=some (.int .i64 ol):=by rw[←H1.out];exact S.c4
   have c5:w1.cell? ⟨B,5,none⟩=some (.int .i64 ln):=by rw[←H2.out];exact S.c5
   go_wp2;go_returns;exact S.done
 by_cases q1:9<ln
 . clear hh;have hrd:=zh (ku S hno);clear hno;go_enter func96, ntmps96;go_wp2_with fail;refine(hrd.out).mono ?_;rintro e w1 ⟨rfl,hd⟩;replace S:=S.drewd hd;clear hd hrd
   have c4:w1.cell? ⟨B,4,none⟩=some (.int .i64 ol):=by rw[←H1.out];exact S.c4
   have c5:w1.cell? ⟨B,5,none⟩=some (.int .i64 ln):=by rw[←H2.out];exact S.c5
   go_wp2;go_returns;exact S.done
 by_cases q2:ol<1
 . clear hh;have hrd:=zh (ku S hno);clear hno;go_enter func96, ntmps96;go_wp2_with fail;refine(hrd.out).mono ?_;rintro e w1 ⟨rfl,hd⟩;replace S:=S.drewd hd;clear hd hrd
   have c4:w1.cell? ⟨B,4,none⟩=some (.int .i64 ol):=by rw[←H1.out];exact S.c4
   have c5:w1.cell? ⟨B,5,none⟩=some (.int .i64 ln):=by rw[←H2.out];exact S.c5
   go_wp2;go_returns;exact S.done
 . have q3:8<ol:=by omega
   clear hh;have hrd:=zh (ku S hno);clear hno;go_enter func96, ntmps96;go_wp2_with fail;refine(hrd.out).mono ?_;rintro e w1 ⟨rfl,hd⟩;replace S:=S.drewd hd;clear hd hrd
   have c4:w1.cell? ⟨B,4,none⟩=some (.int .i64 ol):=by rw[←H1.out];exact S.c4
   have c5:w1.cell? ⟨B,5,none⟩=some (.int .i64 ln):=by rw[←H2.out];exact S.c5
   go_wp2;go_returns;exact S.done
theorem qfg(S:SR w0 B base A l cp 900 r w)(hx:Words r.xs)(ha:0<=r.a/\r.a<4294967296)(hb:0<=r.b/\r.b<4294967296)(hh:rdI r):Calls prog 96 #[Value.pointer (some ⟨B,0,none⟩)] w (qg B base A l cp w0 (.tuple #[]) r.pf):=by
 have hrd:=zh (quk S hx ha hb hh);clear S hx ha hb hh;go_enter func96, ntmps96;go_wp2_with fail;refine(hrd.out).mono ?_;rintro e w1 ⟨rfl,hO,nv,hP⟩;have H:=zh (And.intro hO hP);clear hO hP hrd;go_wp2;go_returns;exact⟨rfl,H.out.1,nv,H.out.2⟩
def zce(r:LS):Prop:=(0<=r.line/\r.line<=9/\1<=r.op/\r.op<=8)/\vi r.op r.line=0
theorem qno{r:LS}(hc:vi r.op r.line=0):r.pf=r:=by
 unfold LS.pf;rw[hc];rfl
theorem qza{r:LS}(h:r.line<0\/9<r.line\/r.op<1\/8<r.op):r.pf=r:=by
 refine qno ?_;unfold vi
 repeat (first|rw[if_neg om])
theorem zi(S:SR w0 B base A l cp 900 r w)(hx:Words r.xs)(ha:0<=r.a/\r.a<4294967296)(hb:0<=r.b/\r.b<4294967296)(hn:zce r):Calls prog 96 #[Value.pointer (some ⟨B,0,none⟩)] w (qg B base A l cp w0 (.tuple #[]) r.pf):=by
 rw[qno hn.2];obtain⟨hh,hc⟩:=hn
 have hno:¬rdI r:=by
  rintro(⟨e1,e2⟩|⟨e1,e2⟩|⟨e1,e2⟩|⟨e1,e2⟩|⟨e1,e2⟩)<;>(rw[e1,e2]at hc;exact absurd hc dc)
 have hz:¬r.op*10+r.line=30/\¬r.op*10+r.line=31/\¬r.op*10+r.line=32/\¬r.op*10+r.line=33/\¬r.op*10+r.line=34/\¬r.op*10+r.line=40/\¬r.op*10+r.line=41/\¬r.op*10+r.line=42/\¬r.op*10+r.line=43/\¬r.op*10+r.line=60/\¬r.op*10+r.line=61/\¬r.op*10+r.line=62/\¬r.op*10+r.line=63/\¬r.op*10+r.line=64/\¬r.op*10+r.line=65/\¬r.op*10+r.line=66/\¬r.op*10+r.line=67/\¬r.op*10+r.line=69/\¬r.op*10+r.line=70/\¬r.op*10+r.line=71/\¬r.op*10+r.line=72/\¬r.op*10+r.line=73/\¬r.op*10+r.line=74/\¬r.op*10+r.line=75/\¬r.op*10+r.line=76/\¬r.op*10+r.line=77/\¬r.op*10+r.line=78/\¬r.op*10+r.line=79/\¬r.op*10+r.line=80/\¬r.op*10+r.line=81/\¬r.op*10+r.line=82/\¬r.op*10+r.line=83:=by
  refine⟨fun e=> ?_,fun e=> ?_,fun e=> ?_,fun e=> ?_,fun e=> ?_,fun e=> ?_,fun e=> ?_,fun e=> ?_,fun e=> ?_,fun e=> ?_,fun e=> ?_,fun e=> ?_,fun e=> ?_,fun e=> ?_,fun e=> ?_,fun e=> ?_,fun e=> ?_,fun e=> ?_,fun e=> ?_,fun e=> ?_,fun e=> ?_,fun e=> ?_,fun e=> ?_,fun e=> ?_,fun e=> ?_,fun e=> ?_,fun e=> ?_,fun e=> ?_,fun e=> ?_,fun e=> ?_,fun e=> ?_,fun e=> ?_⟩
  . obtain⟨e1,e2⟩:r.op=3/\r.line=0:=by omega
    rw[e1,e2]at hc;exact absurd hc dc
  . obtain⟨e1,e2⟩:r.op=3/\r.line=1:=by omega
    rw[e1,e2]at hc;exact absurd hc dc
  . obtain⟨e1,e2⟩:r.op=3/\r.line=2:=by omega
    rw[e1,e2]at hc;exact absurd hc dc
  . obtain⟨e1,e2⟩:r.op=3/\r.line=3:=by omega
    rw[e1,e2]at hc;exact absurd hc dc
  . obtain⟨e1,e2⟩:r.op=3/\r.line=4:=by omega
    rw[e1,e2]at hc;exact absurd hc dc
  . obtain⟨e1,e2⟩:r.op=4/\r.line=0:=by omega
    rw[e1,e2]at hc;exact absurd hc dc
  . obtain⟨e1,e2⟩:r.op=4/\r.line=1:=by omega
    rw[e1,e2]at hc;exact absurd hc dc
  . obtain⟨e1,e2⟩:r.op=4/\r.line=2:=by omega
    rw[e1,e2]at hc;exact absurd hc dc
  . obtain⟨e1,e2⟩:r.op=4/\r.line=3:=by omega
    rw[e1,e2]at hc;exact absurd hc dc
  . obtain⟨e1,e2⟩:r.op=6/\r.line=0:=by omega
    rw[e1,e2]at hc;exact absurd hc dc
  . obtain⟨e1,e2⟩:r.op=6/\r.line=1:=by omega
    rw[e1,e2]at hc;exact absurd hc dc
  . obtain⟨e1,e2⟩:r.op=6/\r.line=2:=by omega
    rw[e1,e2]at hc;exact absurd hc dc
  . obtain⟨e1,e2⟩:r.op=6/\r.line=3:=by omega
    rw[e1,e2]at hc;exact absurd hc dc
  . obtain⟨e1,e2⟩:r.op=6/\r.line=4:=by omega
    rw[e1,e2]at hc;exact absurd hc dc
  . obtain⟨e1,e2⟩:r.op=6/\r.line=5:=by omega
    rw[e1,e2]at hc;exact absurd hc dc
  . obtain⟨e1,e2⟩:r.op=6/\r.line=6:=by omega
    rw[e1,e2]at hc;exact absurd hc dc
  . obtain⟨e1,e2⟩:r.op=6/\r.line=7:=by omega
    rw[e1,e2]at hc;exact absurd hc dc
  . obtain⟨e1,e2⟩:r.op=6/\r.line=9:=by omega
    rw[e1,e2]at hc;exact absurd hc dc
  . obtain⟨e1,e2⟩:r.op=7/\r.line=0:=by omega
    rw[e1,e2]at hc;exact absurd hc dc
  . obtain⟨e1,e2⟩:r.op=7/\r.line=1:=by omega
    rw[e1,e2]at hc;exact absurd hc dc
  . obtain⟨e1,e2⟩:r.op=7/\r.line=2:=by omega
    rw[e1,e2]at hc;exact absurd hc dc
  . obtain⟨e1,e2⟩:r.op=7/\r.line=3:=by omega
    rw[e1,e2]at hc;exact absurd hc dc
  . obtain⟨e1,e2⟩:r.op=7/\r.line=4:=by omega
    rw[e1,e2]at hc;exact absurd hc dc
  . obtain⟨e1,e2⟩:r.op=7/\r.line=5:=by omega
    rw[e1,e2]at hc;exact absurd hc dc
  . obtain⟨e1,e2⟩:r.op=7/\r.line=6:=by omega
    rw[e1,e2]at hc;exact absurd hc dc
  . obtain⟨e1,e2⟩:r.op=7/\r.line=7:=by omega
    rw[e1,e2]at hc;exact absurd hc dc
  . obtain⟨e1,e2⟩:r.op=7/\r.line=8:=by omega
    rw[e1,e2]at hc;exact absurd hc dc
  . obtain⟨e1,e2⟩:r.op=7/\r.line=9:=by omega
    rw[e1,e2]at hc;exact absurd hc dc
  . obtain⟨e1,e2⟩:r.op=8/\r.line=0:=by omega
    rw[e1,e2]at hc;exact absurd hc dc
  . obtain⟨e1,e2⟩:r.op=8/\r.line=1:=by omega
    rw[e1,e2]at hc;exact absurd hc dc
  . obtain⟨e1,e2⟩:r.op=8/\r.line=2:=by omega
    rw[e1,e2]at hc;exact absurd hc dc
  . obtain⟨e1,e2⟩:r.op=8/\r.line=3:=by omega
    rw[e1,e2]at hc;exact absurd hc dc
 clear hc;have hrd:=ku S hno;obtain⟨ol,H1⟩:∃ol,Hid (r.op=ol):=⟨_,zh rfl⟩;obtain⟨ln,H2⟩:∃ln,Hid (r.line=ln):=⟨_,zh rfl⟩;rw[H1.out,H2.out]at hh;have HX:=zh hx;have HA:=zh ha;have HB:=zh hb;clear hx ha hb
 have q0:¬ln<0:=by omega
 have q1:¬9<ln:=by omega
 have q2:¬ol<1:=by omega
 have q3:¬8<ol:=by omega
 have hw1:IntKind.i64.wrap (ol*10)=ol*10:=IntWalk.i64_in _ om;have hw2:IntKind.i64.wrap (ol*10+ln)=ol*10+ln:=IntWalk.i64_in _ om;have HH:=zh hh;have HR:=zh hrd;have d0:=decide_eq_false q0;have d1:=decide_eq_false q1;have d2:=decide_eq_false q2;have d3:=decide_eq_false q3;clear hh hrd hno q0 q1 q2 q3;go_enter func96, ntmps96;go_wp2_with fail;refine(HR.out).mono ?_;rintro e w1 ⟨rfl,hd⟩;replace S:=S.drewd hd;clear hd HR
 have c4:w1.cell? ⟨B,4,none⟩=some (.int .i64 ol):=by rw[←H1.out];exact S.c4
 have c5:w1.cell? ⟨B,5,none⟩=some (.int .i64 ln):=by rw[←H2.out];exact S.c5
 have c6:=S.c6;have e0:=(Only.refl Nil w1).alloc (.cells #[.int .i64 0,.int .u32 4294967295,.int .u32 r.a] 179);have HS:=zh (S.keep e0);have HU:=zh (Row.new w1 179 #[.int .i64 0,.int .u32 4294967295,.int .u32 r.a]);clear e0
 go_upto_region 3 with(fail)
 clear d0 d1 d2 d3 c4 c5 c6 S;generalize w1.alloc (.cells #[.int .i64 0,.int .u32 4294967295,.int .u32 r.a] 179)=w2 at *;generalize w1.heap.size=gu at *;have S:=HS.out;clear HS
 have c4:w2.cell? ⟨B,4,none⟩=some (.int .i64 ol):=by rw[←H1.out];exact S.c4
 have c5:w2.cell? ⟨B,5,none⟩=some (.int .i64 ln):=by rw[←H2.out];exact S.c5
 go_upto_region 4 with(fail)
 refine qb (n:=10) 9 (fun w=>w.cell? ⟨B,4,none⟩=some (.int .i64 ol)/\w.cell? ⟨B,5,none⟩=some (.int .i64 ln)) rfl kr ⟨c4,c5⟩ (fun hHeld=> ?_);clear c4 c5;replace S:=S.drew;refine za 0 rfl ?_;refine za 1 rfl ?_;refine za 2 rfl ?_;refine zt 3 rfl ?_;refine mpa 4 rfl (.int .i64 (ol*10)) (fun w=> ?_) ?_
 . go_simp
 refine za 5 rfl ?_;refine za 6 rfl ?_;refine za 7 rfl ?_;refine zt 8 rfl ?_;refine mpc 9 rfl kr br (fun K hK=> ?_);go_simp;refine hK.out _ _ (.inl kr) ?_;clear hK K hHeld hw1 hw2;refine qc kr ?_ _;have hh:=HH.out;clear HH;have HU:=zh HU.out.drew;generalize w2.drew=w3 at *;rw[H1.out,H2.out]at hz;obtain⟨z30,z31,z32,z33,z34,z40,z41,z42,z43,z60,z61,z62,z63,z64,z65,z66,z67,z69,z70,z71,z72,z73,z74,z75,z76,z77,z78,z79,z80,z81,z82,z83⟩:=hz;generalize ol*10+ln=z at *;go_wp2;go_returns;exact S.done
theorem qk3(B base:Nat)(A:Option Addr)(l cp:Nat)(nv:Value)(r:LS)(w:World)(h:RunR w B base A l cp nv r)(hl:r.ns.length<=900)(hx:Words r.xs)(ha:0<=r.a/\r.a<4294967296)(hb:0<=r.b/\r.b<4294967296):Calls prog 96 #[Value.pointer (some ⟨B,0,none⟩)] w (qg B base A l cp w (.tuple #[]) r.pf):=by
 have S:=qbq (m:=900) h hl
 by_cases hi:r.line<0\/9<r.line\/r.op<1\/8<r.op
 . rw[qza hi];exact qx8 S hi
 have ho:r.op=1\/r.op=2\/r.op=3\/r.op=4\/r.op=5\/r.op=6\/r.op=7\/r.op=8:=by omega
 have hn:r.line=0\/r.line=1\/r.line=2\/r.line=3\/r.line=4\/r.line=5\/r.line=6\/r.line=7\/r.line=8\/r.line=9:=by omega
 have hrg:0<=r.line/\r.line<=9/\1<=r.op/\r.op<=8:=by omega
 rcases ho with h1|h1|h1|h1|h1|h1|h1|h1
 . rcases hn with h2|h2|h2|h2|h2|h2|h2|h2|h2|h2
   . exact qfg S hx ha hb (.inl ⟨h1,h2⟩)
   . exact qfg S hx ha hb (.inr (.inl ⟨h1,h2⟩))
   . exact zi S hx ha hb ⟨hrg,by rw[h1,h2];rfl⟩
   . exact zi S hx ha hb ⟨hrg,by rw[h1,h2];rfl⟩
   . exact zi S hx ha hb ⟨hrg,by rw[h1,h2];rfl⟩
   . exact zi S hx ha hb ⟨hrg,by rw[h1,h2];rfl⟩
   . exact zi S hx ha hb ⟨hrg,by rw[h1,h2];rfl⟩
   . exact zi S hx ha hb ⟨hrg,by rw[h1,h2];rfl⟩
   . exact zi S hx ha hb ⟨hrg,by rw[h1,h2];rfl⟩
   . exact zi S hx ha hb ⟨hrg,by rw[h1,h2];rfl⟩
 . rcases hn with h2|h2|h2|h2|h2|h2|h2|h2|h2|h2
   . exact qfg S hx ha hb (.inr (.inr (.inl ⟨h1,h2⟩)))
   . exact zi S hx ha hb ⟨hrg,by rw[h1,h2];rfl⟩
   . exact zi S hx ha hb ⟨hrg,by rw[h1,h2];rfl⟩
   . exact zi S hx ha hb ⟨hrg,by rw[h1,h2];rfl⟩
   . exact zi S hx ha hb ⟨hrg,by rw[h1,h2];rfl⟩
   . exact zi S hx ha hb ⟨hrg,by rw[h1,h2];rfl⟩
   . exact zi S hx ha hb ⟨hrg,by rw[h1,h2];rfl⟩
   . exact zi S hx ha hb ⟨hrg,by rw[h1,h2];rfl⟩
   . exact zi S hx ha hb ⟨hrg,by rw[h1,h2];rfl⟩
   . exact zi S hx ha hb ⟨hrg,by rw[h1,h2];rfl⟩
 . rcases hn with h2|h2|h2|h2|h2|h2|h2|h2|h2|h2
   . exact qkd S hx ha hb (.inl ⟨h1,h2⟩)
   . exact qkd S hx ha hb (.inr (.inl ⟨h1,h2⟩))
   . exact qkd S hx ha hb (.inr (.inr (.inl ⟨h1,h2⟩)))
   . exact qkd S hx ha hb (.inr (.inr (.inr (.inl ⟨h1,h2⟩))))
   . exact qkd S hx ha hb (.inr (.inr (.inr (.inr (⟨h1,h2⟩)))))
   . exact zi S hx ha hb ⟨hrg,by rw[h1,h2];rfl⟩
   . exact zi S hx ha hb ⟨hrg,by rw[h1,h2];rfl⟩
   . exact zi S hx ha hb ⟨hrg,by rw[h1,h2];rfl⟩
   . exact zi S hx ha hb ⟨hrg,by rw[h1,h2];rfl⟩
   . exact zi S hx ha hb ⟨hrg,by rw[h1,h2];rfl⟩
 . rcases hn with h2|h2|h2|h2|h2|h2|h2|h2|h2|h2
   . exact qed S hx ha hb (.inl ⟨h1,h2⟩)
   . exact qed S hx ha hb (.inr (.inr (.inl ⟨h1,h2⟩)))
   . exact qed S hx ha hb (.inr (.inr (.inr (.inr (.inl ⟨h1,h2⟩)))))
   . exact qed S hx ha hb (.inr (.inr (.inr (.inr (.inr (.inr (.inl ⟨h1,h2⟩)))))))
   . exact zi S hx ha hb ⟨hrg,by rw[h1,h2];rfl⟩
   . exact zi S hx ha hb ⟨hrg,by rw[h1,h2];rfl⟩
   . exact zi S hx ha hb ⟨hrg,by rw[h1,h2];rfl⟩
   . exact zi S hx ha hb ⟨hrg,by rw[h1,h2];rfl⟩
   . exact zi S hx ha hb ⟨hrg,by rw[h1,h2];rfl⟩
   . exact zi S hx ha hb ⟨hrg,by rw[h1,h2];rfl⟩
 . rcases hn with h2|h2|h2|h2|h2|h2|h2|h2|h2|h2
   . exact qfg S hx ha hb (.inr (.inr (.inr (.inl ⟨h1,h2⟩))))
   . exact qfg S hx ha hb (.inr (.inr (.inr (.inr (⟨h1,h2⟩)))))
   . exact zi S hx ha hb ⟨hrg,by rw[h1,h2];rfl⟩
   . exact zi S hx ha hb ⟨hrg,by rw[h1,h2];rfl⟩
   . exact zi S hx ha hb ⟨hrg,by rw[h1,h2];rfl⟩
   . exact zi S hx ha hb ⟨hrg,by rw[h1,h2];rfl⟩
   . exact zi S hx ha hb ⟨hrg,by rw[h1,h2];rfl⟩
   . exact zi S hx ha hb ⟨hrg,by rw[h1,h2];rfl⟩
   . exact zi S hx ha hb ⟨hrg,by rw[h1,h2];rfl⟩
   . exact zi S hx ha hb ⟨hrg,by rw[h1,h2];rfl⟩
 . rcases hn with h2|h2|h2|h2|h2|h2|h2|h2|h2|h2
   . exact qh6 S hx ha hb (.inl ⟨h1,h2⟩)
   . exact qh6 S hx ha hb (.inr (.inr (.inl ⟨h1,h2⟩)))
   . exact qh6 S hx ha hb (.inr (.inr (.inr (.inr (.inl ⟨h1,h2⟩)))))
   . exact qhy S hx ha hb (.inl ⟨h1,h2⟩)
   . exact qhy S hx ha hb (.inr (.inr (.inl ⟨h1,h2⟩)))
   . exact qhy S hx ha hb (.inr (.inr (.inr (.inr (.inl ⟨h1,h2⟩)))))
   . exact qfq S hx ha hb (.inl ⟨h1,h2⟩)
   . exact qfq S hx ha hb (.inr (.inr (.inl ⟨h1,h2⟩)))
   . exact zi S hx ha hb ⟨hrg,by rw[h1,h2];rfl⟩
   . exact qfq S hx ha hb (.inr (.inr (.inr (.inr (.inr (.inl ⟨h1,h2⟩))))))
 . rcases hn with h2|h2|h2|h2|h2|h2|h2|h2|h2|h2
   . exact qh6 S hx ha hb (.inr (.inl ⟨h1,h2⟩))
   . exact qh6 S hx ha hb (.inr (.inr (.inr (.inl ⟨h1,h2⟩))))
   . exact qh6 S hx ha hb (.inr (.inr (.inr (.inr (.inr (⟨h1,h2⟩))))))
   . exact qhy S hx ha hb (.inr (.inl ⟨h1,h2⟩))
   . exact qhy S hx ha hb (.inr (.inr (.inr (.inl ⟨h1,h2⟩))))
   . exact qhy S hx ha hb (.inr (.inr (.inr (.inr (.inr (⟨h1,h2⟩))))))
   . exact qfq S hx ha hb (.inr (.inl ⟨h1,h2⟩))
   . exact qfq S hx ha hb (.inr (.inr (.inr (.inl ⟨h1,h2⟩))))
   . exact qfq S hx ha hb (.inr (.inr (.inr (.inr (.inl ⟨h1,h2⟩)))))
   . exact qfq S hx ha hb (.inr (.inr (.inr (.inr (.inr (.inr (⟨h1,h2⟩)))))))
 . rcases hn with h2|h2|h2|h2|h2|h2|h2|h2|h2|h2
   . exact qed S hx ha hb (.inr (.inl ⟨h1,h2⟩))
   . exact qed S hx ha hb (.inr (.inr (.inr (.inl ⟨h1,h2⟩))))
   . exact qed S hx ha hb (.inr (.inr (.inr (.inr (.inr (.inl ⟨h1,h2⟩))))))
   . exact qed S hx ha hb (.inr (.inr (.inr (.inr (.inr (.inr (.inr (⟨h1,h2⟩))))))))
   . exact zi S hx ha hb ⟨hrg,by rw[h1,h2];rfl⟩
   . exact zi S hx ha hb ⟨hrg,by rw[h1,h2];rfl⟩
   . exact zi S hx ha hb ⟨hrg,by rw[h1,h2];rfl⟩
   . exact zi S hx ha hb ⟨hrg,by rw[h1,h2];rfl⟩
   . exact zi S hx ha hb ⟨hrg,by rw[h1,h2];rfl⟩
   . exact zi S hx ha hb ⟨hrg,by rw[h1,h2];rfl⟩
end
structure QS where
 tail:Int
 nx:Nat->Int
 bl:Nat->Int
 ph:Nat->Nat
 pr:Nat->Int
structure QInv(k m:Nat)(q:Nat->Nat)(s:QS):Prop where
 nd:∀i j,i<m->j<m->q i=q j->i=j
 lt:∀i,i<m->q i<k
 tl:s.tail=if m=0 then 0 else((q (m-1):Nat):Int)+1
 inq:∀i,i<m->s.ph (q i)≠0
 out:∀t,t<k->s.ph t≠0->∃j,j<m/\q j=t
 hd:0<m->s.ph (q 0)=5\/(s.ph (q 0)=4/\s.bl (q 0)=0)
 pair:∀j,j+1<m->s.bl (q (j+1))=1/\((s.ph (q (j+1))=3/\s.pr (q (j+1))=((q j:Nat):Int)+1/\s.nx (q j)=0)\/(s.ph (q (j+1))=4/\s.nx (q j)=((q (j+1):Nat):Int)+1))
 last:0<m->s.nx (q (m-1))=0
section
variable{k m t:Nat}{q:Nat->Nat}{s:QS}
theorem QInv.first(h:QInv k m q s)(ht:t<k)(h5:s.ph t=5):0<m/\q 0=t:=by
 obtain⟨j,hj,e⟩:=h.out t ht om
 cases j with
 |zero=>exact⟨hj,e⟩
 |succ j=>
  have:=(h.pair j hj).2;rw[e,h5]at this;omega
theorem QInv.own(h:QInv k m q s)(ht:t<k)(h0:s.ph t=0)(x y:Int):QInv k m q {s with nx:=upd s.nx t x,bl:=upd s.bl t y}:=by
 have far:∀i,i<m->q i≠t:=fun i hi e=>h.inq i hi (by rw[e];exact h0);refine⟨h.nd,h.lt,h.tl,h.inq,h.out,fun hm=> ?_,fun j hj=> ?_,fun hm=> ?_⟩
 . show _\/(_/\upd s.bl t y (q 0)=0);rw[yp _ _ (far 0 hm)];exact h.hd hm
 . show upd s.bl t y (q (j+1))=1/\((_/\_/\upd s.nx t x (q j)=0)\/(_/\upd s.nx t x (q j)=_));rw[yp _ _ (far _ hj),yp _ _ (far j om)];exact h.pair j hj
 . show upd s.nx t x (q (m-1))=0;rw[yp _ _ (far _ om)];exact h.last hm
end
structure WordsT(tc:Int)(k:Nat)(xs:List Int)(s:QS):Prop where
 len:xs.length=8+4*k
 t:qa xs tc=s.tail
 n:∀i,i<k->qa xs (nc k i)=s.nx i
 b:∀i,i<k->qa xs (bc k i)=s.bl i
section
variable{tc:Int}{mode:Int}{k t i qp qp':Nat}{s s':QS}{K:WkV}{xs:List Int}{a st':Int}
theorem zbz(hk:k<=64)(hi:i<k):nc (k:Int) (i:Int)=8+i:=by unfold nc yc;rw[if_pos om];omega
theorem zcb(hk:k<=64)(hi:i<k):bc (k:Int) (i:Int)=8+k+i:=by unfold bc yc;rw[if_pos om];omega
theorem WordsT.far{xs':List Int}(h:WordsT tc k xs s)(hc:0<=tc/\tc<8)(hk:k<=64)(hl:xs'.length=xs.length)(h0:qa xs' tc=qa xs tc)(hf:∀d:Int,8<=d->d<8+2*k->qa xs' d=qa xs d):WordsT tc k xs' s:=
 ⟨hl.trans h.len,h0.trans h.t,fun i hi=>(hf _ (by rw[zbz hk hi];omega) (by rw[zbz hk hi];omega)).trans (h.n i hi),fun i hi=>(hf _ (by rw[zcb hk hi];omega) (by rw[zcb hk hi];omega)).trans (h.b i hi)⟩
theorem WordsT.own(h:WordsT tc k xs s)(hc:0<=tc/\tc<8)(hk:k<=64){d:Int}(hd:d<8)(hne:d≠tc)(x:Int):WordsT tc k (st xs d x) s:=
 h.far hc hk (qdv _ _ _) (ql3 _ hne) fun e h0 h1=>ql3 _ om
end
section
variable{r:LS}{a:Int}{ok:Bool}{j:Nat}
theorem zb9(h1:r.op=1)(h2:r.line=0):r.pq=r.pCome:=by unfold LS.pq;rw[h1,h2];rfl
theorem qyt(h1:r.op=1)(h2:r.line=1):r.pq=r.pAdmit 0 r.left:=by unfold LS.pq;rw[h1,h2];rfl
theorem qzr(h1:r.op=2)(h2:r.line=0):r.pq=r.pDepart:=by unfold LS.pq;rw[h1,h2];rfl
theorem qze(h1:r.op=5)(h2:r.line=0):r.pq=r.pLookIn:=by unfold LS.pq;rw[h1,h2];rfl
theorem zbd(h1:r.op=5)(h2:r.line=1):r.pq=r.pSlip:=by unfold LS.pq;rw[h1,h2];rfl
theorem zac(h1:r.op=3)(h2:r.line=5):r.pq=r.wKeep 6:=by unfold LS.pq;rw[h1,h2];rfl
theorem qzx(h1:r.op=3)(h2:r.line=6):r.pq=r.pAppear 7:=by unfold LS.pq;rw[h1,h2];rfl
theorem qiu(h1:r.op=3)(h2:r.line=7):r.pq=r.pAdmit 1 r.mine:=by unfold LS.pq;rw[h1,h2];rfl
theorem qyy(h1:r.op=4)(h2:r.line=0):r.pq=r.wKeep 1:=by unfold LS.pq;rw[h1,h2];rfl
theorem qz7(h1:r.op=8)(h2:r.line=0):r.pq=r.wKeep 1:=by unfold LS.pq;rw[h1,h2];rfl
theorem qyp(h1:r.op=4)(h2:r.line=1):r.pq=r.pVanish 0 7:=by unfold LS.pq;rw[h1,h2];rfl
theorem zb7(h1:r.op=8)(h2:r.line=1):r.pq=r.pVanish 256 10:=by unfold LS.pq;rw[h1,h2];rfl
theorem zah(h1:r.op=4)(h2:r.line=2):r.pq=r.wCount:=by unfold LS.pq;rw[h1,h2];rfl
theorem za0(h1:r.op=8)(h2:r.line=2):r.pq=r.wCount:=by unfold LS.pq;rw[h1,h2];rfl
theorem qzd(h1:r.op=6)(h2:r.line=2):r.pq=r.pLook 0 3:=by unfold LS.pq;rw[h1,h2];rfl
theorem zak(h1:r.op=7)(h2:r.line=2):r.pq=r.pLook 0 3:=by unfold LS.pq;rw[h1,h2];rfl
theorem quo(h1:r.op=6)(h2:r.line=3):r.pq=r.wWeigh 0:=by unfold LS.pq;rw[h1,h2];rfl
theorem qtu(h1:r.op=7)(h2:r.line=3):r.pq=r.wWeigh 256:=by unfold LS.pq;rw[h1,h2];rfl
theorem zbg(h1:r.op=6)(h2:r.line=4):r.pq=r.wKeep 5:=by unfold LS.pq;rw[h1,h2];rfl
theorem qyl(h1:r.op=7)(h2:r.line=4):r.pq=r.wKeep 5:=by unfold LS.pq;rw[h1,h2];rfl
theorem zai(h1:r.op=6)(h2:r.line=5):r.pq=r.pAppear 6:=by unfold LS.pq;rw[h1,h2];rfl
theorem qzy(h1:r.op=7)(h2:r.line=5):r.pq=r.pAppear 6:=by unfold LS.pq;rw[h1,h2];rfl
theorem qj5(h1:r.op=6)(h2:r.line=6):r.pq=r.pAdmit 1 r.mine:=by unfold LS.pq;rw[h1,h2];rfl
theorem qij(h1:r.op=7)(h2:r.line=6):r.pq=r.wOthers:=by unfold LS.pq;rw[h1,h2];rfl
theorem qym(h1:r.op=7)(h2:r.line=7):r.pq=r.pStop:=by unfold LS.pq;rw[h1,h2];rfl
theorem qr0(ho:r.op=3)(hl:r.line=(j:Int))(hj:j<5):r.pq=r.wEnter:=by
 unfold LS.pq;rw[show yt r.op r.line=6 by unfold yt;repeat (first|rw[if_neg om]|rw[if_pos om])];rfl
theorem qrm(ho:r.op=6\/r.op=7)(hl:r.line=(j:Int))(hj:j<2):r.pq=r.wTry:=by
 unfold LS.pq;rw[show yt r.op r.line=15 by unfold yt;repeat (first|rw[if_neg om]|rw[if_pos om])];rfl
end
theorem qgd{xs:List Int}{n mode i s c:Int}{q:Int->Bool}(h:(je xs n mode i s c q).seen=true):(ofV (je xs n mode i s c q).acc).o=qa xs c:=by
 have hv:ofV (qr xs 1 c 0 0)=qeb xs 1 c 0 0:=by rw[qai];rfl
 have ho:(qeb xs 1 c 0 0).o=qa xs c:=qj7 rfl;unfold je at h ⊢
 by_cases hm:mode≠2
 . rw[if_pos hm]at h ⊢;exact(congrArg Acc5.o hv).trans ho
 rw[if_neg hm]at h ⊢
 by_cases h1:s=1
 . rw[if_pos h1]at h;cases h
 rw[if_neg h1]at h ⊢
 by_cases h2:s=2
 . rw[if_pos h2]at h ⊢;exact(congrArg Acc5.o hv).trans ho
 rw[if_neg h2]at h ⊢
 by_cases h3:s=3
 . rw[if_pos h3]at h;cases h
 rw[if_neg h3]at h ⊢
 by_cases h4:s=4
 . rw[if_pos h4]at h;cases h
 rw[if_neg h4]at h ⊢;exact(congrArg Acc5.o hv).trans ho
end Go.Proofs.YtgebffjejifidaaGreat
