import Derived.Test.YtgebffjejifidaaGreatG1
import Derived.Test.YtgebffjejifidaaGreatG10
import Derived.Test.YtgebffjejifidaaGreatG11
import Derived.Test.YtgebffjejifidaaGreatG30
import Derived.Test.YtgebffjejifidaaGreatG17
import Derived.Test.YtgebffjejifidaaGreatG14
import Derived.Test.YtgebffjejifidaaGreatG15
import Derived.Test.YtgebffjejifidaaGreatG16
set_option linter.unusedVariables false
set_option linter.unusedSimpArgs false
set_option maxHeartbeats 40000000
set_option maxRecDepth 100000
namespace Go.Proofs.YtgebffjejifidaaGreat
open Go.RowKit Tryz
theorem RunR.asideR{w w':World}{B base:Nat}{A:Option Addr}{l cp:Nat}{nv:Value}{r:LS}{g:Nat}{t:TypeId}{cs:Array Value}(h:RunR w B base A l cp nv r)(hg:Row w g t cs)(ho:Only (qd B A) w w')(h1:t≠ 101)(h2:t≠ 22):Row w' g t cs:=
 hg.only ho (fun e=>by
  rcases e with e|e
  . exact qh hg h.row h1 e
  . obtain⟨cur,hc⟩:=zx h.own e
    exact h2 (hg.same hc).1)
theorem jo{w:World}{B base:Nat}{A:Option Addr}{l cp:Nat}{nv:Value}{r:LS}(h:RunR w B base A l cp nv r)(x:Int):Whats B A (w.alloc (.cells #[.int .i64 x] 3)) (.slice (some ⟨w.heap.size,0,none⟩) 1 1) [x]:=by
 have h8:=h.keep ((Only.refl Nil w).alloc (.cells #[.int .i64 x] 3));have hr:=Row.new w 3 #[.int .i64 x]
 exact⟨_,_,rfl,fun w' ho i y hi=>⟨w.heap.size,0,rfl,by
  match i,hi with
  |0,hi=>cases hi;exact(h8.asideR hr ho dc dc).cell_ (i:=0) rfl
  |i+1,hi=>simp at hi⟩⟩
theorem qr2{w:World}{B base:Nat}{A:Option Addr}{l cp:Nat}{nv:Value}{r:LS}(h:RunR w B base A l cp nv r)(x z:Int):Whats B A (w.alloc (.cells #[.int .i64 x,.int .i64 z] 3)) (.slice (some ⟨w.heap.size,0,none⟩) 2 2) [x,z]:=by
 have h8:=h.keep ((Only.refl Nil w).alloc (.cells #[.int .i64 x,.int .i64 z] 3));have hr:=Row.new w 3 #[.int .i64 x,.int .i64 z]
 exact⟨_,_,rfl,fun w' ho i y hi=>⟨w.heap.size,0,rfl,by
  match i,hi with
  |0,hi=>cases hi;exact(h8.asideR hr ho dc dc).cell_ (i:=0) rfl
  |1,hi=>cases hi;exact(h8.asideR hr ho dc dc).cell_ (i:=1) rfl
  |i+2,hi=>simp at hi⟩⟩
theorem jj(B base:Nat)(A:Option Addr)(l cp:Nat)(nv:Value)(r:LS)(a:Int)(ok:Bool)(V:Value)(ls:List Int)(w:World)(h:RunR w B base A l cp nv r)(hl:r.ns.length<=900)(hx:Words r.xs)(ha:0<=r.a/\r.a<4294967296)(hw:Whats B A w V ls)(hm:ls.length<=90)(hr0: -1000<=a)(hr1:a<=1000):
 Calls prog 200 #[Value.pointer (some ⟨B,0,none⟩),.int .i64 a,.bool ok,V] w (qg B base A l cp w (.tuple #[]) (r.qGive a ok ls)):=by
 have hc:=qak B base A l cp nv r 0 a w h hl hx ha V ls hw hm hr0 hr1;obtain⟨r',d,hd⟩:∃r' d,r.mxGive 0 a ls=(r',d):=⟨_,_,rfl⟩;rw[qf9 hd];rw[hd]at hc;have HC:=zh hc;obtain⟨VA,vc,rfl,_⟩:=hw;clear hc hd hx ha hm hr0 hr1 h hl
 cases d
 . rw[if_neg Bool.false_ne_true];go_enter func200, ntmps200;go_wp2_with fail;refine HC.out.mono ?_;rintro e w1 ⟨rfl,hO,nv1,hP⟩;have HO:=zh hO;have HP:=zh hP;clear hO hP;go_wp2;go_returns;exact⟨rfl,HO.out,nv1,HP.out⟩
 . rw[if_pos rfl];go_enter func200, ntmps200;go_wp2_with fail;refine HC.out.mono ?_;rintro e w1 ⟨rfl,hO,nv1,hP⟩;have HO:=zh hO;have HP:=zh hP;clear hO hP;go_wp2_with fail;refine(yd B base A l cp nv1 _ _ ok HP.out).mono ?_;rintro e w2 ⟨rfl,hO,nv2,hP⟩;have HO2:=zh (HO.out.trans hO);have HP2:=zh hP;clear hO hP;go_wp2;go_returns;exact⟨rfl,HO2.out,nv2,HP2.out⟩
theorem qey(r:LS):(r.mxTry 2 0).1.ns=r.ns:=by
 unfold LS.mxTry;split
 . rfl
 . split<;>rfl
section
variable{r:LS}
theorem ky(ho:r.op=6\/r.op=7)(hl:r.line=0\/r.line=1):r.pq=r.wTry:=by
 rcases hl with hl|hl
 . exact qrm (j:=0) ho hl dc
 . exact qrm (j:=1) ho hl dc
theorem zad(ho:r.op=3)(h0:0<=r.line)(h4:r.line<=4):r.pq=r.wEnter:=by
 obtain⟨j,hj⟩:=Int.eq_ofNat_of_zero_le h0;exact qr0 (j:=j) ho hj om
theorem qy9(ho:r.op=4\/r.op=8)(hl:r.line≠0/\r.line≠1/\r.line≠2):r.pq=r.wGive 3 true:=by
 have hc:yt r.op r.line=14:=by
  unfold yt;rw[if_neg om,if_neg om,if_neg om,if_neg om,if_neg om,if_neg om,if_neg om,if_neg om,if_neg om,if_neg om,if_neg om,if_neg om,if_neg om,if_pos om]
 unfold LS.pq;rw[hc];rfl
theorem qy3(ho:r.op=6\/r.op=7)(hl:r.line<0\/8<=r.line):r.pq=r.wGive 8 false:=by
 have hc:yt r.op r.line=24:=by
  unfold yt;rw[if_neg om,if_neg om,if_neg om,if_neg om,if_neg om,if_neg om,if_neg om,if_neg om,if_neg om,if_neg om,if_neg om,if_neg om,if_neg om,if_neg om,if_neg om,if_neg om,if_neg om,if_neg om,if_neg om,if_neg om,if_neg om,if_neg om,if_neg om,if_pos om]
 unfold LS.pq;rw[hc];rfl
def zcc(r:LS):Prop:=((r.op≠3/\r.op≠4/\r.op≠6/\r.op≠7/\r.op≠8)/\¬rdI r)\/(r.op=3/\(r.line<0\/7<r.line))\/(r.op=6/\r.line=7)
theorem qiw(h:zcc r):r.pq=r:=by
 by_cases e:r.op=6/\r.line=7
 . have hc:yt r.op r.line=24:=by rw[e.1,e.2];rfl
   unfold LS.pq;rw[hc];show r.wGive 8 false=r
   have hg:r.mxGive 2 8 [8]=(r,false):=by
    unfold LS.mxGive;rw[if_neg (show ¬r.line=8 by omega),if_neg (show ¬r.line=8+1 by omega),if_neg (show ¬r.line=8+2 by omega),if_neg (show ¬r.line=8+3 by omega)]
   unfold LS.wGive;rw[hg];rfl
 . have hc:yt r.op r.line=0:=by
    unfold zcc rdI at h;unfold yt;rw[if_neg om,if_neg om,if_neg om,if_neg om,if_neg om,if_neg om,if_neg om,if_neg om,if_neg om,if_neg om,if_neg om,if_neg om,if_neg om,if_neg om,if_neg om,if_neg om,if_neg om,if_neg om,if_neg om,if_neg om,if_neg om,if_neg om,if_neg om,if_neg om]
   unfold LS.pq;rw[hc];rfl
end
section
variable{B base:Nat}{A:Option Addr}{l cp:Nat}{r:LS}{w0 w:World}
theorem qfs(S:SR w0 B base A l cp 900 r w)(hx:Words r.xs)(ha:0<=r.a/\r.a<4294967296)(hb:0<=r.b/\r.b<4294967296)(hh:(r.op=3/\r.line=5)\/(r.op=3/\r.line=6)\/(r.op=3/\r.line=7)\/(r.op=6/\r.line=6)\/(r.op=7/\r.line=6)\/(r.op=7/\r.line=7)\/(r.op=6/\r.line=7)):Calls prog 97 #[Value.pointer (some ⟨B,0,none⟩)] w (qg B base A l cp w0 (.tuple #[]) r.pq):=by
 have hno:¬rdI r:=by unfold rdI;omega
 have hrd:=ku S hno;obtain⟨ol,H1⟩:∃ol,Hid (r.op=ol):=⟨_,zh rfl⟩;obtain⟨ln,H2⟩:∃ln,Hid (r.line=ln):=⟨_,zh rfl⟩;rw[H1.out,H2.out]at hh;have HX:=zh hx;have HA:=zh ha;have HB:=zh hb;clear hx ha hb;have HH:=zh hh;have HR:=zh hrd;clear hh hrd hno;go_enter func97, ntmps97;go_wp2_with fail;refine(HR.out).mono ?_;rintro e w1 ⟨rfl,hd⟩;replace S:=S.drewd hd;clear hd HR
 have c4:w1.cell? ⟨B,4,none⟩=some (.int .i64 ol):=by rw[←H1.out];exact S.c4
 have c5:w1.cell? ⟨B,5,none⟩=some (.int .i64 ln):=by rw[←H2.out];exact S.c5
 go_upto_region 2 with(fail)
 refine qb (n:=10) 9 (fun w=>w.cell? ⟨B,4,none⟩=some (.int .i64 ol)/\w.cell? ⟨B,5,none⟩=some (.int .i64 ln)) rfl kr ⟨c4,c5⟩ (fun hHeld=> ?_);clear c4 c5;replace S:=S.drew;generalize w1.drew=w3 at *;refine za 0 rfl ?_;refine za 1 rfl ?_;refine za 2 rfl ?_;refine zt 3 rfl ?_;refine za 4 rfl ?_;refine za 5 rfl ?_;refine za 6 rfl ?_;refine zt 7 rfl ?_;refine za 8 rfl ?_;refine mpc 9 rfl kr br (fun K hK=> ?_);go_simp;refine hK.out _ _ (.inl kr) ?_;clear hK K hHeld;refine qc kr ?_ _;have hh:=HH.out;clear HH;rcases hh with⟨rfl,rfl⟩|⟨rfl,rfl⟩|⟨rfl,rfl⟩|⟨rfl,rfl⟩|⟨rfl,rfl⟩|⟨rfl,rfl⟩|⟨rfl,rfl⟩
 . go_wp2_with fail;refine yq S fun w4 S=> ?_;have c7:=S.c7;have f7:=S.froz 7;replace S:=S.setB (qa r.xs 3);have c5:=S.c5;have f5:=S.froz 5;replace S:=S.setLine (6);go_wp2;go_returns;exact S.fit (by rw[zac H1.out H2.out];rfl)
 . have c7:=S.c7;go_wp2_with fail;clear c7;refine(qah r.b _ HB.out).mono ?_;rintro e w4 ⟨rfl,rfl⟩;go_wp2_with fail;refine ks (x:=yw r.b) S fun w4 S=> ?_;have c6:=S.c6;have f6:=S.froz 6;replace S:=S.setA (qa r.xs 0);go_wp2_with fail;clear c6 f6;refine qm S fun w S=> ?_;have c5:=S.c5;have f5:=S.froz 5;replace S:=S.setLine (7);go_wp2;go_returns;exact S.fit (by rw[qzx H1.out H2.out];rfl)
 . obtain⟨sn,hsn⟩:∃sn,(r.stepR 1 (r.mine)).seen=sn:=⟨_,rfl⟩;obtain⟨dn,hdn⟩:∃dn,(r.stepR 1 (r.mine)).done=dn:=⟨_,rfl⟩;obtain⟨r1,hr1⟩:∃r1,r.wait 1 (r.mine)=r1:=⟨_,rfl⟩;have H:=zh (And.intro hsn (And.intro hdn hr1));clear hsn hdn hr1;have c6:=S.c6;go_wp2_with fail;clear c6;refine qbl (q:=r.mine) S HX.out (qa7 (qq HX.out 1)) H.out.1 H.out.2.1 H.out.2.2 fun w7 S=> ?_
   cases sn
   all_goals cases dn
   . go_wp2;go_returns;exact S.fit (by rw[qiu H1.out H2.out];unfold LS.pAdmit;rw[H.out.1,H.out.2.1,H.out.2.2];try rfl)
   . go_wp2_with fail;refine yu S fun w S=> ?_;go_wp2;go_returns;exact S.fit (by rw[qiu H1.out H2.out];unfold LS.pAdmit;rw[H.out.1,H.out.2.1,H.out.2.2];try rfl)
   . go_wp2_with fail;refine qm S fun w S=> ?_;go_wp2;go_returns;exact S.fit (by rw[qiu H1.out H2.out];unfold LS.pAdmit;rw[H.out.1,H.out.2.1,H.out.2.2];try rfl)
   . go_wp2_with fail;refine qm S fun w S=> ?_;go_wp2_with fail;refine yu S fun w S=> ?_;go_wp2;go_returns;exact S.fit (by rw[qiu H1.out H2.out];unfold LS.pAdmit;rw[H.out.1,H.out.2.1,H.out.2.2];try rfl)
 . obtain⟨sn,hsn⟩:∃sn,(r.stepR 1 (r.mine)).seen=sn:=⟨_,rfl⟩;obtain⟨dn,hdn⟩:∃dn,(r.stepR 1 (r.mine)).done=dn:=⟨_,rfl⟩;obtain⟨r1,hr1⟩:∃r1,r.wait 1 (r.mine)=r1:=⟨_,rfl⟩;have H:=zh (And.intro hsn (And.intro hdn hr1));clear hsn hdn hr1;have c6:=S.c6;go_wp2_with fail;clear c6;refine qbl (q:=r.mine) S HX.out (qa7 (qq HX.out 1)) H.out.1 H.out.2.1 H.out.2.2 fun w7 S=> ?_
   cases sn
   all_goals cases dn
   . go_wp2;go_returns;exact S.fit (by rw[qj5 H1.out H2.out];unfold LS.pAdmit;rw[H.out.1,H.out.2.1,H.out.2.2];try rfl)
   . go_wp2_with fail;refine yu S fun w S=> ?_;go_wp2;go_returns;exact S.fit (by rw[qj5 H1.out H2.out];unfold LS.pAdmit;rw[H.out.1,H.out.2.1,H.out.2.2];try rfl)
   . go_wp2_with fail;refine qm S fun w S=> ?_;go_wp2;go_returns;exact S.fit (by rw[qj5 H1.out H2.out];unfold LS.pAdmit;rw[H.out.1,H.out.2.1,H.out.2.2];try rfl)
   . go_wp2_with fail;refine qm S fun w S=> ?_;go_wp2_with fail;refine yu S fun w S=> ?_;go_wp2;go_returns;exact S.fit (by rw[qj5 H1.out H2.out];unfold LS.pAdmit;rw[H.out.1,H.out.2.1,H.out.2.2];try rfl)
 . obtain⟨sn,hsn⟩:∃sn,(r.stepR 1 (r.butMe)).seen=sn:=⟨_,rfl⟩;obtain⟨dn,hdn⟩:∃dn,(r.stepR 1 (r.butMe)).done=dn:=⟨_,rfl⟩;obtain⟨r1,hr1⟩:∃r1,r.wait 1 (r.butMe)=r1:=⟨_,rfl⟩;have H:=zh (And.intro hsn (And.intro hdn hr1));clear hsn hdn hr1;have c6:=S.c6;have hx1:IntKind.u32.wrap (r.a-256)=(r.a-256)%4294967296:=rfl;go_wp2_with fail;clear c6 hx1;refine qbl (q:=r.butMe) S HX.out (qhc (qq HX.out 1)) H.out.1 H.out.2.1 H.out.2.2 fun w7 S=> ?_
   cases sn
   all_goals cases dn
   . go_wp2;go_returns;exact S.fit (by rw[qij H1.out H2.out];unfold LS.wOthers;rw[H.out.1,H.out.2.1,H.out.2.2];try rfl)
   . have c5:=S.c5;have f5:=S.froz 5;replace S:=S.setLine (7);go_wp2;go_returns;exact S.fit (by rw[qij H1.out H2.out];unfold LS.wOthers;rw[H.out.1,H.out.2.1,H.out.2.2];try rfl)
   . go_wp2_with fail;refine qm S fun w S=> ?_;go_wp2;go_returns;exact S.fit (by rw[qij H1.out H2.out];unfold LS.wOthers;rw[H.out.1,H.out.2.1,H.out.2.2];try rfl)
   . go_wp2_with fail;refine qm S fun w S=> ?_;have c5:=S.c5;have f5:=S.froz 5;replace S:=S.setLine (7);go_wp2;go_returns;exact S.fit (by rw[qij H1.out H2.out];unfold LS.wOthers;rw[H.out.1,H.out.2.1,H.out.2.2];try rfl)
 . go_wp2_with fail;refine ks S fun w S=> ?_;go_wp2_with fail;refine yu S fun w S=> ?_;go_wp2;go_returns;exact S.fit (by rw[qym H1.out H2.out];rfl)
 . go_wp2;go_returns;exact S.fit (by rw[qiw (.inr (.inr ⟨H1.out,H2.out⟩))])
end
section
variable{B base:Nat}{A:Option Addr}{l cp:Nat}{r:LS}{w0 w:World}
theorem qh2(S:SR w0 B base A l cp 900 r w)(hx:Words r.xs)(ha:0<=r.a/\r.a<4294967296)(hb:0<=r.b/\r.b<4294967296)(hh:(r.op=4/\r.line=0)\/(r.op=8/\r.line=0)\/(r.op=4/\r.line=1)\/(r.op=8/\r.line=1)\/(r.op=4/\r.line=2)\/(r.op=8/\r.line=2)):Calls prog 97 #[Value.pointer (some ⟨B,0,none⟩)] w (qg B base A l cp w0 (.tuple #[]) r.pq):=by
 have hno:¬rdI r:=by unfold rdI;omega
 have hrd:=ku S hno;obtain⟨ol,H1⟩:∃ol,Hid (r.op=ol):=⟨_,zh rfl⟩;obtain⟨ln,H2⟩:∃ln,Hid (r.line=ln):=⟨_,zh rfl⟩;rw[H1.out,H2.out]at hh;have HX:=zh hx;have HA:=zh ha;have HB:=zh hb;clear hx ha hb;have HH:=zh hh;have HR:=zh hrd;clear hh hrd hno;go_enter func97, ntmps97;go_wp2_with fail;refine(HR.out).mono ?_;rintro e w1 ⟨rfl,hd⟩;replace S:=S.drewd hd;clear hd HR
 have c4:w1.cell? ⟨B,4,none⟩=some (.int .i64 ol):=by rw[←H1.out];exact S.c4
 have c5:w1.cell? ⟨B,5,none⟩=some (.int .i64 ln):=by rw[←H2.out];exact S.c5
 go_upto_region 2 with(fail)
 refine qb (n:=10) 9 (fun w=>w.cell? ⟨B,4,none⟩=some (.int .i64 ol)/\w.cell? ⟨B,5,none⟩=some (.int .i64 ln)) rfl kr ⟨c4,c5⟩ (fun hHeld=> ?_);clear c4 c5;replace S:=S.drew;generalize w1.drew=w3 at *;refine za 0 rfl ?_;refine za 1 rfl ?_;refine za 2 rfl ?_;refine zt 3 rfl ?_;refine za 4 rfl ?_;refine za 5 rfl ?_;refine za 6 rfl ?_;refine zt 7 rfl ?_;refine za 8 rfl ?_;refine mpc 9 rfl kr br (fun K hK=> ?_);go_simp;refine hK.out _ _ (.inl kr) ?_;clear hK K hHeld;refine qc kr ?_ _;have hh:=HH.out;clear HH;rcases hh with⟨rfl,rfl⟩|⟨rfl,rfl⟩|⟨rfl,rfl⟩|⟨rfl,rfl⟩|⟨rfl,rfl⟩|⟨rfl,rfl⟩
 . go_wp2_with fail;refine yq S fun w4 S=> ?_;have c7:=S.c7;have f7:=S.froz 7;replace S:=S.setB (qa r.xs 3);have c5:=S.c5;have f5:=S.froz 5;replace S:=S.setLine (1);go_wp2;go_returns;exact S.fit (by rw[qyy H1.out H2.out];rfl)
 . go_wp2_with fail;refine yq S fun w4 S=> ?_;have c7:=S.c7;have f7:=S.froz 7;replace S:=S.setB (qa r.xs 3);have c5:=S.c5;have f5:=S.froz 5;replace S:=S.setLine (1);go_wp2;go_returns;exact S.fit (by rw[qz7 H1.out H2.out];rfl)
 . have c7:=S.c7;have hx1:IntKind.u32.wrap (-yw r.b)=(-yw r.b)%4294967296:=rfl;go_wp2_with fail;clear c7;refine(qah r.b _ HB.out).mono ?_;rintro e w4 ⟨rfl,rfl⟩;go_wp2_with fail;clear hx1;refine ks (x:=(-yw r.b)%4294967296) S fun w S=> ?_;go_wp2_with fail;refine qm S fun w S=> ?_;go_wp2_with fail;refine vl S fun w S=> ?_;have c5:=S.c5;have f5:=S.froz 5;replace S:=S.setLine (2);go_wp2;go_returns;exact S.fit (by rw[qyp H1.out H2.out];unfold LS.pVanish;rw[Int.zero_sub];try rfl)
 . have c7:=S.c7;have hx1:IntKind.u32.wrap (256-yw r.b)=(256-yw r.b)%4294967296:=rfl;go_wp2_with fail;clear c7;refine(qah r.b _ HB.out).mono ?_;rintro e w4 ⟨rfl,rfl⟩;go_wp2_with fail;clear hx1;refine ks (x:=(256-yw r.b)%4294967296) S fun w S=> ?_;go_wp2_with fail;refine qm S fun w S=> ?_;go_wp2_with fail;refine vl S fun w S=> ?_;have c5:=S.c5;have f5:=S.froz 5;replace S:=S.setLine (2);go_wp2;go_returns;exact S.fit (by rw[zb7 H1.out H2.out];rfl)
 . have c7:=S.c7;have hx1:IntKind.u32.wrap (r.b+1)=(r.b+1)%4294967296:=rfl;go_wp2_with fail;clear c7 hx1;refine qig (x:=(r.b+1)%4294967296) S fun w S=> ?_;have c5:=S.c5;have f5:=S.froz 5;replace S:=S.setLine (3);go_wp2;go_returns;exact S.fit (by rw[zah H1.out H2.out];rfl)
 . have c7:=S.c7;have hx1:IntKind.u32.wrap (r.b+1)=(r.b+1)%4294967296:=rfl;go_wp2_with fail;clear c7 hx1;refine qig (x:=(r.b+1)%4294967296) S fun w S=> ?_;have c5:=S.c5;have f5:=S.froz 5;replace S:=S.setLine (3);go_wp2;go_returns;exact S.fit (by rw[za0 H1.out H2.out];rfl)
end
section
variable{B base:Nat}{A:Option Addr}{l cp:Nat}{r:LS}{w0 w:World}
theorem qnh(S:SR w0 B base A l cp 900 r w)(hx:Words r.xs)(ha:0<=r.a/\r.a<4294967296)(hb:0<=r.b/\r.b<4294967296)(hh:(r.op=6/\r.line=0)\/(r.op=7/\r.line=0)\/(r.op=6/\r.line=1)\/(r.op=7/\r.line=1)):Calls prog 97 #[Value.pointer (some ⟨B,0,none⟩)] w (qg B base A l cp w0 (.tuple #[]) r.pq):=by
 have hno:¬rdI r:=by unfold rdI;omega
 have hrd:=ku S hno;obtain⟨ol,H1⟩:∃ol,Hid (r.op=ol):=⟨_,zh rfl⟩;obtain⟨ln,H2⟩:∃ln,Hid (r.line=ln):=⟨_,zh rfl⟩;rw[H1.out,H2.out]at hh;have HX:=zh hx;have HA:=zh ha;have HB:=zh hb;clear hx ha hb;have HH:=zh hh;have HR:=zh hrd;clear hh hrd hno;go_enter func97, ntmps97;go_wp2_with fail;refine(HR.out).mono ?_;rintro e w1 ⟨rfl,hd⟩;replace S:=S.drewd hd;clear hd HR
 have c4:w1.cell? ⟨B,4,none⟩=some (.int .i64 ol):=by rw[←H1.out];exact S.c4
 have c5:w1.cell? ⟨B,5,none⟩=some (.int .i64 ln):=by rw[←H2.out];exact S.c5
 go_upto_region 2 with(fail)
 refine qb (n:=10) 9 (fun w=>w.cell? ⟨B,4,none⟩=some (.int .i64 ol)/\w.cell? ⟨B,5,none⟩=some (.int .i64 ln)) rfl kr ⟨c4,c5⟩ (fun hHeld=> ?_);clear c4 c5;replace S:=S.drew;generalize w1.drew=w3 at *;refine za 0 rfl ?_;refine za 1 rfl ?_;refine za 2 rfl ?_;refine zt 3 rfl ?_;refine za 4 rfl ?_;refine za 5 rfl ?_;refine za 6 rfl ?_;refine zt 7 rfl ?_;refine za 8 rfl ?_;refine mpc 9 rfl kr br (fun K hK=> ?_);go_simp;refine hK.out _ _ (.inl kr) ?_;clear hK K hHeld;refine qc kr ?_ _;have hh:=HH.out;clear HH;rcases hh with⟨rfl,rfl⟩|⟨rfl,rfl⟩|⟨rfl,rfl⟩|⟨rfl,rfl⟩
 . obtain⟨r',d,i,hd⟩:∃r' d i,r.mxTry 2 0=(r',d,i):=⟨_,_,_,rfl⟩;have HD:=zh hd;go_wp2_with fail;refine S.call (fun nv h=>by have e:=qa0 B base A l cp nv r 2 0 _ h S.len HX.out HA.out dc dc;rw[hd]at e;exact e) (m':=900) (by have e:=qey r;rw[hd]at e;exact e▸S.len) fun w S=> ?_;clear hd
   cases d
   . go_wp2;go_returns;exact S.fit (by rw[ky (.inl H1.out) (.inl H2.out)];unfold LS.wTry;rw[HD.out];try rfl)
   . cases i
     . go_wp2_with fail;refine qm S fun w S=> ?_;go_wp2_with fail;refine yu S fun w S=> ?_;go_wp2;go_returns;exact S.fit (by rw[ky (.inl H1.out) (.inl H2.out)];unfold LS.wTry;rw[HD.out];try rfl)
     . go_wp2_with fail;refine qm S fun w S=> ?_;have c5:=S.c5;have f5:=S.froz 5;replace S:=S.setLine (2);go_wp2;go_returns;exact S.fit (by rw[ky (.inl H1.out) (.inl H2.out)];unfold LS.wTry;rw[HD.out];try rfl)
 . obtain⟨r',d,i,hd⟩:∃r' d i,r.mxTry 2 0=(r',d,i):=⟨_,_,_,rfl⟩;have HD:=zh hd;go_wp2_with fail;refine S.call (fun nv h=>by have e:=qa0 B base A l cp nv r 2 0 _ h S.len HX.out HA.out dc dc;rw[hd]at e;exact e) (m':=900) (by have e:=qey r;rw[hd]at e;exact e▸S.len) fun w S=> ?_;clear hd
   cases d
   . go_wp2;go_returns;exact S.fit (by rw[ky (.inr H1.out) (.inl H2.out)];unfold LS.wTry;rw[HD.out];try rfl)
   . cases i
     . go_wp2_with fail;refine qm S fun w S=> ?_;go_wp2_with fail;refine yu S fun w S=> ?_;go_wp2;go_returns;exact S.fit (by rw[ky (.inr H1.out) (.inl H2.out)];unfold LS.wTry;rw[HD.out];try rfl)
     . go_wp2_with fail;refine qm S fun w S=> ?_;have c5:=S.c5;have f5:=S.froz 5;replace S:=S.setLine (2);go_wp2;go_returns;exact S.fit (by rw[ky (.inr H1.out) (.inl H2.out)];unfold LS.wTry;rw[HD.out];try rfl)
 . obtain⟨r',d,i,hd⟩:∃r' d i,r.mxTry 2 0=(r',d,i):=⟨_,_,_,rfl⟩;have HD:=zh hd;go_wp2_with fail;refine S.call (fun nv h=>by have e:=qa0 B base A l cp nv r 2 0 _ h S.len HX.out HA.out dc dc;rw[hd]at e;exact e) (m':=900) (by have e:=qey r;rw[hd]at e;exact e▸S.len) fun w S=> ?_;clear hd
   cases d
   . go_wp2;go_returns;exact S.fit (by rw[ky (.inl H1.out) (.inr H2.out)];unfold LS.wTry;rw[HD.out];try rfl)
   . cases i
     . go_wp2_with fail;refine qm S fun w S=> ?_;go_wp2_with fail;refine yu S fun w S=> ?_;go_wp2;go_returns;exact S.fit (by rw[ky (.inl H1.out) (.inr H2.out)];unfold LS.wTry;rw[HD.out];try rfl)
     . go_wp2_with fail;refine qm S fun w S=> ?_;have c5:=S.c5;have f5:=S.froz 5;replace S:=S.setLine (2);go_wp2;go_returns;exact S.fit (by rw[ky (.inl H1.out) (.inr H2.out)];unfold LS.wTry;rw[HD.out];try rfl)
 . obtain⟨r',d,i,hd⟩:∃r' d i,r.mxTry 2 0=(r',d,i):=⟨_,_,_,rfl⟩;have HD:=zh hd;go_wp2_with fail;refine S.call (fun nv h=>by have e:=qa0 B base A l cp nv r 2 0 _ h S.len HX.out HA.out dc dc;rw[hd]at e;exact e) (m':=900) (by have e:=qey r;rw[hd]at e;exact e▸S.len) fun w S=> ?_;clear hd
   cases d
   . go_wp2;go_returns;exact S.fit (by rw[ky (.inr H1.out) (.inr H2.out)];unfold LS.wTry;rw[HD.out];try rfl)
   . cases i
     . go_wp2_with fail;refine qm S fun w S=> ?_;go_wp2_with fail;refine yu S fun w S=> ?_;go_wp2;go_returns;exact S.fit (by rw[ky (.inr H1.out) (.inr H2.out)];unfold LS.wTry;rw[HD.out];try rfl)
     . go_wp2_with fail;refine qm S fun w S=> ?_;have c5:=S.c5;have f5:=S.froz 5;replace S:=S.setLine (2);go_wp2;go_returns;exact S.fit (by rw[ky (.inr H1.out) (.inr H2.out)];unfold LS.wTry;rw[HD.out];try rfl)
end
section
variable{B base:Nat}{A:Option Addr}{l cp:Nat}{r:LS}{w0 w:World}
theorem qeo(S:SR w0 B base A l cp 900 r w)(hx:Words r.xs)(ha:0<=r.a/\r.a<4294967296)(hb:0<=r.b/\r.b<4294967296)(hh:(r.op=6/\r.line=2)\/(r.op=7/\r.line=2)\/(r.op=6/\r.line=3)\/(r.op=7/\r.line=3)\/(r.op=6/\r.line=4)\/(r.op=7/\r.line=4)\/(r.op=6/\r.line=5)\/(r.op=7/\r.line=5)):Calls prog 97 #[Value.pointer (some ⟨B,0,none⟩)] w (qg B base A l cp w0 (.tuple #[]) r.pq):=by
 have hno:¬rdI r:=by unfold rdI;omega
 have hrd:=ku S hno;obtain⟨ol,H1⟩:∃ol,Hid (r.op=ol):=⟨_,zh rfl⟩;obtain⟨ln,H2⟩:∃ln,Hid (r.line=ln):=⟨_,zh rfl⟩;rw[H1.out,H2.out]at hh;have HX:=zh hx;have HA:=zh ha;have HB:=zh hb;clear hx ha hb;have HH:=zh hh;have HR:=zh hrd;clear hh hrd hno;go_enter func97, ntmps97;go_wp2_with fail;refine(HR.out).mono ?_;rintro e w1 ⟨rfl,hd⟩;replace S:=S.drewd hd;clear hd HR
 have c4:w1.cell? ⟨B,4,none⟩=some (.int .i64 ol):=by rw[←H1.out];exact S.c4
 have c5:w1.cell? ⟨B,5,none⟩=some (.int .i64 ln):=by rw[←H2.out];exact S.c5
 go_upto_region 2 with(fail)
 refine qb (n:=10) 9 (fun w=>w.cell? ⟨B,4,none⟩=some (.int .i64 ol)/\w.cell? ⟨B,5,none⟩=some (.int .i64 ln)) rfl kr ⟨c4,c5⟩ (fun hHeld=> ?_);clear c4 c5;replace S:=S.drew;generalize w1.drew=w3 at *;refine za 0 rfl ?_;refine za 1 rfl ?_;refine za 2 rfl ?_;refine zt 3 rfl ?_;refine za 4 rfl ?_;refine za 5 rfl ?_;refine za 6 rfl ?_;refine zt 7 rfl ?_;refine za 8 rfl ?_;refine mpc 9 rfl kr br (fun K hK=> ?_);go_simp;refine hK.out _ _ (.inl kr) ?_;clear hK K hHeld;refine qc kr ?_ _;have hh:=HH.out;clear HH;rcases hh with⟨rfl,rfl⟩|⟨rfl,rfl⟩|⟨rfl,rfl⟩|⟨rfl,rfl⟩|⟨rfl,rfl⟩|⟨rfl,rfl⟩|⟨rfl,rfl⟩|⟨rfl,rfl⟩
 . go_wp2_with fail;refine yq S fun w4 S=> ?_;have c6:=S.c6;have f6:=S.froz 6;replace S:=S.setA (qa r.xs 0);have c5:=S.c5;have f5:=S.froz 5;replace S:=S.setLine (3);go_wp2;go_returns;exact S.fit (by rw[qzd H1.out H2.out];rfl)
 . go_wp2_with fail;refine yq S fun w4 S=> ?_;have c6:=S.c6;have f6:=S.froz 6;replace S:=S.setA (qa r.xs 0);have c5:=S.c5;have f5:=S.froz 5;replace S:=S.setLine (3);go_wp2;go_returns;exact S.fit (by rw[zak H1.out H2.out];rfl)
 . go_wp2_with fail;refine yq S fun w4 S=> ?_;have c7:=S.c7;have f7:=S.froz 7;replace S:=S.setB (qa r.xs 1)
   go_upto_region 55 with(fail)
   clear c7 f7;generalize w4.setCell ⟨B,7,none⟩ (.int .u32 (qa r.xs 1))=w5 at *;refine qb (n:=10) 8 (fun w=>w.cell? ⟨B,6,none⟩=some (.int .u32 r.a)/\w.cell? ⟨B,7,none⟩=some (.int .u32 (qa r.xs 1))) rfl kr ⟨S.c6,S.c7⟩ (fun hHeld=> ?_);replace S:=S.drew;generalize w5.drew=w6 at *;refine za 0 rfl ?_;refine za 1 rfl ?_;refine za 2 rfl ?_;refine zt 3 rfl ?_;refine za 4 rfl ?_;refine za 5 rfl ?_;refine za 6 rfl ?_;refine zt 7 rfl ?_;refine mpc 8 rfl kr br (fun K hK=> ?_);go_simp;refine(yy r.a (qa r.xs 1) _ HA.out (jx HX.out 1)).mono ?_;obtain⟨ah,hah⟩:∃ah,zv r.a (qa r.xs 1)=ah:=⟨_,rfl⟩
   have hbd: -2147483648<=ah/\ah<=2147483647:=by rw[←hah];unfold zv;omega
   rw[hah];have HAH:=zh hah;clear hah;rintro e w9 ⟨rfl,rfl⟩;refine hK.out _ _ (.inl kr) ?_;clear hK K hHeld;refine mpa 9 rfl (.int .i64 ah) (fun w=> ?_) ?_
   . go_simp
   refine qc kr ?_ _;clear hbd;have c5:=S.c5;have f5:=S.froz 5;replace S:=S.setLine (4)
   by_cases q1:ah<=0
   . have q2:¬0<ah:=by omega
     go_wp2;go_returns;exact S.fit (by rw[quo H1.out H2.out];unfold LS.wWeigh;rw[HAH.out,if_pos (show ah<=0 by omega)])
   . have q2:0<ah:=by omega
     go_wp2_with fail;clear c5 f5;refine qm S fun w S=> ?_;have c5:=S.c5;have f5:=S.froz 5;replace S:=S.setLine (8);go_wp2;go_returns;exact S.fit (by rw[quo H1.out H2.out];unfold LS.wWeigh;rw[HAH.out,if_neg (show ¬ah<=0 by omega)];try rfl)
 . go_wp2_with fail;refine yq S fun w4 S=> ?_;have c7:=S.c7;have f7:=S.froz 7;replace S:=S.setB (qa r.xs 1)
   go_upto_region 55 with(fail)
   clear c7 f7;generalize w4.setCell ⟨B,7,none⟩ (.int .u32 (qa r.xs 1))=w5 at *;refine qb (n:=10) 8 (fun w=>w.cell? ⟨B,6,none⟩=some (.int .u32 r.a)/\w.cell? ⟨B,7,none⟩=some (.int .u32 (qa r.xs 1))) rfl kr ⟨S.c6,S.c7⟩ (fun hHeld=> ?_);replace S:=S.drew;generalize w5.drew=w6 at *;refine za 0 rfl ?_;refine za 1 rfl ?_;refine za 2 rfl ?_;refine zt 3 rfl ?_;refine za 4 rfl ?_;refine za 5 rfl ?_;refine za 6 rfl ?_;refine zt 7 rfl ?_;refine mpc 8 rfl kr br (fun K hK=> ?_);go_simp;refine(yy r.a (qa r.xs 1) _ HA.out (jx HX.out 1)).mono ?_;obtain⟨ah,hah⟩:∃ah,zv r.a (qa r.xs 1)=ah:=⟨_,rfl⟩
   have hbd: -2147483648<=ah/\ah<=2147483647:=by rw[←hah];unfold zv;omega
   rw[hah];have HAH:=zh hah;clear hah;rintro e w9 ⟨rfl,rfl⟩;refine hK.out _ _ (.inl kr) ?_;clear hK K hHeld;refine mpa 9 rfl (.int .i64 ah) (fun w=> ?_) ?_
   . go_simp
   refine qc kr ?_ _;have hx1:IntKind.i64.wrap (ah-256)=ah-256:=IntWalk.i64_in _ om;clear hbd;have c5:=S.c5;have f5:=S.froz 5;replace S:=S.setLine (4)
   by_cases q1:ah<=256
   . have q2:¬0<ah-256:=by omega
     go_wp2;go_returns;exact S.fit (by rw[qtu H1.out H2.out];unfold LS.wWeigh;rw[HAH.out,if_pos (show ah<=256 by omega)])
   . have q2:0<ah-256:=by omega
     go_wp2_with fail;clear c5 f5;refine qm S fun w S=> ?_;have c5:=S.c5;have f5:=S.froz 5;replace S:=S.setLine (8);go_wp2;go_returns;exact S.fit (by rw[qtu H1.out H2.out];unfold LS.wWeigh;rw[HAH.out,if_neg (show ¬ah<=256 by omega)];try rfl)
 . go_wp2_with fail;refine yq S fun w4 S=> ?_;have c7:=S.c7;have f7:=S.froz 7;replace S:=S.setB (qa r.xs 3);have c5:=S.c5;have f5:=S.froz 5;replace S:=S.setLine (5);go_wp2;go_returns;exact S.fit (by rw[zbg H1.out H2.out];rfl)
 . go_wp2_with fail;refine yq S fun w4 S=> ?_;have c7:=S.c7;have f7:=S.froz 7;replace S:=S.setB (qa r.xs 3);have c5:=S.c5;have f5:=S.froz 5;replace S:=S.setLine (5);go_wp2;go_returns;exact S.fit (by rw[qyl H1.out H2.out];rfl)
 . have c7:=S.c7;go_wp2_with fail;clear c7;refine(qah r.b _ HB.out).mono ?_;rintro e w4 ⟨rfl,rfl⟩;go_wp2_with fail;refine ks (x:=yw r.b) S fun w4 S=> ?_;have c6:=S.c6;have f6:=S.froz 6;replace S:=S.setA (qa r.xs 0);go_wp2_with fail;clear c6 f6;refine qm S fun w S=> ?_;have c5:=S.c5;have f5:=S.froz 5;replace S:=S.setLine (6);go_wp2;go_returns;exact S.fit (by rw[zai H1.out H2.out];rfl)
 . have c7:=S.c7;go_wp2_with fail;clear c7;refine(qah r.b _ HB.out).mono ?_;rintro e w4 ⟨rfl,rfl⟩;go_wp2_with fail;refine ks (x:=yw r.b) S fun w4 S=> ?_;have c6:=S.c6;have f6:=S.froz 6;replace S:=S.setA (qa r.xs 0);go_wp2_with fail;clear c6 f6;refine qm S fun w S=> ?_;have c5:=S.c5;have f5:=S.froz 5;replace S:=S.setLine (6);go_wp2;go_returns;exact S.fit (by rw[qzy H1.out H2.out];rfl)
end
end Go.Proofs.YtgebffjejifidaaGreat
