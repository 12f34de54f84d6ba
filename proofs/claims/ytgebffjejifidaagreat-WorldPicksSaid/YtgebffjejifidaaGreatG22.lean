import Derived.Test.YtgebffjejifidaaGreatG1
import Derived.Test.YtgebffjejifidaaGreatG9
import Derived.Test.YtgebffjejifidaaGreatG2
set_option linter.unusedVariables false
set_option linter.unusedSimpArgs false
set_option maxHeartbeats 1000000
namespace Go.Proofs.YtgebffjejifidaaGreat
open Go.RowKit Tryz
theorem qqi(v:Int):qdw v 0 2=va v:=by
 show v/pw 0%pw 2=v%4;rw[show pw 0=1 from rfl,show pw 2=4 from rfl,Int.ediv_one]
theorem qt3(v:Int):qdw v 0 1=v%2:=by
 show v/pw 0%pw 1=v%2;rw[show pw 0=1 from rfl,show pw 1=2 from rfl,Int.ediv_one]
theorem qdo(v:Int)(w:World)(hv:0<=v/\v<4294967296):
 Calls prog 117 #[.int .u32 v] w fun e w'=>e= .returned (.int .u32 (va v))/\Drew w w':=by
 have HV:=zh hv;clear hv;go_enter func117, ntmps117;go_wp2_with fail;refine(qd8 v 0 2 _ HV.out).mono ?_;rw[qqi];rintro e w1 ⟨rfl,hd⟩;have HD:=zh hd;clear hd;go_wp2;go_ret;exact⟨rfl,HD.out⟩
theorem qn5(v:Int)(w:World)(k:Nat)(hv:0<=v/\v<4294967296):
 Calls prog 117 #[.int .u32 v] (w.drewN k) fun e w'=>e= .returned (.int .u32 (va v))/\∃m,w'=w.drewN m:=
 (qdo v _ hv).mono fun _ _ ⟨he,hm⟩=>⟨he,hm.quiet⟩
theorem qke(v:Int)(w:World)(hv:0<=v/\v<4294967296):
 Calls prog 124 #[.int .u32 v] w fun e w'=>e= .returned (.int .u32 (yw v))/\Drew w w':=by
 have HV:=zh hv;clear hv;go_enter func124, ntmps124;go_wp2_with fail;refine(qd8 v 0 1 _ HV.out).mono ?_;rw[qt3];generalize hb:v%2=b
 have hb2:0<=b/\b<2:=by omega
 have HB:=zh (show yw v=2+b by unfold yw;rw[hb]);clear hb;rintro e w1 ⟨rfl,hd⟩;have HD:=zh hd;clear hd;go_wp2;go_ret;refine⟨congrArg (fun x=>Ending.returned (.int .u32 x)) ?_,HD.out⟩;rw[HB.out]
section
variable{B:Nat}{p A:Option Addr}{cp:Nat}{r:LS}{w0 w:World}
theorem ql5(S:St w0 B p A cp [] 900 r w):Calls prog 65 #[Value.pointer (some ⟨B,0,none⟩)] w (qj B p A cp w0 (.tuple #[]) r.pDepart):=by
 go_enter func65, ntmps65;go_wp2_with fail;refine qi4 S fun w S=> ?_;go_wp2_with fail;refine jr S fun w S=> ?_;go_wp2_with fail;refine qnc S fun w S=> ?_;go_wp2_with fail;refine qeu S fun w S=> ?_;go_wp2;go_returns;exact S.done
theorem qde(ok:Bool)(S:St w0 B p A cp [] 900 r w):Calls prog 73 #[Value.pointer (some ⟨B,0,none⟩),.bool ok] w (qj B p A cp w0 (.tuple #[]) (r.pPass ok)):=by
 go_enter func73, ntmps73;go_wp2_with fail;refine qi4 S fun w S=> ?_;go_wp2_with fail;refine jr S fun w S=> ?_;go_wp2_with fail;refine qnc S fun w S=> ?_;go_wp2_with fail;refine qeu S fun w S=> ?_;go_wp2;go_returns;exact S.done
theorem qrs(S:St w0 B p A cp [] 900 r w):Calls prog 132 #[Value.pointer (some ⟨B,0,none⟩)] w (qj B p A cp w0 (.tuple #[]) r.pStop):=by
 go_enter func132, ntmps132;go_wp2_with fail;refine qi4 S fun w S=> ?_;go_wp2_with fail;refine qeu S fun w S=> ?_;go_wp2;go_returns;exact S.done
theorem quq(S:St w0 B p A cp [] 900 r w):Calls prog 66 #[Value.pointer (some ⟨B,0,none⟩)] w (qj B p A cp w0 (.tuple #[]) r.pDraw):=by
 go_enter func66, ntmps66;go_wp2_with fail;refine qi4 S fun w S=> ?_;have c6:=S.c6;have f6:=S.froz 6;replace S:=S.setA (qa r.xs 2);go_wp2_with fail;refine jr S fun w S=> ?_;go_wp2_with fail;refine xGo S fun w S=> ?_;go_wp2;go_returns;exact S.done
theorem qc1(n:Int)(S:St w0 B p A cp [] 900 r w):Calls prog 68 #[Value.pointer (some ⟨B,0,none⟩),.int .i64 n] w (qj B p A cp w0 (.tuple #[]) (r.pKeep n)):=by
 go_enter func68, ntmps68;go_wp2_with fail;refine qeh S fun w S=> ?_;have c7:=S.c7;have f7:=S.froz 7;replace S:=S.setB (qa r.xs 4);go_wp2_with fail;refine xGo S fun w S=> ?_;go_wp2;go_returns;exact S.done
theorem qdb(c n:Int)(S:St w0 B p A cp [] 900 r w):Calls prog 127 #[Value.pointer (some ⟨B,0,none⟩),.int .i64 c,.int .i64 n] w (qj B p A cp w0 (.tuple #[]) (r.pLook c n)):=by
 go_enter func127, ntmps127;go_wp2_with fail;refine qeh S fun w S=> ?_;have c6:=S.c6;have f6:=S.froz 6;replace S:=S.setA (qa r.xs c);go_wp2_with fail;refine xGo S fun w S=> ?_;go_wp2;go_returns;exact S.done
theorem qcz(n:Int)(S:St w0 B p A cp [] 900 r w)(hb:0<=r.b/\r.b<4294967296):Calls prog 69 #[Value.pointer (some ⟨B,0,none⟩),.int .i64 n] w (qj B p A cp w0 (.tuple #[]) (r.pAppear n)):=by
 have c7:=S.c7;go_enter func69, ntmps69;go_wp2_with fail;clear c7;refine(qke r.b _ hb).mono ?_;rintro e w1 ⟨rfl,hd⟩;replace S:=S.drewd hd;clear hd;go_wp2_with fail;refine qi4 S fun w S=> ?_;have c6:=S.c6;have f6:=S.froz 6;replace S:=S.setA (qa r.xs 0);go_wp2_with fail;refine jr S fun w S=> ?_;go_wp2_with fail;refine xGo S fun w S=> ?_;go_wp2;go_returns;exact S.done
theorem qg2(inn what:Int)(S:St w0 B p A cp [] 900 r w)(hb:0<=r.b/\r.b<4294967296):Calls prog 71 #[Value.pointer (some ⟨B,0,none⟩),.int .u32 inn,.int .i64 what] w (qj B p A cp w0 (.tuple #[]) (r.pVanish inn what)):=by
 have hw:IntKind.u32.wrap (inn-yw r.b)=(inn-yw r.b)%4294967296:=rfl;have c7:=S.c7;go_enter func71, ntmps71;go_wp2_with fail;clear c7;refine(qke r.b _ hb).mono ?_;rintro e w1 ⟨rfl,hd⟩;replace S:=S.drewd hd;clear hd;go_wp2_with fail;clear hw;refine qi4 (x:=(inn-yw r.b)%4294967296) S fun w S=> ?_;go_wp2_with fail;refine jr S fun w S=> ?_;go_wp2_with fail;refine qnc S fun w S=> ?_;go_wp2_with fail;refine xGo S fun w S=> ?_;go_wp2;go_returns;exact S.done
theorem qho(S:St w0 B p A cp [] 900 r w):Calls prog 72 #[Value.pointer (some ⟨B,0,none⟩)] w (qj B p A cp w0 (.tuple #[]) r.pCount):=by
 have c7:=S.c7;have hw:IntKind.u32.wrap (r.b+1)=(r.b+1)%4294967296:=rfl;go_enter func72, ntmps72;go_wp2_with fail;clear c7 hw;refine S.call (fun nv h=>qap B p A cp nv r 4 ((r.b+1)%4294967296) _ h) S.len fun w S=> ?_;go_wp2_with fail;refine xGo S fun w S=> ?_;go_wp2;go_returns;exact S.done
theorem qtl(S:St w0 B p A cp [] 900 r w)(hx:Words r.xs):Calls prog 63 #[Value.pointer (some ⟨B,0,none⟩)] w (qj B p A cp w0 (.tuple #[]) r.pCome):=by
 go_enter func63, ntmps63;go_wp2_with fail;refine qi4 S fun w S=> ?_;have c6:=S.c6;have f6:=S.froz 6;replace S:=S.setA (qa r.xs 0);go_wp2_with fail;refine jr S fun w3 S=> ?_;have d6:w3.cell? ⟨B,6,none⟩=some (.int .u32 (qa r.xs 0)):=S.c6;go_wp2_with fail;clear d6;refine(qdo (qa r.xs 0) _ (qq hx 0)).mono ?_;obtain⟨b,hz⟩:∃b,va (qa r.xs 0)=b:=⟨_,rfl⟩;rw[hz];have H:=zh hz;clear hz;rintro e w4 ⟨rfl,hd⟩;replace S:=S.drewd hd;clear hd
 by_cases hb:b=0
 . subst hb;go_wp2_with fail;refine jr S fun w S=> ?_;go_wp2_with fail;refine qeu S fun w S=> ?_;go_wp2;go_returns;exact S.fit (by unfold LS.pCome;rw[if_pos H.out])
 . have hb0:(b==0)=false:=by simpa using hb
   go_wp2_with fail;refine xGo S fun w S=> ?_;go_wp2;go_returns;exact S.fit (by unfold LS.pCome;rw[if_neg (by rw[H.out];exact hb)])
theorem qll(S:St w0 B p A cp [] 900 r w)(hx:Words r.xs):Calls prog 74 #[Value.pointer (some ⟨B,0,none⟩)] w (qj B p A cp w0 (.tuple #[]) r.pLookIn):=by
 go_enter func74, ntmps74;go_wp2_with fail;refine qeh S fun w2 S=> ?_;have c6:=S.c6;have f6:=S.froz 6;replace S:=S.setA (qa r.xs 0);have d6:=S.c6;go_wp2_with fail;clear d6;refine(qdo (qa r.xs 0) _ (qq hx 0)).mono ?_;obtain⟨b,hz⟩:∃b,va (qa r.xs 0)=b:=⟨_,rfl⟩;rw[hz];have H:=zh hz;clear hz;rintro e w4 ⟨rfl,hd⟩;replace S:=S.drewd hd;clear hd
 by_cases hb:b=0
 . subst hb;go_wp2_with fail;refine xGo S fun w S=> ?_;go_wp2;go_returns;exact S.fit (by unfold LS.pLookIn;rw[if_pos H.out])
 . have hb0:(b==0)=false:=by simpa using hb
   go_wp2_with fail;refine jr S fun w S=> ?_;go_wp2_with fail;refine qeu S fun w S=> ?_;go_wp2;go_returns;exact S.fit (by unfold LS.pLookIn;rw[if_neg (by rw[H.out];exact hb)])
end
structure qsx(w:World)(A:Option Addr)(g:Nat)(a:Int):Prop where
 row:Row w g 22 #[.int .u32 a]
 far:¬At A g
theorem zbu(g:Nat)(a v:Int)(w:World)(hb:Row w g 22 #[.int .u32 a]):
 Calls prog 223 #[.int .u32 v,.pointer (some ⟨g,0,none⟩)] w fun e w'=>e= .returned (.bool (v==a))/\Only Nil w w':=by
 have b0:w.cell? ⟨g,0,none⟩=some (.int .u32 a):=hb.cell_ (i:=0) rfl;clear hb;go_enter func223, ntmps223;go_wp2;go_ret;exact⟨rfl,Only.refl _ _⟩
theorem qw1(g:Nat)(s v:Int)(w:World)(hb:Row w g 22 #[.int .u32 s])(hv:0<=v/\v<4294967296):
 Calls prog 119 #[.int .u32 v,.pointer (some ⟨g,0,none⟩)] w fun e w'=>e= .returned (.bool (va v !=s))/\Only Nil w w':=by
 have b0:w.cell? ⟨g,0,none⟩=some (.int .u32 s):=hb.cell_ (i:=0) rfl;clear hb;go_enter func119, ntmps119;go_wp2
 go_quiet ((exact qn5 v _ _ hv))
 go_wp2;go_ret;exact⟨rfl,(Drew.n _ _).only⟩
theorem qik(B:Nat)(p A:Option Addr)(cp:Nat)(nv:Value)(r:LS)(a:Int)(w:World)(h:RunP w B p A cp nv r):Calls prog 122 #[.int .u32 a] w fun e w'=>
 ∃g,e= .returned (.func (.func 223) #[] #[.pointer (some ⟨g,0,none⟩)])/\qsx w' A g a/\Only Nil w w':=by
 have HR:Hid (qsx (w.alloc (.cells #[.int .u32 a] 22)) A w.heap.size a):=zh ⟨Row.new w 22 #[.int .u32 a],fun e=>by have:=h.memo.lt _ (.inr e);omega⟩;have HO:=zh ((Only.refl Nil w).alloc (.cells #[.int .u32 a] 22));clear h;go_enter func122, ntmps122;go_wp2;go_ret;exact⟨_,rfl,HR.out,HO.out⟩
theorem qgc{A:Option Addr}{g:Nat}{a:Int}{w:World}(h:qsx w A g a):qbx A w (.func (.func 223) #[] #[.pointer (some ⟨g,0,none⟩)]) (fun v=>v==a):=by
 intro v w1 hO h0 h1;have hb1:=h.row.only hO h.far;have HT:=zh (zbu g a v w1 hb1);clear h hO hb1;have hn:=qa5
 go_enter_defers func311, ntmps311
 go_wp2_with fail;refine HT.out.mono ?_;rintro e w2 ⟨rfl,hO⟩;have HO:=zh hO;clear hO HT;generalize hq:(v==a)=q at *;have HQ:=zh hq;clear hq;go_wp2;refine leaves_cons (f:= 319) (args:= #[]) (by simp) (by simp[go_sem]) ?_;refine(jp _).mono ?_;rintro e u' w'' ⟨rfl,rfl,rfl⟩;exact⟨_,results_tmp rfl _ _ _,by rw[HQ.out];rfl,HO.out⟩
theorem qmc{A:Option Addr}{g:Nat}{s:Int}{w:World}(h:qsx w A g s):qbx A w (.func (.func 119) #[] #[.pointer (some ⟨g,0,none⟩)]) (fun v=>va v !=s):=by
 intro v w1 hO h0 h1;have hb1:=h.row.only hO h.far;have HT:=zh (qw1 g s v w1 hb1 ⟨h0,h1⟩);clear h hO hb1;have hn:=qa5
 go_enter_defers func311, ntmps311
 go_wp2_with fail;refine HT.out.mono ?_;rintro e w2 ⟨rfl,hO⟩;have HO:=zh hO;clear hO HT;generalize hq:(va v !=s)=q at *;have HQ:=zh hq;clear hq;go_wp2;refine leaves_cons (f:= 319) (args:= #[]) (by simp) (by simp[go_sem]) ?_;refine(jp _).mono ?_;rintro e u' w'' ⟨rfl,rfl,rfl⟩;exact⟨_,results_tmp rfl _ _ _,by rw[HQ.out];rfl,HO.out⟩
section
variable{B:Nat}{p A:Option Addr}{cp:Nat}{r:LS}{w0 w:World}
def LS.admits(r:LS)(sn dn:Bool):LS:=if dn then(r.noteIf sn 4).fin true else r.noteIf sn 4
theorem qh9(sn dn:Bool)(S:St w0 B p A cp [] 900 r w):Calls prog 120 #[Value.pointer (some ⟨B,0,none⟩),.bool sn,.bool dn] w (qj B p A cp w0 (.tuple #[]) (r.admits sn dn)):=by
 cases sn<;>cases dn
 all_goals (go_enter func120, ntmps120)
 . go_wp2;go_returns;exact S.done
 . go_wp2_with fail;refine qeu S fun w S=> ?_;go_wp2;go_returns;exact S.done
 . go_wp2_with fail;refine jr S fun w S=> ?_;go_wp2;go_returns;exact S.done
 . go_wp2_with fail;refine jr S fun w S=> ?_;go_wp2_with fail;refine qeu S fun w S=> ?_;go_wp2;go_returns;exact S.done
theorem qrj(S:St w0 B p A cp [] 900 r w)(hx:Words r.xs):Calls prog 67 #[Value.pointer (some ⟨B,0,none⟩)] w (qj B p A cp w0 (.tuple #[]) r.pTurn):=by
 generalize hsn:(r.stepR 3 r.mine).seen=sn;generalize hdn:(r.stepR 3 r.mine).done=dn;obtain⟨r1,hr1⟩:∃r1,r.wait 3 r.mine=r1:=⟨_,rfl⟩;have H:=zh (And.intro hsn (And.intro hdn (And.intro hr1 hx)));clear hsn hdn hr1 hx;have c6:=S.c6;skip;go_enter func67, ntmps67;go_wp2_with fail;clear c6;obtain⟨nv,hP⟩:=S.run;refine(qik B p A cp nv r (r.a) _ hP).mono ?_;rintro e w1 ⟨gt,rfl,hT,hO⟩;replace S:=S.keep hO;have HH:=zh (qgc hT);clear hT hO hP;go_wp2_with fail;refine qo1 (q:=r.mine) S HH.out H.out.2.2.2 H.out.1 H.out.2.1 H.out.2.2.1 fun w2 S=> ?_;clear HH
 cases dn
 . go_wp2;go_returns;exact S.fit (by unfold LS.pTurn;rw[H.out.2.1,H.out.2.2.1];rfl)
 . go_wp2_with fail;refine xGo S fun w S=> ?_;go_wp2;go_returns;exact S.fit (by unfold LS.pTurn;rw[H.out.2.1,H.out.2.2.1];rfl)
theorem qei(S:St w0 B p A cp [] 900 r w)(hx:Words r.xs):Calls prog 70 #[Value.pointer (some ⟨B,0,none⟩)] w (qj B p A cp w0 (.tuple #[]) (r.pAdmit 1 r.mine)):=by
 generalize hsn:(r.stepR 1 r.mine).seen=sn;generalize hdn:(r.stepR 1 r.mine).done=dn;obtain⟨r1,hr1⟩:∃r1,r.wait 1 r.mine=r1:=⟨_,rfl⟩;have H:=zh (And.intro hsn (And.intro hdn (And.intro hr1 hx)));clear hsn hdn hr1 hx;have c6:=S.c6;skip;go_enter func70, ntmps70;go_wp2_with fail;clear c6;obtain⟨nv,hP⟩:=S.run;refine(qik B p A cp nv r (r.a) _ hP).mono ?_;rintro e w1 ⟨gt,rfl,hT,hO⟩;replace S:=S.keep hO;have HH:=zh (qgc hT);clear hT hO hP;go_wp2_with fail;refine qo1 (q:=r.mine) S HH.out H.out.2.2.2 H.out.1 H.out.2.1 H.out.2.2.1 fun w2 S=> ?_;clear HH;go_wp2_with fail;refine yf (r':=r.pAdmit 1 r.mine) (qh9 sn dn S) (by unfold LS.pAdmit LS.admits;rw[H.out.1,H.out.2.1,H.out.2.2.1]) fun w3 H=> ?_;go_wp2;go_returns;exact H.out
theorem qlq(S:St w0 B p A cp [] 900 r w)(hx:Words r.xs):Calls prog 131 #[Value.pointer (some ⟨B,0,none⟩)] w (qj B p A cp w0 (.tuple #[]) r.pOthers):=by
 generalize hsn:(r.stepR 1 r.butMe).seen=sn;generalize hdn:(r.stepR 1 r.butMe).done=dn;obtain⟨r1,hr1⟩:∃r1,r.wait 1 r.butMe=r1:=⟨_,rfl⟩;have H:=zh (And.intro hsn (And.intro hdn (And.intro hr1 hx)));clear hsn hdn hr1 hx;have c6:=S.c6;have hw:IntKind.u32.wrap (r.a-256)=(r.a-256)%4294967296:=rfl;go_enter func131, ntmps131;go_wp2_with fail;clear c6;obtain⟨nv,hP⟩:=S.run;refine(qik B p A cp nv r ((r.a-256)%4294967296) _ hP).mono ?_;rintro e w1 ⟨gt,rfl,hT,hO⟩;replace S:=S.keep hO;have HH:=zh (qgc hT);clear hT hO hP;go_wp2_with fail;refine qo1 (q:=r.butMe) S HH.out H.out.2.2.2 H.out.1 H.out.2.1 H.out.2.2.1 fun w2 S=> ?_;clear HH
 cases sn
 all_goals cases dn
 . go_wp2;go_returns;exact S.fit (by unfold LS.pOthers;rw[H.out.1,H.out.2.1,H.out.2.2.1];rfl)
 . go_wp2_with fail;refine xGo S fun w S=> ?_;go_wp2;go_returns;exact S.fit (by unfold LS.pOthers;rw[H.out.1,H.out.2.1,H.out.2.2.1];rfl)
 . go_wp2_with fail;refine jr S fun w S=> ?_;go_wp2;go_returns;exact S.fit (by unfold LS.pOthers;rw[H.out.1,H.out.2.1,H.out.2.2.1];rfl)
 . go_wp2_with fail;refine jr S fun w S=> ?_;go_wp2_with fail;refine xGo S fun w S=> ?_;go_wp2;go_returns;exact S.fit (by unfold LS.pOthers;rw[H.out.1,H.out.2.1,H.out.2.2.1];rfl)
theorem qtg(S:St w0 B p A cp [] 900 r w)(hx:Words r.xs)(ha:0<=r.a/\r.a<4294967296):Calls prog 64 #[Value.pointer (some ⟨B,0,none⟩)] w (qj B p A cp w0 (.tuple #[]) (r.pAdmit 0 r.left)):=by
 generalize hsn:(r.stepR 0 r.left).seen=sn;generalize hdn:(r.stepR 0 r.left).done=dn;obtain⟨r1,hr1⟩:∃r1,r.wait 0 r.left=r1:=⟨_,rfl⟩;have H:=zh (And.intro hsn (And.intro hdn (And.intro hr1 hx)));clear hsn hdn hr1 hx;have c6:=S.c6;go_enter func64, ntmps64;go_wp2_with fail;clear c6;refine(qdo r.a _ ha).mono ?_;rintro e w1 ⟨rfl,hd⟩;replace S:=S.drewd hd;clear hd;have hT:qsx (w1.alloc (.cells #[.int .u32 (va r.a)] 22)) A w1.heap.size (va r.a):=⟨Row.new w1 22 #[.int .u32 (va r.a)],fun e=>by obtain⟨nv,hP⟩:=S.run;have:=hP.memo.lt _ (.inr e);omega⟩;have HH:=zh (qmc hT);replace S:=S.keep ((Only.refl Nil w1).alloc (.cells #[.int .u32 (va r.a)] 22));clear hT;go_wp2_with fail;refine qo1 (q:=r.left) S HH.out H.out.2.2.2 H.out.1 H.out.2.1 H.out.2.2.1 fun w2 S=> ?_;clear HH;go_wp2_with fail;refine yf (r':=r.pAdmit 0 r.left) (qh9 sn dn S) (by unfold LS.pAdmit LS.admits;rw[H.out.1,H.out.2.1,H.out.2.2.1]) fun w3 H=> ?_;go_wp2;go_returns;exact H.out
theorem qss(S:St w0 B p A cp [] 900 r w):Calls prog 75 #[Value.pointer (some ⟨B,0,none⟩)] w (qj B p A cp w0 (.tuple #[]) r.pSlip):=by
 have c6:=S.c6;have hx1:IntKind.u32.wrap (r.a+256)=(r.a+256)%4294967296:=rfl;go_enter func75, ntmps75
 go_upto_region 0 with(fail)
 refine qb (n:=14) 12 (fun w=>w.cell? ⟨B,6,none⟩=some (.int .u32 r.a)) rfl kr c6 (fun hHeld=> ?_);replace S:=S.drew;clear c6;generalize w.drew=w1 at *;refine za 0 rfl ?_;refine za 1 rfl ?_;refine za 2 rfl ?_;refine za 3 rfl ?_;refine za 4 rfl ?_;refine zt 5 rfl ?_;refine za 6 rfl ?_;refine za 7 rfl ?_;refine za 8 rfl ?_;refine za 9 rfl ?_;refine zt 10 rfl ?_;refine mpa 11 rfl (.int .u32 ((r.a+256)%4294967296)) (fun w=> ?_) ?_
 . go_simp
 refine mpc 12 rfl kr br (fun K hK=> ?_);go_simp;refine qz8 S fun w2 S=> ?_;refine hK.out _ _ (.inl kr) ?_;clear hK K hHeld hx1;obtain⟨cl,hz⟩:∃cl,(qf r.xs 0 && (qa r.xs 0==r.a))=cl:=⟨_,rfl⟩;rw[hz];have H:=zh hz;clear hz;refine za 13 rfl ?_;refine qc kr ?_ _
 cases cl
 . go_wp2_with fail;refine xGo S fun w S=> ?_;go_wp2;go_returns;exact S.fit (by unfold LS.pSlip LS.was;exact qcj H.out)
 . go_wp2_with fail;refine jr S fun w S=> ?_;go_wp2_with fail;refine jr S fun w S=> ?_;go_wp2_with fail;refine qeu S fun w S=> ?_;go_wp2;go_returns;exact S.fit (by unfold LS.pSlip LS.was;exact qab H.out)
theorem qhg(S:St w0 B p A cp [] 900 r w):Calls prog 129 #[Value.pointer (some ⟨B,0,none⟩)] w (qj B p A cp w0 (.tuple #[]) r.pClaim):=by
 have c6:=S.c6;have hx1:IntKind.u32.wrap (r.a+1)=(r.a+1)%4294967296:=rfl;go_enter func129, ntmps129
 go_upto_region 0 with(fail)
 refine qb (n:=14) 12 (fun w=>w.cell? ⟨B,6,none⟩=some (.int .u32 r.a)) rfl kr c6 (fun hHeld=> ?_);replace S:=S.drew;clear c6;generalize w.drew=w1 at *;refine za 0 rfl ?_;refine za 1 rfl ?_;refine za 2 rfl ?_;refine za 3 rfl ?_;refine za 4 rfl ?_;refine zt 5 rfl ?_;refine za 6 rfl ?_;refine za 7 rfl ?_;refine za 8 rfl ?_;refine za 9 rfl ?_;refine zt 10 rfl ?_;refine mpa 11 rfl (.int .u32 ((r.a+1)%4294967296)) (fun w=> ?_) ?_
 . go_simp
 refine mpc 12 rfl kr br (fun K hK=> ?_);go_simp;refine qz8 S fun w2 S=> ?_;refine hK.out _ _ (.inl kr) ?_;clear hK K hHeld hx1;obtain⟨cl,hz⟩:∃cl,(qf r.xs 2 && (qa r.xs 2==r.a))=cl:=⟨_,rfl⟩;rw[hz];have H:=zh hz;clear hz;refine za 13 rfl ?_;refine qc kr ?_ _
 cases cl
 . go_wp2_with fail;refine xGo S fun w S=> ?_;go_wp2;go_returns;exact S.fit (by unfold LS.pClaim LS.was;exact qcj H.out)
 . go_wp2_with fail;refine jr S fun w S=> ?_;go_wp2_with fail;refine xGo S fun w S=> ?_;go_wp2;go_returns;exact S.fit (by unfold LS.pClaim LS.was;exact qab H.out)
theorem qf4(S:St w0 B p A cp [] 900 r w):Calls prog 128 #[Value.pointer (some ⟨B,0,none⟩)] w (qj B p A cp w0 (.tuple #[]) r.pWeighT):=by
 go_enter func128, ntmps128;go_wp2_with fail;refine qeh S fun w1 S=> ?_;have c7:=S.c7;have f7:=S.froz 7
 go_upto_region 1 with(fail)
 clear c7 f7;replace S:=S.setB (qa r.xs 3);generalize w1.setCell ⟨B,7,none⟩ (.int .u32 (qa r.xs 3))=w2 at *;refine qb (n:=12) 10 (fun w=>w.cell? ⟨B,6,none⟩=some (.int .u32 r.a)/\w.cell? ⟨B,7,none⟩=some (.int .u32 (qa r.xs 3))) rfl kr ⟨S.c6,S.c7⟩ (fun hHeld=> ?_);replace S:=S.drew;generalize w2.drew=w3 at *;refine za 0 rfl ?_;refine za 1 rfl ?_;refine za 2 rfl ?_;refine za 3 rfl ?_;refine zt 4 rfl ?_;refine za 5 rfl ?_;refine za 6 rfl ?_;refine za 7 rfl ?_;refine za 8 rfl ?_;refine zt 9 rfl ?_;refine mpc 10 rfl kr br (fun K hK=> ?_);go_simp;refine(qc9 r.a (qa r.xs 3) _).mono ?_;obtain⟨ah,hz⟩:∃ah,zv r.a (qa r.xs 3)=ah:=⟨_,rfl⟩;rw[hz];have H:=zh hz;clear hz;rintro e w9 ⟨rfl,rfl⟩;refine hK.out _ _ (.inl kr) ?_;clear hK K;refine za 11 rfl ?_;refine qc kr ?_ _;clear hHeld
 by_cases h1:0<ah
 . go_wp2_with fail;refine jr S fun w S=> ?_;go_wp2_with fail;refine qeu S fun w S=> ?_;go_wp2;go_returns;exact S.fit (by unfold LS.pWeighT;rw[H.out,if_pos h1])
 by_cases h2:ah<0
 . go_wp2_with fail;refine xGo S fun w S=> ?_;go_wp2;go_returns;exact S.fit (by unfold LS.pWeighT;rw[H.out,if_neg (show ¬0<ah by omega),if_pos h2])
 . go_wp2_with fail;refine xGo S fun w S=> ?_;go_wp2;go_returns;exact S.fit (by unfold LS.pWeighT;rw[H.out,if_neg (show ¬0<ah by omega),if_neg (show ¬ah<0 by omega)])
theorem qg3(own:Int)(S:St w0 B p A cp [] 900 r w):Calls prog 130 #[Value.pointer (some ⟨B,0,none⟩),.int .i64 own] w (qj B p A cp w0 (.tuple #[]) (r.pWeighR own)):=by
 go_enter func130, ntmps130;go_wp2_with fail;refine qeh S fun w1 S=> ?_;have c7:=S.c7;have f7:=S.froz 7
 go_upto_region 1 with(fail)
 clear c7 f7;replace S:=S.setB (qa r.xs 1);generalize w1.setCell ⟨B,7,none⟩ (.int .u32 (qa r.xs 1))=w2 at *;refine qb (n:=13) 10 (fun w=>w.cell? ⟨B,6,none⟩=some (.int .u32 r.a)/\w.cell? ⟨B,7,none⟩=some (.int .u32 (qa r.xs 1))) rfl kr ⟨S.c6,S.c7⟩ (fun hHeld=> ?_);replace S:=S.drew;generalize w2.drew=w3 at *;refine za 0 rfl ?_;refine za 1 rfl ?_;refine za 2 rfl ?_;refine za 3 rfl ?_;refine zt 4 rfl ?_;refine za 5 rfl ?_;refine za 6 rfl ?_;refine za 7 rfl ?_;refine za 8 rfl ?_;refine zt 9 rfl ?_;refine za 11 rfl ?_;refine mpc 10 rfl kr br (fun K hK=> ?_);go_simp;refine(qc9 r.a (qa r.xs 1) _).mono ?_;obtain⟨ah,hz⟩:∃ah,zv r.a (qa r.xs 1)=ah:=⟨_,rfl⟩;rw[hz];have H:=zh hz;clear hz;rintro e w9 ⟨rfl,rfl⟩;refine hK.out _ _ (.inl kr) ?_;clear hK K;refine za 12 rfl ?_;refine qc kr ?_ _;clear hHeld
 by_cases h1:ah<=own
 . go_wp2_with fail;refine xGo S fun w S=> ?_;go_wp2;go_returns;exact S.fit (by unfold LS.pWeighR;rw[H.out,if_pos h1])
 . go_wp2_with fail;refine jr S fun w S=> ?_;go_wp2_with fail;refine xGo S fun w S=> ?_;go_wp2;go_returns;exact S.fit (by unfold LS.pWeighR;rw[H.out,if_neg (show ¬ah<=own by omega)])
end
end Go.Proofs.YtgebffjejifidaaGreat
