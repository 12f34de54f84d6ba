import Derived.Test.YtgebffjejifidaaGreatG1
import Derived.Test.YtgebffjejifidaaGreatG9
import Derived.Test.YtgebffjejifidaaGreatG2
set_option linter.unusedVariables false
set_option linter.unusedSimpArgs false
set_option maxHeartbeats 1000000
namespace Go.Proofs.YtgebffjejifidaaGreat
open Go.RowKit Tryz
section
variable{B g0 g1 g2:Nat}{p A:Option Addr}{cp:Nat}{nv:Value}{r:LS}{w:World}
theorem qso(c what:Int)(S:St w B p A cp [(g0, 110, #[Value.pointer (some ⟨B,0,none⟩)]),(g1, 3, #[.int .i64 c]),(g2, 3, #[.int .i64 what])] 900 r w):Calls prog 210 #[.pointer (some ⟨g0,0,none⟩),.pointer (some ⟨g1,0,none⟩),.pointer (some ⟨g2,0,none⟩)] w (qj B p A cp w (.tuple #[]) (r.turn c what)):=by
 have b0:=S.c0;have b1:=S.rows.c1;go_enter func210, ntmps210;go_wp2_with fail;refine qew S fun w S b0=> ?_;have b2:=S.rows.c2;go_wp2_with fail;refine yn S fun w S b0=> ?_;have b1:=S.rows.c1;go_wp2_with fail;refine qkh S fun w S b0=> ?_;go_wp2_with fail;refine xf S fun w S b0=> ?_;go_wp2;go_returns;exact S.done
theorem qan(c what:Int)(h:RunP w B p A cp nv r)(hl:r.ns.length<=900):Calls prog 104 #[Value.pointer (some ⟨B,0,none⟩),.int .i64 c,.int .i64 what] w (Clo 210 B p A cp (r.turn c what) w):=by
 obtain⟨e,S⟩:=mk3 h hl yv yv;have HC:=zh (qso c what S);clear S h hl;go_enter func104, ntmps104;go_wp2;go_ret;exact⟨_,rfl,e,HC.out⟩
theorem qqa(S:St w B p A cp [(g0, 110, #[Value.pointer (some ⟨B,0,none⟩)])] 900 r w):Calls prog 212 #[.pointer (some ⟨g0,0,none⟩)] w (qj B p A cp w (.tuple #[]) r.leave):=by
 have b0:=S.c0;go_enter func212, ntmps212;go_wp2_with fail;refine qew S fun w S b0=> ?_;go_wp2_with fail;refine yn S fun w S b0=> ?_;go_wp2_with fail;refine qkh S fun w S b0=> ?_;go_wp2_with fail;refine sGo S fun w S b0=> ?_;go_wp2;go_returns;exact S.done
theorem qmw(h:RunP w B p A cp nv r)(hl:r.ns.length<=900):Calls prog 106 #[Value.pointer (some ⟨B,0,none⟩)] w (Clo 212 B p A cp r.leave w):=by
 obtain⟨e,S⟩:=mk1 h hl;have HC:=zh (qqa S);clear S h hl;go_enter func106, ntmps106;go_wp2;go_ret;exact⟨_,rfl,e,HC.out⟩
theorem qru(S:St w B p A cp [(g0, 110, #[Value.pointer (some ⟨B,0,none⟩)])] 900 r w):Calls prog 217 #[.pointer (some ⟨g0,0,none⟩)] w (qj B p A cp w (.tuple #[]) r.giveBack):=by
 have b0:=S.c0;go_enter func217, ntmps217;go_wp2_with fail;refine qew S fun w S b0=> ?_;go_wp2_with fail;refine xf S fun w S b0=> ?_;go_wp2;go_returns;exact S.done
theorem qpo(h:RunP w B p A cp nv r)(hl:r.ns.length<=900):Calls prog 115 #[Value.pointer (some ⟨B,0,none⟩)] w (Clo 217 B p A cp r.giveBack w):=by
 obtain⟨e,S⟩:=mk1 h hl;have HC:=zh (qru S);clear S h hl;go_enter func115, ntmps115;go_wp2;go_ret;exact⟨_,rfl,e,HC.out⟩
theorem qp0(S:St w B p A cp [(g0, 110, #[Value.pointer (some ⟨B,0,none⟩)])] 900 r w):Calls prog 110 #[.pointer (some ⟨g0,0,none⟩)] w (qj B p A cp w (.tuple #[]) ((r.note 2 1).go 3)):=by
 have b0:=S.c0;go_enter func110, ntmps110;go_wp2_with fail;refine yn S fun w S b0=> ?_;go_wp2_with fail;refine sGo S fun w S b0=> ?_;go_wp2;go_returns;exact S.done
theorem qpw(S:St w B p A cp [(g0, 110, #[Value.pointer (some ⟨B,0,none⟩)])] 900 r w):Calls prog 112 #[.pointer (some ⟨g0,0,none⟩)] w (qj B p A cp w (.tuple #[]) (((r.note 2 2).note 4 0).fin true)):=by
 have b0:=S.c0;go_enter func112, ntmps112;go_wp2_with fail;refine yn S fun w S b0=> ?_;go_wp2_with fail;refine yn S fun w S b0=> ?_;go_wp2_with fail;refine xf S fun w S b0=> ?_;go_wp2;go_returns;exact S.done
theorem qof(S:St w B p A cp [(g0, 110, #[Value.pointer (some ⟨B,0,none⟩)])] 900 r w):Calls prog 114 #[.pointer (some ⟨g0,0,none⟩)] w (qj B p A cp w (.tuple #[]) ((r.note 9 0).go 3)):=by
 have b0:=S.c0;go_enter func114, ntmps114;go_wp2_with fail;refine yn S fun w S b0=> ?_;go_wp2_with fail;refine sGo S fun w S b0=> ?_;go_wp2;go_returns;exact S.done
theorem qkp:qz 110 :=fun args w=>by simp[callFunc,go_sem, func110, Tryz.f110]
theorem qjh:qz 112 :=fun args w=>by simp[callFunc,go_sem, func112, Tryz.f112]
theorem qjg:qz 114 :=fun args w=>by simp[callFunc,go_sem, func114, Tryz.f114]
theorem qs0(cl:Int)(S:St w B p A cp [(g0, 110, #[Value.pointer (some ⟨B,0,none⟩)]),(g1, 3, #[.int .i64 cl])] 900 r w):Calls prog 207 #[.pointer (some ⟨g0,0,none⟩),.pointer (some ⟨g1,0,none⟩)] w (qj B p A cp w (.tuple #[]) (r.draw cl)):=by
 have b0:=S.c0;go_enter func207, ntmps207
 go_upto_region 0 with(fail)
 refine qb (n:=7) 6 (fun w=>w.cell? ⟨g0,0,none⟩=some (Value.pointer (some ⟨B,0,none⟩))) rfl kr b0 (fun hHeld=> ?_);replace S:=S.drew;clear b0;generalize w.drew=w1 at *;refine zt 0 rfl ?_;refine zt 1 rfl ?_;refine mpc 2 rfl kr br (fun K hK=> ?_);go_simp;refine qew S fun w2 S b0=> ?_;refine hK.out _ _ (.inr b0) ?_;clear hK K hHeld;refine za 3 rfl ?_;refine za 4 rfl ?_;refine za 5 rfl ?_;have c6:=S.c6;have f6:=S.froz 6;refine mpc 6 rfl kr br (fun K hK=> ?_);go_simp;refine hK.out _ _ (.inl kr) ?_;clear hK K c6 f6 b0;replace S:=S.setA (qa r.xs 0);generalize w2.setCell ⟨B,6,none⟩ (.int .u32 (qa r.xs 0))=w3 at *;refine qc kr ?_ _;have b0:=S.c0;have b1:=S.rows.c1;go_wp2_with fail;refine yn S fun w S b0=> ?_;go_wp2_with fail;refine sGo S fun w S b0=> ?_;go_wp2;go_returns;exact S.done
theorem qha(cl:Int)(h:RunP w B p A cp nv r)(hl:r.ns.length<=900):Calls prog 102 #[Value.pointer (some ⟨B,0,none⟩),.int .i64 cl] w (Clo 207 B p A cp (r.draw cl) w):=by
 obtain⟨e,S⟩:=mk2 h hl yv;have HC:=zh (qs0 cl S);clear S h hl;go_enter func102, ntmps102;go_wp2;go_ret;exact⟨_,rfl,e,HC.out⟩
theorem qug(S:St w B p A cp [(g0, 110, #[Value.pointer (some ⟨B,0,none⟩)])] 900 r w):Calls prog 213 #[.pointer (some ⟨g0,0,none⟩)] w (qj B p A cp w (.tuple #[]) r.look):=by
 have b0:=S.c0;go_enter func213, ntmps213
 go_upto_region 0 with(fail)
 refine qb (n:=7) 6 (fun w=>w.cell? ⟨g0,0,none⟩=some (Value.pointer (some ⟨B,0,none⟩))) rfl kr b0 (fun hHeld=> ?_);replace S:=S.drew;clear b0;generalize w.drew=w1 at *;refine zt 0 rfl ?_;refine zt 1 rfl ?_;refine mpc 2 rfl kr br (fun K hK=> ?_);go_simp;refine qeq S fun w2 S b0=> ?_;refine hK.out _ _ (.inr b0) ?_;clear hK K hHeld;refine za 3 rfl ?_;refine za 4 rfl ?_;refine za 5 rfl ?_;have c6:=S.c6;have f6:=S.froz 6;refine mpc 6 rfl kr br (fun K hK=> ?_);go_simp;refine hK.out _ _ (.inl kr) ?_;clear hK K c6 f6 b0;replace S:=S.setA (qa r.xs 0);generalize w2.setCell ⟨B,6,none⟩ (.int .u32 (qa r.xs 0))=w3 at *;refine qc kr ?_ _;have b0:=S.c0;go_wp2_with fail;refine sGo S fun w S b0=> ?_;go_wp2;go_returns;exact S.done
theorem qe3(h:RunP w B p A cp nv r)(hl:r.ns.length<=900):Calls prog 107 #[Value.pointer (some ⟨B,0,none⟩)] w (Clo 213 B p A cp r.look w):=by
 obtain⟨e,S⟩:=mk1 h hl;have HC:=zh (qug S);clear S h hl;go_enter func107, ntmps107;go_wp2;go_ret;exact⟨_,rfl,e,HC.out⟩
end
theorem qoq(B gt:Nat)(a v:Int)(w:World)(hb:Row w gt 110 #[Value.pointer (some ⟨B,0,none⟩)])(c6:w.cell? ⟨B,6,none⟩=some (.int .u32 a)):
 Calls prog 278 #[.int .u32 v,.pointer (some ⟨gt,0,none⟩)] w fun e w'=>e= .returned (.bool (v==a))/\Only Nil w w':=by
 have b0:w.cell? ⟨gt,0,none⟩=some (Value.pointer (some ⟨B,0,none⟩)):=hb.cell_ (i:=0) rfl;clear hb;go_enter func278, ntmps278;go_wp2;go_ret;exact⟨rfl,Only.refl _ _⟩
theorem qef(B:Nat)(w:World):Calls prog 209 #[Value.pointer (some ⟨B,0,none⟩)] w fun e w'=>
 e= .returned (.func (.func 278) #[] #[.pointer (some ⟨w.heap.size,0,none⟩)])/\Row w' w.heap.size 110 #[Value.pointer (some ⟨B,0,none⟩)]/\Only Nil w w':=by
 have HR:=zh (Row.new w 110 #[Value.pointer (some ⟨B,0,none⟩)]);have HO:=zh ((Only.refl Nil w).alloc (.cells #[Value.pointer (some ⟨B,0,none⟩)] 110));go_enter func209, ntmps209;go_wp2;go_ret;exact⟨rfl,HR.out,HO.out⟩
theorem qdp(B gt:Nat)(p A:Option Addr)(cp:Nat)(nv:Value)(r:LS)(w:World)(h:RunP w B p A cp nv r)(hb:Row w gt 110 #[Value.pointer (some ⟨B,0,none⟩)]):qbx A w (.func (.func 278) #[] #[.pointer (some ⟨gt,0,none⟩)]) r.mine:=by
 intro v w1 hO h0 h1;have hb1:Row w1 gt 110 #[Value.pointer (some ⟨B,0,none⟩)]:=h.aside hb hO.turned2 yh;have hr1:Row w1 B 108 (r.cells (.pointer p) nv):=h.row.only hO (fun e=>h.far (.inr e) rfl);have c6:w1.cell? ⟨B,6,none⟩=some (.int .u32 r.a):=hr1.cell_ (i:=6) rfl;have HT:=zh (qoq B gt r.a v w1 hb1 c6);clear h hb hO hb1 hr1 c6;have hn:=qa5
 go_enter_defers func311, ntmps311
 go_wp2_with fail;refine HT.out.mono ?_;rintro e w2 ⟨rfl,hO⟩;have HO:=zh hO;clear hO HT;have HQ:=zh (show r.mine v=(v==r.a)from rfl);generalize hq:(v==r.a)=q at *;clear hq;go_wp2;refine leaves_cons (f:= 319) (args:= #[]) (by simp) (by simp[go_sem]) ?_;refine(jp _).mono ?_;rintro e u' w'' ⟨rfl,rfl,rfl⟩;exact⟨_,results_tmp rfl _ _ _,by rw[HQ.out];rfl,HO.out⟩
section
variable{B g0 g1 g2:Nat}{p A:Option Addr}{cp:Nat}{nv:Value}{r:LS}{w:World}
theorem qm0(S:St w B p A cp [(g0, 110, #[Value.pointer (some ⟨B,0,none⟩)])] 900 r w)(hx:Words r.xs):Calls prog 208 #[.pointer (some ⟨g0,0,none⟩)] w (qj B p A cp w (.tuple #[]) r.awaitR):=by
 generalize hsn:(r.stepR 1 r.mine).seen=sn;generalize hdn:(r.stepR 1 r.mine).done=dn;obtain⟨r1,hr1⟩:∃r1,r.wait 1 r.mine=r1:=⟨_,rfl⟩;have H:=zh (And.intro hsn (And.intro hdn (And.intro hr1 hx)));have b0:=S.c0;clear hsn hdn hr1 hx;go_enter func208, ntmps208
 go_upto_region 0 with(fail)
 refine qb (n:=9) 3 (fun w=>w.cell? ⟨g0,0,none⟩=some (Value.pointer (some ⟨B,0,none⟩))) rfl kr b0 (fun hHeld=> ?_);replace S:=S.drew;clear b0;generalize w.drew=w1 at *;refine zt 0 rfl ?_;refine zt 1 rfl ?_;refine mpc 2 rfl kr br (fun K hK=> ?_);go_simp;refine(qef B _).mono ?_;rintro e w2 ⟨rfl,hT,hO⟩;replace S:=S.keep hO;generalize w1.heap.size=gt at *;clear hO;have b0:=S.c0;refine hK.out _ _ (.inr b0) ?_;clear hK K hHeld;obtain⟨nv,hP⟩:=S.run;have HH:=zh (qdp B gt p A cp nv r _ hP hT);clear hP hT;refine mpc 3 rfl kr br (fun K hK=> ?_);go_simp;refine qes S HH.out H.out.2.2.2 H.out.1 H.out.2.1 H.out.2.2.1 fun w3 S b0=> ?_;refine hK.out _ _ (.inl kr) ?_;clear hK K HH;refine za 4 rfl ?_;refine za 5 rfl ?_;refine za 6 rfl ?_;refine za 7 rfl ?_;refine za 8 rfl ?_;refine qc kr ?_ _
 cases dn
 . go_wp2;go_returns;exact S.fit (by unfold LS.awaitR;rw[H.out.2.1,H.out.2.2.1];rfl)
 . go_wp2_with fail;refine sGo S fun w S b0=> ?_;go_wp2;go_returns;exact S.fit (by unfold LS.awaitR;rw[H.out.2.1,H.out.2.2.1];rfl)
theorem qm9(S:St w B p A cp [(g0, 110, #[Value.pointer (some ⟨B,0,none⟩)])] 900 r w)(hx:Words r.xs):Calls prog 211 #[.pointer (some ⟨g0,0,none⟩)] w (qj B p A cp w (.tuple #[]) r.awaitW):=by
 generalize hsn:(r.stepR 2 r.mine).seen=sn;generalize hdn:(r.stepR 2 r.mine).done=dn;obtain⟨r1,hr1⟩:∃r1,r.wait 2 r.mine=r1:=⟨_,rfl⟩;have H:=zh (And.intro hsn (And.intro hdn (And.intro hr1 hx)));have b0:=S.c0;clear hsn hdn hr1 hx;go_enter func211, ntmps211
 go_upto_region 0 with(fail)
 refine qb (n:=9) 3 (fun w=>w.cell? ⟨g0,0,none⟩=some (Value.pointer (some ⟨B,0,none⟩))) rfl kr b0 (fun hHeld=> ?_);replace S:=S.drew;clear b0;generalize w.drew=w1 at *;refine zt 0 rfl ?_;refine zt 1 rfl ?_;refine mpc 2 rfl kr br (fun K hK=> ?_);go_simp;refine(qef B _).mono ?_;rintro e w2 ⟨rfl,hT,hO⟩;replace S:=S.keep hO;generalize w1.heap.size=gt at *;clear hO;have b0:=S.c0;refine hK.out _ _ (.inr b0) ?_;clear hK K hHeld;obtain⟨nv,hP⟩:=S.run;have HH:=zh (qdp B gt p A cp nv r _ hP hT);clear hP hT;refine mpc 3 rfl kr br (fun K hK=> ?_);go_simp;refine qes S HH.out H.out.2.2.2 H.out.1 H.out.2.1 H.out.2.2.1 fun w3 S b0=> ?_;refine hK.out _ _ (.inl kr) ?_;clear hK K HH;refine za 4 rfl ?_;refine za 5 rfl ?_;refine za 6 rfl ?_;refine za 7 rfl ?_;refine za 8 rfl ?_;refine qc kr ?_ _
 cases sn
 all_goals cases dn
 . go_wp2;go_returns;exact S.fit (by unfold LS.awaitW;rw[H.out.1,H.out.2.1,H.out.2.2.1];rfl)
 . go_wp2_with fail;refine xf S fun w S b0=> ?_;go_wp2;go_returns;exact S.fit (by unfold LS.awaitW;rw[H.out.1,H.out.2.1,H.out.2.2.1];rfl)
 . go_wp2_with fail;refine yn S fun w S b0=> ?_;go_wp2;go_returns;exact S.fit (by unfold LS.awaitW;rw[H.out.1,H.out.2.1,H.out.2.2.1];rfl)
 . go_wp2_with fail;refine yn S fun w S b0=> ?_;go_wp2_with fail;refine xf S fun w S b0=> ?_;go_wp2;go_returns;exact S.fit (by unfold LS.awaitW;rw[H.out.1,H.out.2.1,H.out.2.2.1];rfl)
theorem qja(h:RunP w B p A cp nv r)(hl:r.ns.length<=900)(hx:Words r.xs):Calls prog 103 #[Value.pointer (some ⟨B,0,none⟩)] w (Clo 208 B p A cp r.awaitR w):=by
 obtain⟨e,S⟩:=mk1 h hl;have HC:=zh (qm0 S hx);clear S h hl hx;go_enter func103, ntmps103;go_wp2;go_ret;exact⟨_,rfl,e,HC.out⟩
theorem qjo(h:RunP w B p A cp nv r)(hl:r.ns.length<=900)(hx:Words r.xs):Calls prog 105 #[Value.pointer (some ⟨B,0,none⟩)] w (Clo 211 B p A cp r.awaitW w):=by
 obtain⟨e,S⟩:=mk1 h hl;have HC:=zh (qm9 S hx);clear S h hl hx;go_enter func105, ntmps105;go_wp2;go_ret;exact⟨_,rfl,e,HC.out⟩
theorem qol(c own:Int)(S:St w B p A cp [(g0, 110, #[Value.pointer (some ⟨B,0,none⟩)]),(g1, 3, #[.int .i64 c]),(g2, 3, #[.int .i64 own])] 900 r w):
 Calls prog 214 #[.pointer (some ⟨g0,0,none⟩),.pointer (some ⟨g1,0,none⟩),.pointer (some ⟨g2,0,none⟩)] w (qj B p A cp w (.tuple #[]) (r.weigh c own)):=by
 have b0:=S.c0;go_enter func214, ntmps214
 go_upto_region 0 with(fail)
 refine qb (n:=8) 7 (fun w=>w.cell? ⟨g0,0,none⟩=some (Value.pointer (some ⟨B,0,none⟩))/\w.cell? ⟨g1,0,none⟩=some (.int .i64 c)) rfl kr ⟨b0,S.rows.c1⟩ (fun hHeld=> ?_);replace S:=S.drew;clear b0;generalize w.drew=w1 at *;refine zt 0 rfl ?_;refine zt 1 rfl ?_;refine zt 2 rfl ?_;refine mpc 3 rfl kr br (fun K hK=> ?_);go_simp;refine qeq S fun w2 S b0=> ?_;have b1:w2.cell? ⟨g0,0,none⟩=some (Value.pointer (some ⟨B,0,none⟩))/\w2.cell? ⟨g1,0,none⟩=some (.int .i64 c):=⟨b0,S.rows.c1⟩;refine hK.out _ _ (.inr b1) ?_;clear hK K hHeld;refine za 4 rfl ?_;refine za 5 rfl ?_;refine za 6 rfl ?_;have c7:=S.c7;have f7:=S.froz 7;refine mpc 7 rfl kr br (fun K hK=> ?_);go_simp;refine hK.out _ _ (.inl kr) ?_;clear hK K c7 f7 b0 b1;replace S:=S.setB (qa r.xs c);generalize w2.setCell ⟨B,7,none⟩ (.int .u32 (qa r.xs c))=w3 at *;refine qc kr ?_ _
 go_upto_region 1 with(fail)
 refine qb (n:=12) 10 (fun w=>w.cell? ⟨g0,0,none⟩=some (Value.pointer (some ⟨B,0,none⟩))/\w.cell? ⟨B,6,none⟩=some (.int .u32 r.a)/\w.cell? ⟨B,7,none⟩=some (.int .u32 (qa r.xs c))) rfl kr ⟨S.c0,S.c6,S.c7⟩ (fun hHeld=> ?_);replace S:=S.drew;generalize w3.drew=w4 at *;refine zt 0 rfl ?_;refine za 1 rfl ?_;refine za 2 rfl ?_;refine za 3 rfl ?_;refine zt 4 rfl ?_;refine zt 5 rfl ?_;refine za 6 rfl ?_;refine za 7 rfl ?_;refine za 8 rfl ?_;refine zt 9 rfl ?_;refine mpc 10 rfl kr br (fun K hK=> ?_);go_simp;refine(qc9 r.a (qa r.xs c) _).mono ?_;obtain⟨ah,hz⟩:∃ah,zv r.a (qa r.xs c)=ah:=⟨_,rfl⟩;rw[hz];have H:=zh hz;clear hz;rintro e w9 ⟨rfl,rfl⟩;refine hK.out _ _ (.inl kr) ?_;clear hK K hHeld;refine za 11 rfl ?_;refine qc kr ?_ _;have b0:=S.c0;have b2:=S.rows.c2
 by_cases h1:own<ah
 . go_wp2_with fail;refine yn S fun w S b0=> ?_;go_wp2_with fail;refine xf S fun w S b0=> ?_;go_wp2;go_returns;exact S.fit (by unfold LS.weigh;rw[H.out,if_pos h1])
 by_cases h2:ah<own
 . go_wp2_with fail;refine sGo S fun w S b0=> ?_;go_wp2;go_returns;exact S.fit (by unfold LS.weigh;rw[H.out,if_neg (show ¬own<ah by omega),if_pos h2])
 . go_wp2_with fail;refine sGo S fun w S b0=> ?_;go_wp2;go_returns;exact S.fit (by unfold LS.weigh;rw[H.out,if_neg (show ¬own<ah by omega),if_neg (show ¬ah<own by omega)])
theorem qcr(c own:Int)(h:RunP w B p A cp nv r)(hl:r.ns.length<=900):Calls prog 108 #[Value.pointer (some ⟨B,0,none⟩),.int .i64 c,.int .i64 own] w (Clo 214 B p A cp (r.weigh c own) w):=by
 obtain⟨e,S⟩:=mk3 h hl yv yv;have HC:=zh (qol c own S);clear S h hl;go_enter func108, ntmps108;go_wp2;go_ret;exact⟨_,rfl,e,HC.out⟩
def LS.claimT(r:LS)(T:LS->LS):LS:=if r.claimed then T r.claim else r.claim.go 0
theorem qfw:jy 1 :=⟨dc,dc,dc⟩
structure qy4(FF:FuncId)(T:LS->LS):Prop where
 of:∀{B g0:Nat} {p A:Option Addr} {cp:Nat} {r:LS} {w:World} (S:St w B p A cp [(g0, 110, #[Value.pointer (some ⟨B,0,none⟩)])] 900 r w),Calls prog FF #[.pointer (some ⟨g0,0,none⟩)] w (qj B p A cp w (.tuple #[]) (T r))
theorem qpk(FF:FuncId)(hcf:qz FF)(T:LS->LS)(ht:qy4 FF T)(S:St w B p A cp [(g0, 110, #[Value.pointer (some ⟨B,0,none⟩)]),(g1, 1, #[.func (.func FF) #[] #[.pointer (some ⟨g2,0,none⟩)]]),(g2, 110, #[Value.pointer (some ⟨B,0,none⟩)])] 900 r w):
 Calls prog 216 #[.pointer (some ⟨g0,0,none⟩),.pointer (some ⟨g1,0,none⟩)] w (qj B p A cp w (.tuple #[]) (r.claimT T)):=by
 have HT:=zh ht;have HCF:=zh hcf;have b0:=S.c0;have hx1:IntKind.u32.wrap (r.a+1)=(r.a+1)%4294967296:=rfl;clear ht hcf;go_enter func216, ntmps216
 go_upto_region 0 with(fail)
 refine qb (n:=13) 12 (fun w=>w.cell? ⟨g0,0,none⟩=some (Value.pointer (some ⟨B,0,none⟩))/\w.cell? ⟨B,6,none⟩=some (.int .u32 r.a)) rfl kr ⟨b0,S.c6⟩ (fun hHeld=> ?_);replace S:=S.drew;clear b0;generalize w.drew=w1 at *;refine zt 0 rfl ?_;refine zt 1 rfl ?_;refine za 2 rfl ?_;refine za 3 rfl ?_;refine za 4 rfl ?_;refine zt 5 rfl ?_;refine zt 6 rfl ?_;refine za 7 rfl ?_;refine za 8 rfl ?_;refine za 9 rfl ?_;refine zt 10 rfl ?_;refine mpa 11 rfl (.int .u32 ((r.a+1)%4294967296)) (fun w=> ?_) ?_
 . go_simp
 refine mpc 12 rfl kr br (fun K hK=> ?_);go_simp;refine zbn S fun w2 S b0=> ?_;refine hK.out _ _ (.inl kr) ?_;clear hK K hHeld hx1;refine qc kr ?_ _
 cases hz:(qf r.xs 0 && (qa r.xs 0==r.a))
 . have H:=zh hz;clear hz;go_wp2_with fail;refine sGo S fun w S b0=> ?_;go_wp2;go_returns;exact S.fit (by unfold LS.claimT LS.claimed;exact qcj H.out)
 . have b1:=S.rows.c1;have H:=zh hz;clear hz;have hcf:∀(args:Array Value) (w:World),(callFunc FF args).run prog w= .ok (.enter FF args) w:=HCF.out;go_wp2_with fail;clear b1 hcf;refine S.call0 (fun nv h=>HT.out.of (yz h S.len ((zo _).cons (S.rows _ (.tail _ (.tail _ (.head _))))) (qi yh qu))) (Nat.le_refl _) fun w3 S b0=> ?_;go_wp2;go_returns;exact S.fit (by unfold LS.claimT LS.claimed;exact qab H.out)
theorem qcv(FF:FuncId)(hcf:qz FF)(T:LS->LS)(ht:qy4 FF T){g2:Nat}(h:RunP w B p A cp nv r)(hl:r.ns.length<=900)(hb:Row w g2 110 #[Value.pointer (some ⟨B,0,none⟩)]):
 Calls prog 109 #[Value.pointer (some ⟨B,0,none⟩),.func (.func FF) #[] #[.pointer (some ⟨g2,0,none⟩)]] w (Clo 216 B p A cp (r.claimT T) w):=by
 obtain⟨e,S⟩:=mk2 (v1:= .func (.func FF) #[] #[.pointer (some ⟨g2,0,none⟩)]) h hl qfw;have HC:=zh (qpk FF hcf T ht (g2:=g2) ⟨S.only,(zo _).cons (hb.only e id)|>.cons (S.rows _ (.tail _ (.head _)))|>.cons (S.rows _ (.head _)),qi yh (qi qfw (qi yh qu)),S.run,S.len⟩);clear S h hl hb hcf ht;go_enter func109, ntmps109;go_wp2;go_ret;exact⟨_,rfl,e,HC.out⟩
end
end Go.Proofs.YtgebffjejifidaaGreat
