import Derived.Test.YtgebffjejifidaaGreatG1
import Derived.Test.YtgebffjejifidaaGreatG53
set_option linter.unusedVariables false
set_option linter.unusedSimpArgs false
set_option maxHeartbeats 40000000
set_option maxRecDepth 100000
namespace Go.Proofs.YtgebffjejifidaaGreat
open Go.RowKit Tryz
section
variable{B base:Nat}{A:Option Addr}{l cp:Nat}{r:LS}{w0 w:World}
theorem zc8(S:SR w0 B base A l cp 900 r w)(hx:Words r.xs)(ha:0<=r.a/\r.a<4294967296)(hb:0<=r.b/\r.b<4294967296)(hh:r.op=3/\0<=r.line/\r.line<=4):Calls prog 97 #[Value.pointer (some ⟨B,0,none⟩)] w (qg B base A l cp w0 (.tuple #[]) r.pq):=by
 have hno:¬rdI r:=by unfold rdI;omega
 rw[zad hh.1 hh.2.1 hh.2.2];have hrd:=ku S hno;obtain⟨ol,H1⟩:∃ol,Hid (r.op=ol):=⟨_,zh rfl⟩;obtain⟨ln,H2⟩:∃ln,Hid (r.line=ln):=⟨_,zh rfl⟩;rw[H1.out,H2.out]at hh;have HX:=zh hx;have HA:=zh ha;have HB:=zh hb;clear hx ha hb;have HH:=zh hh;have HR:=zh hrd;clear hh hrd hno;go_enter func97, ntmps97;go_wp2_with fail;refine(HR.out).mono ?_;rintro e w1 ⟨rfl,hd⟩;replace S:=S.drewd hd;clear hd HR
 have c4:w1.cell? ⟨B,4,none⟩=some (.int .i64 ol):=by rw[←H1.out];exact S.c4
 have c5:w1.cell? ⟨B,5,none⟩=some (.int .i64 ln):=by rw[←H2.out];exact S.c5
 go_upto_region 2 with(fail)
 refine qb (n:=10) 9 (fun w=>w.cell? ⟨B,4,none⟩=some (.int .i64 ol)/\w.cell? ⟨B,5,none⟩=some (.int .i64 ln)) rfl kr ⟨c4,c5⟩ (fun hHeld=> ?_);clear c4 c5;replace S:=S.drew;generalize w1.drew=w3 at *;refine za 0 rfl ?_;refine za 1 rfl ?_;refine za 2 rfl ?_;refine zt 3 rfl ?_;refine za 4 rfl ?_;refine za 5 rfl ?_;refine za 6 rfl ?_;refine zt 7 rfl ?_;refine za 8 rfl ?_;refine mpc 9 rfl kr br (fun K hK=> ?_);go_simp;refine hK.out _ _ (.inl kr) ?_;clear hK K hHeld;refine qc kr ?_ _;have hh:=HH.out;clear HH;obtain⟨rfl,h0,h4⟩:=hh;obtain⟨r',d,hd⟩:∃r' d,r.mxEnter 2 2=(r',d):=⟨_,_,rfl⟩;have n5ln:(ln==5)=false:=beq_eq_false_iff_ne.2 om;have n6ln:(ln==6)=false:=beq_eq_false_iff_ne.2 om;have n7ln:(ln==7)=false:=beq_eq_false_iff_ne.2 om;have HD:=zh hd;go_wp2_with fail;refine S.call (fun nv h=>by have e:=qd2 B base A l cp nv r 2 2 _ h S.len HX.out HA.out;rw[hd]at e;exact e) (m':=r'.ns.length) (Nat.le_refl _) fun w S=> ?_;clear hd
 cases d
 . go_wp2;go_returns;exact S.fit (by unfold LS.wEnter;rw[HD.out];rfl)
 . have c5:=S.c5;have f5:=S.froz 5;replace S:=S.setLine (5);go_wp2;go_returns;exact S.fit (by unfold LS.wEnter;rw[HD.out];rfl)
theorem qzl(S:SR w0 B base A l cp 900 r w)(hx:Words r.xs)(ha:0<=r.a/\r.a<4294967296)(hb:0<=r.b/\r.b<4294967296)(hh:r.op=4/\r.line≠0/\r.line≠1/\r.line≠2):Calls prog 97 #[Value.pointer (some ⟨B,0,none⟩)] w (qg B base A l cp w0 (.tuple #[]) r.pq):=by
 have hno:¬rdI r:=by unfold rdI;omega
 rw[qy9 (.inl hh.1) hh.2];have hrd:=ku S hno;obtain⟨ol,H1⟩:∃ol,Hid (r.op=ol):=⟨_,zh rfl⟩;obtain⟨ln,H2⟩:∃ln,Hid (r.line=ln):=⟨_,zh rfl⟩;rw[H1.out,H2.out]at hh;have HX:=zh hx;have HA:=zh ha;have HB:=zh hb;clear hx ha hb;have HH:=zh hh;have HR:=zh hrd;clear hh hrd hno;go_enter func97, ntmps97;go_wp2_with fail;refine(HR.out).mono ?_;rintro e w1 ⟨rfl,hd⟩;replace S:=S.drewd hd;clear hd HR
 have c4:w1.cell? ⟨B,4,none⟩=some (.int .i64 ol):=by rw[←H1.out];exact S.c4
 have c5:w1.cell? ⟨B,5,none⟩=some (.int .i64 ln):=by rw[←H2.out];exact S.c5
 go_upto_region 2 with(fail)
 refine qb (n:=10) 9 (fun w=>w.cell? ⟨B,4,none⟩=some (.int .i64 ol)/\w.cell? ⟨B,5,none⟩=some (.int .i64 ln)) rfl kr ⟨c4,c5⟩ (fun hHeld=> ?_);clear c4 c5;replace S:=S.drew;generalize w1.drew=w3 at *;refine za 0 rfl ?_;refine za 1 rfl ?_;refine za 2 rfl ?_;refine zt 3 rfl ?_;refine za 4 rfl ?_;refine za 5 rfl ?_;refine za 6 rfl ?_;refine zt 7 rfl ?_;refine za 8 rfl ?_;refine mpc 9 rfl kr br (fun K hK=> ?_);go_simp;refine hK.out _ _ (.inl kr) ?_;clear hK K hHeld;refine qc kr ?_ _;have hh:=HH.out;clear HH;obtain⟨rfl,hh⟩:=hh;obtain⟨r',d,hd⟩:∃r' d,r.mxGive 2 3 [8]=(r',d):=⟨_,_,rfl⟩;have n0ln:(ln==0)=false:=beq_eq_false_iff_ne.2 om;have n1ln:(ln==1)=false:=beq_eq_false_iff_ne.2 om;have n2ln:(ln==2)=false:=beq_eq_false_iff_ne.2 om;clear hh;have HD:=zh hd;obtain⟨nv0,hp0⟩:=S.run;have HW:=zh (jo hp0 8);have HS:=zh (S.keep ((Only.refl Nil w3).alloc (.cells #[.int .i64 8] 3)));clear hp0 S;go_wp2_with fail;generalize w3.alloc (.cells #[.int .i64 8] 3)=w4 at *;have S:=HS.out;refine S.call (fun nv h=>by have e:=qak B base A l cp nv r 2 3 _ h S.len HX.out HA.out _ [8] HW.out dc dc dc;rw[hd]at e;exact e) (m':=r'.ns.length) (Nat.le_refl _) fun w S=> ?_;clear hd HS HW
 cases d
 . go_wp2;go_returns;exact S.fit (by unfold LS.wGive;rw[HD.out];rfl)
 . go_wp2_with fail;refine yu S fun w S=> ?_;go_wp2;go_returns;exact S.fit (by unfold LS.wGive;rw[HD.out];rfl)
theorem qyd(S:SR w0 B base A l cp 900 r w)(hx:Words r.xs)(ha:0<=r.a/\r.a<4294967296)(hb:0<=r.b/\r.b<4294967296)(hh:r.op=8/\r.line≠0/\r.line≠1/\r.line≠2):Calls prog 97 #[Value.pointer (some ⟨B,0,none⟩)] w (qg B base A l cp w0 (.tuple #[]) r.pq):=by
 have hno:¬rdI r:=by unfold rdI;omega
 rw[qy9 (.inr hh.1) hh.2];have hrd:=ku S hno;obtain⟨ol,H1⟩:∃ol,Hid (r.op=ol):=⟨_,zh rfl⟩;obtain⟨ln,H2⟩:∃ln,Hid (r.line=ln):=⟨_,zh rfl⟩;rw[H1.out,H2.out]at hh;have HX:=zh hx;have HA:=zh ha;have HB:=zh hb;clear hx ha hb;have HH:=zh hh;have HR:=zh hrd;clear hh hrd hno;go_enter func97, ntmps97;go_wp2_with fail;refine(HR.out).mono ?_;rintro e w1 ⟨rfl,hd⟩;replace S:=S.drewd hd;clear hd HR
 have c4:w1.cell? ⟨B,4,none⟩=some (.int .i64 ol):=by rw[←H1.out];exact S.c4
 have c5:w1.cell? ⟨B,5,none⟩=some (.int .i64 ln):=by rw[←H2.out];exact S.c5
 go_upto_region 2 with(fail)
 refine qb (n:=10) 9 (fun w=>w.cell? ⟨B,4,none⟩=some (.int .i64 ol)/\w.cell? ⟨B,5,none⟩=some (.int .i64 ln)) rfl kr ⟨c4,c5⟩ (fun hHeld=> ?_);clear c4 c5;replace S:=S.drew;generalize w1.drew=w3 at *;refine za 0 rfl ?_;refine za 1 rfl ?_;refine za 2 rfl ?_;refine zt 3 rfl ?_;refine za 4 rfl ?_;refine za 5 rfl ?_;refine za 6 rfl ?_;refine zt 7 rfl ?_;refine za 8 rfl ?_;refine mpc 9 rfl kr br (fun K hK=> ?_);go_simp;refine hK.out _ _ (.inl kr) ?_;clear hK K hHeld;refine qc kr ?_ _;have hh:=HH.out;clear HH;obtain⟨rfl,hh⟩:=hh;obtain⟨r',d,hd⟩:∃r' d,r.mxGive 2 3 [8]=(r',d):=⟨_,_,rfl⟩;have n0ln:(ln==0)=false:=beq_eq_false_iff_ne.2 om;have n1ln:(ln==1)=false:=beq_eq_false_iff_ne.2 om;have n2ln:(ln==2)=false:=beq_eq_false_iff_ne.2 om;clear hh;have HD:=zh hd;obtain⟨nv0,hp0⟩:=S.run;have HW:=zh (jo hp0 8);have HS:=zh (S.keep ((Only.refl Nil w3).alloc (.cells #[.int .i64 8] 3)));clear hp0 S;go_wp2_with fail;generalize w3.alloc (.cells #[.int .i64 8] 3)=w4 at *;have S:=HS.out;refine S.call (fun nv h=>by have e:=qak B base A l cp nv r 2 3 _ h S.len HX.out HA.out _ [8] HW.out dc dc dc;rw[hd]at e;exact e) (m':=r'.ns.length) (Nat.le_refl _) fun w S=> ?_;clear hd HS HW
 cases d
 . go_wp2;go_returns;exact S.fit (by unfold LS.wGive;rw[HD.out];rfl)
 . go_wp2_with fail;refine yu S fun w S=> ?_;go_wp2;go_returns;exact S.fit (by unfold LS.wGive;rw[HD.out];rfl)
theorem zb3(S:SR w0 B base A l cp 900 r w)(hx:Words r.xs)(ha:0<=r.a/\r.a<4294967296)(hb:0<=r.b/\r.b<4294967296)(hh:r.op=6/\(r.line<0\/8<=r.line)):Calls prog 97 #[Value.pointer (some ⟨B,0,none⟩)] w (qg B base A l cp w0 (.tuple #[]) r.pq):=by
 have hno:¬rdI r:=by unfold rdI;omega
 rw[qy3 (.inl hh.1) hh.2];have hrd:=ku S hno;obtain⟨ol,H1⟩:∃ol,Hid (r.op=ol):=⟨_,zh rfl⟩;obtain⟨ln,H2⟩:∃ln,Hid (r.line=ln):=⟨_,zh rfl⟩;rw[H1.out,H2.out]at hh;have HX:=zh hx;have HA:=zh ha;have HB:=zh hb;clear hx ha hb;have HH:=zh hh;have HR:=zh hrd;clear hh hrd hno;go_enter func97, ntmps97;go_wp2_with fail;refine(HR.out).mono ?_;rintro e w1 ⟨rfl,hd⟩;replace S:=S.drewd hd;clear hd HR
 have c4:w1.cell? ⟨B,4,none⟩=some (.int .i64 ol):=by rw[←H1.out];exact S.c4
 have c5:w1.cell? ⟨B,5,none⟩=some (.int .i64 ln):=by rw[←H2.out];exact S.c5
 go_upto_region 2 with(fail)
 refine qb (n:=10) 9 (fun w=>w.cell? ⟨B,4,none⟩=some (.int .i64 ol)/\w.cell? ⟨B,5,none⟩=some (.int .i64 ln)) rfl kr ⟨c4,c5⟩ (fun hHeld=> ?_);clear c4 c5;replace S:=S.drew;generalize w1.drew=w3 at *;refine za 0 rfl ?_;refine za 1 rfl ?_;refine za 2 rfl ?_;refine zt 3 rfl ?_;refine za 4 rfl ?_;refine za 5 rfl ?_;refine za 6 rfl ?_;refine zt 7 rfl ?_;refine za 8 rfl ?_;refine mpc 9 rfl kr br (fun K hK=> ?_);go_simp;refine hK.out _ _ (.inl kr) ?_;clear hK K hHeld;refine qc kr ?_ _;have hh:=HH.out;clear HH;obtain⟨rfl,hh⟩:=hh;obtain⟨r',d,hd⟩:∃r' d,r.mxGive 2 8 [8]=(r',d):=⟨_,_,rfl⟩;have n0ln:(ln==0)=false:=beq_eq_false_iff_ne.2 om;have n1ln:(ln==1)=false:=beq_eq_false_iff_ne.2 om;have n2ln:(ln==2)=false:=beq_eq_false_iff_ne.2 om;have n3ln:(ln==3)=false:=beq_eq_false_iff_ne.2 om;have n4ln:(ln==4)=false:=beq_eq_false_iff_ne.2 om;have n5ln:(ln==5)=false:=beq_eq_false_iff_ne.2 om;have n6ln:(ln==6)=false:=beq_eq_false_iff_ne.2 om;have n7ln:(ln==7)=false:=beq_eq_false_iff_ne.2 om;clear hh;have HD:=zh hd;obtain⟨nv0,hp0⟩:=S.run;have HW:=zh (jo hp0 8);have HS:=zh (S.keep ((Only.refl Nil w3).alloc (.cells #[.int .i64 8] 3)));clear hp0 S;go_wp2_with fail;generalize w3.alloc (.cells #[.int .i64 8] 3)=w4 at *;have S:=HS.out;refine S.call (fun nv h=>by have e:=qak B base A l cp nv r 2 8 _ h S.len HX.out HA.out _ [8] HW.out dc dc dc;rw[hd]at e;exact e) (m':=r'.ns.length) (Nat.le_refl _) fun w S=> ?_;clear hd HS HW
 cases d
 . go_wp2;go_returns;exact S.fit (by unfold LS.wGive;rw[HD.out];rfl)
 . go_wp2_with fail;refine yu S fun w S=> ?_;go_wp2;go_returns;exact S.fit (by unfold LS.wGive;rw[HD.out];rfl)
theorem zb0(S:SR w0 B base A l cp 900 r w)(hx:Words r.xs)(ha:0<=r.a/\r.a<4294967296)(hb:0<=r.b/\r.b<4294967296)(hh:r.op=7/\(r.line<0\/8<=r.line)):Calls prog 97 #[Value.pointer (some ⟨B,0,none⟩)] w (qg B base A l cp w0 (.tuple #[]) r.pq):=by
 have hno:¬rdI r:=by unfold rdI;omega
 rw[qy3 (.inr hh.1) hh.2];have hrd:=ku S hno;obtain⟨ol,H1⟩:∃ol,Hid (r.op=ol):=⟨_,zh rfl⟩;obtain⟨ln,H2⟩:∃ln,Hid (r.line=ln):=⟨_,zh rfl⟩;rw[H1.out,H2.out]at hh;have HX:=zh hx;have HA:=zh ha;have HB:=zh hb;clear hx ha hb;have HH:=zh hh;have HR:=zh hrd;clear hh hrd hno;go_enter func97, ntmps97;go_wp2_with fail;refine(HR.out).mono ?_;rintro e w1 ⟨rfl,hd⟩;replace S:=S.drewd hd;clear hd HR
 have c4:w1.cell? ⟨B,4,none⟩=some (.int .i64 ol):=by rw[←H1.out];exact S.c4
 have c5:w1.cell? ⟨B,5,none⟩=some (.int .i64 ln):=by rw[←H2.out];exact S.c5
 go_upto_region 2 with(fail)
 refine qb (n:=10) 9 (fun w=>w.cell? ⟨B,4,none⟩=some (.int .i64 ol)/\w.cell? ⟨B,5,none⟩=some (.int .i64 ln)) rfl kr ⟨c4,c5⟩ (fun hHeld=> ?_);clear c4 c5;replace S:=S.drew;generalize w1.drew=w3 at *;refine za 0 rfl ?_;refine za 1 rfl ?_;refine za 2 rfl ?_;refine zt 3 rfl ?_;refine za 4 rfl ?_;refine za 5 rfl ?_;refine za 6 rfl ?_;refine zt 7 rfl ?_;refine za 8 rfl ?_;refine mpc 9 rfl kr br (fun K hK=> ?_);go_simp;refine hK.out _ _ (.inl kr) ?_;clear hK K hHeld;refine qc kr ?_ _;have hh:=HH.out;clear HH;obtain⟨rfl,hh⟩:=hh;obtain⟨r',d,hd⟩:∃r' d,r.mxGive 2 8 [8]=(r',d):=⟨_,_,rfl⟩;have n0ln:(ln==0)=false:=beq_eq_false_iff_ne.2 om;have n1ln:(ln==1)=false:=beq_eq_false_iff_ne.2 om;have n2ln:(ln==2)=false:=beq_eq_false_iff_ne.2 om;have n3ln:(ln==3)=false:=beq_eq_false_iff_ne.2 om;have n4ln:(ln==4)=false:=beq_eq_false_iff_ne.2 om;have n5ln:(ln==5)=false:=beq_eq_false_iff_ne.2 om;have n6ln:(ln==6)=false:=beq_eq_false_iff_ne.2 om;have n7ln:(ln==7)=false:=beq_eq_false_iff_ne.2 om;clear hh;have HD:=zh hd;obtain⟨nv0,hp0⟩:=S.run;have HW:=zh (jo hp0 8);have HS:=zh (S.keep ((Only.refl Nil w3).alloc (.cells #[.int .i64 8] 3)));clear hp0 S;go_wp2_with fail;generalize w3.alloc (.cells #[.int .i64 8] 3)=w4 at *;have S:=HS.out;refine S.call (fun nv h=>by have e:=qak B base A l cp nv r 2 8 _ h S.len HX.out HA.out _ [8] HW.out dc dc dc;rw[hd]at e;exact e) (m':=r'.ns.length) (Nat.le_refl _) fun w S=> ?_;clear hd HS HW
 cases d
 . go_wp2;go_returns;exact S.fit (by unfold LS.wGive;rw[HD.out];rfl)
 . go_wp2_with fail;refine yu S fun w S=> ?_;go_wp2;go_returns;exact S.fit (by unfold LS.wGive;rw[HD.out];rfl)
theorem zaj(S:SR w0 B base A l cp 900 r w)(hx:Words r.xs)(ha:0<=r.a/\r.a<4294967296)(hb:0<=r.b/\r.b<4294967296)(hno:¬rdI r)(hh:r.op≠3/\r.op≠4/\r.op≠6/\r.op≠7/\r.op≠8):Calls prog 97 #[Value.pointer (some ⟨B,0,none⟩)] w (qg B base A l cp w0 (.tuple #[]) r.pq):=by
 rw[show r.pq=r from qiw (.inl ⟨hh,hno⟩)];replace hh:=And.intro hh (show r.line<=r.line from Int.le_refl _);have hrd:=ku S hno;obtain⟨ol,H1⟩:∃ol,Hid (r.op=ol):=⟨_,zh rfl⟩;obtain⟨ln,H2⟩:∃ln,Hid (r.line=ln):=⟨_,zh rfl⟩;rw[H1.out,H2.out]at hh;have HX:=zh hx;have HA:=zh ha;have HB:=zh hb;clear hx ha hb;have HH:=zh hh;have HR:=zh hrd;clear hh hrd hno;go_enter func97, ntmps97;go_wp2_with fail;refine(HR.out).mono ?_;rintro e w1 ⟨rfl,hd⟩;replace S:=S.drewd hd;clear hd HR
 have c4:w1.cell? ⟨B,4,none⟩=some (.int .i64 ol):=by rw[←H1.out];exact S.c4
 have c5:w1.cell? ⟨B,5,none⟩=some (.int .i64 ln):=by rw[←H2.out];exact S.c5
 go_upto_region 2 with(fail)
 refine qb (n:=10) 9 (fun w=>w.cell? ⟨B,4,none⟩=some (.int .i64 ol)/\w.cell? ⟨B,5,none⟩=some (.int .i64 ln)) rfl kr ⟨c4,c5⟩ (fun hHeld=> ?_);clear c4 c5;replace S:=S.drew;generalize w1.drew=w3 at *;refine za 0 rfl ?_;refine za 1 rfl ?_;refine za 2 rfl ?_;refine zt 3 rfl ?_;refine za 4 rfl ?_;refine za 5 rfl ?_;refine za 6 rfl ?_;refine zt 7 rfl ?_;refine za 8 rfl ?_;refine mpc 9 rfl kr br (fun K hK=> ?_);go_simp;refine hK.out _ _ (.inl kr) ?_;clear hK K hHeld;refine qc kr ?_ _;have hh:=HH.out;clear HH;have n3ol:(ol==3)=false:=beq_eq_false_iff_ne.2 om;have n4ol:(ol==4)=false:=beq_eq_false_iff_ne.2 om;have n6ol:(ol==6)=false:=beq_eq_false_iff_ne.2 om;have n7ol:(ol==7)=false:=beq_eq_false_iff_ne.2 om;have n8ol:(ol==8)=false:=beq_eq_false_iff_ne.2 om
 have m6:(ol !=6)=true:=by simpa using hh.1.2.2.1
 have m7:(ol !=7)=true:=by simpa using hh.1.2.2.2.1
 clear hh;go_wp2;go_returns;exact S.done
theorem qzt(S:SR w0 B base A l cp 900 r w)(hx:Words r.xs)(ha:0<=r.a/\r.a<4294967296)(hb:0<=r.b/\r.b<4294967296)(hh:r.op=3/\(r.line<0\/7<r.line)):Calls prog 97 #[Value.pointer (some ⟨B,0,none⟩)] w (qg B base A l cp w0 (.tuple #[]) r.pq):=by
 have hno:¬rdI r:=by unfold rdI;omega
 rw[show r.pq=r from qiw (.inr (.inl hh))];have hrd:=ku S hno;obtain⟨ol,H1⟩:∃ol,Hid (r.op=ol):=⟨_,zh rfl⟩;obtain⟨ln,H2⟩:∃ln,Hid (r.line=ln):=⟨_,zh rfl⟩;rw[H1.out,H2.out]at hh;have HX:=zh hx;have HA:=zh ha;have HB:=zh hb;clear hx ha hb;have HH:=zh hh;have HR:=zh hrd;clear hh hrd hno;go_enter func97, ntmps97;go_wp2_with fail;refine(HR.out).mono ?_;rintro e w1 ⟨rfl,hd⟩;replace S:=S.drewd hd;clear hd HR
 have c4:w1.cell? ⟨B,4,none⟩=some (.int .i64 ol):=by rw[←H1.out];exact S.c4
 have c5:w1.cell? ⟨B,5,none⟩=some (.int .i64 ln):=by rw[←H2.out];exact S.c5
 go_upto_region 2 with(fail)
 refine qb (n:=10) 9 (fun w=>w.cell? ⟨B,4,none⟩=some (.int .i64 ol)/\w.cell? ⟨B,5,none⟩=some (.int .i64 ln)) rfl kr ⟨c4,c5⟩ (fun hHeld=> ?_);clear c4 c5;replace S:=S.drew;generalize w1.drew=w3 at *;refine za 0 rfl ?_;refine za 1 rfl ?_;refine za 2 rfl ?_;refine zt 3 rfl ?_;refine za 4 rfl ?_;refine za 5 rfl ?_;refine za 6 rfl ?_;refine zt 7 rfl ?_;refine za 8 rfl ?_;refine mpc 9 rfl kr br (fun K hK=> ?_);go_simp;refine hK.out _ _ (.inl kr) ?_;clear hK K hHeld;refine qc kr ?_ _;have hh:=HH.out;clear HH;obtain⟨rfl,hh⟩:=hh;have n5ln:(ln==5)=false:=beq_eq_false_iff_ne.2 om;have n6ln:(ln==6)=false:=beq_eq_false_iff_ne.2 om;have n7ln:(ln==7)=false:=beq_eq_false_iff_ne.2 om
 by_cases q0:ln<0
 . clear hh;go_wp2;go_returns;exact S.done
 . have q1:¬ln<=4:=by omega
   clear hh;go_wp2;go_returns;exact S.done
end
section
variable{B base:Nat}{A:Option Addr}{l cp:Nat}{r:LS}{w0 w:World}
theorem zc9(hh:rdI r):r.pq=r.pf:=by
 rcases hh with⟨h1,h2⟩|⟨h1,h2⟩|⟨h1,h2⟩|⟨h1,h2⟩|⟨h1,h2⟩
 . rw[zb9 h1 h2,qn7 h1 h2]
 . rw[qyt h1 h2,qgl h1 h2]
 . rw[qzr h1 h2,qs4 h1 h2]
 . rw[qze h1 h2,qli h1 h2]
 . rw[zbd h1 h2,qly h1 h2]
theorem za7(S:SR w0 B base A l cp 900 r w)(hx:Words r.xs)(ha:0<=r.a/\r.a<4294967296)(hb:0<=r.b/\r.b<4294967296)(hh:rdI r):Calls prog 97 #[Value.pointer (some ⟨B,0,none⟩)] w (qg B base A l cp w0 (.tuple #[]) r.pq):=by
 rw[zc9 hh];have hrd:=zh (quk S hx ha hb hh);clear S hx ha hb hh;go_enter func97, ntmps97;go_wp2_with fail;refine(hrd.out).mono ?_;rintro e w1 ⟨rfl,hO,nv,hP⟩;have H:=zh (And.intro hO hP);clear hO hP hrd;go_wp2;go_returns;exact⟨rfl,H.out.1,nv,H.out.2⟩
theorem qk1(B base:Nat)(A:Option Addr)(l cp:Nat)(nv:Value)(r:LS)(w:World)(h:RunR w B base A l cp nv r)(hl:r.ns.length<=900)(hx:Words r.xs)(ha:0<=r.a/\r.a<4294967296)(hb:0<=r.b/\r.b<4294967296):Calls prog 97 #[Value.pointer (some ⟨B,0,none⟩)] w (qg B base A l cp w (.tuple #[]) r.pq):=by
 have S:=qbq (m:=900) h hl
 by_cases hr:rdI r
 . exact za7 S hx ha hb hr
 by_cases h1:r.op=3
 . by_cases h2:0<=r.line/\r.line<=4
   . exact zc8 S hx ha hb ⟨h1,h2⟩
   by_cases h3:r.line<0\/7<r.line
   . exact qzt S hx ha hb ⟨h1,h3⟩
   have hl:r.line=5\/r.line=6\/r.line=7:=by omega
   rcases hl with h2|h2|h2
   . exact qfs S hx ha hb (.inl ⟨h1,h2⟩)
   . exact qfs S hx ha hb (.inr (.inl ⟨h1,h2⟩))
   . exact qfs S hx ha hb (.inr (.inr (.inl ⟨h1,h2⟩)))
 by_cases h1:r.op=4
 . by_cases h3:r.line≠0/\r.line≠1/\r.line≠2
   . exact qzl S hx ha hb ⟨h1,h3⟩
   have hl:r.line=0\/r.line=1\/r.line=2:=by omega
   rcases hl with h2|h2|h2
   . exact qh2 S hx ha hb (.inl ⟨h1,h2⟩)
   . exact qh2 S hx ha hb (.inr (.inr (.inl ⟨h1,h2⟩)))
   . exact qh2 S hx ha hb (.inr (.inr (.inr (.inr (.inl ⟨h1,h2⟩)))))
 by_cases h1:r.op=8
 . by_cases h3:r.line≠0/\r.line≠1/\r.line≠2
   . exact qyd S hx ha hb ⟨h1,h3⟩
   have hl:r.line=0\/r.line=1\/r.line=2:=by omega
   rcases hl with h2|h2|h2
   . exact qh2 S hx ha hb (.inr (.inl ⟨h1,h2⟩))
   . exact qh2 S hx ha hb (.inr (.inr (.inr (.inl ⟨h1,h2⟩))))
   . exact qh2 S hx ha hb (.inr (.inr (.inr (.inr (.inr (⟨h1,h2⟩))))))
 by_cases h1:r.op=6
 . by_cases h3:r.line<0\/8<=r.line
   . exact zb3 S hx ha hb ⟨h1,h3⟩
   have hl:r.line=0\/r.line=1\/r.line=2\/r.line=3\/r.line=4\/r.line=5\/r.line=6\/r.line=7:=by omega
   rcases hl with h2|h2|h2|h2|h2|h2|h2|h2
   . exact qnh S hx ha hb (.inl ⟨h1,h2⟩)
   . exact qnh S hx ha hb (.inr (.inr (.inl ⟨h1,h2⟩)))
   . exact qeo S hx ha hb (.inl ⟨h1,h2⟩)
   . exact qeo S hx ha hb (.inr (.inr (.inl ⟨h1,h2⟩)))
   . exact qeo S hx ha hb (.inr (.inr (.inr (.inr (.inl ⟨h1,h2⟩)))))
   . exact qeo S hx ha hb (.inr (.inr (.inr (.inr (.inr (.inr (.inl ⟨h1,h2⟩)))))))
   . exact qfs S hx ha hb (.inr (.inr (.inr (.inl ⟨h1,h2⟩))))
   . exact qfs S hx ha hb (.inr (.inr (.inr (.inr (.inr (.inr (⟨h1,h2⟩)))))))
 by_cases h1:r.op=7
 . by_cases h3:r.line<0\/8<=r.line
   . exact zb0 S hx ha hb ⟨h1,h3⟩
   have hl:r.line=0\/r.line=1\/r.line=2\/r.line=3\/r.line=4\/r.line=5\/r.line=6\/r.line=7:=by omega
   rcases hl with h2|h2|h2|h2|h2|h2|h2|h2
   . exact qnh S hx ha hb (.inr (.inl ⟨h1,h2⟩))
   . exact qnh S hx ha hb (.inr (.inr (.inr (⟨h1,h2⟩))))
   . exact qeo S hx ha hb (.inr (.inl ⟨h1,h2⟩))
   . exact qeo S hx ha hb (.inr (.inr (.inr (.inl ⟨h1,h2⟩))))
   . exact qeo S hx ha hb (.inr (.inr (.inr (.inr (.inr (.inl ⟨h1,h2⟩))))))
   . exact qeo S hx ha hb (.inr (.inr (.inr (.inr (.inr (.inr (.inr (⟨h1,h2⟩))))))))
   . exact qfs S hx ha hb (.inr (.inr (.inr (.inr (.inl ⟨h1,h2⟩)))))
   . exact qfs S hx ha hb (.inr (.inr (.inr (.inr (.inr (.inl ⟨h1,h2⟩))))))
 exact zaj S hx ha hb hr om
end
theorem za2(B base:Nat)(A:Option Addr)(l cp:Nat)(nv:Value)(r:LS)(w:World)(h:RunR w B base A l cp nv r)(hl:r.ns.length<=900)(hx:Words r.xs)(ha:0<=r.a/\r.a<4294967296)(h1:r.op=1)(hh:0<=r.line/\r.line<=4):
 Calls prog 98 #[Value.pointer (some ⟨B,0,none⟩)] w (qg B base A l cp w (.tuple #[]) (r.qEnter 1)):=by
 obtain⟨r',d,hd⟩:∃r' d,r.mxEnter 0 1=(r',d):=⟨_,_,rfl⟩;rw[qea hd];obtain⟨RR,hRR⟩:∃RR,(if d then r'.go 5 else r')=RR:=⟨_,rfl⟩;rw[hRR];have HRR:=zh hRR;clear hRR;have H1:=zh h1;clear h1;obtain⟨ln,H2⟩:∃ln,Hid (r.line=ln):=⟨_,zh rfl⟩;rw[H2.out]at hh;obtain⟨hh0,hh1⟩:=hh
 have q0:decide ((0:Int)<=ln)=true:=by simp;omega
 have q4:decide (ln<=(4:Int))=true:=by simp;omega
 clear hh0 hh1
 have hc:∀W,RunR W B base A l cp nv r->Calls prog 197 #[Value.pointer (some ⟨B,0,none⟩),.int .i64 0,.int .i64 1] W (qg B base A l cp W (.bool d) r'):=fun W hW=>by
  have e:=qd2 B base A l cp nv r 0 1 W hW hl hx ha;rw[hd]at e;exact e
 have HC:=zh hc;clear hc hd;have HX:=zh hx;have HL:=zh hl;have HA:=zh ha;have HH:=zh h;clear h hl hx ha
 have c4:w.cell? ⟨B,4,none⟩=some (.int .i64 (1)):=by rw[←H1.out];exact HH.out.row.cell_ (i:=4) rfl
 have c5:w.cell? ⟨B,5,none⟩=some (.int .i64 (ln)):=by rw[←H2.out];exact HH.out.row.cell_ (i:=5) rfl
 go_enter func98, ntmps98
 go_upto_region 1 with(fail)
 refine qb (n:=10) 9 (fun w=>w.cell? ⟨B,4,none⟩=some (.int .i64 (1))/\w.cell? ⟨B,5,none⟩=some (.int .i64 (ln))) rfl kr ⟨c4,c5⟩ (fun hHeld=> ?_);have HP0:=zh (HH.out.keep (Only.refl Nil w).drew);have HO0:=zh ((Only.refl (qd B A) w).drew);clear HH c4 c5;generalize w.drew=w2 at *;refine za 0 rfl ?_;refine za 1 rfl ?_;refine za 2 rfl ?_;refine zt 3 rfl ?_;refine za 4 rfl ?_;refine za 5 rfl ?_;refine za 6 rfl ?_;refine zt 7 rfl ?_;refine za 8 rfl ?_;refine mpc 9 rfl kr br (fun K hK=> ?_);go_simp;refine hK.out _ _ (.inl kr) ?_;clear hK K hHeld;refine qc kr ?_ _;go_wp2_with fail;refine(HC.out _ HP0.out).mono ?_;clear HC;rintro e w3 ⟨rfl,hO,nv1,hP⟩;have HO1:=zh (HO0.out.trans hO);have HP1:=zh hP;clear hO hP HP0 HO0
 cases d
 . have eR:=HRR.out;rw[if_neg Bool.false_ne_true]at eR;subst eR;go_wp2;go_returns;exact⟨rfl,HO1.out,nv1,HP1.out⟩
 . have eR:=HRR.out;rw[if_pos rfl]at eR;subst eR;have c5:w3.cell? ⟨B,5,none⟩=some (.int .i64 (r'.line)):=HP1.out.row.cell_ (i:=5) rfl;have f5:w3.frozen? ⟨B,5,none⟩=false:=HP1.out.row.frozen 5;go_wp2;clear c5 f5;have HPZ:=zh (HP1.out.setLine (5));have HOZ:=zh (HO1.out.setCell (p:=⟨B,5,none⟩) (.inr (.inl rfl)) (.int .i64 (5)));go_returns;exact⟨rfl,HOZ.out,nv1,HPZ.out⟩
theorem qz0(B base:Nat)(A:Option Addr)(l cp:Nat)(nv:Value)(r:LS)(w:World)(h:RunR w B base A l cp nv r)(hl:r.ns.length<=900)(hx:Words r.xs)(ha:0<=r.a/\r.a<4294967296)(h1:r.op=5)(h2:r.line=5):
 Calls prog 98 #[Value.pointer (some ⟨B,0,none⟩)] w (qg B base A l cp w (.tuple #[]) ((r.doA 3 1 1 0).go 6)):=by
 have H1:=zh h1;clear h1;have H2:=zh h2;clear h2;have HX:=zh hx;have HL:=zh hl;have HA:=zh ha;have HH:=zh h;clear h hl hx ha
 have c4:w.cell? ⟨B,4,none⟩=some (.int .i64 (5)):=by rw[←H1.out];exact HH.out.row.cell_ (i:=4) rfl
 have c5:w.cell? ⟨B,5,none⟩=some (.int .i64 (5)):=by rw[←H2.out];exact HH.out.row.cell_ (i:=5) rfl
 go_enter func98, ntmps98
 go_upto_region 1 with(fail)
 refine qb (n:=10) 9 (fun w=>w.cell? ⟨B,4,none⟩=some (.int .i64 (5))/\w.cell? ⟨B,5,none⟩=some (.int .i64 (5))) rfl kr ⟨c4,c5⟩ (fun hHeld=> ?_);have HP0:=zh (HH.out.keep (Only.refl Nil w).drew);have HO0:=zh ((Only.refl (qd B A) w).drew);clear HH c4 c5;generalize w.drew=w2 at *;refine za 0 rfl ?_;refine za 1 rfl ?_;refine za 2 rfl ?_;refine zt 3 rfl ?_;refine za 4 rfl ?_;refine za 5 rfl ?_;refine za 6 rfl ?_;refine zt 7 rfl ?_;refine za 8 rfl ?_;refine mpc 9 rfl kr br (fun K hK=> ?_);go_simp;refine hK.out _ _ (.inl kr) ?_;clear hK K hHeld;refine qc kr ?_ _;go_wp2_with fail;refine(kx B base A l cp nv r 1 1 _ HP0.out).mono ?_;rintro e w1_ ⟨rfl,hO,nv1,hP⟩;have HO1:=zh (HO0.out.trans hO);have HP1:=zh hP;clear hO hP HP0 HO0;have c5:w1_.cell? ⟨B,5,none⟩=some (.int .i64 (r.line)):=HP1.out.row.cell_ (i:=5) rfl;have f5:w1_.frozen? ⟨B,5,none⟩=false:=HP1.out.row.frozen 5;go_wp2;clear c5 f5;have HPZ:=zh (HP1.out.setLine (6));have HOZ:=zh (HO1.out.setCell (p:=⟨B,5,none⟩) (.inr (.inl rfl)) (.int .i64 (6)));go_returns;exact⟨rfl,HOZ.out,nv1,HPZ.out⟩
theorem qtb(B base:Nat)(A:Option Addr)(l cp:Nat)(nv:Value)(r:LS)(w:World)(h:RunR w B base A l cp nv r)(hl:r.ns.length<=900)(hx:Words r.xs)(ha:0<=r.a/\r.a<4294967296)(h1:r.op=5)(hh:r.line<0):
 Calls prog 98 #[Value.pointer (some ⟨B,0,none⟩)] w (qg B base A l cp w (.tuple #[]) (r.qGive 6 true [4])):=by
 have H1:=zh h1;clear h1;obtain⟨ln,H2⟩:∃ln,Hid (r.line=ln):=⟨_,zh rfl⟩;rw[H2.out]at hh
 have q0:decide ((0:Int)<=ln)=false:=by simp;omega
 have n5:(ln==5)=false:=beq_eq_false_iff_ne.2 om;clear hh;have HX:=zh hx;have HL:=zh hl;have HA:=zh ha;have HH:=zh h;clear h hl hx ha
 have c4:w.cell? ⟨B,4,none⟩=some (.int .i64 (5)):=by rw[←H1.out];exact HH.out.row.cell_ (i:=4) rfl
 have c5:w.cell? ⟨B,5,none⟩=some (.int .i64 (ln)):=by rw[←H2.out];exact HH.out.row.cell_ (i:=5) rfl
 go_enter func98, ntmps98
 go_upto_region 1 with(fail)
 refine qb (n:=10) 9 (fun w=>w.cell? ⟨B,4,none⟩=some (.int .i64 (5))/\w.cell? ⟨B,5,none⟩=some (.int .i64 (ln))) rfl kr ⟨c4,c5⟩ (fun hHeld=> ?_);have HP0:=zh (HH.out.keep (Only.refl Nil w).drew);have HO0:=zh ((Only.refl (qd B A) w).drew);clear HH c4 c5;generalize w.drew=w2 at *;refine za 0 rfl ?_;refine za 1 rfl ?_;refine za 2 rfl ?_;refine zt 3 rfl ?_;refine za 4 rfl ?_;refine za 5 rfl ?_;refine za 6 rfl ?_;refine zt 7 rfl ?_;refine za 8 rfl ?_;refine mpc 9 rfl kr br (fun K hK=> ?_);go_simp;refine hK.out _ _ (.inl kr) ?_;clear hK K hHeld;refine qc kr ?_ _;go_wp2_with fail;have e0:=(Only.refl Nil w2).alloc (.cells #[.int .i64 4] 3);have HPA:=zh (HP0.out.keep e0);have HOA:=zh (HO0.out.trans (e0.mono (T:=qd B A) (fun _ _ h=>h.elim)));refine(jj B base A l cp nv r 6 true _ [4] _ HPA.out HL.out HX.out HA.out (jo HP0.out 4) dc dc dc).mono ?_;clear e0;rintro e w3 ⟨rfl,hO,nv1,hP⟩;have HO1:=zh (HOA.out.trans hO);have HP1:=zh hP;clear hO hP HPA HOA;go_wp2;go_returns;exact⟨rfl,HO1.out,nv1,HP1.out⟩
theorem qtm(B base:Nat)(A:Option Addr)(l cp:Nat)(nv:Value)(r:LS)(w:World)(h:RunR w B base A l cp nv r)(hl:r.ns.length<=900)(hx:Words r.xs)(ha:0<=r.a/\r.a<4294967296)(h1:r.op=7)(hh:1<r.line)(hh2:r.line≠2)(hh3:r.line≠3):
 Calls prog 98 #[Value.pointer (some ⟨B,0,none⟩)] w (qg B base A l cp w (.tuple #[]) (r.qGive 6 false [8])):=by
 have H1:=zh h1;clear h1;obtain⟨ln,H2⟩:∃ln,Hid (r.line=ln):=⟨_,zh rfl⟩;rw[H2.out]at hh;rw[H2.out]at hh2;rw[H2.out]at hh3
 have q0:decide ((0:Int)<=ln)=true:=by simp;omega
 have q1:decide (ln<=(1:Int))=false:=by simp;omega
 have n2:(ln==2)=false:=beq_eq_false_iff_ne.2 om;have n3:(ln==3)=false:=beq_eq_false_iff_ne.2 om;clear hh hh2 hh3;have HX:=zh hx;have HL:=zh hl;have HA:=zh ha;have HH:=zh h;clear h hl hx ha
 have c4:w.cell? ⟨B,4,none⟩=some (.int .i64 (7)):=by rw[←H1.out];exact HH.out.row.cell_ (i:=4) rfl
 have c5:w.cell? ⟨B,5,none⟩=some (.int .i64 (ln)):=by rw[←H2.out];exact HH.out.row.cell_ (i:=5) rfl
 go_enter func98, ntmps98
 go_upto_region 1 with(fail)
 refine qb (n:=10) 9 (fun w=>w.cell? ⟨B,4,none⟩=some (.int .i64 (7))/\w.cell? ⟨B,5,none⟩=some (.int .i64 (ln))) rfl kr ⟨c4,c5⟩ (fun hHeld=> ?_);have HP0:=zh (HH.out.keep (Only.refl Nil w).drew);have HO0:=zh ((Only.refl (qd B A) w).drew);clear HH c4 c5;generalize w.drew=w2 at *;refine za 0 rfl ?_;refine za 1 rfl ?_;refine za 2 rfl ?_;refine zt 3 rfl ?_;refine za 4 rfl ?_;refine za 5 rfl ?_;refine za 6 rfl ?_;refine zt 7 rfl ?_;refine za 8 rfl ?_;refine mpc 9 rfl kr br (fun K hK=> ?_);go_simp;refine hK.out _ _ (.inl kr) ?_;clear hK K hHeld;refine qc kr ?_ _;go_wp2_with fail;have e0:=(Only.refl Nil w2).alloc (.cells #[.int .i64 8] 3);have HPA:=zh (HP0.out.keep e0);have HOA:=zh (HO0.out.trans (e0.mono (T:=qd B A) (fun _ _ h=>h.elim)));refine(jj B base A l cp nv r 6 false _ [8] _ HPA.out HL.out HX.out HA.out (jo HP0.out 8) dc dc dc).mono ?_;clear e0;rintro e w3 ⟨rfl,hO,nv1,hP⟩;have HO1:=zh (HOA.out.trans hO);have HP1:=zh hP;clear hO hP HPA HOA;go_wp2;go_returns;exact⟨rfl,HO1.out,nv1,HP1.out⟩
theorem qrd(B base:Nat)(A:Option Addr)(l cp:Nat)(nv:Value)(r:LS)(w:World)(h:RunR w B base A l cp nv r)(hl:r.ns.length<=900)(hx:Words r.xs)(ha:0<=r.a/\r.a<4294967296)(h1:r.op=3)(hh:r.line<0):
 Calls prog 98 #[Value.pointer (some ⟨B,0,none⟩)] w (qg B base A l cp w (.tuple #[]) (r)):=by
 have H1:=zh h1;clear h1;obtain⟨ln,H2⟩:∃ln,Hid (r.line=ln):=⟨_,zh rfl⟩;rw[H2.out]at hh
 have q0:decide ((0:Int)<=ln)=false:=by simp;omega
 have n5:(ln==5)=false:=beq_eq_false_iff_ne.2 om;clear hh;have HX:=zh hx;have HL:=zh hl;have HA:=zh ha;have HH:=zh h;clear h hl hx ha
 have c4:w.cell? ⟨B,4,none⟩=some (.int .i64 (3)):=by rw[←H1.out];exact HH.out.row.cell_ (i:=4) rfl
 have c5:w.cell? ⟨B,5,none⟩=some (.int .i64 (ln)):=by rw[←H2.out];exact HH.out.row.cell_ (i:=5) rfl
 go_enter func98, ntmps98
 go_upto_region 1 with(fail)
 refine qb (n:=10) 9 (fun w=>w.cell? ⟨B,4,none⟩=some (.int .i64 (3))/\w.cell? ⟨B,5,none⟩=some (.int .i64 (ln))) rfl kr ⟨c4,c5⟩ (fun hHeld=> ?_);have HP0:=zh (HH.out.keep (Only.refl Nil w).drew);have HO0:=zh ((Only.refl (qd B A) w).drew);clear HH c4 c5;generalize w.drew=w2 at *;refine za 0 rfl ?_;refine za 1 rfl ?_;refine za 2 rfl ?_;refine zt 3 rfl ?_;refine za 4 rfl ?_;refine za 5 rfl ?_;refine za 6 rfl ?_;refine zt 7 rfl ?_;refine za 8 rfl ?_;refine mpc 9 rfl kr br (fun K hK=> ?_);go_simp;refine hK.out _ _ (.inl kr) ?_;clear hK K hHeld;refine qc kr ?_ _;go_wp2;go_returns;exact⟨rfl,HO0.out,nv,HP0.out⟩
theorem qyh(B base:Nat)(A:Option Addr)(l cp:Nat)(nv:Value)(r:LS)(w:World)(h:RunR w B base A l cp nv r)(hl:r.ns.length<=900)(hx:Words r.xs)(ha:0<=r.a/\r.a<4294967296)(h1:r.op=3)(hh:0<=r.line/\r.line<=4):
 Calls prog 98 #[Value.pointer (some ⟨B,0,none⟩)] w (qg B base A l cp w (.tuple #[]) (r.qEnter 2)):=by
 obtain⟨r',d,hd⟩:∃r' d,r.mxEnter 0 2=(r',d):=⟨_,_,rfl⟩;rw[qea hd];obtain⟨RR,hRR⟩:∃RR,(if d then r'.go 5 else r')=RR:=⟨_,rfl⟩;rw[hRR];have HRR:=zh hRR;clear hRR;have H1:=zh h1;clear h1;obtain⟨ln,H2⟩:∃ln,Hid (r.line=ln):=⟨_,zh rfl⟩;rw[H2.out]at hh;obtain⟨hh0,hh1⟩:=hh
 have q0:decide ((0:Int)<=ln)=true:=by simp;omega
 have q4:decide (ln<=(4:Int))=true:=by simp;omega
 clear hh0 hh1
 have hc:∀W,RunR W B base A l cp nv r->Calls prog 197 #[Value.pointer (some ⟨B,0,none⟩),.int .i64 0,.int .i64 2] W (qg B base A l cp W (.bool d) r'):=fun W hW=>by
  have e:=qd2 B base A l cp nv r 0 2 W hW hl hx ha;rw[hd]at e;exact e
 have HC:=zh hc;clear hc hd;have HX:=zh hx;have HL:=zh hl;have HA:=zh ha;have HH:=zh h;clear h hl hx ha
 have c4:w.cell? ⟨B,4,none⟩=some (.int .i64 (3)):=by rw[←H1.out];exact HH.out.row.cell_ (i:=4) rfl
 have c5:w.cell? ⟨B,5,none⟩=some (.int .i64 (ln)):=by rw[←H2.out];exact HH.out.row.cell_ (i:=5) rfl
 go_enter func98, ntmps98
 go_upto_region 1 with(fail)
 refine qb (n:=10) 9 (fun w=>w.cell? ⟨B,4,none⟩=some (.int .i64 (3))/\w.cell? ⟨B,5,none⟩=some (.int .i64 (ln))) rfl kr ⟨c4,c5⟩ (fun hHeld=> ?_);have HP0:=zh (HH.out.keep (Only.refl Nil w).drew);have HO0:=zh ((Only.refl (qd B A) w).drew);clear HH c4 c5;generalize w.drew=w2 at *;refine za 0 rfl ?_;refine za 1 rfl ?_;refine za 2 rfl ?_;refine zt 3 rfl ?_;refine za 4 rfl ?_;refine za 5 rfl ?_;refine za 6 rfl ?_;refine zt 7 rfl ?_;refine za 8 rfl ?_;refine mpc 9 rfl kr br (fun K hK=> ?_);go_simp;refine hK.out _ _ (.inl kr) ?_;clear hK K hHeld;refine qc kr ?_ _;go_wp2_with fail;refine(HC.out _ HP0.out).mono ?_;clear HC;rintro e w3 ⟨rfl,hO,nv1,hP⟩;have HO1:=zh (HO0.out.trans hO);have HP1:=zh hP;clear hO hP HP0 HO0
 cases d
 . have eR:=HRR.out;rw[if_neg Bool.false_ne_true]at eR;subst eR;go_wp2;go_returns;exact⟨rfl,HO1.out,nv1,HP1.out⟩
 . have eR:=HRR.out;rw[if_pos rfl]at eR;subst eR;have c5:w3.cell? ⟨B,5,none⟩=some (.int .i64 (r'.line)):=HP1.out.row.cell_ (i:=5) rfl;have f5:w3.frozen? ⟨B,5,none⟩=false:=HP1.out.row.frozen 5;go_wp2;clear c5 f5;have HPZ:=zh (HP1.out.setLine (5));have HOZ:=zh (HO1.out.setCell (p:=⟨B,5,none⟩) (.inr (.inl rfl)) (.int .i64 (5)));go_returns;exact⟨rfl,HOZ.out,nv1,HPZ.out⟩
theorem qzg(B base:Nat)(A:Option Addr)(l cp:Nat)(nv:Value)(r:LS)(w:World)(h:RunR w B base A l cp nv r)(hl:r.ns.length<=900)(hx:Words r.xs)(ha:0<=r.a/\r.a<4294967296)(h1:r.op=8)(h2:r.line=0):
 Calls prog 98 #[Value.pointer (some ⟨B,0,none⟩)] w (qg B base A l cp w (.tuple #[]) ((r.doA 3 1 1 0).go 1)):=by
 have H1:=zh h1;clear h1;have H2:=zh h2;clear h2;have HX:=zh hx;have HL:=zh hl;have HA:=zh ha;have HH:=zh h;clear h hl hx ha
 have c4:w.cell? ⟨B,4,none⟩=some (.int .i64 (8)):=by rw[←H1.out];exact HH.out.row.cell_ (i:=4) rfl
 have c5:w.cell? ⟨B,5,none⟩=some (.int .i64 (0)):=by rw[←H2.out];exact HH.out.row.cell_ (i:=5) rfl
 go_enter func98, ntmps98
 go_upto_region 1 with(fail)
 refine qb (n:=10) 9 (fun w=>w.cell? ⟨B,4,none⟩=some (.int .i64 (8))/\w.cell? ⟨B,5,none⟩=some (.int .i64 (0))) rfl kr ⟨c4,c5⟩ (fun hHeld=> ?_);have HP0:=zh (HH.out.keep (Only.refl Nil w).drew);have HO0:=zh ((Only.refl (qd B A) w).drew);clear HH c4 c5;generalize w.drew=w2 at *;refine za 0 rfl ?_;refine za 1 rfl ?_;refine za 2 rfl ?_;refine zt 3 rfl ?_;refine za 4 rfl ?_;refine za 5 rfl ?_;refine za 6 rfl ?_;refine zt 7 rfl ?_;refine za 8 rfl ?_;refine mpc 9 rfl kr br (fun K hK=> ?_);go_simp;refine hK.out _ _ (.inl kr) ?_;clear hK K hHeld;refine qc kr ?_ _;go_wp2_with fail;refine(kx B base A l cp nv r 1 1 _ HP0.out).mono ?_;rintro e w1_ ⟨rfl,hO,nv1,hP⟩;have HO1:=zh (HO0.out.trans hO);have HP1:=zh hP;clear hO hP HP0 HO0;have c5:w1_.cell? ⟨B,5,none⟩=some (.int .i64 (r.line)):=HP1.out.row.cell_ (i:=5) rfl;have f5:w1_.frozen? ⟨B,5,none⟩=false:=HP1.out.row.frozen 5;go_wp2;clear c5 f5;have HPZ:=zh (HP1.out.setLine (1));have HOZ:=zh (HO1.out.setCell (p:=⟨B,5,none⟩) (.inr (.inl rfl)) (.int .i64 (1)));go_returns;exact⟨rfl,HOZ.out,nv1,HPZ.out⟩
theorem qr7(B base:Nat)(A:Option Addr)(l cp:Nat)(nv:Value)(r:LS)(w:World)(h:RunR w B base A l cp nv r)(hl:r.ns.length<=900)(hx:Words r.xs)(ha:0<=r.a/\r.a<4294967296)(h1:r.op=5)(hh:1<r.line)(hh5:r.line≠5):
 Calls prog 98 #[Value.pointer (some ⟨B,0,none⟩)] w (qg B base A l cp w (.tuple #[]) (r.qGive 6 true [4])):=by
 have H1:=zh h1;clear h1;obtain⟨ln,H2⟩:∃ln,Hid (r.line=ln):=⟨_,zh rfl⟩;rw[H2.out]at hh;rw[H2.out]at hh5
 have q0:decide ((0:Int)<=ln)=true:=by simp;omega
 have q1:decide (ln<=(1:Int))=false:=by simp;omega
 have n5:(ln==5)=false:=beq_eq_false_iff_ne.2 om;clear hh hh5;have HX:=zh hx;have HL:=zh hl;have HA:=zh ha;have HH:=zh h;clear h hl hx ha
 have c4:w.cell? ⟨B,4,none⟩=some (.int .i64 (5)):=by rw[←H1.out];exact HH.out.row.cell_ (i:=4) rfl
 have c5:w.cell? ⟨B,5,none⟩=some (.int .i64 (ln)):=by rw[←H2.out];exact HH.out.row.cell_ (i:=5) rfl
 go_enter func98, ntmps98
 go_upto_region 1 with(fail)
 refine qb (n:=10) 9 (fun w=>w.cell? ⟨B,4,none⟩=some (.int .i64 (5))/\w.cell? ⟨B,5,none⟩=some (.int .i64 (ln))) rfl kr ⟨c4,c5⟩ (fun hHeld=> ?_);have HP0:=zh (HH.out.keep (Only.refl Nil w).drew);have HO0:=zh ((Only.refl (qd B A) w).drew);clear HH c4 c5;generalize w.drew=w2 at *;refine za 0 rfl ?_;refine za 1 rfl ?_;refine za 2 rfl ?_;refine zt 3 rfl ?_;refine za 4 rfl ?_;refine za 5 rfl ?_;refine za 6 rfl ?_;refine zt 7 rfl ?_;refine za 8 rfl ?_;refine mpc 9 rfl kr br (fun K hK=> ?_);go_simp;refine hK.out _ _ (.inl kr) ?_;clear hK K hHeld;refine qc kr ?_ _;go_wp2_with fail;have e0:=(Only.refl Nil w2).alloc (.cells #[.int .i64 4] 3);have HPA:=zh (HP0.out.keep e0);have HOA:=zh (HO0.out.trans (e0.mono (T:=qd B A) (fun _ _ h=>h.elim)));refine(jj B base A l cp nv r 6 true _ [4] _ HPA.out HL.out HX.out HA.out (jo HP0.out 4) dc dc dc).mono ?_;clear e0;rintro e w3 ⟨rfl,hO,nv1,hP⟩;have HO1:=zh (HOA.out.trans hO);have HP1:=zh hP;clear hO hP HPA HOA;go_wp2;go_returns;exact⟨rfl,HO1.out,nv1,HP1.out⟩
theorem qyj(B base:Nat)(A:Option Addr)(l cp:Nat)(nv:Value)(r:LS)(w:World)(h:RunR w B base A l cp nv r)(hl:r.ns.length<=900)(hx:Words r.xs)(ha:0<=r.a/\r.a<4294967296)(h1:r.op=8)(hh:r.line≠0):
 Calls prog 98 #[Value.pointer (some ⟨B,0,none⟩)] w (qg B base A l cp w (.tuple #[]) (r.qGive 1 true [10])):=by
 have H1:=zh h1;clear h1;obtain⟨ln,H2⟩:∃ln,Hid (r.line=ln):=⟨_,zh rfl⟩;rw[H2.out]at hh;have n0:(ln==0)=false:=beq_eq_false_iff_ne.2 om;clear hh;have HX:=zh hx;have HL:=zh hl;have HA:=zh ha;have HH:=zh h;clear h hl hx ha
 have c4:w.cell? ⟨B,4,none⟩=some (.int .i64 (8)):=by rw[←H1.out];exact HH.out.row.cell_ (i:=4) rfl
 have c5:w.cell? ⟨B,5,none⟩=some (.int .i64 (ln)):=by rw[←H2.out];exact HH.out.row.cell_ (i:=5) rfl
 go_enter func98, ntmps98
 go_upto_region 1 with(fail)
 refine qb (n:=10) 9 (fun w=>w.cell? ⟨B,4,none⟩=some (.int .i64 (8))/\w.cell? ⟨B,5,none⟩=some (.int .i64 (ln))) rfl kr ⟨c4,c5⟩ (fun hHeld=> ?_);have HP0:=zh (HH.out.keep (Only.refl Nil w).drew);have HO0:=zh ((Only.refl (qd B A) w).drew);clear HH c4 c5;generalize w.drew=w2 at *;refine za 0 rfl ?_;refine za 1 rfl ?_;refine za 2 rfl ?_;refine zt 3 rfl ?_;refine za 4 rfl ?_;refine za 5 rfl ?_;refine za 6 rfl ?_;refine zt 7 rfl ?_;refine za 8 rfl ?_;refine mpc 9 rfl kr br (fun K hK=> ?_);go_simp;refine hK.out _ _ (.inl kr) ?_;clear hK K hHeld;refine qc kr ?_ _;go_wp2_with fail;have e0:=(Only.refl Nil w2).alloc (.cells #[.int .i64 10] 3);have HPA:=zh (HP0.out.keep e0);have HOA:=zh (HO0.out.trans (e0.mono (T:=qd B A) (fun _ _ h=>h.elim)));refine(jj B base A l cp nv r 1 true _ [10] _ HPA.out HL.out HX.out HA.out (jo HP0.out 10) dc dc dc).mono ?_;clear e0;rintro e w3 ⟨rfl,hO,nv1,hP⟩;have HO1:=zh (HOA.out.trans hO);have HP1:=zh hP;clear hO hP HPA HOA;go_wp2;go_returns;exact⟨rfl,HO1.out,nv1,HP1.out⟩
theorem qre(B base:Nat)(A:Option Addr)(l cp:Nat)(nv:Value)(r:LS)(w:World)(h:RunR w B base A l cp nv r)(hl:r.ns.length<=900)(hx:Words r.xs)(ha:0<=r.a/\r.a<4294967296)(h1:r.op=3)(hh:4<r.line)(hh5:r.line≠5):
 Calls prog 98 #[Value.pointer (some ⟨B,0,none⟩)] w (qg B base A l cp w (.tuple #[]) (r)):=by
 have H1:=zh h1;clear h1;obtain⟨ln,H2⟩:∃ln,Hid (r.line=ln):=⟨_,zh rfl⟩;rw[H2.out]at hh;rw[H2.out]at hh5
 have q0:decide ((0:Int)<=ln)=true:=by simp;omega
 have q4:decide (ln<=(4:Int))=false:=by simp;omega
 have n5:(ln==5)=false:=beq_eq_false_iff_ne.2 om;clear hh hh5;have HX:=zh hx;have HL:=zh hl;have HA:=zh ha;have HH:=zh h;clear h hl hx ha
 have c4:w.cell? ⟨B,4,none⟩=some (.int .i64 (3)):=by rw[←H1.out];exact HH.out.row.cell_ (i:=4) rfl
 have c5:w.cell? ⟨B,5,none⟩=some (.int .i64 (ln)):=by rw[←H2.out];exact HH.out.row.cell_ (i:=5) rfl
 go_enter func98, ntmps98
 go_upto_region 1 with(fail)
 refine qb (n:=10) 9 (fun w=>w.cell? ⟨B,4,none⟩=some (.int .i64 (3))/\w.cell? ⟨B,5,none⟩=some (.int .i64 (ln))) rfl kr ⟨c4,c5⟩ (fun hHeld=> ?_);have HP0:=zh (HH.out.keep (Only.refl Nil w).drew);have HO0:=zh ((Only.refl (qd B A) w).drew);clear HH c4 c5;generalize w.drew=w2 at *;refine za 0 rfl ?_;refine za 1 rfl ?_;refine za 2 rfl ?_;refine zt 3 rfl ?_;refine za 4 rfl ?_;refine za 5 rfl ?_;refine za 6 rfl ?_;refine zt 7 rfl ?_;refine za 8 rfl ?_;refine mpc 9 rfl kr br (fun K hK=> ?_);go_simp;refine hK.out _ _ (.inl kr) ?_;clear hK K hHeld;refine qc kr ?_ _;go_wp2;go_returns;exact⟨rfl,HO0.out,nv,HP0.out⟩
theorem qzb(B base:Nat)(A:Option Addr)(l cp:Nat)(nv:Value)(r:LS)(w:World)(h:RunR w B base A l cp nv r)(hl:r.ns.length<=900)(hx:Words r.xs)(ha:0<=r.a/\r.a<4294967296)(h1:r.op=5)(hh:0<=r.line/\r.line<=1):
 Calls prog 98 #[Value.pointer (some ⟨B,0,none⟩)] w (qg B base A l cp w (.tuple #[]) (r.qTryG 1 5)):=by
 have hn:=qam (r:=r);obtain⟨r',d,i,hd⟩:∃r' d i,r.mxTry 0 0=(r',d,i):=⟨_,_,_,rfl⟩;rw[hd]at hn;rw[qdm hd];replace hn:d=false->i=false:=hn;obtain⟨RR,hRR⟩:∃RR,(if i then(r'.note 2 1).go 5 else if d then(r'.note 5 0).fin false else r')=RR:=⟨_,rfl⟩;rw[hRR];have HRR:=zh hRR;clear hRR;have H1:=zh h1;clear h1;obtain⟨ln,H2⟩:∃ln,Hid (r.line=ln):=⟨_,zh rfl⟩;rw[H2.out]at hh;obtain⟨hh0,hh1⟩:=hh
 have q0:decide ((0:Int)<=ln)=true:=by simp;omega
 have q1:decide (ln<=(1:Int))=true:=by simp;omega
 clear hh0 hh1
 have hc:∀W,RunR W B base A l cp nv r->Calls prog 199 #[Value.pointer (some ⟨B,0,none⟩),.int .i64 0,.int .i64 0] W (qg B base A l cp W (.tuple #[.bool d,.bool i]) r'):=fun W hW=>by
  have e:=qa0 B base A l cp nv r 0 0 W hW hl hx ha dc dc;rw[hd]at e;exact e
 have HC:=zh hc;have HG:=zh (show r'.ns.length<=900 by have e:=qj1 r;rw[hd]at e;exact e▸hl);have HN:=zh hn;clear hc hd hn;have HX:=zh hx;have HL:=zh hl;have HA:=zh ha;have HH:=zh h;clear h hl hx ha
 have c4:w.cell? ⟨B,4,none⟩=some (.int .i64 (5)):=by rw[←H1.out];exact HH.out.row.cell_ (i:=4) rfl
 have c5:w.cell? ⟨B,5,none⟩=some (.int .i64 (ln)):=by rw[←H2.out];exact HH.out.row.cell_ (i:=5) rfl
 go_enter func98, ntmps98
 go_upto_region 1 with(fail)
 refine qb (n:=10) 9 (fun w=>w.cell? ⟨B,4,none⟩=some (.int .i64 (5))/\w.cell? ⟨B,5,none⟩=some (.int .i64 (ln))) rfl kr ⟨c4,c5⟩ (fun hHeld=> ?_);have HP0:=zh (HH.out.keep (Only.refl Nil w).drew);have HO0:=zh ((Only.refl (qd B A) w).drew);clear HH c4 c5;generalize w.drew=w2 at *;refine za 0 rfl ?_;refine za 1 rfl ?_;refine za 2 rfl ?_;refine zt 3 rfl ?_;refine za 4 rfl ?_;refine za 5 rfl ?_;refine za 6 rfl ?_;refine zt 7 rfl ?_;refine za 8 rfl ?_;refine mpc 9 rfl kr br (fun K hK=> ?_);go_simp;refine hK.out _ _ (.inl kr) ?_;clear hK K hHeld;refine qc kr ?_ _;go_wp2_with fail;refine(HC.out _ HP0.out).mono ?_;clear HC;rintro e w3 ⟨rfl,hO,nv1,hP⟩;have HO1:=zh (HO0.out.trans hO);have HP1:=zh hP;clear hO hP HP0 HO0
 cases d
 . obtain rfl:i=false:=HN.out rfl;have eR:=HRR.out;rw[if_neg Bool.false_ne_true,if_neg Bool.false_ne_true]at eR;subst eR;go_wp2;go_returns;exact⟨rfl,HO1.out,nv1,HP1.out⟩
 cases i
 . have eR:=HRR.out;rw[if_neg Bool.false_ne_true,if_pos rfl]at eR;subst eR;go_wp2_with fail;refine(qo B base A l cp nv1 _ 5 0 _ HP1.out (Nat.le_trans HG.out dc)).mono ?_;rintro e w2_ ⟨rfl,hO,nv2,hP⟩;have HO2:=zh (HO1.out.trans hO);have HP2:=zh hP;clear hO hP HP1 HO1;go_wp2_with fail;refine(yd B base A l cp nv2 _ _ false HP2.out).mono ?_;rintro e w3_ ⟨rfl,hO,nv3,hP⟩;have HO3:=zh (HO2.out.trans hO);have HP3:=zh hP;clear hO hP HP2 HO2;go_wp2;go_returns;exact⟨rfl,HO3.out,nv3,HP3.out⟩
 . have eR:=HRR.out;rw[if_pos rfl]at eR;subst eR;go_wp2_with fail;refine(qo B base A l cp nv1 _ 2 1 _ HP1.out (Nat.le_trans HG.out dc)).mono ?_;rintro e w2_ ⟨rfl,hO,nv2,hP⟩;have HO2:=zh (HO1.out.trans hO);have HP2:=zh hP;clear hO hP HP1 HO1;have c5:w2_.cell? ⟨B,5,none⟩=some (.int .i64 (r'.line)):=HP2.out.row.cell_ (i:=5) rfl;have f5:w2_.frozen? ⟨B,5,none⟩=false:=HP2.out.row.frozen 5;go_wp2;clear c5 f5;have HPZ:=zh (HP2.out.setLine (5));have HOZ:=zh (HO2.out.setCell (p:=⟨B,5,none⟩) (.inr (.inl rfl)) (.int .i64 (5)));go_returns;exact⟨rfl,HOZ.out,nv2,HPZ.out⟩
theorem za1(B base:Nat)(A:Option Addr)(l cp:Nat)(nv:Value)(r:LS)(w:World)(h:RunR w B base A l cp nv r)(hl:r.ns.length<=900)(hx:Words r.xs)(ha:0<=r.a/\r.a<4294967296)(h1:r.op=2)(h2:r.line=0):
 Calls prog 98 #[Value.pointer (some ⟨B,0,none⟩)] w (qg B base A l cp w (.tuple #[]) (((((r.doA 3 1 4294967295 0).note 6 0).wake 1).fin true))):=by
 have H1:=zh h1;clear h1;have H2:=zh h2;clear h2;have HX:=zh hx;have HL:=zh hl;have HA:=zh ha;have HH:=zh h;clear h hl hx ha
 have c4:w.cell? ⟨B,4,none⟩=some (.int .i64 (2)):=by rw[←H1.out];exact HH.out.row.cell_ (i:=4) rfl
 have c5:w.cell? ⟨B,5,none⟩=some (.int .i64 (0)):=by rw[←H2.out];exact HH.out.row.cell_ (i:=5) rfl
 go_enter func98, ntmps98
 go_upto_region 1 with(fail)
 refine qb (n:=10) 9 (fun w=>w.cell? ⟨B,4,none⟩=some (.int .i64 (2))/\w.cell? ⟨B,5,none⟩=some (.int .i64 (0))) rfl kr ⟨c4,c5⟩ (fun hHeld=> ?_);have HP0:=zh (HH.out.keep (Only.refl Nil w).drew);have HO0:=zh ((Only.refl (qd B A) w).drew);clear HH c4 c5;generalize w.drew=w2 at *;refine za 0 rfl ?_;refine za 1 rfl ?_;refine za 2 rfl ?_;refine zt 3 rfl ?_;refine za 4 rfl ?_;refine za 5 rfl ?_;refine za 6 rfl ?_;refine zt 7 rfl ?_;refine za 8 rfl ?_;refine mpc 9 rfl kr br (fun K hK=> ?_);go_simp;refine hK.out _ _ (.inl kr) ?_;clear hK K hHeld;refine qc kr ?_ _;go_wp2_with fail;refine(kx B base A l cp nv r 1 4294967295 _ HP0.out).mono ?_;rintro e w1_ ⟨rfl,hO,nv1,hP⟩;have HO1:=zh (HO0.out.trans hO);have HP1:=zh hP;clear hO hP HP0 HO0;go_wp2_with fail;refine(qo B base A l cp nv1 _ 6 0 _ HP1.out (show(r.doA 3 1 4294967295 0).ns.length<=1000 from Nat.le_trans HL.out dc)).mono ?_;rintro e w2_ ⟨rfl,hO,nv2,hP⟩;have HO2:=zh (HO1.out.trans hO);have HP2:=zh hP;clear hO hP HP1 HO1;go_wp2_with fail;refine(vq B base A l cp nv2 _ 1 _ HP2.out).mono ?_;rintro e w3_ ⟨rfl,hO,nv3,hP⟩;have HO3:=zh (HO2.out.trans hO);have HP3:=zh hP;clear hO hP HP2 HO2;go_wp2_with fail;refine(yd B base A l cp nv3 _ _ true HP3.out).mono ?_;rintro e w4_ ⟨rfl,hO,nv4,hP⟩;have HO4:=zh (HO3.out.trans hO);have HP4:=zh hP;clear hO hP HP3 HO3;go_wp2;go_returns;exact⟨rfl,HO4.out,nv4,HP4.out⟩
theorem qz4(B base:Nat)(A:Option Addr)(l cp:Nat)(nv:Value)(r:LS)(w:World)(h:RunR w B base A l cp nv r)(hl:r.ns.length<=900)(hx:Words r.xs)(ha:0<=r.a/\r.a<4294967296)(h1:r.op=4):
 Calls prog 98 #[Value.pointer (some ⟨B,0,none⟩)] w (qg B base A l cp w (.tuple #[]) (r.qGive 0 true [7,8])):=by
 have H1:=zh h1;clear h1;obtain⟨ln,H2⟩:∃ln,Hid (r.line=ln):=⟨_,zh rfl⟩;have HX:=zh hx;have HL:=zh hl;have HA:=zh ha;have HH:=zh h;clear h hl hx ha
 have c4:w.cell? ⟨B,4,none⟩=some (.int .i64 (4)):=by rw[←H1.out];exact HH.out.row.cell_ (i:=4) rfl
 have c5:w.cell? ⟨B,5,none⟩=some (.int .i64 (ln)):=by rw[←H2.out];exact HH.out.row.cell_ (i:=5) rfl
 go_enter func98, ntmps98
 go_upto_region 1 with(fail)
 refine qb (n:=10) 9 (fun w=>w.cell? ⟨B,4,none⟩=some (.int .i64 (4))/\w.cell? ⟨B,5,none⟩=some (.int .i64 (ln))) rfl kr ⟨c4,c5⟩ (fun hHeld=> ?_);have HP0:=zh (HH.out.keep (Only.refl Nil w).drew);have HO0:=zh ((Only.refl (qd B A) w).drew);clear HH c4 c5;generalize w.drew=w2 at *;refine za 0 rfl ?_;refine za 1 rfl ?_;refine za 2 rfl ?_;refine zt 3 rfl ?_;refine za 4 rfl ?_;refine za 5 rfl ?_;refine za 6 rfl ?_;refine zt 7 rfl ?_;refine za 8 rfl ?_;refine mpc 9 rfl kr br (fun K hK=> ?_);go_simp;refine hK.out _ _ (.inl kr) ?_;clear hK K hHeld;refine qc kr ?_ _;go_wp2_with fail;have e0:=(Only.refl Nil w2).alloc (.cells #[.int .i64 7,.int .i64 8] 3);have HPA:=zh (HP0.out.keep e0);have HOA:=zh (HO0.out.trans (e0.mono (T:=qd B A) (fun _ _ h=>h.elim)));refine(jj B base A l cp nv r 0 true _ [7,8] _ HPA.out HL.out HX.out HA.out (qr2 HP0.out 7 8) dc dc dc).mono ?_;clear e0;rintro e w3 ⟨rfl,hO,nv1,hP⟩;have HO1:=zh (HOA.out.trans hO);have HP1:=zh hP;clear hO hP HPA HOA;go_wp2;go_returns;exact⟨rfl,HO1.out,nv1,HP1.out⟩
theorem zcd(B base:Nat)(A:Option Addr)(l cp:Nat)(nv:Value)(r:LS)(w:World)(h:RunR w B base A l cp nv r)(hl:r.ns.length<=900)(hx:Words r.xs)(ha:0<=r.a/\r.a<4294967296)(h1:r.op=3)(h2:r.line=5):
 Calls prog 98 #[Value.pointer (some ⟨B,0,none⟩)] w (qg B base A l cp w (.tuple #[]) (r.awaitQ)):=by
 generalize hsn:(r.stepR 1 isZ).seen=sn;generalize hdn:(r.stepR 1 isZ).done=dn;rw[show r.awaitQ=if dn then((r.wait 1 isZ).noteIf sn 4).fin true else(r.wait 1 isZ).noteIf sn 4 by unfold LS.awaitQ;rw[hdn,hsn]];obtain⟨rw1,hw1⟩:∃rw1,r.wait 1 isZ=rw1:=⟨_,rfl⟩;have HLN:=zh (show rw1.ns.length<=1000 from by rw[←hw1];exact Nat.le_trans hl dc);rw[hw1];have HW1:=zh hw1;clear hw1;obtain⟨RR,hRR⟩:∃RR,(if dn then(rw1.noteIf sn 4).fin true else rw1.noteIf sn 4)=RR:=⟨_,rfl⟩;rw[hRR];have HRR:=zh hRR;clear hRR;have H1:=zh h1;clear h1;have H2:=zh h2;clear h2;have HSN:=zh (show(r.stepR 1 (uIs 0 4294967295 0)).seen=sn by rw[qb8 hx];exact hsn);have HDN:=zh (show(r.stepR 1 (uIs 0 4294967295 0)).done=dn by rw[qb8 hx];exact hdn);clear hsn hdn;have HX:=zh hx;have HL:=zh hl;have HA:=zh ha;have HH:=zh h;clear h hl hx ha
 have c4:w.cell? ⟨B,4,none⟩=some (.int .i64 (3)):=by rw[←H1.out];exact HH.out.row.cell_ (i:=4) rfl
 have c5:w.cell? ⟨B,5,none⟩=some (.int .i64 (5)):=by rw[←H2.out];exact HH.out.row.cell_ (i:=5) rfl
 go_enter func98, ntmps98
 go_upto_region 1 with(fail)
 refine qb (n:=10) 9 (fun w=>w.cell? ⟨B,4,none⟩=some (.int .i64 (3))/\w.cell? ⟨B,5,none⟩=some (.int .i64 (5))) rfl kr ⟨c4,c5⟩ (fun hHeld=> ?_);have HP0:=zh (HH.out.keep (Only.refl Nil w).drew);have HO0:=zh ((Only.refl (qd B A) w).drew);clear HH c4 c5;generalize w.drew=w2 at *;refine za 0 rfl ?_;refine za 1 rfl ?_;refine za 2 rfl ?_;refine zt 3 rfl ?_;refine za 4 rfl ?_;refine za 5 rfl ?_;refine za 6 rfl ?_;refine zt 7 rfl ?_;refine za 8 rfl ?_;refine mpc 9 rfl kr br (fun K hK=> ?_);go_simp;refine hK.out _ _ (.inl kr) ?_;clear hK K hHeld;refine qc kr ?_ _;go_wp2_with fail;refine(ke B base A l cp nv r 1 0 4294967295 0 _ HP0.out HX.out).mono ?_;rw[HSN.out,HDN.out,qhj HX.out 1,HW1.out];clear HSN HDN;rintro e w3 ⟨rfl,hO,nv1,hP⟩;have HO1:=zh (HO0.out.trans hO);have HP1:=zh hP;clear hO hP HP0 HO0
 cases sn
 all_goals cases dn
 . have eR:rw1=RR:=HRR.out;subst eR;go_wp2;go_returns;exact⟨rfl,HO1.out,nv1,HP1.out⟩
 . have eR:(rw1).fin true=RR:=HRR.out;subst eR;go_wp2_with fail;refine(yd B base A l cp nv1 _ _ true HP1.out).mono ?_;rintro e w2_ ⟨rfl,hO,nv2,hP⟩;have HO2:=zh (HO1.out.trans hO);have HP2:=zh hP;clear hO hP HP1 HO1;go_wp2;go_returns;exact⟨rfl,HO2.out,nv2,HP2.out⟩
 . have eR:(rw1).note 4 0=RR:=HRR.out;subst eR;go_wp2_with fail;refine(qo B base A l cp nv1 _ 4 0 _ HP1.out HLN.out).mono ?_;rintro e w2_ ⟨rfl,hO,nv2,hP⟩;have HO2:=zh (HO1.out.trans hO);have HP2:=zh hP;clear hO hP HP1 HO1;go_wp2;go_returns;exact⟨rfl,HO2.out,nv2,HP2.out⟩
 . have eR:((rw1).note 4 0).fin true=RR:=HRR.out;subst eR;go_wp2_with fail;refine(qo B base A l cp nv1 _ 4 0 _ HP1.out HLN.out).mono ?_;rintro e w2_ ⟨rfl,hO,nv2,hP⟩;have HO2:=zh (HO1.out.trans hO);have HP2:=zh hP;clear hO hP HP1 HO1;go_wp2_with fail;refine(yd B base A l cp nv2 _ _ true HP2.out).mono ?_;rintro e w3_ ⟨rfl,hO,nv3,hP⟩;have HO3:=zh (HO2.out.trans hO);have HP3:=zh hP;clear hO hP HP2 HO2;go_wp2;go_returns;exact⟨rfl,HO3.out,nv3,HP3.out⟩
theorem zba(B base:Nat)(A:Option Addr)(l cp:Nat)(nv:Value)(r:LS)(w:World)(h:RunR w B base A l cp nv r)(hl:r.ns.length<=900)(hx:Words r.xs)(ha:0<=r.a/\r.a<4294967296)(hh:r.op<1\/8<r.op):
 Calls prog 98 #[Value.pointer (some ⟨B,0,none⟩)] w (qg B base A l cp w (.tuple #[]) (r)):=by
 obtain⟨ol,H1⟩:∃ol,Hid (r.op=ol):=⟨_,zh rfl⟩;obtain⟨ln,H2⟩:∃ln,Hid (r.line=ln):=⟨_,zh rfl⟩;rw[H1.out]at hh;have n1:(ol==1)=false:=beq_eq_false_iff_ne.2 om;have n2:(ol==2)=false:=beq_eq_false_iff_ne.2 om;have n3:(ol==3)=false:=beq_eq_false_iff_ne.2 om;have n4:(ol==4)=false:=beq_eq_false_iff_ne.2 om;have n5:(ol==5)=false:=beq_eq_false_iff_ne.2 om;have n6:(ol==6)=false:=beq_eq_false_iff_ne.2 om;have n7:(ol==7)=false:=beq_eq_false_iff_ne.2 om;have n8:(ol==8)=false:=beq_eq_false_iff_ne.2 om;clear hh;have HX:=zh hx;have HL:=zh hl;have HA:=zh ha;have HH:=zh h;clear h hl hx ha
 have c4:w.cell? ⟨B,4,none⟩=some (.int .i64 (ol)):=by rw[←H1.out];exact HH.out.row.cell_ (i:=4) rfl
 have c5:w.cell? ⟨B,5,none⟩=some (.int .i64 (ln)):=by rw[←H2.out];exact HH.out.row.cell_ (i:=5) rfl
 go_enter func98, ntmps98
 go_upto_region 1 with(fail)
 refine qb (n:=10) 9 (fun w=>w.cell? ⟨B,4,none⟩=some (.int .i64 (ol))/\w.cell? ⟨B,5,none⟩=some (.int .i64 (ln))) rfl kr ⟨c4,c5⟩ (fun hHeld=> ?_);have HP0:=zh (HH.out.keep (Only.refl Nil w).drew);have HO0:=zh ((Only.refl (qd B A) w).drew);clear HH c4 c5;generalize w.drew=w2 at *;refine za 0 rfl ?_;refine za 1 rfl ?_;refine za 2 rfl ?_;refine zt 3 rfl ?_;refine za 4 rfl ?_;refine za 5 rfl ?_;refine za 6 rfl ?_;refine zt 7 rfl ?_;refine za 8 rfl ?_;refine mpc 9 rfl kr br (fun K hK=> ?_);go_simp;refine hK.out _ _ (.inl kr) ?_;clear hK K hHeld;refine qc kr ?_ _;go_wp2;go_returns;exact⟨rfl,HO0.out,nv,HP0.out⟩
theorem za6(B base:Nat)(A:Option Addr)(l cp:Nat)(nv:Value)(r:LS)(w:World)(h:RunR w B base A l cp nv r)(hl:r.ns.length<=900)(hx:Words r.xs)(ha:0<=r.a/\r.a<4294967296)(h1:r.op=6)(hh:0<=r.line/\r.line<=1):
 Calls prog 98 #[Value.pointer (some ⟨B,0,none⟩)] w (qg B base A l cp w (.tuple #[]) (r.qTryG 2 2)):=by
 have hn:=qam (r:=r);obtain⟨r',d,i,hd⟩:∃r' d i,r.mxTry 0 0=(r',d,i):=⟨_,_,_,rfl⟩;rw[hd]at hn;rw[qdm hd];replace hn:d=false->i=false:=hn;obtain⟨RR,hRR⟩:∃RR,(if i then(r'.note 2 2).go 2 else if d then(r'.note 5 0).fin false else r')=RR:=⟨_,rfl⟩;rw[hRR];have HRR:=zh hRR;clear hRR;have H1:=zh h1;clear h1;obtain⟨ln,H2⟩:∃ln,Hid (r.line=ln):=⟨_,zh rfl⟩;rw[H2.out]at hh;obtain⟨hh0,hh1⟩:=hh
 have q0:decide ((0:Int)<=ln)=true:=by simp;omega
 have q1:decide (ln<=(1:Int))=true:=by simp;omega
 clear hh0 hh1
 have hc:∀W,RunR W B base A l cp nv r->Calls prog 199 #[Value.pointer (some ⟨B,0,none⟩),.int .i64 0,.int .i64 0] W (qg B base A l cp W (.tuple #[.bool d,.bool i]) r'):=fun W hW=>by
  have e:=qa0 B base A l cp nv r 0 0 W hW hl hx ha dc dc;rw[hd]at e;exact e
 have HC:=zh hc;have HG:=zh (show r'.ns.length<=900 by have e:=qj1 r;rw[hd]at e;exact e▸hl);have HN:=zh hn;clear hc hd hn;have HX:=zh hx;have HL:=zh hl;have HA:=zh ha;have HH:=zh h;clear h hl hx ha
 have c4:w.cell? ⟨B,4,none⟩=some (.int .i64 (6)):=by rw[←H1.out];exact HH.out.row.cell_ (i:=4) rfl
 have c5:w.cell? ⟨B,5,none⟩=some (.int .i64 (ln)):=by rw[←H2.out];exact HH.out.row.cell_ (i:=5) rfl
 go_enter func98, ntmps98
 go_upto_region 1 with(fail)
 refine qb (n:=10) 9 (fun w=>w.cell? ⟨B,4,none⟩=some (.int .i64 (6))/\w.cell? ⟨B,5,none⟩=some (.int .i64 (ln))) rfl kr ⟨c4,c5⟩ (fun hHeld=> ?_);have HP0:=zh (HH.out.keep (Only.refl Nil w).drew);have HO0:=zh ((Only.refl (qd B A) w).drew);clear HH c4 c5;generalize w.drew=w2 at *;refine za 0 rfl ?_;refine za 1 rfl ?_;refine za 2 rfl ?_;refine zt 3 rfl ?_;refine za 4 rfl ?_;refine za 5 rfl ?_;refine za 6 rfl ?_;refine zt 7 rfl ?_;refine za 8 rfl ?_;refine mpc 9 rfl kr br (fun K hK=> ?_);go_simp;refine hK.out _ _ (.inl kr) ?_;clear hK K hHeld;refine qc kr ?_ _;go_wp2_with fail;refine(HC.out _ HP0.out).mono ?_;clear HC;rintro e w3 ⟨rfl,hO,nv1,hP⟩;have HO1:=zh (HO0.out.trans hO);have HP1:=zh hP;clear hO hP HP0 HO0
 cases d
 . obtain rfl:i=false:=HN.out rfl;have eR:=HRR.out;rw[if_neg Bool.false_ne_true,if_neg Bool.false_ne_true]at eR;subst eR;go_wp2;go_returns;exact⟨rfl,HO1.out,nv1,HP1.out⟩
 cases i
 . have eR:=HRR.out;rw[if_neg Bool.false_ne_true,if_pos rfl]at eR;subst eR;go_wp2_with fail;refine(qo B base A l cp nv1 _ 5 0 _ HP1.out (Nat.le_trans HG.out dc)).mono ?_;rintro e w2_ ⟨rfl,hO,nv2,hP⟩;have HO2:=zh (HO1.out.trans hO);have HP2:=zh hP;clear hO hP HP1 HO1;go_wp2_with fail;refine(yd B base A l cp nv2 _ _ false HP2.out).mono ?_;rintro e w3_ ⟨rfl,hO,nv3,hP⟩;have HO3:=zh (HO2.out.trans hO);have HP3:=zh hP;clear hO hP HP2 HO2;go_wp2;go_returns;exact⟨rfl,HO3.out,nv3,HP3.out⟩
 . have eR:=HRR.out;rw[if_pos rfl]at eR;subst eR;go_wp2_with fail;refine(qo B base A l cp nv1 _ 2 2 _ HP1.out (Nat.le_trans HG.out dc)).mono ?_;rintro e w2_ ⟨rfl,hO,nv2,hP⟩;have HO2:=zh (HO1.out.trans hO);have HP2:=zh hP;clear hO hP HP1 HO1;have c5:w2_.cell? ⟨B,5,none⟩=some (.int .i64 (r'.line)):=HP2.out.row.cell_ (i:=5) rfl;have f5:w2_.frozen? ⟨B,5,none⟩=false:=HP2.out.row.frozen 5;go_wp2;clear c5 f5;have HPZ:=zh (HP2.out.setLine (2));have HOZ:=zh (HO2.out.setCell (p:=⟨B,5,none⟩) (.inr (.inl rfl)) (.int .i64 (2)));go_returns;exact⟨rfl,HOZ.out,nv2,HPZ.out⟩
theorem zae(B base:Nat)(A:Option Addr)(l cp:Nat)(nv:Value)(r:LS)(w:World)(h:RunR w B base A l cp nv r)(hl:r.ns.length<=900)(hx:Words r.xs)(ha:0<=r.a/\r.a<4294967296)(h1:r.op=7)(h2:r.line=3):
 Calls prog 98 #[Value.pointer (some ⟨B,0,none⟩)] w (qg B base A l cp w (.tuple #[]) ((((r.doA 3 1 4294967295 0).note 9 0).fin true))):=by
 have H1:=zh h1;clear h1;have H2:=zh h2;clear h2;have HX:=zh hx;have HL:=zh hl;have HA:=zh ha;have HH:=zh h;clear h hl hx ha
 have c4:w.cell? ⟨B,4,none⟩=some (.int .i64 (7)):=by rw[←H1.out];exact HH.out.row.cell_ (i:=4) rfl
 have c5:w.cell? ⟨B,5,none⟩=some (.int .i64 (3)):=by rw[←H2.out];exact HH.out.row.cell_ (i:=5) rfl
 go_enter func98, ntmps98
 go_upto_region 1 with(fail)
 refine qb (n:=10) 9 (fun w=>w.cell? ⟨B,4,none⟩=some (.int .i64 (7))/\w.cell? ⟨B,5,none⟩=some (.int .i64 (3))) rfl kr ⟨c4,c5⟩ (fun hHeld=> ?_);have HP0:=zh (HH.out.keep (Only.refl Nil w).drew);have HO0:=zh ((Only.refl (qd B A) w).drew);clear HH c4 c5;generalize w.drew=w2 at *;refine za 0 rfl ?_;refine za 1 rfl ?_;refine za 2 rfl ?_;refine zt 3 rfl ?_;refine za 4 rfl ?_;refine za 5 rfl ?_;refine za 6 rfl ?_;refine zt 7 rfl ?_;refine za 8 rfl ?_;refine mpc 9 rfl kr br (fun K hK=> ?_);go_simp;refine hK.out _ _ (.inl kr) ?_;clear hK K hHeld;refine qc kr ?_ _;go_wp2_with fail;refine(kx B base A l cp nv r 1 4294967295 _ HP0.out).mono ?_;rintro e w1_ ⟨rfl,hO,nv1,hP⟩;have HO1:=zh (HO0.out.trans hO);have HP1:=zh hP;clear hO hP HP0 HO0;go_wp2_with fail;refine(qo B base A l cp nv1 _ 9 0 _ HP1.out (show(r.doA 3 1 4294967295 0).ns.length<=1000 from Nat.le_trans HL.out dc)).mono ?_;rintro e w2_ ⟨rfl,hO,nv2,hP⟩;have HO2:=zh (HO1.out.trans hO);have HP2:=zh hP;clear hO hP HP1 HO1;go_wp2_with fail;refine(yd B base A l cp nv2 _ _ true HP2.out).mono ?_;rintro e w3_ ⟨rfl,hO,nv3,hP⟩;have HO3:=zh (HO2.out.trans hO);have HP3:=zh hP;clear hO hP HP2 HO2;go_wp2;go_returns;exact⟨rfl,HO3.out,nv3,HP3.out⟩
theorem qrx(B base:Nat)(A:Option Addr)(l cp:Nat)(nv:Value)(r:LS)(w:World)(h:RunR w B base A l cp nv r)(hl:r.ns.length<=900)(hx:Words r.xs)(ha:0<=r.a/\r.a<4294967296)(h1:r.op=6)(hh:r.line<0):
 Calls prog 98 #[Value.pointer (some ⟨B,0,none⟩)] w (qg B base A l cp w (.tuple #[]) (r.qGive 6 false [8])):=by
 have H1:=zh h1;clear h1;obtain⟨ln,H2⟩:∃ln,Hid (r.line=ln):=⟨_,zh rfl⟩;rw[H2.out]at hh
 have q0:decide ((0:Int)<=ln)=false:=by simp;omega
 have n2:(ln==2)=false:=beq_eq_false_iff_ne.2 om;clear hh;have HX:=zh hx;have HL:=zh hl;have HA:=zh ha;have HH:=zh h;clear h hl hx ha
 have c4:w.cell? ⟨B,4,none⟩=some (.int .i64 (6)):=by rw[←H1.out];exact HH.out.row.cell_ (i:=4) rfl
 have c5:w.cell? ⟨B,5,none⟩=some (.int .i64 (ln)):=by rw[←H2.out];exact HH.out.row.cell_ (i:=5) rfl
 go_enter func98, ntmps98
 go_upto_region 1 with(fail)
 refine qb (n:=10) 9 (fun w=>w.cell? ⟨B,4,none⟩=some (.int .i64 (6))/\w.cell? ⟨B,5,none⟩=some (.int .i64 (ln))) rfl kr ⟨c4,c5⟩ (fun hHeld=> ?_);have HP0:=zh (HH.out.keep (Only.refl Nil w).drew);have HO0:=zh ((Only.refl (qd B A) w).drew);clear HH c4 c5;generalize w.drew=w2 at *;refine za 0 rfl ?_;refine za 1 rfl ?_;refine za 2 rfl ?_;refine zt 3 rfl ?_;refine za 4 rfl ?_;refine za 5 rfl ?_;refine za 6 rfl ?_;refine zt 7 rfl ?_;refine za 8 rfl ?_;refine mpc 9 rfl kr br (fun K hK=> ?_);go_simp;refine hK.out _ _ (.inl kr) ?_;clear hK K hHeld;refine qc kr ?_ _;go_wp2_with fail;have e0:=(Only.refl Nil w2).alloc (.cells #[.int .i64 8] 3);have HPA:=zh (HP0.out.keep e0);have HOA:=zh (HO0.out.trans (e0.mono (T:=qd B A) (fun _ _ h=>h.elim)));refine(jj B base A l cp nv r 6 false _ [8] _ HPA.out HL.out HX.out HA.out (jo HP0.out 8) dc dc dc).mono ?_;clear e0;rintro e w3 ⟨rfl,hO,nv1,hP⟩;have HO1:=zh (HOA.out.trans hO);have HP1:=zh hP;clear hO hP HPA HOA;go_wp2;go_returns;exact⟨rfl,HO1.out,nv1,HP1.out⟩
theorem qyu(B base:Nat)(A:Option Addr)(l cp:Nat)(nv:Value)(r:LS)(w:World)(h:RunR w B base A l cp nv r)(hl:r.ns.length<=900)(hx:Words r.xs)(ha:0<=r.a/\r.a<4294967296)(h1:r.op=6)(h2:r.line=2):
 Calls prog 98 #[Value.pointer (some ⟨B,0,none⟩)] w (qg B base A l cp w (.tuple #[]) (if qa r.xs 1=0 then((r.qCount.note 4 0).fin true)else(r.qCount.note 5 0).go 6)):=by
 obtain⟨RR,hRR⟩:∃RR,(if qa r.xs 1=0 then((r.qCount.note 4 0).fin true)else(r.qCount.note 5 0).go 6)=RR:=⟨_,rfl⟩;rw[hRR];have HRR:=zh hRR;clear hRR;have H1:=zh h1;clear h1;have H2:=zh h2;clear h2;have HLN:=zh (show r.qCount.ns.length<=900 from hl);have HX:=zh hx;have HL:=zh hl;have HA:=zh ha;have HH:=zh h;clear h hl hx ha
 have c4:w.cell? ⟨B,4,none⟩=some (.int .i64 (6)):=by rw[←H1.out];exact HH.out.row.cell_ (i:=4) rfl
 have c5:w.cell? ⟨B,5,none⟩=some (.int .i64 (2)):=by rw[←H2.out];exact HH.out.row.cell_ (i:=5) rfl
 go_enter func98, ntmps98
 go_upto_region 1 with(fail)
 refine qb (n:=10) 9 (fun w=>w.cell? ⟨B,4,none⟩=some (.int .i64 (6))/\w.cell? ⟨B,5,none⟩=some (.int .i64 (2))) rfl kr ⟨c4,c5⟩ (fun hHeld=> ?_);have HP0:=zh (HH.out.keep (Only.refl Nil w).drew);have HO0:=zh ((Only.refl (qd B A) w).drew);clear HH c4 c5;generalize w.drew=w2 at *;refine za 0 rfl ?_;refine za 1 rfl ?_;refine za 2 rfl ?_;refine zt 3 rfl ?_;refine za 4 rfl ?_;refine za 5 rfl ?_;refine za 6 rfl ?_;refine zt 7 rfl ?_;refine za 8 rfl ?_;refine mpc 9 rfl kr br (fun K hK=> ?_);go_simp;refine hK.out _ _ (.inl kr) ?_;clear hK K hHeld;refine qc kr ?_ _;go_wp2_with fail;refine(kl B base A l cp nv r 1 _ HP0.out).mono ?_;rintro e w1_ ⟨rfl,hO,nv1,hP⟩;have HO1:=zh (HO0.out.trans hO);have HP1:=zh hP;clear hO hP HP0 HO0;have c6:w1_.cell? ⟨B,6,none⟩=some (.int .u32 r.a):=HP1.out.row.cell_ (i:=6) rfl;have f6:w1_.frozen? ⟨B,6,none⟩=false:=HP1.out.row.frozen 6
 go_upto_region 36 with(fail)
 clear c6 f6;have HP2:Hid (RunR (w1_.setCell ⟨B,6,none⟩ (.int .u32 (qa r.xs 1))) B base A l cp nv1 r.qCount):=zh (HP1.out.setA (qa r.xs 1));have HO2:=zh (HO1.out.setCell (p:=⟨B,6,none⟩) (.inr (.inl rfl)) (.int .u32 (qa r.xs 1)));clear HP1 HO1;generalize w1_.setCell ⟨B,6,none⟩ (.int .u32 (qa r.xs 1))=w4 at *;have c6:w4.cell? ⟨B,6,none⟩=some (.int .u32 (qa r.xs 1)):=HP2.out.row.cell_ (i:=6) rfl
 by_cases hw:qa r.xs 1=0
 . have eR:=HRR.out;rw[if_pos hw]at eR;subst eR;have hz:(qa r.xs 1==0)=true:=beq_iff_eq.2 hw;clear hw;go_wp2_with fail;clear c6 hz;refine(qo B base A l cp nv1 _ 4 0 _ HP2.out (Nat.le_trans HLN.out dc)).mono ?_;rintro e w3_ ⟨rfl,hO,nv3,hP⟩;have HO3:=zh (HO2.out.trans hO);have HP3:=zh hP;clear hO hP HP2 HO2;go_wp2_with fail;refine(yd B base A l cp nv3 _ _ true HP3.out).mono ?_;rintro e w4_ ⟨rfl,hO,nv4,hP⟩;have HO4:=zh (HO3.out.trans hO);have HP4:=zh hP;clear hO hP HP3 HO3;go_wp2;go_returns;exact⟨rfl,HO4.out,nv4,HP4.out⟩
 . have eR:=HRR.out;rw[if_neg hw]at eR;subst eR;have hz:(qa r.xs 1==0)=false:=beq_eq_false_iff_ne.2 hw;clear hw;go_wp2_with fail;clear c6 hz;refine(qo B base A l cp nv1 _ 5 0 _ HP2.out (Nat.le_trans HLN.out dc)).mono ?_;rintro e w3_ ⟨rfl,hO,nv3,hP⟩;have HO3:=zh (HO2.out.trans hO);have HP3:=zh hP;clear hO hP HP2 HO2;have c5:w3_.cell? ⟨B,5,none⟩=some (.int .i64 (r.line)):=HP3.out.row.cell_ (i:=5) rfl;have f5:w3_.frozen? ⟨B,5,none⟩=false:=HP3.out.row.frozen 5;go_wp2;clear c5 f5;have HPZ:=zh (HP3.out.setLine (6));have HOZ:=zh (HO3.out.setCell (p:=⟨B,5,none⟩) (.inr (.inl rfl)) (.int .i64 (6)));go_returns;exact⟨rfl,HOZ.out,nv3,HPZ.out⟩
theorem zb4(B base:Nat)(A:Option Addr)(l cp:Nat)(nv:Value)(r:LS)(w:World)(h:RunR w B base A l cp nv r)(hl:r.ns.length<=900)(hx:Words r.xs)(ha:0<=r.a/\r.a<4294967296)(h1:r.op=7)(hh:0<=r.line/\r.line<=1):
 Calls prog 98 #[Value.pointer (some ⟨B,0,none⟩)] w (qg B base A l cp w (.tuple #[]) (r.qTryG 2 2)):=by
 have hn:=qam (r:=r);obtain⟨r',d,i,hd⟩:∃r' d i,r.mxTry 0 0=(r',d,i):=⟨_,_,_,rfl⟩;rw[hd]at hn;rw[qdm hd];replace hn:d=false->i=false:=hn;obtain⟨RR,hRR⟩:∃RR,(if i then(r'.note 2 2).go 2 else if d then(r'.note 5 0).fin false else r')=RR:=⟨_,rfl⟩;rw[hRR];have HRR:=zh hRR;clear hRR;have H1:=zh h1;clear h1;obtain⟨ln,H2⟩:∃ln,Hid (r.line=ln):=⟨_,zh rfl⟩;rw[H2.out]at hh;obtain⟨hh0,hh1⟩:=hh
 have q0:decide ((0:Int)<=ln)=true:=by simp;omega
 have q1:decide (ln<=(1:Int))=true:=by simp;omega
 clear hh0 hh1
 have hc:∀W,RunR W B base A l cp nv r->Calls prog 199 #[Value.pointer (some ⟨B,0,none⟩),.int .i64 0,.int .i64 0] W (qg B base A l cp W (.tuple #[.bool d,.bool i]) r'):=fun W hW=>by
  have e:=qa0 B base A l cp nv r 0 0 W hW hl hx ha dc dc;rw[hd]at e;exact e
 have HC:=zh hc;have HG:=zh (show r'.ns.length<=900 by have e:=qj1 r;rw[hd]at e;exact e▸hl);have HN:=zh hn;clear hc hd hn;have HX:=zh hx;have HL:=zh hl;have HA:=zh ha;have HH:=zh h;clear h hl hx ha
 have c4:w.cell? ⟨B,4,none⟩=some (.int .i64 (7)):=by rw[←H1.out];exact HH.out.row.cell_ (i:=4) rfl
 have c5:w.cell? ⟨B,5,none⟩=some (.int .i64 (ln)):=by rw[←H2.out];exact HH.out.row.cell_ (i:=5) rfl
 go_enter func98, ntmps98
 go_upto_region 1 with(fail)
 refine qb (n:=10) 9 (fun w=>w.cell? ⟨B,4,none⟩=some (.int .i64 (7))/\w.cell? ⟨B,5,none⟩=some (.int .i64 (ln))) rfl kr ⟨c4,c5⟩ (fun hHeld=> ?_);have HP0:=zh (HH.out.keep (Only.refl Nil w).drew);have HO0:=zh ((Only.refl (qd B A) w).drew);clear HH c4 c5;generalize w.drew=w2 at *;refine za 0 rfl ?_;refine za 1 rfl ?_;refine za 2 rfl ?_;refine zt 3 rfl ?_;refine za 4 rfl ?_;refine za 5 rfl ?_;refine za 6 rfl ?_;refine zt 7 rfl ?_;refine za 8 rfl ?_;refine mpc 9 rfl kr br (fun K hK=> ?_);go_simp;refine hK.out _ _ (.inl kr) ?_;clear hK K hHeld;refine qc kr ?_ _;go_wp2_with fail;refine(HC.out _ HP0.out).mono ?_;clear HC;rintro e w3 ⟨rfl,hO,nv1,hP⟩;have HO1:=zh (HO0.out.trans hO);have HP1:=zh hP;clear hO hP HP0 HO0
 cases d
 . obtain rfl:i=false:=HN.out rfl;have eR:=HRR.out;rw[if_neg Bool.false_ne_true,if_neg Bool.false_ne_true]at eR;subst eR;go_wp2;go_returns;exact⟨rfl,HO1.out,nv1,HP1.out⟩
 cases i
 . have eR:=HRR.out;rw[if_neg Bool.false_ne_true,if_pos rfl]at eR;subst eR;go_wp2_with fail;refine(qo B base A l cp nv1 _ 5 0 _ HP1.out (Nat.le_trans HG.out dc)).mono ?_;rintro e w2_ ⟨rfl,hO,nv2,hP⟩;have HO2:=zh (HO1.out.trans hO);have HP2:=zh hP;clear hO hP HP1 HO1;go_wp2_with fail;refine(yd B base A l cp nv2 _ _ false HP2.out).mono ?_;rintro e w3_ ⟨rfl,hO,nv3,hP⟩;have HO3:=zh (HO2.out.trans hO);have HP3:=zh hP;clear hO hP HP2 HO2;go_wp2;go_returns;exact⟨rfl,HO3.out,nv3,HP3.out⟩
 . have eR:=HRR.out;rw[if_pos rfl]at eR;subst eR;go_wp2_with fail;refine(qo B base A l cp nv1 _ 2 2 _ HP1.out (Nat.le_trans HG.out dc)).mono ?_;rintro e w2_ ⟨rfl,hO,nv2,hP⟩;have HO2:=zh (HO1.out.trans hO);have HP2:=zh hP;clear hO hP HP1 HO1;have c5:w2_.cell? ⟨B,5,none⟩=some (.int .i64 (r'.line)):=HP2.out.row.cell_ (i:=5) rfl;have f5:w2_.frozen? ⟨B,5,none⟩=false:=HP2.out.row.frozen 5;go_wp2;clear c5 f5;have HPZ:=zh (HP2.out.setLine (2));have HOZ:=zh (HO2.out.setCell (p:=⟨B,5,none⟩) (.inr (.inl rfl)) (.int .i64 (2)));go_returns;exact⟨rfl,HOZ.out,nv2,HPZ.out⟩
theorem qu1(B base:Nat)(A:Option Addr)(l cp:Nat)(nv:Value)(r:LS)(w:World)(h:RunR w B base A l cp nv r)(hl:r.ns.length<=900)(hx:Words r.xs)(ha:0<=r.a/\r.a<4294967296)(h1:r.op=1)(hh:r.line<0):
 Calls prog 98 #[Value.pointer (some ⟨B,0,none⟩)] w (qg B base A l cp w (.tuple #[]) (r.qGive 6 true [4])):=by
 have H1:=zh h1;clear h1;obtain⟨ln,H2⟩:∃ln,Hid (r.line=ln):=⟨_,zh rfl⟩;rw[H2.out]at hh
 have q0:decide ((0:Int)<=ln)=false:=by simp;omega
 have n5:(ln==5)=false:=beq_eq_false_iff_ne.2 om;clear hh;have HX:=zh hx;have HL:=zh hl;have HA:=zh ha;have HH:=zh h;clear h hl hx ha
 have c4:w.cell? ⟨B,4,none⟩=some (.int .i64 (1)):=by rw[←H1.out];exact HH.out.row.cell_ (i:=4) rfl
 have c5:w.cell? ⟨B,5,none⟩=some (.int .i64 (ln)):=by rw[←H2.out];exact HH.out.row.cell_ (i:=5) rfl
 go_enter func98, ntmps98
 go_upto_region 1 with(fail)
 refine qb (n:=10) 9 (fun w=>w.cell? ⟨B,4,none⟩=some (.int .i64 (1))/\w.cell? ⟨B,5,none⟩=some (.int .i64 (ln))) rfl kr ⟨c4,c5⟩ (fun hHeld=> ?_);have HP0:=zh (HH.out.keep (Only.refl Nil w).drew);have HO0:=zh ((Only.refl (qd B A) w).drew);clear HH c4 c5;generalize w.drew=w2 at *;refine za 0 rfl ?_;refine za 1 rfl ?_;refine za 2 rfl ?_;refine zt 3 rfl ?_;refine za 4 rfl ?_;refine za 5 rfl ?_;refine za 6 rfl ?_;refine zt 7 rfl ?_;refine za 8 rfl ?_;refine mpc 9 rfl kr br (fun K hK=> ?_);go_simp;refine hK.out _ _ (.inl kr) ?_;clear hK K hHeld;refine qc kr ?_ _;go_wp2_with fail;have e0:=(Only.refl Nil w2).alloc (.cells #[.int .i64 4] 3);have HPA:=zh (HP0.out.keep e0);have HOA:=zh (HO0.out.trans (e0.mono (T:=qd B A) (fun _ _ h=>h.elim)));refine(jj B base A l cp nv r 6 true _ [4] _ HPA.out HL.out HX.out HA.out (jo HP0.out 4) dc dc dc).mono ?_;clear e0;rintro e w3 ⟨rfl,hO,nv1,hP⟩;have HO1:=zh (HOA.out.trans hO);have HP1:=zh hP;clear hO hP HPA HOA;go_wp2;go_returns;exact⟨rfl,HO1.out,nv1,HP1.out⟩
theorem qro(B base:Nat)(A:Option Addr)(l cp:Nat)(nv:Value)(r:LS)(w:World)(h:RunR w B base A l cp nv r)(hl:r.ns.length<=900)(hx:Words r.xs)(ha:0<=r.a/\r.a<4294967296)(h1:r.op=6)(hh:1<r.line)(hh2:r.line≠2):
 Calls prog 98 #[Value.pointer (some ⟨B,0,none⟩)] w (qg B base A l cp w (.tuple #[]) (r.qGive 6 false [8])):=by
 have H1:=zh h1;clear h1;obtain⟨ln,H2⟩:∃ln,Hid (r.line=ln):=⟨_,zh rfl⟩;rw[H2.out]at hh;rw[H2.out]at hh2
 have q0:decide ((0:Int)<=ln)=true:=by simp;omega
 have q1:decide (ln<=(1:Int))=false:=by simp;omega
 have n2:(ln==2)=false:=beq_eq_false_iff_ne.2 om;clear hh hh2;have HX:=zh hx;have HL:=zh hl;have HA:=zh ha;have HH:=zh h;clear h hl hx ha
 have c4:w.cell? ⟨B,4,none⟩=some (.int .i64 (6)):=by rw[←H1.out];exact HH.out.row.cell_ (i:=4) rfl
 have c5:w.cell? ⟨B,5,none⟩=some (.int .i64 (ln)):=by rw[←H2.out];exact HH.out.row.cell_ (i:=5) rfl
 go_enter func98, ntmps98
 go_upto_region 1 with(fail)
 refine qb (n:=10) 9 (fun w=>w.cell? ⟨B,4,none⟩=some (.int .i64 (6))/\w.cell? ⟨B,5,none⟩=some (.int .i64 (ln))) rfl kr ⟨c4,c5⟩ (fun hHeld=> ?_);have HP0:=zh (HH.out.keep (Only.refl Nil w).drew);have HO0:=zh ((Only.refl (qd B A) w).drew);clear HH c4 c5;generalize w.drew=w2 at *;refine za 0 rfl ?_;refine za 1 rfl ?_;refine za 2 rfl ?_;refine zt 3 rfl ?_;refine za 4 rfl ?_;refine za 5 rfl ?_;refine za 6 rfl ?_;refine zt 7 rfl ?_;refine za 8 rfl ?_;refine mpc 9 rfl kr br (fun K hK=> ?_);go_simp;refine hK.out _ _ (.inl kr) ?_;clear hK K hHeld;refine qc kr ?_ _;go_wp2_with fail;have e0:=(Only.refl Nil w2).alloc (.cells #[.int .i64 8] 3);have HPA:=zh (HP0.out.keep e0);have HOA:=zh (HO0.out.trans (e0.mono (T:=qd B A) (fun _ _ h=>h.elim)));refine(jj B base A l cp nv r 6 false _ [8] _ HPA.out HL.out HX.out HA.out (jo HP0.out 8) dc dc dc).mono ?_;clear e0;rintro e w3 ⟨rfl,hO,nv1,hP⟩;have HO1:=zh (HOA.out.trans hO);have HP1:=zh hP;clear hO hP HPA HOA;go_wp2;go_returns;exact⟨rfl,HO1.out,nv1,HP1.out⟩
theorem zbf(B base:Nat)(A:Option Addr)(l cp:Nat)(nv:Value)(r:LS)(w:World)(h:RunR w B base A l cp nv r)(hl:r.ns.length<=900)(hx:Words r.xs)(ha:0<=r.a/\r.a<4294967296)(h1:r.op=7)(h2:r.line=2):
 Calls prog 98 #[Value.pointer (some ⟨B,0,none⟩)] w (qg B base A l cp w (.tuple #[]) (if qa r.xs 1=1 then r.qCount.go 3 else(r.qCount.note 5 0).go 6)):=by
 obtain⟨RR,hRR⟩:∃RR,(if qa r.xs 1=1 then r.qCount.go 3 else(r.qCount.note 5 0).go 6)=RR:=⟨_,rfl⟩;rw[hRR];have HRR:=zh hRR;clear hRR;have H1:=zh h1;clear h1;have H2:=zh h2;clear h2;have HLN:=zh (show r.qCount.ns.length<=900 from hl);have HX:=zh hx;have HL:=zh hl;have HA:=zh ha;have HH:=zh h;clear h hl hx ha
 have c4:w.cell? ⟨B,4,none⟩=some (.int .i64 (7)):=by rw[←H1.out];exact HH.out.row.cell_ (i:=4) rfl
 have c5:w.cell? ⟨B,5,none⟩=some (.int .i64 (2)):=by rw[←H2.out];exact HH.out.row.cell_ (i:=5) rfl
 go_enter func98, ntmps98
 go_upto_region 1 with(fail)
 refine qb (n:=10) 9 (fun w=>w.cell? ⟨B,4,none⟩=some (.int .i64 (7))/\w.cell? ⟨B,5,none⟩=some (.int .i64 (2))) rfl kr ⟨c4,c5⟩ (fun hHeld=> ?_);have HP0:=zh (HH.out.keep (Only.refl Nil w).drew);have HO0:=zh ((Only.refl (qd B A) w).drew);clear HH c4 c5;generalize w.drew=w2 at *;refine za 0 rfl ?_;refine za 1 rfl ?_;refine za 2 rfl ?_;refine zt 3 rfl ?_;refine za 4 rfl ?_;refine za 5 rfl ?_;refine za 6 rfl ?_;refine zt 7 rfl ?_;refine za 8 rfl ?_;refine mpc 9 rfl kr br (fun K hK=> ?_);go_simp;refine hK.out _ _ (.inl kr) ?_;clear hK K hHeld;refine qc kr ?_ _;go_wp2_with fail;refine(kl B base A l cp nv r 1 _ HP0.out).mono ?_;rintro e w1_ ⟨rfl,hO,nv1,hP⟩;have HO1:=zh (HO0.out.trans hO);have HP1:=zh hP;clear hO hP HP0 HO0;have c6:w1_.cell? ⟨B,6,none⟩=some (.int .u32 r.a):=HP1.out.row.cell_ (i:=6) rfl;have f6:w1_.frozen? ⟨B,6,none⟩=false:=HP1.out.row.frozen 6
 go_upto_region 36 with(fail)
 clear c6 f6;have HP2:Hid (RunR (w1_.setCell ⟨B,6,none⟩ (.int .u32 (qa r.xs 1))) B base A l cp nv1 r.qCount):=zh (HP1.out.setA (qa r.xs 1));have HO2:=zh (HO1.out.setCell (p:=⟨B,6,none⟩) (.inr (.inl rfl)) (.int .u32 (qa r.xs 1)));clear HP1 HO1;generalize w1_.setCell ⟨B,6,none⟩ (.int .u32 (qa r.xs 1))=w4 at *;have c6:w4.cell? ⟨B,6,none⟩=some (.int .u32 (qa r.xs 1)):=HP2.out.row.cell_ (i:=6) rfl
 by_cases hw:qa r.xs 1=1
 . have eR:=HRR.out;rw[if_pos hw]at eR;subst eR;have hz:(qa r.xs 1==1)=true:=beq_iff_eq.2 hw;clear hw
   go_upto_region 40 with(fail)
   clear c6 hz;have c5:w4.cell? ⟨B,5,none⟩=some (.int .i64 (r.line)):=HP2.out.row.cell_ (i:=5) rfl;have f5:w4.frozen? ⟨B,5,none⟩=false:=HP2.out.row.frozen 5;go_wp2;clear c5 f5;have HPZ:=zh (HP2.out.setLine (3));have HOZ:=zh (HO2.out.setCell (p:=⟨B,5,none⟩) (.inr (.inl rfl)) (.int .i64 (3)));go_returns;exact⟨rfl,HOZ.out,nv1,HPZ.out⟩
 . have eR:=HRR.out;rw[if_neg hw]at eR;subst eR;have hz:(qa r.xs 1==1)=false:=beq_eq_false_iff_ne.2 hw;clear hw;go_wp2_with fail;clear c6 hz;refine(qo B base A l cp nv1 _ 5 0 _ HP2.out (Nat.le_trans HLN.out dc)).mono ?_;rintro e w3_ ⟨rfl,hO,nv3,hP⟩;have HO3:=zh (HO2.out.trans hO);have HP3:=zh hP;clear hO hP HP2 HO2;have c5:w3_.cell? ⟨B,5,none⟩=some (.int .i64 (r.line)):=HP3.out.row.cell_ (i:=5) rfl;have f5:w3_.frozen? ⟨B,5,none⟩=false:=HP3.out.row.frozen 5;go_wp2;clear c5 f5;have HPZ:=zh (HP3.out.setLine (6));have HOZ:=zh (HO3.out.setCell (p:=⟨B,5,none⟩) (.inr (.inl rfl)) (.int .i64 (6)));go_returns;exact⟨rfl,HOZ.out,nv3,HPZ.out⟩
end Go.Proofs.YtgebffjejifidaaGreat
