import Derived.Test.YtgebffjejifidaaGreatProg
import Derived.Laws.Shifts
import Derived.IntWalk
import Derived.Test.YtgebffjejifidaaGreatChecked
import Derived.Deep.OwnRows
import Derived.Maps.Own
import Derived.Laws.BitsAllLaws
import Derived.Laws.BitsLemmas
import Derived.Test.YtgebffjejifidaaGreatG9
import Derived.Test.YtgebffjejifidaaGreatG2
import Derived.Test.YtgebffjejifidaaGreatG1
set_option linter.unusedVariables false
set_option linter.unusedSimpArgs false
set_option maxHeartbeats 1000000
set_option maxRecDepth 100000
namespace Go.Proofs.YtgebffjejifidaaGreat
open Go.RowKit Tryz
theorem qwf(B:Nat)(p A:Option Addr)(cp:Nat)(nv:Value)(r:LS)(tail cl:Int)(w:World)(h:RunP w B p A cp nv r)(hl:r.ns.length<=900)(hx:Words r.xs)(ha:0<=r.a/\r.a<4294967296)(hln:r.line=0):
 Calls prog 226 #[Value.pointer (some ⟨B,0,none⟩),.int .i64 tail,.int .i64 cl] w (qj B p A cp w (.bool false) ((r.doA 2 (nc r.n r.task) 0 0).go 1)):=by
 have HX:=zh hx;have HL:=zh hl;have HA:=zh ha;have HP:=zh h;have HLN:=zh hln
 have c5:w.cell? ⟨B,5,none⟩=some (.int .i64 (0)):=by rw[←hln];exact h.row.cell_ (i:=5) rfl
 clear h hl hx ha hln;go_enter func226, ntmps226;go_wp2_with fail;clear c5;have HO:=zh (Only.refl (qd B A) w);refine(qgy B p A cp nv r 1 _ HP.out).mono ?_;rintro e wN ⟨rfl,hO,nvN,hP⟩;have HPN:=zh hP;have HON:=zh (HO.out.trans hO);clear hO hP;go_wp2;go_ret;exact⟨rfl,HON.out,nvN,HPN.out⟩
theorem qwp(B:Nat)(p A:Option Addr)(cp:Nat)(nv:Value)(r:LS)(tail cl:Int)(w:World)(h:RunP w B p A cp nv r)(hl:r.ns.length<=900)(hx:Words r.xs)(ha:0<=r.a/\r.a<4294967296)(hln:r.line=1):
 Calls prog 226 #[Value.pointer (some ⟨B,0,none⟩),.int .i64 tail,.int .i64 cl] w (qj B p A cp w (.bool false) ((r.doA 2 (bc r.n r.task) 1 0).go 2)):=by
 have HX:=zh hx;have HL:=zh hl;have HA:=zh ha;have HP:=zh h;have HLN:=zh hln
 have c5:w.cell? ⟨B,5,none⟩=some (.int .i64 (1)):=by rw[←hln];exact h.row.cell_ (i:=5) rfl
 clear h hl hx ha hln;go_enter func226, ntmps226
 go_upto_region 7 with(fail)
 have c1:w.cell? ⟨B,1,none⟩=some (.int .i64 r.n):=HP.out.row.cell_ (i:=1) rfl;have c3:w.cell? ⟨B,3,none⟩=some (.int .i64 r.task):=HP.out.row.cell_ (i:=3) rfl;refine qb (n:=11) 10 (fun w=>w.cell? ⟨B,1,none⟩=some (.int .i64 r.n)/\w.cell? ⟨B,3,none⟩=some (.int .i64 r.task)) rfl kr ⟨c1,c3⟩ (fun hHeld=> ?_);have HP0:=zh (HP.out.keep (Only.refl Nil w).drew);have HO0:=zh ((Only.refl (qd B A) w).drew);clear c1 c3 HP c5;generalize w.drew=w0 at *;refine za 0 rfl ?_;refine za 1 rfl ?_;refine za 2 rfl ?_;refine za 3 rfl ?_;refine zt 4 rfl ?_;refine za 5 rfl ?_;refine za 6 rfl ?_;refine za 7 rfl ?_;refine zt 8 rfl ?_;refine mpc 9 rfl kr br (fun K hK=> ?_);go_simp;refine(qbr r.n r.task _).mono ?_;rintro e w1 ⟨rfl,hO⟩;have HP1:=zh (HP0.out.keep hO);have HO1:=zh (HO0.out.trans (hO.mono (T:=qd B A) (fun _ _ h=>h.elim)));have hHeld2:w1.cell? ⟨B,1,none⟩=some (.int .i64 r.n)/\w1.cell? ⟨B,3,none⟩=some (.int .i64 r.task):=⟨HP1.out.row.cell_ (i:=1) rfl,HP1.out.row.cell_ (i:=3) rfl⟩;refine hK.out _ _ (.inr hHeld2) ?_;clear hK K hHeld hO HP0 HO0;refine mpc 10 rfl kr br (fun K hK=> ?_);go_simp;refine(qap B p A cp nv r (bc r.n r.task) 1 _ HP1.out).mono ?_;rintro e w2 ⟨rfl,hO,nv2,hP⟩;have HP2:=zh hP;have HO2:=zh (HO1.out.trans hO);refine hK.out _ _ (.inl kr) ?_;clear hK K hHeld2 hO hP HP1 HO1;refine qc kr ?_ _;go_wp2_with fail;refine(qag B p A cp nv2 _ 2 _ HP2.out).mono ?_;rintro e wN ⟨rfl,hO,nvN,hP⟩;have HPN:=zh hP;have HON:=zh (HO2.out.trans hO);clear hO hP;go_wp2;go_ret;exact⟨rfl,HON.out,nvN,HPN.out⟩
theorem qrb(B:Nat)(p A:Option Addr)(cp:Nat)(nv:Value)(r:LS)(tail cl:Int)(w:World)(h:RunP w B p A cp nv r)(hl:r.ns.length<=900)(hx:Words r.xs)(ha:0<=r.a/\r.a<4294967296)(hln:r.line=2)(hz:qa r.xs tail=0):
 Calls prog 226 #[Value.pointer (some ⟨B,0,none⟩),.int .i64 tail,.int .i64 cl] w (qj B p A cp w (.bool true) (r.swapIn tail cl)):=by
 have HZ:=zh hz;clear hz;have HX:=zh hx;have HL:=zh hl;have HA:=zh ha;have HP:=zh h;have HLN:=zh hln
 have c5:w.cell? ⟨B,5,none⟩=some (.int .i64 (2)):=by rw[←hln];exact h.row.cell_ (i:=5) rfl
 clear h hl hx ha hln;go_enter func226, ntmps226;go_wp2_with fail;clear c5;have HO:=zh (Only.refl (qd B A) w);refine(qtc B p A cp nv r tail cl 3 _ HP.out HL.out HZ.out).mono ?_;rintro e wN ⟨rfl,hO,nvN,hP⟩;have HPN:=zh hP;have HON:=zh (HO.out.trans hO);clear hO hP;go_wp2;go_ret;exact⟨rfl,HON.out,nvN,HPN.out⟩
theorem qqx(B:Nat)(p A:Option Addr)(cp:Nat)(nv:Value)(r:LS)(tail cl:Int)(w:World)(h:RunP w B p A cp nv r)(hl:r.ns.length<=900)(hx:Words r.xs)(ha:0<=r.a/\r.a<4294967296)(hln:r.line=2)(hz:qa r.xs tail≠0):
 Calls prog 226 #[Value.pointer (some ⟨B,0,none⟩),.int .i64 tail,.int .i64 cl] w (qj B p A cp w (.bool false) ((r.swapIn tail cl).go 3)):=by
 have HZ:=zh hz;clear hz;have HX:=zh hx;have HL:=zh hl;have HA:=zh ha;have HP:=zh h;have HLN:=zh hln
 have c5:w.cell? ⟨B,5,none⟩=some (.int .i64 (2)):=by rw[←hln];exact h.row.cell_ (i:=5) rfl
 clear h hl hx ha hln;go_enter func226, ntmps226;go_wp2_with fail;clear c5;have HO:=zh (Only.refl (qd B A) w);refine(qi3 B p A cp nv r tail cl 3 _ HP.out HL.out HZ.out).mono ?_;rintro e wN ⟨rfl,hO,nvN,hP⟩;have HPN:=zh hP;have HON:=zh (HO.out.trans hO);clear hO hP;go_wp2;go_ret;exact⟨rfl,HON.out,nvN,HPN.out⟩
theorem qvh(B:Nat)(p A:Option Addr)(cp:Nat)(nv:Value)(r:LS)(tail cl:Int)(w:World)(h:RunP w B p A cp nv r)(hl:r.ns.length<=900)(hx:Words r.xs)(ha:0<=r.a/\r.a<4294967296)(hln:r.line=3):
 Calls prog 226 #[Value.pointer (some ⟨B,0,none⟩),.int .i64 tail,.int .i64 cl] w (qj B p A cp w (.bool false) r.link):=by
 have HX:=zh hx;have HL:=zh hl;have HA:=zh ha;have HP:=zh h;have HLN:=zh hln
 have c5:w.cell? ⟨B,5,none⟩=some (.int .i64 (3)):=by rw[←hln];exact h.row.cell_ (i:=5) rfl
 clear h hl hx ha hln;go_enter func226, ntmps226
 go_upto_region 12 with(fail)
 have c1:w.cell? ⟨B,1,none⟩=some (.int .i64 r.n):=HP.out.row.cell_ (i:=1) rfl;have c3:w.cell? ⟨B,3,none⟩=some (.int .i64 r.task):=HP.out.row.cell_ (i:=3) rfl;refine qb (n:=11) 10 (fun w=>w.cell? ⟨B,1,none⟩=some (.int .i64 r.n)/\w.cell? ⟨B,3,none⟩=some (.int .i64 r.task)) rfl kr ⟨c1,c3⟩ (fun hHeld=> ?_);have HP0:=zh (HP.out.keep (Only.refl Nil w).drew);have HO0:=zh ((Only.refl (qd B A) w).drew);clear c1 c3 HP c5;generalize w.drew=w0 at *;refine za 0 rfl ?_;refine za 1 rfl ?_;refine za 2 rfl ?_;refine za 3 rfl ?_;refine zt 4 rfl ?_;refine za 5 rfl ?_;refine za 8 rfl ?_;refine mpc 6 rfl kr br (fun K hK=> ?_);go_simp;refine(qk8 B p A cp nv r _ HP0.out HA.out).mono ?_;rintro e w1 ⟨rfl,rfl⟩;refine hK.out _ _ (.inr hHeld) ?_;clear hK K;refine mpc 7 rfl kr br (fun K hK=> ?_);go_simp;refine(qal r.n (r.a-1) _).mono ?_;rintro e w1 ⟨rfl,hO⟩;have HP1:=zh (HP0.out.keep hO);have HO1:=zh (HO0.out.trans (hO.mono (T:=qd B A) (fun _ _ h=>h.elim)));have hHeld2:w1.cell? ⟨B,1,none⟩=some (.int .i64 r.n)/\w1.cell? ⟨B,3,none⟩=some (.int .i64 r.task):=⟨HP1.out.row.cell_ (i:=1) rfl,HP1.out.row.cell_ (i:=3) rfl⟩;refine hK.out _ _ (.inr hHeld2) ?_;clear hK K hHeld hO HP0 HO0;refine mpc 9 rfl kr br (fun K hK=> ?_);go_simp;refine(vp B p A cp nv r _ HP1.out).mono ?_;rintro e w1 ⟨rfl,rfl⟩;refine hK.out _ _ (.inr hHeld2) ?_;clear hK K;refine mpc 10 rfl kr br (fun K hK=> ?_);go_simp;refine(qjs B p A cp nv r (nc r.n (r.a-1)) r.me _ HP1.out).mono ?_;rintro e w2 ⟨rfl,hO,nv2,hP⟩;have HP2:=zh hP;have HO2:=zh (HO1.out.trans hO);refine hK.out _ _ (.inl kr) ?_;clear hK K hHeld2 hO hP HP1 HO1;refine qc kr ?_ _;go_wp2_with fail;refine(qag B p A cp nv2 _ 4 _ HP2.out).mono ?_;rintro e wN ⟨rfl,hO,nvN,hP⟩;have HPN:=zh hP;have HON:=zh (HO2.out.trans hO);clear hO hP;go_wp2;go_ret;exact⟨rfl,HON.out,nvN,HPN.out⟩
theorem qvc(B:Nat)(p A:Option Addr)(cp:Nat)(nv:Value)(r:LS)(tail cl:Int)(w:World)(h:RunP w B p A cp nv r)(hl:r.ns.length<=900)(hx:Words r.xs)(ha:0<=r.a/\r.a<4294967296)(hln:r.line=4):
 Calls prog 226 #[Value.pointer (some ⟨B,0,none⟩),.int .i64 tail,.int .i64 cl] w (qj B p A cp w (.bool (r.stepR (bc r.n r.task) isZ).done) (r.wait (bc r.n r.task) isZ)):=by
 have HX:=zh hx;have HL:=zh hl;have HA:=zh ha;have HP:=zh h;have HLN:=zh hln
 have c5:w.cell? ⟨B,5,none⟩=some (.int .i64 (4)):=by rw[←hln];exact h.row.cell_ (i:=5) rfl
 clear h hl hx ha hln;go_enter func226, ntmps226
 go_upto_region 15 with(fail)
 have c1:w.cell? ⟨B,1,none⟩=some (.int .i64 r.n):=HP.out.row.cell_ (i:=1) rfl;have c3:w.cell? ⟨B,3,none⟩=some (.int .i64 r.task):=HP.out.row.cell_ (i:=3) rfl;refine qb (n:=16) 10 (fun w=>w.cell? ⟨B,1,none⟩=some (.int .i64 r.n)/\w.cell? ⟨B,3,none⟩=some (.int .i64 r.task)) rfl kr ⟨c1,c3⟩ (fun hHeld=> ?_);have HP0:=zh (HP.out.keep (Only.refl Nil w).drew);have HO0:=zh ((Only.refl (qd B A) w).drew);clear c1 c3 HP c5;generalize w.drew=w0 at *;refine za 0 rfl ?_;refine za 1 rfl ?_;refine za 2 rfl ?_;refine za 3 rfl ?_;refine zt 4 rfl ?_;refine za 5 rfl ?_;refine za 6 rfl ?_;refine za 7 rfl ?_;refine zt 8 rfl ?_;refine mpc 9 rfl kr br (fun K hK=> ?_);go_simp;refine(qbr r.n r.task _).mono ?_;rintro e w1 ⟨rfl,hO⟩;have HP1:=zh (HP0.out.keep hO);have HO1:=zh (HO0.out.trans (hO.mono (T:=qd B A) (fun _ _ h=>h.elim)));have hHeld2:w1.cell? ⟨B,1,none⟩=some (.int .i64 r.n)/\w1.cell? ⟨B,3,none⟩=some (.int .i64 r.task):=⟨HP1.out.row.cell_ (i:=1) rfl,HP1.out.row.cell_ (i:=3) rfl⟩;refine hK.out _ _ (.inr hHeld2) ?_;clear hK K hHeld hO HP0 HO0;refine mpc 10 rfl kr br (fun K hK=> ?_);go_simp;refine(qgb B p A cp nv r (bc r.n r.task) (.func 292) #[] #[] isZ _ HP1.out holds_zero.at HX.out).mono ?_;generalize (r.stepR (bc r.n r.task) isZ).seen=sn at *;generalize (r.stepR (bc r.n r.task) isZ).done=dn at *;rintro e w2 ⟨rfl,hO,nv2,hP⟩;have HP2:=zh hP;have HO2:=zh (HO1.out.trans hO);refine hK.out _ _ (.inl kr) ?_;clear hK K hHeld2 hO hP HP1 HO1;refine za 11 rfl ?_;refine za 12 rfl ?_;refine za 13 rfl ?_;refine za 14 rfl ?_;refine za 15 rfl ?_;refine qc kr ?_ _;go_wp2;go_ret;exact⟨rfl,HO2.out,nv2,HP2.out⟩
theorem qt4(B:Nat)(p A:Option Addr)(cp:Nat)(nv:Value)(r:LS)(tail cl:Int)(w:World)(h:RunP w B p A cp nv r)(hl:r.ns.length<=900)(hx:Words r.xs)(ha:0<=r.a/\r.a<4294967296)(ln:Int)(hln:r.line=ln)(n0:ln≠0)(n1:ln≠1)(n2:ln≠2)(n3:ln≠3)(n4:ln≠4):
 Calls prog 226 #[Value.pointer (some ⟨B,0,none⟩),.int .i64 tail,.int .i64 cl] w (qj B p A cp w (.bool false) r):=by
 have b0:(ln==0)=false:=beq_eq_false_iff_ne.2 n0;have b1:(ln==1)=false:=beq_eq_false_iff_ne.2 n1;have b2:(ln==2)=false:=beq_eq_false_iff_ne.2 n2;have b3:(ln==3)=false:=beq_eq_false_iff_ne.2 n3;have b4:(ln==4)=false:=beq_eq_false_iff_ne.2 n4;clear n0 n1 n2 n3 n4;have HX:=zh hx;have HL:=zh hl;have HA:=zh ha;have HP:=zh h;have HLN:=zh hln
 have c5:w.cell? ⟨B,5,none⟩=some (.int .i64 (ln)):=by rw[←hln];exact h.row.cell_ (i:=5) rfl
 clear h hl hx ha hln;go_enter func226, ntmps226;go_wp2;go_ret;exact⟨rfl,Only.refl _ _,nv,HP.out⟩
theorem qgz(B:Nat)(p A:Option Addr)(cp:Nat)(nv:Value)(r:LS)(tail cl:Int)(w:World)(h:RunP w B p A cp nv r)(hl:r.ns.length<=900)(hx:Words r.xs)(ha:0<=r.a/\r.a<4294967296):
 Calls prog 226 #[Value.pointer (some ⟨B,0,none⟩),.int .i64 tail,.int .i64 cl] w (qj B p A cp w (.bool (r.mxEnter tail cl).2) (r.mxEnter tail cl).1):=by
 by_cases l0:r.line=0
 . rw[show r.mxEnter tail cl=_ by unfold LS.mxEnter;rw[if_pos l0]];exact qwf B p A cp nv r tail cl w h hl hx ha l0
 by_cases l1:r.line=1
 . rw[show r.mxEnter tail cl=_ by unfold LS.mxEnter;rw[if_neg l0,if_pos l1]];exact qwp B p A cp nv r tail cl w h hl hx ha l1
 by_cases l2:r.line=2
 . by_cases hz:qa r.xs tail=0
   . rw[show r.mxEnter tail cl=_ by unfold LS.mxEnter;rw[if_neg l0,if_neg l1,if_pos l2,if_pos hz]];exact qrb B p A cp nv r tail cl w h hl hx ha l2 hz
   . rw[show r.mxEnter tail cl=_ by unfold LS.mxEnter;rw[if_neg l0,if_neg l1,if_pos l2,if_neg hz]];exact qqx B p A cp nv r tail cl w h hl hx ha l2 hz
 by_cases l3:r.line=3
 . rw[show r.mxEnter tail cl=_ by unfold LS.mxEnter;rw[if_neg l0,if_neg l1,if_neg l2,if_pos l3]];exact qvh B p A cp nv r tail cl w h hl hx ha l3
 by_cases l4:r.line=4
 . rw[show r.mxEnter tail cl=_ by unfold LS.mxEnter;rw[if_neg l0,if_neg l1,if_neg l2,if_neg l3,if_pos l4]];exact qvc B p A cp nv r tail cl w h hl hx ha l4
 . rw[show r.mxEnter tail cl=_ by unfold LS.mxEnter;rw[if_neg l0,if_neg l1,if_neg l2,if_neg l3,if_neg l4]];exact qt4 B p A cp nv r tail cl w h hl hx ha _ rfl l0 l1 l2 l3 l4
theorem zc1(B:Nat)(p A:Option Addr)(cp:Nat)(nv:Value)(r:LS)(tail a:Int)(w:World)(h:RunP w B p A cp nv r)(hl:r.ns.length<=900)(hx:Words r.xs)(ha:0<=r.a/\r.a<4294967296)(hr0: -1000<=a)(hr1:a<=1000)(hln:r.line=a):
 Calls prog 248 #[Value.pointer (some ⟨B,0,none⟩),.int .i64 tail,.int .i64 a] w (qj B p A cp w (.tuple #[.bool false,.bool false]) ((r.doA 2 (nc r.n r.task) 0 0).go (a+1))):=by
 have HX:=zh hx;have HL:=zh hl;have HA:=zh ha;have HP:=zh h;have HLN:=zh hln
 have c5:w.cell? ⟨B,5,none⟩=some (.int .i64 (a)):=by rw[←hln];exact h.row.cell_ (i:=5) rfl
 clear h hl hx ha hln;go_enter func248, ntmps248;go_wp2_with fail;clear c5;refine(qgy B p A cp nv r (a+1) _ HP.out).mono ?_;rintro e w1 ⟨rfl,hO,nv1,hP⟩;have HP1:=zh hP;have HO1:=zh hO;clear hO hP;go_wp2
 go_ret2
 exact⟨rfl,HO1.out,nv1,HP1.out⟩
theorem zc4(B:Nat)(p A:Option Addr)(cp:Nat)(nv:Value)(r:LS)(tail a:Int)(w:World)(h:RunP w B p A cp nv r)(hl:r.ns.length<=900)(hx:Words r.xs)(ha:0<=r.a/\r.a<4294967296)(hr0: -1000<=a)(hr1:a<=1000)(hln:r.line=a+1):
 Calls prog 248 #[Value.pointer (some ⟨B,0,none⟩),.int .i64 tail,.int .i64 a] w (qj B p A cp w (.tuple #[.bool true,.bool (qf r.xs tail && (qa r.xs tail==0))]) (r.doA 5 tail 0 r.me)):=by
 have e1:(a+1==a)=false:=beq_eq_false_iff_ne.2 om;have HX:=zh hx;have HL:=zh hl;have HA:=zh ha;have HP:=zh h;have HLN:=zh hln
 have c5:w.cell? ⟨B,5,none⟩=some (.int .i64 (a+1)):=by rw[←hln];exact h.row.cell_ (i:=5) rfl
 clear h hl hx ha hln;go_enter func248, ntmps248;go_wp2_with fail;clear c5;refine(vp B p A cp nv r _ HP.out).mono ?_;rintro e w1 ⟨rfl,rfl⟩;go_wp2_with fail;refine(qdd B p A cp nv r tail 0 r.me _ HP.out).mono ?_;generalize (qf r.xs tail && (qa r.xs tail==0))=d at *;rintro e w2 ⟨rfl,hO,nv2,hP⟩;have HP2:=zh hP;have HO2:=zh hO;clear hO hP HP;go_wp2
 go_ret2
 exact⟨rfl,HO2.out,nv2,HP2.out⟩
theorem qzs(B:Nat)(p A:Option Addr)(cp:Nat)(nv:Value)(r:LS)(tail a:Int)(w:World)(h:RunP w B p A cp nv r)(hl:r.ns.length<=900)(hx:Words r.xs)(ha:0<=r.a/\r.a<4294967296)(hr0: -1000<=a)(hr1:a<=1000)(ln:Int)(hln:r.line=ln)(n0:ln≠a)(n1:ln≠a+1):
 Calls prog 248 #[Value.pointer (some ⟨B,0,none⟩),.int .i64 tail,.int .i64 a] w (qj B p A cp w (.tuple #[.bool false,.bool false]) r):=by
 have b0:(ln==a)=false:=beq_eq_false_iff_ne.2 n0;have b1:(ln==a+1)=false:=beq_eq_false_iff_ne.2 n1;clear n0 n1;have HX:=zh hx;have HL:=zh hl;have HA:=zh ha;have HP:=zh h;have HLN:=zh hln
 have c5:w.cell? ⟨B,5,none⟩=some (.int .i64 (ln)):=by rw[←hln];exact h.row.cell_ (i:=5) rfl
 clear h hl hx ha hln;go_enter func248, ntmps248;go_wp2
 go_ret2
 exact⟨rfl,Only.refl _ _,nv,HP.out⟩
theorem qnf(B:Nat)(p A:Option Addr)(cp:Nat)(nv:Value)(r:LS)(tail a:Int)(w:World)(h:RunP w B p A cp nv r)(hl:r.ns.length<=900)(hx:Words r.xs)(ha:0<=r.a/\r.a<4294967296)(hr0: -1000<=a)(hr1:a<=1000):
 Calls prog 248 #[Value.pointer (some ⟨B,0,none⟩),.int .i64 tail,.int .i64 a] w (qj B p A cp w (.tuple #[.bool (r.mxTry tail a).2.1,.bool (r.mxTry tail a).2.2]) (r.mxTry tail a).1):=by
 by_cases l0:r.line=a
 . rw[show r.mxTry tail a=_ by unfold LS.mxTry;rw[if_pos l0]];exact zc1 B p A cp nv r tail a w h hl hx ha hr0 hr1 l0
 by_cases l1:r.line=a+1
 . rw[show r.mxTry tail a=_ by unfold LS.mxTry;rw[if_neg l0,if_pos l1]];exact zc4 B p A cp nv r tail a w h hl hx ha hr0 hr1 l1
 . rw[show r.mxTry tail a=_ by unfold LS.mxTry;rw[if_neg l0,if_neg l1]];exact qzs B p A cp nv r tail a w h hl hx ha hr0 hr1 _ rfl l0 l1
theorem zaz(B:Nat)(p A:Option Addr)(cp:Nat)(nv:Value)(r:LS)(tail a:Int)(w:World)(h:RunP w B p A cp nv r)(hl:r.ns.length<=900)(hx:Words r.xs)(ha:0<=r.a/\r.a<4294967296)(V:Value)(l:List Int)(hw:Whats B A w V l)(hm:l.length<=90)(hr0: -1000<=a)(hr1:a<=1000)(hln:r.line=a)(hz:qa r.xs (nc r.n r.task)=0):
 Calls prog 235 #[Value.pointer (some ⟨B,0,none⟩),.int .i64 tail,.int .i64 a,V] w (qj B p A cp w (.bool false) (r.peek.go (a+1))):=by
 have HZ:=zh hz;clear hz;have HW:=zh hw;have HM:=zh hm;have e1:(a+1==a)=false:=beq_eq_false_iff_ne.2 om;have e2:(a+2==a)=false:=beq_eq_false_iff_ne.2 om;have e3:(a+2==a+1)=false:=beq_eq_false_iff_ne.2 om;have e4:(a+3==a)=false:=beq_eq_false_iff_ne.2 om;have e5:(a+3==a+1)=false:=beq_eq_false_iff_ne.2 om;have e6:(a+3==a+2)=false:=beq_eq_false_iff_ne.2 om;clear hw hm;have HX:=zh hx;have HL:=zh hl;have HA:=zh ha;have HP:=zh h;have HLN:=zh hln
 have c5:w.cell? ⟨B,5,none⟩=some (.int .i64 (a)):=by rw[←hln];exact h.row.cell_ (i:=5) rfl
 clear h hl hx ha hln;go_enter func235, ntmps235;go_wp2_with fail;clear c5;have HO:=zh (Only.refl (qd B A) w);refine(qq6 B p A cp nv r (a+1) (a+3) _ HP.out HZ.out).mono ?_;rintro e wN ⟨rfl,hO,nvN,hP⟩;have HPN:=zh hP;have HON:=zh (HO.out.trans hO);clear hO hP;go_wp2;go_ret;exact⟨rfl,HON.out,nvN,HPN.out⟩
theorem qxb(B:Nat)(p A:Option Addr)(cp:Nat)(nv:Value)(r:LS)(tail a:Int)(w:World)(h:RunP w B p A cp nv r)(hl:r.ns.length<=900)(hx:Words r.xs)(ha:0<=r.a/\r.a<4294967296)(V:Value)(l:List Int)(hw:Whats B A w V l)(hm:l.length<=90)(hr0: -1000<=a)(hr1:a<=1000)(hln:r.line=a)(hz:qa r.xs (nc r.n r.task)≠0):
 Calls prog 235 #[Value.pointer (some ⟨B,0,none⟩),.int .i64 tail,.int .i64 a,V] w (qj B p A cp w (.bool false) (r.peek.go (a+3))):=by
 have HZ:=zh hz;clear hz;have HW:=zh hw;have HM:=zh hm;have e1:(a+1==a)=false:=beq_eq_false_iff_ne.2 om;have e2:(a+2==a)=false:=beq_eq_false_iff_ne.2 om;have e3:(a+2==a+1)=false:=beq_eq_false_iff_ne.2 om;have e4:(a+3==a)=false:=beq_eq_false_iff_ne.2 om;have e5:(a+3==a+1)=false:=beq_eq_false_iff_ne.2 om;have e6:(a+3==a+2)=false:=beq_eq_false_iff_ne.2 om;clear hw hm;have HX:=zh hx;have HL:=zh hl;have HA:=zh ha;have HP:=zh h;have HLN:=zh hln
 have c5:w.cell? ⟨B,5,none⟩=some (.int .i64 (a)):=by rw[←hln];exact h.row.cell_ (i:=5) rfl
 clear h hl hx ha hln;go_enter func235, ntmps235;go_wp2_with fail;clear c5;have HO:=zh (Only.refl (qd B A) w);refine(qsz B p A cp nv r (a+1) (a+3) _ HP.out HZ.out).mono ?_;rintro e wN ⟨rfl,hO,nvN,hP⟩;have HPN:=zh hP;have HON:=zh (HO.out.trans hO);clear hO hP;go_wp2;go_ret;exact⟨rfl,HON.out,nvN,HPN.out⟩
theorem zap(B:Nat)(p A:Option Addr)(cp:Nat)(nv:Value)(r:LS)(tail a:Int)(w:World)(h:RunP w B p A cp nv r)(hl:r.ns.length<=900)(hx:Words r.xs)(ha:0<=r.a/\r.a<4294967296)(V:Value)(l:List Int)(hw:Whats B A w V l)(hm:l.length<=90)(hr0: -1000<=a)(hr1:a<=1000)(hln:r.line=a+1)(ht:r.casOut tail=true):
 Calls prog 235 #[Value.pointer (some ⟨B,0,none⟩),.int .i64 tail,.int .i64 a,V] w (qj B p A cp w (.bool true) ((r.doA 5 tail r.me 0).notes l)):=by
 have HT:=zh ht;have HLEN:=zh (show(r.doA 5 tail r.me 0).ns.length+l.length<=1000 by show r.ns.length+_<=_;omega);clear ht;have HW:=zh hw;have HM:=zh hm;have e1:(a+1==a)=false:=beq_eq_false_iff_ne.2 om;have e2:(a+2==a)=false:=beq_eq_false_iff_ne.2 om;have e3:(a+2==a+1)=false:=beq_eq_false_iff_ne.2 om;have e4:(a+3==a)=false:=beq_eq_false_iff_ne.2 om;have e5:(a+3==a+1)=false:=beq_eq_false_iff_ne.2 om;have e6:(a+3==a+2)=false:=beq_eq_false_iff_ne.2 om;clear hw hm;have HX:=zh hx;have HL:=zh hl;have HA:=zh ha;have HP:=zh h;have HLN:=zh hln
 have c5:w.cell? ⟨B,5,none⟩=some (.int .i64 (a+1)):=by rw[←hln];exact h.row.cell_ (i:=5) rfl
 clear h hl hx ha hln;go_enter func235, ntmps235;go_wp2_with fail;clear c5;refine(qq9 B p A cp nv r tail (a+2) _ HP.out HT.out).mono ?_;rintro e w1 ⟨rfl,hO,nv1,hP⟩;have HP1:=zh hP;have HO1:=zh hO;clear hO hP;have HWN:=zh (HW.out.move HO1.out);go_wp2_with fail;refine(qgw B p A cp nv1 _ V l _ HP1.out HWN.out HLEN.out).mono ?_;rintro e wM ⟨rfl,hO,nvM,hP⟩;have HPM:=zh hP;have HOM:=zh (HO1.out.trans hO);clear hO hP;go_wp2;go_ret;exact⟨rfl,HOM.out,nvM,HPM.out⟩
theorem qxp(B:Nat)(p A:Option Addr)(cp:Nat)(nv:Value)(r:LS)(tail a:Int)(w:World)(h:RunP w B p A cp nv r)(hl:r.ns.length<=900)(hx:Words r.xs)(ha:0<=r.a/\r.a<4294967296)(V:Value)(l:List Int)(hw:Whats B A w V l)(hm:l.length<=90)(hr0: -1000<=a)(hr1:a<=1000)(hln:r.line=a+1)(ht:r.casOut tail=false):
 Calls prog 235 #[Value.pointer (some ⟨B,0,none⟩),.int .i64 tail,.int .i64 a,V] w (qj B p A cp w (.bool false) ((r.doA 5 tail r.me 0).go (a+2))):=by
 have HT:=zh ht;clear ht;have HW:=zh hw;have HM:=zh hm;have e1:(a+1==a)=false:=beq_eq_false_iff_ne.2 om;have e2:(a+2==a)=false:=beq_eq_false_iff_ne.2 om;have e3:(a+2==a+1)=false:=beq_eq_false_iff_ne.2 om;have e4:(a+3==a)=false:=beq_eq_false_iff_ne.2 om;have e5:(a+3==a+1)=false:=beq_eq_false_iff_ne.2 om;have e6:(a+3==a+2)=false:=beq_eq_false_iff_ne.2 om;clear hw hm;have HX:=zh hx;have HL:=zh hl;have HA:=zh ha;have HP:=zh h;have HLN:=zh hln
 have c5:w.cell? ⟨B,5,none⟩=some (.int .i64 (a+1)):=by rw[←hln];exact h.row.cell_ (i:=5) rfl
 clear h hl hx ha hln;go_enter func235, ntmps235;go_wp2_with fail;clear c5;have HO:=zh (Only.refl (qd B A) w);refine(qux B p A cp nv r tail (a+2) _ HP.out HT.out).mono ?_;rintro e wN ⟨rfl,hO,nvN,hP⟩;have HPN:=zh hP;have HON:=zh (HO.out.trans hO);clear hO hP;go_wp2;go_ret;exact⟨rfl,HON.out,nvN,HPN.out⟩
theorem zbe(B:Nat)(p A:Option Addr)(cp:Nat)(nv:Value)(r:LS)(tail a:Int)(w:World)(h:RunP w B p A cp nv r)(hl:r.ns.length<=900)(hx:Words r.xs)(ha:0<=r.a/\r.a<4294967296)(V:Value)(l:List Int)(hw:Whats B A w V l)(hm:l.length<=90)(hr0: -1000<=a)(hr1:a<=1000)(hln:r.line=a+2)(hd:(r.stepR (nc r.n r.task) isN).done=true):
 Calls prog 235 #[Value.pointer (some ⟨B,0,none⟩),.int .i64 tail,.int .i64 a,V] w (qj B p A cp w (.bool false) (r.seeN.go (a+3))):=by
 have HD:=zh hd;clear hd;have HW:=zh hw;have HM:=zh hm;have e1:(a+1==a)=false:=beq_eq_false_iff_ne.2 om;have e2:(a+2==a)=false:=beq_eq_false_iff_ne.2 om;have e3:(a+2==a+1)=false:=beq_eq_false_iff_ne.2 om;have e4:(a+3==a)=false:=beq_eq_false_iff_ne.2 om;have e5:(a+3==a+1)=false:=beq_eq_false_iff_ne.2 om;have e6:(a+3==a+2)=false:=beq_eq_false_iff_ne.2 om;clear hw hm;have HX:=zh hx;have HL:=zh hl;have HA:=zh ha;have HP:=zh h;have HLN:=zh hln
 have c5:w.cell? ⟨B,5,none⟩=some (.int .i64 (a+2)):=by rw[←hln];exact h.row.cell_ (i:=5) rfl
 clear h hl hx ha hln;go_enter func235, ntmps235;go_wp2_with fail;clear c5;have HO:=zh (Only.refl (qd B A) w);refine(qp7 B p A cp nv r (a+3) _ HP.out HX.out HD.out).mono ?_;rintro e wN ⟨rfl,hO,nvN,hP⟩;have HPN:=zh hP;have HON:=zh (HO.out.trans hO);clear hO hP;go_wp2;go_ret;exact⟨rfl,HON.out,nvN,HPN.out⟩
theorem qx0(B:Nat)(p A:Option Addr)(cp:Nat)(nv:Value)(r:LS)(tail a:Int)(w:World)(h:RunP w B p A cp nv r)(hl:r.ns.length<=900)(hx:Words r.xs)(ha:0<=r.a/\r.a<4294967296)(V:Value)(l:List Int)(hw:Whats B A w V l)(hm:l.length<=90)(hr0: -1000<=a)(hr1:a<=1000)(hln:r.line=a+2)(hd:(r.stepR (nc r.n r.task) isN).done=false):
 Calls prog 235 #[Value.pointer (some ⟨B,0,none⟩),.int .i64 tail,.int .i64 a,V] w (qj B p A cp w (.bool false) r.seeN):=by
 have HD:=zh hd;clear hd;have HW:=zh hw;have HM:=zh hm;have e1:(a+1==a)=false:=beq_eq_false_iff_ne.2 om;have e2:(a+2==a)=false:=beq_eq_false_iff_ne.2 om;have e3:(a+2==a+1)=false:=beq_eq_false_iff_ne.2 om;have e4:(a+3==a)=false:=beq_eq_false_iff_ne.2 om;have e5:(a+3==a+1)=false:=beq_eq_false_iff_ne.2 om;have e6:(a+3==a+2)=false:=beq_eq_false_iff_ne.2 om;clear hw hm;have HX:=zh hx;have HL:=zh hl;have HA:=zh ha;have HP:=zh h;have HLN:=zh hln
 have c5:w.cell? ⟨B,5,none⟩=some (.int .i64 (a+2)):=by rw[←hln];exact h.row.cell_ (i:=5) rfl
 clear h hl hx ha hln;go_enter func235, ntmps235;go_wp2_with fail;clear c5;have HO:=zh (Only.refl (qd B A) w);refine(qud B p A cp nv r (a+3) _ HP.out HX.out HD.out).mono ?_;rintro e wN ⟨rfl,hO,nvN,hP⟩;have HPN:=zh hP;have HON:=zh (HO.out.trans hO);clear hO hP;go_wp2;go_ret;exact⟨rfl,HON.out,nvN,HPN.out⟩
theorem qm2(l:List Int):∀(r:LS) (c:Int),(r.wake c).notes l=(r.notes l).wake c:=by
 induction l with
 |nil=>intro r c;rfl
 |cons x l ih=>
  intro r c;show((r.wake c).note x 0).notes l=((r.note x 0).notes l).wake c;rw[←ih];rfl
theorem qzv(B:Nat)(p A:Option Addr)(cp:Nat)(nv:Value)(r:LS)(tail a:Int)(w:World)(h:RunP w B p A cp nv r)(hl:r.ns.length<=900)(hx:Words r.xs)(ha:0<=r.a/\r.a<4294967296)(V:Value)(l:List Int)(hw:Whats B A w V l)(hm:l.length<=90)(hr0: -1000<=a)(hr1:a<=1000)(hln:r.line=a+3):
 Calls prog 235 #[Value.pointer (some ⟨B,0,none⟩),.int .i64 tail,.int .i64 a,V] w (qj B p A cp w (.bool true) (r.handOn l)):=by
 have HE:=zh (qm2 l (r.doA 2 (bc r.n (r.a-1)) 0 0) (bc r.n (r.a-1)));have HLEN:=zh (show((r.doA 2 (bc r.n (r.a-1)) 0 0).wake (bc r.n (r.a-1))).ns.length+l.length<=1000 by show r.ns.length+_<=_;omega);rw[show r.handOn l=((r.doA 2 (bc r.n (r.a-1)) 0 0).wake (bc r.n (r.a-1))).notes l from HE.out.symm];have HW:=zh hw;have HM:=zh hm;have e1:(a+1==a)=false:=beq_eq_false_iff_ne.2 om;have e2:(a+2==a)=false:=beq_eq_false_iff_ne.2 om;have e3:(a+2==a+1)=false:=beq_eq_false_iff_ne.2 om;have e4:(a+3==a)=false:=beq_eq_false_iff_ne.2 om;have e5:(a+3==a+1)=false:=beq_eq_false_iff_ne.2 om;have e6:(a+3==a+2)=false:=beq_eq_false_iff_ne.2 om;clear hw hm;have HX:=zh hx;have HL:=zh hl;have HA:=zh ha;have HP:=zh h;have HLN:=zh hln
 have c5:w.cell? ⟨B,5,none⟩=some (.int .i64 (a+3)):=by rw[←hln];exact h.row.cell_ (i:=5) rfl
 clear h hl hx ha hln;go_enter func235, ntmps235
 go_upto_region 12 with(fail)
 have c1:w.cell? ⟨B,1,none⟩=some (.int .i64 r.n):=HP.out.row.cell_ (i:=1) rfl;refine qb (n:=9) 8 (fun w=>w.cell? ⟨B,1,none⟩=some (.int .i64 r.n)) rfl kr c1 (fun hHeld=> ?_);have HP0:=zh (HP.out.keep (Only.refl Nil w).drew);have HO0:=zh ((Only.refl (qd B A) w).drew);clear c1 HP c5;generalize w.drew=w0 at *;refine za 0 rfl ?_;refine za 1 rfl ?_;refine za 2 rfl ?_;refine za 3 rfl ?_;refine zt 4 rfl ?_;refine za 5 rfl ?_;refine mpc 6 rfl kr br (fun K hK=> ?_);go_simp;refine(qk8 B p A cp nv r _ HP0.out HA.out).mono ?_;rintro e w1 ⟨rfl,rfl⟩;refine hK.out _ _ (.inr hHeld) ?_;clear hK K;refine mpc 7 rfl kr br (fun K hK=> ?_);go_simp;refine(qbr r.n (r.a-1) _).mono ?_;rintro e w1 ⟨rfl,hO⟩;have HP1:=zh (HP0.out.keep hO);have HO1:=zh (HO0.out.trans (hO.mono (T:=qd B A) (fun _ _ h=>h.elim)));have hHeld2:w1.cell? ⟨B,1,none⟩=some (.int .i64 r.n):=HP1.out.row.cell_ (i:=1) rfl;refine hK.out _ _ (.inr hHeld2) ?_;clear hK K hHeld hO HP0 HO0;refine mpc 8 rfl kr br (fun K hK=> ?_);go_simp;refine(qjs B p A cp nv r (bc r.n (r.a-1)) 0 _ HP1.out).mono ?_;rintro e w2 ⟨rfl,hO,nv2,hP⟩;have HP2:=zh hP;have HO2:=zh (HO1.out.trans hO);refine hK.out _ _ (.inl kr) ?_;clear hK K hHeld2 hO hP HP1 HO1;refine qc kr ?_ _;have HWN:=zh (HW.out.move HO2.out);go_wp2_with fail;refine(qgw B p A cp nv2 _ V l _ HP2.out HWN.out HLEN.out).mono ?_;rintro e wM ⟨rfl,hO,nvM,hP⟩;have HPM:=zh hP;have HOM:=zh (HO2.out.trans hO);clear hO hP;go_wp2;go_ret;exact⟨rfl,HOM.out,nvM,HPM.out⟩
theorem qvt(B:Nat)(p A:Option Addr)(cp:Nat)(nv:Value)(r:LS)(tail a:Int)(w:World)(h:RunP w B p A cp nv r)(hl:r.ns.length<=900)(hx:Words r.xs)(ha:0<=r.a/\r.a<4294967296)(V:Value)(l:List Int)(hw:Whats B A w V l)(hm:l.length<=90)(hr0: -1000<=a)(hr1:a<=1000)(ln:Int)(hln:r.line=ln)(n0:ln≠a)(n1:ln≠a+1)(n2:ln≠a+2)(n3:ln≠a+3):
 Calls prog 235 #[Value.pointer (some ⟨B,0,none⟩),.int .i64 tail,.int .i64 a,V] w (qj B p A cp w (.bool false) r):=by
 have b0:(ln==a)=false:=beq_eq_false_iff_ne.2 n0;have b1:(ln==a+1)=false:=beq_eq_false_iff_ne.2 n1;have b2:(ln==a+2)=false:=beq_eq_false_iff_ne.2 n2;have b3:(ln==a+3)=false:=beq_eq_false_iff_ne.2 n3;clear n0 n1 n2 n3;have HW:=zh hw;have HM:=zh hm;have e1:(a+1==a)=false:=beq_eq_false_iff_ne.2 om;have e2:(a+2==a)=false:=beq_eq_false_iff_ne.2 om;have e3:(a+2==a+1)=false:=beq_eq_false_iff_ne.2 om;have e4:(a+3==a)=false:=beq_eq_false_iff_ne.2 om;have e5:(a+3==a+1)=false:=beq_eq_false_iff_ne.2 om;have e6:(a+3==a+2)=false:=beq_eq_false_iff_ne.2 om;clear hw hm;have HX:=zh hx;have HL:=zh hl;have HA:=zh ha;have HP:=zh h;have HLN:=zh hln
 have c5:w.cell? ⟨B,5,none⟩=some (.int .i64 (ln)):=by rw[←hln];exact h.row.cell_ (i:=5) rfl
 clear h hl hx ha hln;go_enter func235, ntmps235;go_wp2;go_ret;exact⟨rfl,Only.refl _ _,nv,HP.out⟩
theorem qk0(B:Nat)(p A:Option Addr)(cp:Nat)(nv:Value)(r:LS)(tail a:Int)(w:World)(h:RunP w B p A cp nv r)(hl:r.ns.length<=900)(hx:Words r.xs)(ha:0<=r.a/\r.a<4294967296)(V:Value)(l:List Int)(hw:Whats B A w V l)(hm:l.length<=90)(hr0: -1000<=a)(hr1:a<=1000):
 Calls prog 235 #[Value.pointer (some ⟨B,0,none⟩),.int .i64 tail,.int .i64 a,V] w (qj B p A cp w (.bool (r.mxGive tail a l).2) (r.mxGive tail a l).1):=by
 by_cases l0:r.line=a
 . by_cases hz:qa r.xs (nc r.n r.task)=0
   . rw[show r.mxGive tail a l=_ by unfold LS.mxGive;rw[if_pos l0,if_pos hz]];exact zaz B p A cp nv r tail a w h hl hx ha V l hw hm hr0 hr1 l0 hz
   . rw[show r.mxGive tail a l=_ by unfold LS.mxGive;rw[if_pos l0,if_neg hz]];exact qxb B p A cp nv r tail a w h hl hx ha V l hw hm hr0 hr1 l0 hz
 by_cases l1:r.line=a+1
 . cases hz:r.casOut tail
   . rw[show r.mxGive tail a l=_ by unfold LS.mxGive;rw[if_neg l0,if_pos l1,hz,if_neg Bool.false_ne_true]];exact qxp B p A cp nv r tail a w h hl hx ha V l hw hm hr0 hr1 l1 hz
   . rw[show r.mxGive tail a l=_ by unfold LS.mxGive;rw[if_neg l0,if_pos l1,hz,if_pos rfl]];exact zap B p A cp nv r tail a w h hl hx ha V l hw hm hr0 hr1 l1 hz
 by_cases l2:r.line=a+2
 . cases hz:(r.stepR (nc r.n r.task) isN).done
   . rw[show r.mxGive tail a l=_ by unfold LS.mxGive;rw[if_neg l0,if_neg l1,if_pos l2,hz,if_neg Bool.false_ne_true]];exact qx0 B p A cp nv r tail a w h hl hx ha V l hw hm hr0 hr1 l2 hz
   . rw[show r.mxGive tail a l=_ by unfold LS.mxGive;rw[if_neg l0,if_neg l1,if_pos l2,hz,if_pos rfl]];exact zbe B p A cp nv r tail a w h hl hx ha V l hw hm hr0 hr1 l2 hz
 by_cases l3:r.line=a+3
 . rw[show r.mxGive tail a l=_ by unfold LS.mxGive;rw[if_neg l0,if_neg l1,if_neg l2,if_pos l3]];exact qzv B p A cp nv r tail a w h hl hx ha V l hw hm hr0 hr1 l3
 . rw[show r.mxGive tail a l=_ by unfold LS.mxGive;rw[if_neg l0,if_neg l1,if_neg l2,if_neg l3]];exact qvt B p A cp nv r tail a w h hl hx ha V l hw hm hr0 hr1 _ rfl l0 l1 l2 l3
theorem qcu{FS:List Nat}{FM:FuncId}{args:Array Value}{B:Nat}{p A:Option Addr}{cp:Nat}{r r':LS}{w0 w:World}{Q:Ending->World->Prop}(h:Calls prog FM args w (ClS FS B p A cp r r' w))(ho:Only Nil w0 w)
 (k1:∀F caps w',Hid (ClS FS B p A cp r r' w0 (.returned (.func (.func F) #[] caps)) w')->Q (.returned (.func (.func F) #[] caps)) w') (k2:∀w',Hid (ClS FS B p A cp r r' w0 (.returned .nilFunc) w')->Q (.returned .nilFunc) w'):Calls prog FM args w Q:=by
 refine h.mono ?_;rintro e w' (⟨F,hF,caps,rfl,hO,hC⟩|⟨rfl,hO,hr⟩)
 . exact k1 F caps w' (zh (.inl ⟨F,hF,caps,rfl,ho.trans hO,hC⟩))
 . exact k2 w' (zh (.inr ⟨rfl,ho.trans hO,hr⟩))
def LS.fChange(r:LS)(x:Int)(l:List Int):LS:=(((r.doA 3 0 x 0).notes l).wake 0).fin true
theorem zbc(v s n x:Int)(w:World)(h:isF s n=false):
 Calls prog 260 #[.int .u32 v,.int .i64 s,.int .i64 n,.int .u32 x] w fun e w'=>e= .returned (.int .u32 v)/\w=w':=by
 have H:=zh h;clear h;go_enter func260, ntmps260;go_wp2_with fail;refine(qfh s n _ H.out).mono ?_;rintro e w1 ⟨rfl,rfl⟩;go_wp2;go_ret;exact⟨rfl,rfl⟩
theorem qvu(v s n x:Int)(w:World)(h:isF s n=true)(hv:0<=v/\v<4294967296)(hx:0<=x/\x<4294967296):
 Calls prog 260 #[.int .u32 v,.int .i64 s,.int .i64 n,.int .u32 x] w fun e w'=>e= .returned (.int .u32 (xj v s n x))/\Drew w w':=by
 have E:=zh (qtt (x:=x) h hv);obtain⟨h1,h2,h3,h4,h5⟩:=vj.1 h;have E2:=zh (qnv (n:=n) hx ⟨om,h4⟩);obtain⟨h6,h7⟩:=hv;have H:=zh h;clear h hx;go_enter func260, ntmps260;go_wp2_with fail;refine(qep s n _ H.out).mono ?_;rintro e w1 ⟨rfl,rfl⟩;go_wp2
 go_quiet ((exact qh1 _ _ _ h3 h4))
 go_wp2;go_ret;refine⟨congrArg (fun x=>Ending.returned (.int .u32 x)) ?_,Drew.n _ _⟩;rw[E2.out];exact E.out
theorem qx9(v s n x:Int)(w:World)(hv:0<=v/\v<4294967296)(hx:0<=x/\x<4294967296):
 Calls prog 260 #[.int .u32 v,.int .i64 s,.int .i64 n,.int .u32 x] w fun e w'=>e= .returned (.int .u32 (qmn v s n x))/\Drew w w':=by
 cases h:isF s n
 . refine(zbc v s n x w h).mono fun e w' ⟨he,hw⟩=>⟨?_,Drew.of_eq hw⟩;rw[he];simp[qmn,h]
 . refine(qvu v s n x w h hv hx).mono fun e w' ⟨he,hw⟩=>⟨?_,hw⟩;rw[he];simp[qmn,h]
theorem qqw(v s n:Int)(w:World)(hv:0<=v/\v<4294967296):
 Calls prog 173 #[.int .u32 v,.int .i64 s,.int .i64 n] w fun e w'=>e= .returned (.int .u32 (qg1 v s n))/\Drew w w':=by
 have HV:=zh hv;clear hv;go_enter func173, ntmps173;go_wp2_with fail;refine(qd8 v s n _ HV.out).mono ?_;rintro e w1 ⟨rfl,hd⟩;have HD:=zh hd;clear hd;go_wp2_with fail;refine(qx9 v s n _ _ HV.out ?_).mono ?_
 . omega
 rintro e w2 ⟨rfl,hd⟩;have HD2:=zh hd;clear hd;go_wp2;go_ret;exact⟨rfl,HD.out.trans HD2.out⟩
def qbk(o h:Int):Bool:=if o=1\/o=3\/o=5\/o=6 then h==0 else if o=2\/o=7 then h==1 else if o=4\/o=8 then h==2 else false
def atI(o h:Int):Int:=if o=2\/o=4 then 0 else if o=8 then 1 else h
def qdc(o r h:Int):Int:=if r=2 then(if o=1\/o=5 then 1 else if o=3\/o=6\/o=7 then 2 else h)else h
theorem qju(o:Int):o=1\/o=2\/o=3\/o=4\/o=5\/o=6\/o=7\/o=8\/(¬o=1/\¬o=2/\¬o=3/\¬o=4/\¬o=5/\¬o=6/\¬o=7/\¬o=8):=by omega
theorem quv{o:Int}(h:¬o=1/\¬o=2/\¬o=3/\¬o=4/\¬o=5/\¬o=6/\¬o=7/\¬o=8)(x:Int):qbk o x=false:=by
 unfold qbk;rw[if_neg om,if_neg om,if_neg om]
theorem qrp{o:Int}(h:¬o=1/\¬o=2/\¬o=3/\¬o=4/\¬o=5/\¬o=6/\¬o=7/\¬o=8)(r x:Int):qdc o r x=x:=by
 unfold qdc
 by_cases hr:r=2
 . rw[if_pos hr,if_neg om,if_neg om]
 . rw[if_neg hr]
theorem qxq(o h:Int)(w:World):Calls prog 50 #[.int .i64 o,.int .i64 h] w fun e w'=>e= .returned (.bool (qbk o h))/\w=w':=by
 rcases qju o with rfl|rfl|rfl|rfl|rfl|rfl|rfl|rfl|⟨h1,h2,h3,h4,h5,h6,h7,h8⟩
 all_goals (try rw[show ∀x,qbk 1 x=(x==0)from fun _=>rfl])
 all_goals (try rw[show ∀x,qbk 2 x=(x==1)from fun _=>rfl])
 all_goals (try rw[show ∀x,qbk 3 x=(x==0)from fun _=>rfl])
 all_goals (try rw[show ∀x,qbk 4 x=(x==2)from fun _=>rfl])
 all_goals (try rw[show ∀x,qbk 5 x=(x==0)from fun _=>rfl])
 all_goals (try rw[show ∀x,qbk 6 x=(x==0)from fun _=>rfl])
 all_goals (try rw[show ∀x,qbk 7 x=(x==1)from fun _=>rfl])
 all_goals (try rw[show ∀x,qbk 8 x=(x==2)from fun _=>rfl])
 all_goals (try rw[quv ⟨h1,h2,h3,h4,h5,h6,h7,h8⟩])
 all_goals
  go_enter func50, ntmps50;go_wp2;go_ret;exact⟨rfl,rfl⟩
theorem qws(o r h:Int)(w:World):Calls prog 92 #[.int .i64 o,.int .i64 r,.int .i64 h] w fun e w'=>e= .returned (.int .i64 (qdc o r h))/\w=w':=by
 by_cases hr:r=2
 . subst hr;rcases qju o with rfl|rfl|rfl|rfl|rfl|rfl|rfl|rfl|⟨h1,h2,h3,h4,h5,h6,h7,h8⟩
   all_goals (try rw[show ∀x,qdc 1 2 x=1 from fun _=>rfl])
   all_goals (try rw[show ∀x,qdc 2 2 x=x from fun _=>rfl])
   all_goals (try rw[show ∀x,qdc 3 2 x=2 from fun _=>rfl])
   all_goals (try rw[show ∀x,qdc 4 2 x=x from fun _=>rfl])
   all_goals (try rw[show ∀x,qdc 5 2 x=1 from fun _=>rfl])
   all_goals (try rw[show ∀x,qdc 6 2 x=2 from fun _=>rfl])
   all_goals (try rw[show ∀x,qdc 7 2 x=2 from fun _=>rfl])
   all_goals (try rw[show ∀x,qdc 8 2 x=x from fun _=>rfl])
   all_goals (try rw[qrp ⟨h1,h2,h3,h4,h5,h6,h7,h8⟩])
   all_goals
    go_enter func92, ntmps92;go_wp2;go_ret;exact⟨rfl,rfl⟩
 . rw[show qdc o r h=h from if_neg hr];go_enter func92, ntmps92;go_wp2;go_ret;exact⟨rfl,rfl⟩
theorem qs3(o h:Int)(w:World):Calls prog 52 #[.int .i64 o,.int .i64 h] w fun e w'=>e= .returned (.int .i64 (atI o h))/\w=w':=by
 by_cases h2:o=2
 . subst h2;rw[show atI 2 h=0 from rfl];go_enter func52, ntmps52;go_wp2;go_ret;exact⟨rfl,rfl⟩
 by_cases h4:o=4
 . subst h4;rw[show atI 4 h=0 from rfl];go_enter func52, ntmps52;go_wp2;go_ret;exact⟨rfl,rfl⟩
 by_cases h8:o=8
 . subst h8;rw[show atI 8 h=1 from rfl];go_enter func52, ntmps52;go_wp2;go_ret;exact⟨rfl,rfl⟩
 . rw[show atI o h=h by unfold atI;rw[if_neg om,if_neg h8]];go_enter func52, ntmps52;go_wp2;go_ret;exact⟨rfl,rfl⟩
def opW(o:Int):ByteArray:=if o=1 then⟨#[114,108,111,99,107]⟩else if o=2 then⟨#[114,117,110,108,111,99,107]⟩else if o=3 then⟨#[108,111,99,107]⟩else if o=4 then⟨#[117,110,108,111,99,107]⟩else if o=5 then⟨#[116,114,121,114,108,111,99,107]⟩else if o=6 then⟨#[116,114,121,108,111,99,107]⟩else if o=7 then⟨#[117,112,103,114,97,100,101]⟩else if o=8 then⟨#[100,111,119,110,103,114,97,100,101]⟩else⟨#[]⟩
theorem qkm{o:Int}(h:1<=o/\o<=8):(opW o).toList.isEmpty=false:=by
 have hc:o=1\/o=2\/o=3\/o=4\/o=5\/o=6\/o=7\/o=8:=by omega
 rcases hc with h|h|h|h|h|h|h|h
 . subst h;exact(show(opW 1).toList.isEmpty=false by kernel_rfl)
 . subst h;exact(show(opW 2).toList.isEmpty=false by kernel_rfl)
 . subst h;exact(show(opW 3).toList.isEmpty=false by kernel_rfl)
 . subst h;exact(show(opW 4).toList.isEmpty=false by kernel_rfl)
 . subst h;exact(show(opW 5).toList.isEmpty=false by kernel_rfl)
 . subst h;exact(show(opW 6).toList.isEmpty=false by kernel_rfl)
 . subst h;exact(show(opW 7).toList.isEmpty=false by kernel_rfl)
 . subst h;exact(show(opW 8).toList.isEmpty=false by kernel_rfl)
theorem qc5{o:Int}(h:¬(1<=o/\o<=8)):opW o=⟨#[]⟩:=by
 unfold opW;rw[if_neg om,if_neg om,if_neg om,if_neg om,if_neg om,if_neg om,if_neg om,if_neg om]
def qz2:Array Value:= #[.string ⟨#[]⟩,.string (opW 1),.string (opW 2),.string (opW 3),.string (opW 4),.string (opW 5),.string (opW 6),.string (opW 7),.string (opW 8)]
theorem qrt(w:World):Calls prog 49 #[] w fun e w'=>∃g,e= .returned (.slice (some ⟨g,0,none⟩) 9 9)/\Row w' g 9 qz2/\Only Nil w w':=by
 go_enter func49, ntmps49;go_wp2;go_ret;exact⟨_,rfl,Row.new w 9 qz2,(Only.refl Nil w).alloc _⟩
theorem qqo(g k:Nat)(X:ByteArray)(w:World)(hk:k<9)(h:w.cell? ⟨g,k,none⟩=some (.string X)):Calls prog 48 #[.slice (some ⟨g,0,none⟩) 9 9,.int .i64 k] w fun e w'=>e= .returned (.string X)/\w=w':=by
 have h0:decide ((k:Int)<0)=false:=by simp
 have h1:¬(9:Int)<=k:=by omega
 have h2:(k:Int)<9:=by omega
 go_enter func48, ntmps48;go_wp2;go_ret;exact⟨rfl,rfl⟩
theorem qlb(g:Nat)(x:Int)(w:World)(h:x<0\/9<=x):Calls prog 48 #[.slice (some ⟨g,0,none⟩) 9 9,.int .i64 x] w fun e w'=>e= .returned (.string ⟨#[]⟩)/\w=w':=by
 rcases h with h|h
 . go_enter func48, ntmps48;go_wp2;go_ret;exact⟨rfl,rfl⟩
 . have h0:decide (x<0)=false:=decide_eq_false om;go_enter func48, ntmps48;go_wp2;go_ret;exact⟨rfl,rfl⟩
theorem qxk{k:Nat}(hk:k<9):qz2[k]? =some (.string (opW k)):=by
 have hc:k=0\/k=1\/k=2\/k=3\/k=4\/k=5\/k=6\/k=7\/k=8:=by omega
 rcases hc with rfl|rfl|rfl|rfl|rfl|rfl|rfl|rfl|rfl<;>rfl
theorem qts(o:Int)(W:World):Calls prog 21 #[.int .i64 o] W fun e w'=>e= .returned (.string (opW o))/\Only Nil W w':=by
 go_enter func21, ntmps21;go_wp2_with fail;refine(qrt _).mono ?_;rintro e w1 ⟨g,rfl,hR,hO⟩;have HR:=zh hR;have HO:=zh hO;clear hR hO;go_wp2_with fail
 have hw:Calls prog 48 #[.slice (some ⟨g,0,none⟩) 9 9,.int .i64 o] w1 fun e w'=>e= .returned (.string (opW o))/\w1=w':=by
  by_cases h:0<=o/\o<9
  . obtain⟨k,rfl⟩:∃k:Nat,o=k:=⟨o.toNat,om⟩;exact qqo g k _ w1 om (HR.out.cell_ (qxk om))
  . rw[qc5 om];exact qlb g o w1 om
 refine hw.mono ?_;rintro e w2 ⟨rfl,rfl⟩;clear hw;go_wp2;go_ret;exact⟨rfl,HO.out⟩
def jb:Array Value:= #[.int .i64 0,.int .i64 0,.int .i64 0,.int .u32 0,.int .u32 0,.int .i64 0,.bool false,.int .i64 0,.int .i64 0,.bool false,.int .i64 0]
theorem qy7:(prog.info? 74).map (fun i=>(i.zero,i.size,i.bytes))=some (some (.agg jb),11,80):=by kernel_rfl
theorem qf7(k:Nat)(hk:k<=64)(W:World):
 (Instr.makeSlice 56 (.int .i64 (k:Int)) (.int .i64 (k:Int))).run prog W= .ok (.slice (some ⟨W.heap.size,0,none⟩) k k) (W.alloc (.cells (madeCells jb (k*11)) 74)):=by
 obtain⟨i,hi,hzz⟩:=Option.map_eq_some_iff.1 qy7;simp only[Prod.mk.injEq]at hzz;obtain⟨hz,hs,hb⟩:=hzz;have hr:=run_make (P:= prog) W 56 74 i (.agg jb) underlying56 hi hz .i64 .i64 k k om (Int.le_refl _) (by rw[hb];omega) om;simp only[Int.toNat_natCast,hs]at hr;exact hr
theorem qco{w:World}{g k:Nat}{h:Nat->Int}{f:Nat->LS}(hz:∀i,i<k->zl (h i) (f i)=jb)(hr:Row w g 74 (madeCells jb (k*11))):Tasks w g k h f:=by
 refine qok w k h f _ (size_madeCells _ _) (fun i hi j v hj=> ?_) hr;rw[hz i hi]at hj
 have h11:j<11:=by
  have:=(Array.getElem?_eq_some_iff.1 hj).1;exact this
 have hlt:i*11+j<k*11:=by omega
 unfold madeCells;rw[Array.getElem?_map,Array.getElem?_range,if_pos hlt];show some (jb[(i*11+j)%11]!)=some v;rw[show(i*11+j)%11=j by omega,getElem!_def,hj]
theorem qo3(n:Int)(w:World)(hn:1<=n/\n<=64):
 Calls prog 13 #[.int .i64 n] w fun e w'=>e= .returned (.tuple #[.agg #[.int .i64 n],.int .i64 0])/\Only Nil w w':=by
 have HK:=zh (qcb hn);clear hn;go_enter func13, ntmps13;go_wp2_with fail;refine(js n _).mono ?_;rw[HK.out];rintro e w1 ⟨rfl,rfl⟩;go_wp2;exact bodyPost_ret (v:= .tuple #[.agg #[.int .i64 n],.int .i64 0]) (by simp[results, results13,go_sem]) rfl ⟨rfl,by(repeat' (first|(with_reducible exact Only.refl _ _)|(with_reducible assumption)|(with_reducible refine Only.setCell ?_ ?_ _)|(with_reducible refine Only.drewN ?_ _)|(with_reducible refine Only.drew ?_)|(with_reducible refine Only.alloc ?_ _)|(left;simp;done)|(left;simp;omega)|(right;rfl)))⟩
theorem zaq(n:Int)(w:World)(hn:¬(1<=n/\n<=64)):
 Calls prog 13 #[.int .i64 n] w fun e w'=>e= .returned (.tuple #[.agg #[.int .i64 0],.int .i64 2])/\Only Nil w w':=by
 have HK:=zh (qg4 hn);clear hn;go_enter func13, ntmps13;go_wp2_with fail;refine(js n _).mono ?_;rw[HK.out];rintro e w1 ⟨rfl,rfl⟩;go_wp2;exact bodyPost_ret (v:= .tuple #[.agg #[.int .i64 0],.int .i64 2]) (by simp[results, results13,go_sem]) rfl ⟨rfl,by(repeat' (first|(with_reducible exact Only.refl _ _)|(with_reducible assumption)|(with_reducible refine Only.setCell ?_ ?_ _)|(with_reducible refine Only.drewN ?_ _)|(with_reducible refine Only.drew ?_)|(with_reducible refine Only.alloc ?_ _)|(left;simp;done)|(left;simp;omega)|(right;rfl)))⟩
theorem qqy(n:Int)(w:World):
 Calls prog 41 #[.agg #[.int .i64 n]] w fun e w'=>e= .returned (.int .i64 (xy n))/\Only Nil w w':=by
 by_cases hn:1<=n/\n<=64
 . have hc:xy n=8+4*n:=if_pos hn;rw[hc];clear hc;have HK:=zh (qcb hn);obtain⟨n1,n2⟩:=hn;go_enter func41, ntmps41;go_wp2_with fail;refine(js n _).mono ?_;rw[HK.out];rintro e w1 ⟨rfl,rfl⟩;go_wp2;go_ret;exact⟨rfl,by(repeat' (first|(with_reducible exact Only.refl _ _)|(with_reducible assumption)|(with_reducible refine Only.setCell ?_ ?_ _)|(with_reducible refine Only.drewN ?_ _)|(with_reducible refine Only.drew ?_)|(with_reducible refine Only.alloc ?_ _)|(left;simp;done)|(left;simp;omega)|(right;rfl)))⟩
 . have hc:xy n=0:=if_neg hn;rw[hc];clear hc;have HK:=zh (qg4 hn);clear hn;go_enter func41, ntmps41;go_wp2_with fail;refine(js n _).mono ?_;rw[HK.out];rintro e w1 ⟨rfl,rfl⟩;go_wp2;go_ret;exact⟨rfl,by(repeat' (first|(with_reducible exact Only.refl _ _)|(with_reducible assumption)|(with_reducible refine Only.setCell ?_ ?_ _)|(with_reducible refine Only.drewN ?_ _)|(with_reducible refine Only.drew ?_)|(with_reducible refine Only.alloc ?_ _)|(left;simp;done)|(left;simp;omega)|(right;rfl)))⟩
def qid:Array Value:= #[.string ⟨#[117,115,101,114,115]⟩,.string ⟨#[114,101,97,100,115]⟩,.string ⟨#[119,114,105,116,101,115]⟩]
def qi0:Array Value:= #[.string ⟨#[114,105,110]⟩,.string ⟨#[114,111,117,116]⟩,.string ⟨#[119,105,110]⟩,.string ⟨#[119,111,117,116]⟩,.string ⟨#[112,104,97,115,101]⟩]
def qix:Array Value:= #[.string ⟨#[114,105,110]⟩,.string ⟨#[114,111,117,116]⟩,.string ⟨#[116,97,105,108]⟩,.string ⟨#[112,104,97,115,101]⟩]
def qj2:Array Value:= #[.string ⟨#[116,97,105,108]⟩,.string ⟨#[99,111,117,110,116]⟩]
def qif:Array Value:= #[.string ⟨#[119,111,114,100]⟩]
def qio:Array Value:= #[.string ⟨#[119,111,114,100]⟩]
def qa8(k:Int):Array Value:=if k=1 then qid else if k=2 then qi0 else if k=3 then qix else if k=4 then qj2 else if k=5 then qif else if k=6 then qio else #[]
theorem qen{k:Int}(h:1<=k/\k<=6):k=1\/k=2\/k=3\/k=4\/k=5\/k=6:=by omega
theorem qwv(k:Int)(hk:1<=k/\k<=6)(c:Nat)(hc:c<(qa8 k).size):∃s,(qa8 k)[c]? =some (.string s):=by
 rcases qen hk with rfl|rfl|rfl|rfl|rfl|rfl
 . rcases(show c=0\/c=1\/c=2 by have:c<3:=hc;omega)with rfl|rfl|rfl<;>exact⟨_,rfl⟩
 . rcases(show c=0\/c=1\/c=2\/c=3\/c=4 by have:c<5:=hc;omega)with rfl|rfl|rfl|rfl|rfl<;>exact⟨_,rfl⟩
 . rcases(show c=0\/c=1\/c=2\/c=3 by have:c<4:=hc;omega)with rfl|rfl|rfl|rfl<;>exact⟨_,rfl⟩
 . rcases(show c=0\/c=1 by have:c<2:=hc;omega)with rfl|rfl<;>exact⟨_,rfl⟩
 . rcases(show c=0 by have:c<1:=hc;omega)with rfl;exact⟨_,rfl⟩
 . rcases(show c=0 by have:c<1:=hc;omega)with rfl;exact⟨_,rfl⟩
theorem qk4(k:Int)(hk:1<=k/\k<=6):1<=(qa8 k).size/\(qa8 k).size<=5:=by
 rcases qen hk with rfl|rfl|rfl|rfl|rfl|rfl<;>exact⟨dc,dc⟩
def qnp(k:Int)(w:World)(e:Ending)(w':World):Prop:=
 ∃g,e= .returned (.slice (some ⟨g,0,none⟩) (qa8 k).size (qa8 k).size)/\w.heap.size<=g/\Row w' g 9 (qa8 k)/\Only Nil w w'
def quw(v:Value):Option (DataW Value × List MemPlace):=some (.held v,[])
abbrev key(k:Int):Lit:= .int .i64 k
theorem qtd(n:Int)(h:(Lit.int .i64 n).wf=true):keyOf prog 3 (.int .i64 n)=some (key n):=Maps.keyOf_int_mk underlying3 h
theorem qau{w:World}{B n:Nat}{D:DataW Value}(h:w.ownsMap prog 3 quw B n D)(hn:n<100)(q:Int)(hq:(Lit.int .i64 q).wf=true)(cs:Array Value)(m:Nat)(g:Nat)(hg0:w.heap.size=g):
 ∃w',(Instr.mapUpdate 123 (.map (some B)) (.int .i64 q) (.slice (some ⟨g,0,none⟩) m m)).run prog (w.alloc (.cells cs 9))= .ok () w'/\
  w'.ownsMap prog 3 quw B (n+1) (D.put (key q) (.held (.slice (some ⟨g,0,none⟩) m m)))/\Row w' g 9 cs/\g<w'.heap.size/\Only (fun i=>i=B) w w':=by
 subst hg0;obtain⟨w',hrun,ho,hg⟩:=(h.alloc (.cells cs 9)).update (Maps.int_keyed underlying3) underlying123 (by unfold maxLen;omega) (qtd q hq) (d:= .held (.slice (some ⟨w.heap.size,0,none⟩) m m)) (ps:=[]) rfl;have hlt:=h.lt;have hsz:=hg.size;refine⟨w',hrun,ho,?_,by simp at hsz;omega,((Only.refl _ _).alloc _).grown hg (fun k hk=>by injection hk with hk;right;exact hk.symm)⟩;exact(hg.block w.heap.size (by simp) (by simp;omega)).trans (Row.new w _ _)
theorem qoe(w:World):(zeroValue 87).run prog w= .ok (.slice none 0 0) w:=by kernel_rfl
def six(v1 v2 v3 v4 v5 v6:Value):DataW Value:=((((((DataW.map []).put (key 1) (.held v1)).put (key 2) (.held v2)).put (key 3) (.held v3)).put (key 4) (.held v4)).put (key 5) (.held v5)).put (key 6) (.held v6)
theorem qyf(v1 v2 v3 v4 v5 v6:Value):six v1 v2 v3 v4 v5 v6= .map [(key 1,.held v1),(key 2,.held v2),(key 3,.held v3),(key 4,.held v4),(key 5,.held v5),(key 6,.held v6)]:=by
 simp[six,DataW.put,DataW.insert,Lit.before,Lit.sameKey,key]
def qjp(k:Int)(v1 v2 v3 v4 v5 v6:Value):Value:=if k=1 then v1 else if k=2 then v2 else if k=3 then v3 else if k=4 then v4 else if k=5 then v5 else if k=6 then v6 else .slice none 0 0
theorem zaw(k:Int)(v1 v2 v3 v4 v5 v6:Value):(six v1 v2 v3 v4 v5 v6).atKey (key k) (.held (.slice none 0 0))= .held (qjp k v1 v2 v3 v4 v5 v6):=by
 rw[qyf]
 by_cases hk:1<=k/\k<=6
 . rcases qen hk with rfl|rfl|rfl|rfl|rfl|rfl<;>simp[DataW.atKey,qjp,Lit.sameKey,key]
 . have h1:¬1=k:=by omega
   have h2:¬2=k:=by omega
   have h3:¬3=k:=by omega
   have h4:¬4=k:=by omega
   have h5:¬5=k:=by omega
   have h6:¬6=k:=by omega
   simp[DataW.atKey,qjp,Lit.sameKey,key,h1,h2,h3,h4,h5,h6,Ne.symm h1,Ne.symm h2,Ne.symm h3,Ne.symm h4,Ne.symm h5,Ne.symm h6]
theorem qtr{w:World}{B n:Nat}{v1 v2 v3 v4 v5 v6:Value}(h:w.ownsMap prog 3 quw B n (six v1 v2 v3 v4 v5 v6))(k:Int)(hk:(Lit.int .i64 k).wf=true):
 (Instr.lookup 123 (.map (some B)) (.int .i64 k) false).run prog w= .ok (qjp k v1 v2 v3 v4 v5 v6) w:=by
 obtain⟨v,ps,hrun,hv⟩:=h.lookup (Maps.int_keyed underlying3) underlying123 (qoe w) (zd:= .held (.slice none 0 0)) (zp:=[]) rfl (qtd k hk);rw[zaw]at hv;simp only[quw,Option.some.injEq,Prod.mk.injEq,DataW.held.injEq]at hv;rw[hrun,hv.1]
def qwe(k:Int)(w:World)(e:Ending)(w':World):Prop:=
 ∃g1 g2 g3 g4 g5 g6,e= .returned (qjp k (.slice (some ⟨g1,0,none⟩) 3 3) (.slice (some ⟨g2,0,none⟩) 5 5) (.slice (some ⟨g3,0,none⟩) 4 4) (.slice (some ⟨g4,0,none⟩) 2 2) (.slice (some ⟨g5,0,none⟩) 1 1) (.slice (some ⟨g6,0,none⟩) 1 1))/\
  w.heap.size<=g1/\w.heap.size<=g2/\w.heap.size<=g3/\w.heap.size<=g4/\w.heap.size<=g5/\w.heap.size<=g6/\
  Row w' g1 9 qid/\Row w' g2 9 qi0/\Row w' g3 9 qix/\Row w' g4 9 qj2/\Row w' g5 9 qif/\Row w' g6 9 qio/\Only Nil w w'
theorem qkj(k:Int)(w:World)(hk:(Lit.int .i64 k).wf=true):Calls prog 40 #[.int .i64 k] w (qwe k w):=by
 have HK:=zh hk;clear hk;have hmm:= @run_makeMap prog;have HO0:=zh (World.ownsMap_made w prog 3 quw);go_enter func40, ntmps40;go_wp2_with fail;obtain⟨wx1,hrun,ho,hR,hz,hO⟩:=qau HO0.out om 1 rfl qid 3 (w.heap.size+1) (by simp);unfold qid at hrun;rw[hrun];have HO1:=zh ho;have HR1:=zh hR;have HZ1:=zh hz;have HL1:=zh hO;clear hrun ho hR hz hO;go_wp2_with fail;obtain⟨wx2,hrun,ho,hR,hz,hO⟩:=qau HO1.out om 2 rfl qi0 5 wx1.heap.size (by simp);unfold qi0 at hrun;rw[hrun];have HO2:=zh ho;have HR2:=zh hR;have HZ2:=zh hz;have HL2:=zh hO;clear hrun ho hR hz hO;go_wp2_with fail;obtain⟨wx3,hrun,ho,hR,hz,hO⟩:=qau HO2.out om 3 rfl qix 4 wx2.heap.size (by simp);unfold qix at hrun;rw[hrun];have HO3:=zh ho;have HR3:=zh hR;have HZ3:=zh hz;have HL3:=zh hO;clear hrun ho hR hz hO;go_wp2_with fail;obtain⟨wx4,hrun,ho,hR,hz,hO⟩:=qau HO3.out om 4 rfl qj2 2 wx3.heap.size (by simp);unfold qj2 at hrun;rw[hrun];have HO4:=zh ho;have HR4:=zh hR;have HZ4:=zh hz;have HL4:=zh hO;clear hrun ho hR hz hO;go_wp2_with fail;obtain⟨wx5,hrun,ho,hR,hz,hO⟩:=qau HO4.out om 5 rfl qif 1 wx4.heap.size (by simp);unfold qif at hrun;rw[hrun];have HO5:=zh ho;have HR5:=zh hR;have HZ5:=zh hz;have HL5:=zh hO;clear hrun ho hR hz hO;go_wp2_with fail;obtain⟨wx6,hrun,ho,hR,hz,hO⟩:=qau HO5.out om 6 rfl qio 1 wx5.heap.size (by simp);unfold qio at hrun;rw[hrun];have HO6:=zh ho;have HR6:=zh hR;have HZ6:=zh hz;have HL6:=zh hO;clear hrun ho hR hz hO;have hs1:w.heap.size+1<wx1.heap.size:=HZ1.out;have HS1:=zh hs1;clear hs1;have HGET:=zh (qtr HO6.out k HK.out);have hget:=HGET.out;go_wp2;go_ret;have l2:=HL2.out;have l3:=HL3.out;have l4:=HL4.out;have l5:=HL5.out;have l6:=HL6.out;have z1:=HS1.out;have z2:=l2.size;have z3:=l3.size;have z4:=l4.size;have z5:=l5.size;have hq:=HL1.out;have q0:Only Nil w (w.alloc (.map #[] 0)):=(Only.refl _ _).alloc _;have q1:Only Nil w wx6:=(((((q0.step hq (fun i hi h=>by omega)).step l2 (fun i hi h=>by omega)).step l3 (fun i hi h=>by omega)).step l4 (fun i hi h=>by omega)).step l5 (fun i hi h=>by omega)).step l6 (fun i hi h=>by omega)
 exact⟨_,_,_,_,_,_,rfl,om,om,om,om,om,om,
  ((((HR1.out.only l2 om).only l3 om).only l4 om).only l5 om).only l6 om,
  (((HR2.out.only l3 om).only l4 om).only l5 om).only l6 om,
  ((HR3.out.only l4 om).only l5 om).only l6 om,
  (HR4.out.only l5 om).only l6 om,HR5.out.only l6 om,HR6.out,q1⟩
theorem qdi(k:Int)(w:World)(hk:1<=k/\k<=6):Calls prog 40 #[.int .i64 k] w (qnp k w):=by
 have hwf:(Lit.int .i64 k).wf=true:=by rcases qen hk with rfl|rfl|rfl|rfl|rfl|rfl<;>rfl
 refine(qkj k w hwf).mono fun e w' ⟨g1,g2,g3,g4,g5,g6,he,b1,b2,b3,b4,b5,b6,r1,r2,r3,r4,r5,r6,hO⟩=> ?_;rcases qen hk with rfl|rfl|rfl|rfl|rfl|rfl
 . exact⟨g1,he,b1,r1,hO⟩
 . exact⟨g2,he,b2,r2,hO⟩
 . exact⟨g3,he,b3,r3,hO⟩
 . exact⟨g4,he,b4,r4,hO⟩
 . exact⟨g5,he,b5,r5,hO⟩
 . exact⟨g6,he,b6,r6,hO⟩
def vf(k:Int)(c:Nat)(b:Int):Int:=
 if k=1/\c<=2 then b else if k=2/\c<=1 then b*256%4294967296 else if k=2/\c<=4 then b else if k=3/\c<=1 then b*256%4294967296 else if k=3/\c=3 then b
 else if k=6/\c=0 then b%256*256+b%256*65536 else 0
theorem zcl{x:Int}(hx:0<=x/\x<4294967296):bits .and .u32 x 255=x%256:=by
 have:=bits_mask .u32 32 dc (fun k h0 h1=>by rw[IntKind.wrap_u32'];omega) 8 om x hx.1 (by simpa using hx.2)
 simpa using this
theorem qhl{b:Int}(hb:0<=b/\b<4294967296):
 bits BinOp.or IntKind.u32 (bits BinOp.and IntKind.u32 b 255*256%4294967296) (bits BinOp.and IntKind.u32 b 255*65536%4294967296)=b%256*256+b%256*65536:=by
 rw[zcl hb];obtain⟨X,hX⟩:=Int.eq_ofNat_of_zero_le (show 0<=b%256 by omega)
 have hX':X<256:=by omega
 rw[hX,show(X:Int)*256%4294967296=((X*256:Nat):Int) by omega,show(X:Int)*65536%4294967296=((X*65536:Nat):Int) by omega,
  u32_or_nat _ _ om om,Nat.or_comm,nat_join 16 _ _ om om]
 omega
theorem qgs(k:Int)(c:Nat)(s:ByteArray)(b:Int)(w:World)(hk:1<=k/\k<=6)(hs:(qa8 k)[c]? =some (.string s))(hb:0<=b/\b<4294967296):
 Calls prog 42 #[.int .i64 k,.string s,.int .u32 b] w fun e w'=>e= .returned (.int .u32 (vf k c b))/\w=w':=by
 obtain⟨b1,b2⟩:=hb;rcases qen hk with rfl|rfl|rfl|rfl|rfl|rfl
 . clear hk;have hc:c<3:=(Array.getElem?_eq_some_iff.1 hs).1;rcases(show c=0\/c=1\/c=2 by omega)with rfl|rfl|rfl
   all_goals
    injection (Option.some.inj hs)with hs;subst hs;go_enter func42, ntmps42;go_wp2;go_ret
    first|exact⟨rfl,rfl⟩|(refine⟨yl ?_,rfl⟩;simp[vf];done)|(refine⟨yl ?_,rfl⟩;simp[vf];exact qhl ⟨b1,b2⟩)
 . clear hk;have hc:c<5:=(Array.getElem?_eq_some_iff.1 hs).1;rcases(show c=0\/c=1\/c=2\/c=3\/c=4 by omega)with rfl|rfl|rfl|rfl|rfl
   all_goals
    injection (Option.some.inj hs)with hs;subst hs;go_enter func42, ntmps42;go_wp2;go_ret
    first|exact⟨rfl,rfl⟩|(refine⟨yl ?_,rfl⟩;simp[vf];done)|(refine⟨yl ?_,rfl⟩;simp[vf];exact qhl ⟨b1,b2⟩)
 . clear hk;have hc:c<4:=(Array.getElem?_eq_some_iff.1 hs).1;rcases(show c=0\/c=1\/c=2\/c=3 by omega)with rfl|rfl|rfl|rfl
   all_goals
    injection (Option.some.inj hs)with hs;subst hs;go_enter func42, ntmps42;go_wp2;go_ret
    first|exact⟨rfl,rfl⟩|(refine⟨yl ?_,rfl⟩;simp[vf];done)|(refine⟨yl ?_,rfl⟩;simp[vf];exact qhl ⟨b1,b2⟩)
 . clear hk;have hc:c<2:=(Array.getElem?_eq_some_iff.1 hs).1;rcases(show c=0\/c=1 by omega)with rfl|rfl
   all_goals
    injection (Option.some.inj hs)with hs;subst hs;go_enter func42, ntmps42;go_wp2;go_ret
    first|exact⟨rfl,rfl⟩|(refine⟨yl ?_,rfl⟩;simp[vf];done)|(refine⟨yl ?_,rfl⟩;simp[vf];exact qhl ⟨b1,b2⟩)
 . clear hk;have hc:c<1:=(Array.getElem?_eq_some_iff.1 hs).1;rcases(show c=0 by omega)with rfl
   all_goals
    injection (Option.some.inj hs)with hs;subst hs;go_enter func42, ntmps42;go_wp2;go_ret
    first|exact⟨rfl,rfl⟩|(refine⟨yl ?_,rfl⟩;simp[vf];done)|(refine⟨yl ?_,rfl⟩;simp[vf];exact qhl ⟨b1,b2⟩)
 . clear hk;have hc:c<1:=(Array.getElem?_eq_some_iff.1 hs).1;rcases(show c=0 by omega)with rfl
   all_goals
    injection (Option.some.inj hs)with hs;subst hs;go_enter func42, ntmps42;go_wp2;go_ret
    first|exact⟨rfl,rfl⟩|(refine⟨yl ?_,rfl⟩;simp[vf];done)|(refine⟨yl ?_,rfl⟩;simp[vf];exact qhl ⟨b1,b2⟩)
theorem qyb:(prog.info? 22).map (fun i=>(i.zero,i.size,i.bytes))=some (some (.int .u32 0),1,4):=by kernel_rfl
def words(k:Int)(S c:Nat)(b:Int):List Int:=(List.range S).map fun j=>if j<c then vf k j b else 0
def cellsOf(l:List Int):Array Value:=(l.map (Value.int .u32)).toArray
theorem qdu(k:Int)(S c:Nat)(b:Int):(words k S c b).length=S:=by simp[words]
theorem qlt(k:Int)(S:Nat)(b:Int):words k S 0 b=List.replicate S 0:=by
 apply List.ext_getElem
 . simp[words]
 . intro i h1 h2;simp[words]
theorem qrz(k:Int)(S c:Nat)(b:Int)(h:c<S):(cellsOf (words k S c b))[c]? =some (.int .u32 0):=by
 simp[cellsOf,words,h]
theorem yo(k:Int)(S c:Nat)(b:Int):(cellsOf (words k S c b)).setIfInBounds c (.int .u32 (vf k c b))=cellsOf (words k S (c+1) b):=by
 apply Array.ext_getElem?;intro i;rw[Array.getElem?_setIfInBounds]
 by_cases hi:c=i
 . subst hi
   by_cases hS:c<S
   . simp[cellsOf,words,hS]
   . simp[cellsOf,words,hS]
 . simp only[hi,if_false];simp only[cellsOf,words,List.getElem?_toArray,List.getElem?_map];rcases Nat.lt_or_ge i S with h|h
   . rw[List.getElem?_range h];simp only[Option.map_some]
     by_cases h2:i<c
     . rw[if_pos h2,if_pos om]
     . rw[if_neg h2,if_neg om]
   . rw[List.getElem?_eq_none (by simpa using h)];rfl
theorem qbg(k:Int)(S:Nat)(b:Int):madeCells #[.int .u32 0] S=cellsOf (words k S 0 b):=by
 apply Array.ext';rw[toList_madeCells_one,qlt];simp[cellsOf]
def qnq(k b:Int)(S:Nat)(w:World)(e:Ending)(w':World):Prop:=
 ∃g,e= .returned (.tuple #[.slice (some ⟨g,0,none⟩) S S,.int .i64 0])/\w.heap.size<=g/\Row w' g 22 (cellsOf (words k S (qa8 k).size b))/\Only Nil w w'
theorem qpt(k n b:Int)(S:Nat)(w:World)(hk:1<=k/\k<=6)(hn:1<=n/\n<=64)(hS:xy n=S)(hb:0<=b/\b<4294967296):
 Calls prog 12 #[.int .i64 k,.int .i64 n,.int .u32 b] w (qnq k b S w):=by
 have hz:xy n=8+4*n:=if_pos hn
 have s1:12<=S:=by omega
 have s2:S<=300:=by omega
 have HS:=zh hS;have HB:=zh hb;have HK:=zh hk;have HN:=zh hn;clear hz hS hb hk hn;have hmk:=fun W=>run_make_row' (P:= prog) 46 22 (.int .u32 0) 4 underlying46 qyb rfl .i64 .i64 S om om W;have qT:∀(w:World) (a:Option Addr) (n c n' c':Nat),(binOp .eql 87 (.slice a n c) (.slice none n' c')).run prog w= .ok (.bool a.isNone) w:=fun w a n c n' c'=>Lib.run_eql_slice_nil w _ _ a n c n' c' underlying87;go_enter func12, ntmps12;go_wp2_with fail;refine(qdi k _ HK.out).mono ?_;intro e w1 hF;obtain⟨gn,rfl,hgn,hR,hO⟩:=hF;have HL:=zh (qk4 k HK.out);have HA:=zh (qwv k HK.out);have HWX:=zh (qgs k);generalize hLe:(qa8 k).size=L at *;have HLE:=zh hLe;have HR1:=zh hR;have HO1:=zh hO;have HG:=zh hgn;clear hLe hR hO hgn;go_wp2_with fail;refine(qo3 n _ HN.out).mono ?_;rintro e w2 ⟨rfl,hO⟩;have HO2:=zh ((HO1.out.trans hO).alloc (.cells #[.int .i64 n] 50));have HR2:=zh ((HR1.out.only hO id).alloc (.cells #[.int .i64 n] 50));clear hO;go_wp2_with fail;refine(qqy n _).mono ?_;rw[HS.out];rintro e w3 ⟨rfl,hO⟩;have HO3:=zh (HO2.out.trans hO);have HR3:=zh (HR2.out.only hO id);clear hO;go_wp2;have HM:Hid (Row (w3.alloc (.cells (madeCells #[.int .u32 0] S) 22)) w3.heap.size 22 (cellsOf (words k S 0 b))):=zh (by rw[←qbg];exact Row.new _ _ _);have HO4:=zh (HO3.out.alloc (.cells (madeCells #[.int .u32 0] S) 22));have HR4:=zh (HR3.out.alloc (.cells (madeCells #[.int .u32 0] S) 22));have l1:=HL.out.1;have l2:=HL.out.2;have HZ:=zh (show w.heap.size<=w3.heap.size/\gn<w3.heap.size from⟨HO3.out.size,HR3.out.lt⟩);generalize w3.heap.size=gw at *;clear hmk qT
 go_loopw [31] (fun i wr=>∃c:Nat,c<=L/\i= .int .i64 c/\Row wr gw 22 (cellsOf (words k S c b))/\Row wr gn 9 (qa8 k)/\Only Nil w wr) (fun i _=>L-(intOf i).toNat)
 case atStart=>exact⟨0,Nat.zero_le _,rfl,HM.out,HR4.out,HO4.out⟩
 case round=>
  obtain⟨c,hc,rfl,hrw,hrn,hor⟩:=hrel;have HRW:=zh hrw;have HRN:=zh hrn;have HOR:=zh hor;clear hrw hrn hor
  by_cases hlt:c<L
  . obtain⟨s,hs⟩:=HA.out c hlt
    have hcs:c<S:=by omega
    have c0:=HRN.out.cell_ hs;have c1:=HRW.out.cell_ (qrz k S c b hcs);have f1:=HRW.out.frozen c;have HSS:=zh hs;clear hs;go_wp2_with fail;refine(HWX.out c s b _ HK.out HSS.out HB.out).mono ?_;rintro e w' ⟨rfl,rfl⟩;generalize hwd:vf k c b=wd;have HWD:=zh hwd;clear hwd;go_wp2;have hfin:=HRW.out.set c (.int .u32 wd);rw[←HWD.out,yo]at hfin;refine⟨⟨c+1,om,by go_num,by rw[←HWD.out];exact hfin,HRN.out.far (by have:=HZ.out.2;simp;omega) _,HOR.out.setCell (p:=⟨gw,c,none⟩) (.inl HZ.out.1) _⟩,by simp[intOf];omega⟩
  . have hkn:c=L:=by omega
    have HC:=zh hkn;clear hkn;go_wp2
    go_ret2
    refine⟨gw,rfl,HZ.out.1,?_,HOR.out⟩;rw[HLE.out,←HC.out];exact HRW.out
theorem qmm(k n b:Int)(w:World)(hk:1<=k/\k<=6)(hn:¬(1<=n/\n<=64)):
 Calls prog 12 #[.int .i64 k,.int .i64 n,.int .u32 b] w fun e w'=>e= .returned (.tuple #[.slice none 0 0,.int .i64 2])/\Only Nil w w':=by
 have qT:∀(w:World) (a:Option Addr) (n c n' c':Nat),(binOp .eql 87 (.slice a n c) (.slice none n' c')).run prog w= .ok (.bool a.isNone) w:=fun w a n c n' c'=>Lib.run_eql_slice_nil w _ _ a n c n' c' underlying87;have HK:=zh hk;have HN:=zh hn;clear hk hn;go_enter func12, ntmps12;go_wp2_with fail;refine(qdi k _ HK.out).mono ?_;intro e w1 hF;obtain⟨gn,rfl,hgn,hR,hO⟩:=hF;generalize (qa8 k).size=L at *;have HO1:=zh hO;clear hR hO hgn;go_wp2_with fail;refine(zaq n _ HN.out).mono ?_;rintro e w2 ⟨rfl,hO⟩;have HO2:=zh ((HO1.out.trans hO).alloc (.cells #[.int .i64 0] 50));clear hO;go_wp2
 go_ret2
 exact⟨rfl,HO2.out⟩
theorem Own.row_{w:World}{g base:Nat}{xs:List Int}(hR:Row w g 22 (cellsOf xs))(hm:xs.length<=1024)(hb:base<=g):Own w base (some ⟨g,0,none⟩) xs.length xs:=
 ⟨⟨by simp,.inr ⟨g,xs.length,cellsOf xs,rfl,hb,hR,Nat.le_refl _,by simp[maxLen];omega,by simp[cellsOf],by
   rw[List.take_of_length_le (by simp[cellsOf])]
   simp[cellsOf]⟩⟩,(by intro h;cases h),fun i ⟨a,ha,hi⟩=>by cases ha;exact hi▸hb⟩
def zbx(w:World)(xs:List Int)(e:Ending)(w':World):Prop:=∃b A' c',e= .returned (.tuple #[.pointer (some ⟨b,0,none⟩),.int .i64 0])/\w.heap.size<=b/\(∀i,At A' i->w.heap.size<=i)/\Mem w' b A' c' xs/\Only Nil w w'
theorem qnw(A:Option Addr)(n cap:Nat)(xs:List Int)(w:World)(hm:n<=1024)(h:Held w A n cap xs):
 Calls prog 14 #[.slice A n cap] w (zbx w xs):=by
 have hl:=h.1
 have hm':(n:Int)<=1024:=by omega
 have HH:=zh h;have HL:=zh hl;clear h hl;go_enter func14, ntmps14;go_wp2_with (go_at_call 44;refine(qge A n cap xs _ om HH.out).mono ?_;rintro e w1 ⟨A',c',rfl,ho,hO⟩);have HO:=zh ho;have HW:=zh hO;clear ho hO
 go_ret2
 refine⟨w1.heap.size,A',c',rfl,HW.out.size,HO.out.base,⟨Row.new w1 _ _,?_,?_⟩,HW.out.alloc _⟩
 . exact⟨jg (qx HO.out.own ((Only.refl Nil w1).alloc _) (fun _ _ h=>h)) (Nat.zero_le _),HO.out.nil,fun _ _=>Nat.zero_le _⟩
 . rw[HL.out];exact hm
def zaa(k mode task op:Int)(xs:List Int):LS:=⟨k,mode,task,op,0,0,0,0,wk0,0,zn,[],xs⟩
end Go.Proofs.YtgebffjejifidaaGreat
