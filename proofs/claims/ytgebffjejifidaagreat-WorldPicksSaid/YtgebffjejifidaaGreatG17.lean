import Derived.StillTailTactics
import Derived.Deep.Cut
import Derived.Deep.QuietTactic
import Derived.BigQuiet
import Derived.Test.YtgebffjejifidaaGreatChecked
import Derived.Test.YtgebffjejifidaaGreatG16
import Derived.Test.YtgebffjejifidaaGreatG14
import Derived.Test.YtgebffjejifidaaGreatG15
import Derived.Test.YtgebffjejifidaaGreatG11
import Derived.Test.YtgebffjejifidaaGreatG13
import Derived.Test.YtgebffjejifidaaGreatG2
import Derived.Test.YtgebffjejifidaaGreatG9
import Derived.Test.YtgebffjejifidaaGreatG10
import Derived.Test.YtgebffjejifidaaGreatG6
import Derived.Test.YtgebffjejifidaaGreatG1
import Derived.Test.YtgebffjejifidaaGreatG12
set_option linter.unusedVariables false
set_option linter.unusedSimpArgs false
set_option maxHeartbeats 4000000
set_option maxRecDepth 100000
namespace Go.Proofs.YtgebffjejifidaaGreat
open Go.RowKit Tryz
theorem qch(B base:Nat)(A:Option Addr)(l cp:Nat)(nv:Value)(r:LS)(w:World)(h:RunR w B base A l cp nv r):Calls prog 270 #[Value.pointer (some ⟨B,0,none⟩)] w fun e w'=>e= .returned (.int .u32 r.me)/\w=w':=by
 have c3:w.cell? ⟨B,3,none⟩=some (.int .i64 r.task):=h.row.cell_ (i:=3) rfl;have HM:=zh (show r.me=(r.task+1)%4294967296 from rfl);clear h;go_enter func270, ntmps270;go_wp2;go_ret;exact⟨yl (by rw[HM.out];omega),rfl⟩
theorem kh(B base:Nat)(A:Option Addr)(l cp:Nat)(nv:Value)(r:LS)(i:Int)(w:World)(h:RunR w B base A l cp nv r):Calls prog 267 #[Value.pointer (some ⟨B,0,none⟩),.int .i64 i] w fun e w'=>e= .returned (.int .i64 (nc r.n i))/\w=w':=by
 have c1:w.cell? ⟨B,1,none⟩=some (.int .i64 r.n):=h.row.cell_ (i:=1) rfl;clear h;go_enter func267, ntmps267;go_wp2_with fail;refine(zq r.n 0 i _ (.inl rfl)).mono ?_;rintro e w1 ⟨rfl,rfl⟩;have HC:=zh (show nc r.n i=yc r.n 0 i from rfl);go_wp2;go_ret;exact⟨yl (by rw[HC.out]),rfl⟩
theorem qaz(B base:Nat)(A:Option Addr)(l cp:Nat)(nv:Value)(r:LS)(i:Int)(w:World)(h:RunR w B base A l cp nv r):Calls prog 268 #[Value.pointer (some ⟨B,0,none⟩),.int .i64 i] w fun e w'=>e= .returned (.int .i64 (bc r.n i))/\w=w':=by
 have c1:w.cell? ⟨B,1,none⟩=some (.int .i64 r.n):=h.row.cell_ (i:=1) rfl;clear h;go_enter func268, ntmps268;go_wp2_with fail;refine(zq r.n 1 i _ (.inr (.inl rfl))).mono ?_;rintro e w1 ⟨rfl,rfl⟩;have HC:=zh (show bc r.n i=yc r.n 1 i from rfl);go_wp2;go_ret;exact⟨yl (by rw[HC.out]),rfl⟩
theorem qt2{v:Int}(hv:0<=v/\v<4294967296):uIs 0 4294967295 0 v=isZ v:=by
 show(bits .and .u32 v 4294967295==0)=(v==0);rw[qjd hv]
theorem qry{v:Int}(hv:0<=v/\v<4294967296):uIs 1 4294967295 0 v=isN v:=by
 show(bits .and .u32 v 4294967295 !=0)=(v !=0);rw[qjd hv]
theorem qb8{r:LS}(hx:Words r.xs)(c:Int):r.stepR c (uIs 0 4294967295 0)=r.stepR c isZ:=xv (qt2 (jx hx c))
theorem qhj{r:LS}(hx:Words r.xs)(c:Int):r.wait c (uIs 0 4294967295 0)=r.wait c isZ:=by unfold LS.wait;rw[qb8 hx c]
theorem xw{r:LS}(hx:Words r.xs)(c:Int):r.stepR c (uIs 1 4294967295 0)=r.stepR c isN:=xv (qry (jx hx c))
theorem qcc{r:LS}(hx:Words r.xs)(c:Int):r.wait c (uIs 1 4294967295 0)=r.wait c isN:=by unfold LS.wait;rw[xw hx c]
theorem qs1(B base:Nat)(A:Option Addr)(l cp:Nat)(nv:Value)(r:LS)(tail cl:Int)(w:World)(h:RunR w B base A l cp nv r)(hl:r.ns.length<=900)(hx:Words r.xs)(ha:0<=r.a/\r.a<4294967296)(hln:r.line=0):
 Calls prog 197 #[Value.pointer (some ⟨B,0,none⟩),.int .i64 tail,.int .i64 cl] w (qg B base A l cp w (.bool false) ((r.doA 2 (nc r.n r.task) 0 0).go 1)):=by
 have HX:=zh hx;have HL:=zh hl;have HA:=zh ha;have HP:=zh h;have HLN:=zh hln
 have c5:w.cell? ⟨B,5,none⟩=some (.int .i64 (0)):=by rw[←hln];exact h.row.cell_ (i:=5) rfl
 have c3:w.cell? ⟨B,3,none⟩=some (.int .i64 r.task):=h.row.cell_ (i:=3) rfl;have c6:w.cell? ⟨B,6,none⟩=some (.int .u32 r.a):=h.row.cell_ (i:=6) rfl;have f6:w.frozen? ⟨B,6,none⟩=false:=h.row.frozen 6;obtain⟨ha0,ha1⟩:=ha;clear h hl hx hln;go_enter func197, ntmps197;go_wp2_with fail;refine(kh B base A l cp nv r r.task _ HP.out).mono ?_;rintro e w1 ⟨rfl,rfl⟩;go_wp2_with fail;clear c3 c5 c6 f6;have HO:=zh (Only.refl (qd B A) w);refine(vn B base A l cp nv r (nc r.n r.task) 0 _ HP.out).mono ?_;rintro e w2 ⟨rfl,hO,nv2,hP⟩;have HP2:=zh hP;have HO2:=zh (HO.out.trans hO);clear hO hP;have l5:w2.cell? ⟨B,5,none⟩=some (.int .i64 (r.line)):=HP2.out.row.cell_ (i:=5) rfl;have g5:w2.frozen? ⟨B,5,none⟩=false:=HP2.out.row.frozen 5;go_wp2;clear l5 g5;have HPZ:=zh (HP2.out.setLine (1));have HOZ:=zh (HO2.out.setCell (p:=⟨B,5,none⟩) (.inr (.inl rfl)) (.int .i64 (1)));go_ret;exact⟨rfl,HOZ.out,nv2,HPZ.out⟩
theorem qsm(B base:Nat)(A:Option Addr)(l cp:Nat)(nv:Value)(r:LS)(tail cl:Int)(w:World)(h:RunR w B base A l cp nv r)(hl:r.ns.length<=900)(hx:Words r.xs)(ha:0<=r.a/\r.a<4294967296)(hln:r.line=1):
 Calls prog 197 #[Value.pointer (some ⟨B,0,none⟩),.int .i64 tail,.int .i64 cl] w (qg B base A l cp w (.bool false) ((r.doA 2 (bc r.n r.task) 1 0).go 2)):=by
 have HX:=zh hx;have HL:=zh hl;have HA:=zh ha;have HP:=zh h;have HLN:=zh hln
 have c5:w.cell? ⟨B,5,none⟩=some (.int .i64 (1)):=by rw[←hln];exact h.row.cell_ (i:=5) rfl
 have c3:w.cell? ⟨B,3,none⟩=some (.int .i64 r.task):=h.row.cell_ (i:=3) rfl;have c6:w.cell? ⟨B,6,none⟩=some (.int .u32 r.a):=h.row.cell_ (i:=6) rfl;have f6:w.frozen? ⟨B,6,none⟩=false:=h.row.frozen 6;obtain⟨ha0,ha1⟩:=ha;clear h hl hx hln;go_enter func197, ntmps197;go_wp2_with fail;refine(qaz B base A l cp nv r r.task _ HP.out).mono ?_;rintro e w1 ⟨rfl,rfl⟩;go_wp2_with fail;clear c3 c5 c6 f6;have HO:=zh (Only.refl (qd B A) w);refine(vn B base A l cp nv r (bc r.n r.task) 1 _ HP.out).mono ?_;rintro e w2 ⟨rfl,hO,nv2,hP⟩;have HP2:=zh hP;have HO2:=zh (HO.out.trans hO);clear hO hP;have l5:w2.cell? ⟨B,5,none⟩=some (.int .i64 (r.line)):=HP2.out.row.cell_ (i:=5) rfl;have g5:w2.frozen? ⟨B,5,none⟩=false:=HP2.out.row.frozen 5;go_wp2;clear l5 g5;have HPZ:=zh (HP2.out.setLine (2));have HOZ:=zh (HO2.out.setCell (p:=⟨B,5,none⟩) (.inr (.inl rfl)) (.int .i64 (2)));go_ret;exact⟨rfl,HOZ.out,nv2,HPZ.out⟩
theorem qor(B base:Nat)(A:Option Addr)(l cp:Nat)(nv:Value)(r:LS)(tail cl:Int)(w:World)(h:RunR w B base A l cp nv r)(hl:r.ns.length<=900)(hx:Words r.xs)(ha:0<=r.a/\r.a<4294967296)(hln:r.line=2)(hz:qa r.xs tail=0):
 Calls prog 197 #[Value.pointer (some ⟨B,0,none⟩),.int .i64 tail,.int .i64 cl] w (qg B base A l cp w (.bool true) (r.swapIn tail cl)):=by
 have HZ:=zh hz;clear hz;have HX:=zh hx;have HL:=zh hl;have HA:=zh ha;have HP:=zh h;have HLN:=zh hln
 have c5:w.cell? ⟨B,5,none⟩=some (.int .i64 (2)):=by rw[←hln];exact h.row.cell_ (i:=5) rfl
 have c3:w.cell? ⟨B,3,none⟩=some (.int .i64 r.task):=h.row.cell_ (i:=3) rfl;have c6:w.cell? ⟨B,6,none⟩=some (.int .u32 r.a):=h.row.cell_ (i:=6) rfl;have f6:w.frozen? ⟨B,6,none⟩=false:=h.row.frozen 6;obtain⟨ha0,ha1⟩:=ha;clear h hl hx hln;go_enter func197, ntmps197;go_wp2_with fail;refine(qch B base A l cp nv r _ HP.out).mono ?_;rintro e w1 ⟨rfl,rfl⟩;go_wp2_with fail;clear c3 c5 c6 f6 ha0 ha1;have HO:=zh (Only.refl (qd B A) w);refine(qh8 B base A l cp nv r tail r.me _ HP.out).mono ?_;rintro e w2 ⟨rfl,hO,nv2,hP⟩;have HP2:=zh hP;have HO2:=zh (HO.out.trans hO);clear hO hP;have c6:w2.cell? ⟨B,6,none⟩=some (.int .u32 r.a):=HP2.out.row.cell_ (i:=6) rfl;have f6:w2.frozen? ⟨B,6,none⟩=false:=HP2.out.row.frozen 6
 go_upto_region 12 with(fail)
 have HP3:=zh (HP2.out.setA (qa r.xs tail));have HO3:=zh (HO2.out.setCell (p:=⟨B,6,none⟩) (.inr (.inl rfl)) (.int .u32 (qa r.xs tail)));clear c6 f6 HP2 HO2;generalize w2.setCell ⟨B,6,none⟩ (.int .u32 (qa r.xs tail))=w3 at *;go_wp2_with fail;refine(qo B base A l cp nv2 _ 2 cl _ HP3.out (show(r.doA 4 tail r.me 0).ns.length<=1000 from Nat.le_trans HL.out dc)).mono ?_;rintro e w4 ⟨rfl,hO,nv4,hP⟩;have HP4:Hid (RunR w4 B base A l cp nv4 (r.swapIn tail cl)):=zh hP;have HO4:=zh (HO3.out.trans hO);clear hO hP HP3 HO3;have c6:w4.cell? ⟨B,6,none⟩=some (.int .u32 (qa r.xs tail)):=HP4.out.row.cell_ (i:=6) rfl;rw[HZ.out]at c6;go_wp2;go_ret;exact⟨rfl,HO4.out,nv4,HP4.out⟩
theorem qog(B base:Nat)(A:Option Addr)(l cp:Nat)(nv:Value)(r:LS)(tail cl:Int)(w:World)(h:RunR w B base A l cp nv r)(hl:r.ns.length<=900)(hx:Words r.xs)(ha:0<=r.a/\r.a<4294967296)(hln:r.line=2)(hz:qa r.xs tail≠0):
 Calls prog 197 #[Value.pointer (some ⟨B,0,none⟩),.int .i64 tail,.int .i64 cl] w (qg B base A l cp w (.bool false) ((r.swapIn tail cl).go 3)):=by
 have HZ:=zh hz;clear hz;have HX:=zh hx;have HL:=zh hl;have HA:=zh ha;have HP:=zh h;have HLN:=zh hln
 have c5:w.cell? ⟨B,5,none⟩=some (.int .i64 (2)):=by rw[←hln];exact h.row.cell_ (i:=5) rfl
 have c3:w.cell? ⟨B,3,none⟩=some (.int .i64 r.task):=h.row.cell_ (i:=3) rfl;have c6:w.cell? ⟨B,6,none⟩=some (.int .u32 r.a):=h.row.cell_ (i:=6) rfl;have f6:w.frozen? ⟨B,6,none⟩=false:=h.row.frozen 6;obtain⟨ha0,ha1⟩:=ha;clear h hl hx hln;go_enter func197, ntmps197;go_wp2_with fail;refine(qch B base A l cp nv r _ HP.out).mono ?_;rintro e w1 ⟨rfl,rfl⟩;go_wp2_with fail;clear c3 c5 c6 f6 ha0 ha1;have HO:=zh (Only.refl (qd B A) w);refine(qh8 B base A l cp nv r tail r.me _ HP.out).mono ?_;rintro e w2 ⟨rfl,hO,nv2,hP⟩;have HP2:=zh hP;have HO2:=zh (HO.out.trans hO);clear hO hP;have c6:w2.cell? ⟨B,6,none⟩=some (.int .u32 r.a):=HP2.out.row.cell_ (i:=6) rfl;have f6:w2.frozen? ⟨B,6,none⟩=false:=HP2.out.row.frozen 6
 go_upto_region 12 with(fail)
 have HP3:=zh (HP2.out.setA (qa r.xs tail));have HO3:=zh (HO2.out.setCell (p:=⟨B,6,none⟩) (.inr (.inl rfl)) (.int .u32 (qa r.xs tail)));clear c6 f6 HP2 HO2;generalize w2.setCell ⟨B,6,none⟩ (.int .u32 (qa r.xs tail))=w3 at *;go_wp2_with fail;refine(qo B base A l cp nv2 _ 2 cl _ HP3.out (show(r.doA 4 tail r.me 0).ns.length<=1000 from Nat.le_trans HL.out dc)).mono ?_;rintro e w4 ⟨rfl,hO,nv4,hP⟩;have HP4:Hid (RunR w4 B base A l cp nv4 (r.swapIn tail cl)):=zh hP;have HO4:=zh (HO3.out.trans hO);clear hO hP HP3 HO3;have c6:w4.cell? ⟨B,6,none⟩=some (.int .u32 (qa r.xs tail)):=HP4.out.row.cell_ (i:=6) rfl;have hb:(qa r.xs tail==0)=false:=beq_eq_false_iff_ne.2 HZ.out;have l5:w4.cell? ⟨B,5,none⟩=some (.int .i64 (r.line)):=HP4.out.row.cell_ (i:=5) rfl;have g5:w4.frozen? ⟨B,5,none⟩=false:=HP4.out.row.frozen 5;generalize qa r.xs tail=x at *;go_wp2;clear l5 g5 c6 hb;have HPZ:=zh (HP4.out.setLine 3);have HOZ:=zh (HO4.out.setCell (p:=⟨B,5,none⟩) (.inr (.inl rfl)) (.int .i64 3));go_ret;exact⟨rfl,HOZ.out,nv4,HPZ.out⟩
theorem quj(B base:Nat)(A:Option Addr)(l cp:Nat)(nv:Value)(r:LS)(tail cl:Int)(w:World)(h:RunR w B base A l cp nv r)(hl:r.ns.length<=900)(hx:Words r.xs)(ha:0<=r.a/\r.a<4294967296)(hln:r.line=3):
 Calls prog 197 #[Value.pointer (some ⟨B,0,none⟩),.int .i64 tail,.int .i64 cl] w (qg B base A l cp w (.bool false) r.link):=by
 have HX:=zh hx;have HL:=zh hl;have HA:=zh ha;have HP:=zh h;have HLN:=zh hln
 have c5:w.cell? ⟨B,5,none⟩=some (.int .i64 (3)):=by rw[←hln];exact h.row.cell_ (i:=5) rfl
 have c3:w.cell? ⟨B,3,none⟩=some (.int .i64 r.task):=h.row.cell_ (i:=3) rfl;have c6:w.cell? ⟨B,6,none⟩=some (.int .u32 r.a):=h.row.cell_ (i:=6) rfl;have f6:w.frozen? ⟨B,6,none⟩=false:=h.row.frozen 6;obtain⟨ha0,ha1⟩:=ha;clear h hl hx hln;go_enter func197, ntmps197;go_wp2_with fail;refine(kh B base A l cp nv r (r.a-1) _ HP.out).mono ?_;rintro e w1 ⟨rfl,rfl⟩;go_wp2_with fail;refine(qch B base A l cp nv r _ HP.out).mono ?_;rintro e w1 ⟨rfl,rfl⟩;go_wp2_with fail;clear c3 c5 c6 f6 ha0 ha1;have HO:=zh (Only.refl (qd B A) w);refine(vn B base A l cp nv r (nc r.n (r.a-1)) r.me _ HP.out).mono ?_;rintro e w2 ⟨rfl,hO,nv2,hP⟩;have HP2:=zh hP;have HO2:=zh (HO.out.trans hO);clear hO hP;go_wp2_with fail;refine(vq B base A l cp nv2 _ (nc r.n (r.a-1)) _ HP2.out).mono ?_;rintro e w3 ⟨rfl,hO,nv3,hP⟩;have HP3:=zh hP;have HO3:=zh (HO2.out.trans hO);clear hO hP;have l5:w3.cell? ⟨B,5,none⟩=some (.int .i64 (r.line)):=HP3.out.row.cell_ (i:=5) rfl;have g5:w3.frozen? ⟨B,5,none⟩=false:=HP3.out.row.frozen 5;go_wp2;clear l5 g5;have HPZ:=zh (HP3.out.setLine (4));have HOZ:=zh (HO3.out.setCell (p:=⟨B,5,none⟩) (.inr (.inl rfl)) (.int .i64 (4)));go_ret;exact⟨rfl,HOZ.out,nv3,HPZ.out⟩
theorem quf(B base:Nat)(A:Option Addr)(l cp:Nat)(nv:Value)(r:LS)(tail cl:Int)(w:World)(h:RunR w B base A l cp nv r)(hl:r.ns.length<=900)(hx:Words r.xs)(ha:0<=r.a/\r.a<4294967296)(hln:r.line=4):
 Calls prog 197 #[Value.pointer (some ⟨B,0,none⟩),.int .i64 tail,.int .i64 cl] w (qg B base A l cp w (.bool (r.stepR (bc r.n r.task) isZ).done) (r.wait (bc r.n r.task) isZ)):=by
 have HX:=zh hx;have HL:=zh hl;have HA:=zh ha;have HP:=zh h;have HLN:=zh hln
 have c5:w.cell? ⟨B,5,none⟩=some (.int .i64 (4)):=by rw[←hln];exact h.row.cell_ (i:=5) rfl
 have c3:w.cell? ⟨B,3,none⟩=some (.int .i64 r.task):=h.row.cell_ (i:=3) rfl;have c6:w.cell? ⟨B,6,none⟩=some (.int .u32 r.a):=h.row.cell_ (i:=6) rfl;have f6:w.frozen? ⟨B,6,none⟩=false:=h.row.frozen 6;obtain⟨ha0,ha1⟩:=ha;clear h hl hx hln;go_enter func197, ntmps197;go_wp2_with fail;refine(qaz B base A l cp nv r r.task _ HP.out).mono ?_;rintro e w1 ⟨rfl,rfl⟩;go_wp2_with fail;clear c3 c5 c6 f6 ha0 ha1;have HO:=zh (Only.refl (qd B A) w);refine(ke B base A l cp nv r (bc r.n r.task) 0 4294967295 0 _ HP.out HX.out).mono ?_;rw[qb8 HX.out,qhj HX.out];generalize (r.stepR (bc r.n r.task) isZ).seen=sn at *;generalize (r.stepR (bc r.n r.task) isZ).done=dn at *;rintro e w2 ⟨rfl,hO,nv2,hP⟩;have HP2:=zh hP;have HO2:=zh (HO.out.trans hO);clear hO hP;go_wp2;go_ret;exact⟨rfl,HO2.out,nv2,HP2.out⟩
theorem qpc(B base:Nat)(A:Option Addr)(l cp:Nat)(nv:Value)(r:LS)(tail cl:Int)(w:World)(h:RunR w B base A l cp nv r)(hl:r.ns.length<=900)(hx:Words r.xs)(ha:0<=r.a/\r.a<4294967296)(ln:Int)(hln:r.line=ln)(n0:ln≠0)(n1:ln≠1)(n2:ln≠2)(n3:ln≠3)(n4:ln≠4):
 Calls prog 197 #[Value.pointer (some ⟨B,0,none⟩),.int .i64 tail,.int .i64 cl] w (qg B base A l cp w (.bool false) r):=by
 have b0:(ln==0)=false:=beq_eq_false_iff_ne.2 n0;have b1:(ln==1)=false:=beq_eq_false_iff_ne.2 n1;have b2:(ln==2)=false:=beq_eq_false_iff_ne.2 n2;have b3:(ln==3)=false:=beq_eq_false_iff_ne.2 n3;have b4:(ln==4)=false:=beq_eq_false_iff_ne.2 n4;clear n0 n1 n2 n3 n4;have HX:=zh hx;have HL:=zh hl;have HA:=zh ha;have HP:=zh h;have HLN:=zh hln
 have c5:w.cell? ⟨B,5,none⟩=some (.int .i64 (ln)):=by rw[←hln];exact h.row.cell_ (i:=5) rfl
 have c3:w.cell? ⟨B,3,none⟩=some (.int .i64 r.task):=h.row.cell_ (i:=3) rfl;have c6:w.cell? ⟨B,6,none⟩=some (.int .u32 r.a):=h.row.cell_ (i:=6) rfl;have f6:w.frozen? ⟨B,6,none⟩=false:=h.row.frozen 6;obtain⟨ha0,ha1⟩:=ha;clear h hl hx hln;go_enter func197, ntmps197;go_wp2;go_ret;exact⟨rfl,Only.refl _ _,nv,HP.out⟩
theorem qd2(B base:Nat)(A:Option Addr)(l cp:Nat)(nv:Value)(r:LS)(tail cl:Int)(w:World)(h:RunR w B base A l cp nv r)(hl:r.ns.length<=900)(hx:Words r.xs)(ha:0<=r.a/\r.a<4294967296):
 Calls prog 197 #[Value.pointer (some ⟨B,0,none⟩),.int .i64 tail,.int .i64 cl] w (qg B base A l cp w (.bool (r.mxEnter tail cl).2) (r.mxEnter tail cl).1):=by
 by_cases l0:r.line=0
 . rw[show r.mxEnter tail cl=_ by unfold LS.mxEnter;rw[if_pos l0]];exact qs1 B base A l cp nv r tail cl w h hl hx ha l0
 by_cases l1:r.line=1
 . rw[show r.mxEnter tail cl=_ by unfold LS.mxEnter;rw[if_neg l0,if_pos l1]];exact qsm B base A l cp nv r tail cl w h hl hx ha l1
 by_cases l2:r.line=2
 . by_cases hz:qa r.xs tail=0
   . rw[show r.mxEnter tail cl=_ by unfold LS.mxEnter;rw[if_neg l0,if_neg l1,if_pos l2,if_pos hz]];exact qor B base A l cp nv r tail cl w h hl hx ha l2 hz
   . rw[show r.mxEnter tail cl=_ by unfold LS.mxEnter;rw[if_neg l0,if_neg l1,if_pos l2,if_neg hz]];exact qog B base A l cp nv r tail cl w h hl hx ha l2 hz
 by_cases l3:r.line=3
 . rw[show r.mxEnter tail cl=_ by unfold LS.mxEnter;rw[if_neg l0,if_neg l1,if_neg l2,if_pos l3]];exact quj B base A l cp nv r tail cl w h hl hx ha l3
 by_cases l4:r.line=4
 . rw[show r.mxEnter tail cl=_ by unfold LS.mxEnter;rw[if_neg l0,if_neg l1,if_neg l2,if_neg l3,if_pos l4]];exact quf B base A l cp nv r tail cl w h hl hx ha l4
 . rw[show r.mxEnter tail cl=_ by unfold LS.mxEnter;rw[if_neg l0,if_neg l1,if_neg l2,if_neg l3,if_neg l4]];exact qpc B base A l cp nv r tail cl w h hl hx ha _ rfl l0 l1 l2 l3 l4
theorem qfd(B base:Nat)(A:Option Addr)(l cp:Nat)(nv:Value)(r:LS)(V:Value)(ls:List Int)(w:World)(h:RunR w B base A l cp nv r)(hw:Whats B A w V ls)(hl:r.ns.length+ls.length<=1000):
 Calls prog 271 #[Value.pointer (some ⟨B,0,none⟩),V] w (qg B base A l cp w (.tuple #[]) (r.notes ls)):=by
 obtain⟨Z,c,rfl,hz⟩:=hw;generalize hm:ls.length=m at *;have HM:=zh hm;have HZ:=zh hz;have HL:=zh hl;have H0:Hid (Only (qd B A) w w/\∃nv,RunR w B base A l cp nv (r.notes (ls.take 0))):=zh ⟨Only.refl _ _,nv,h⟩;clear h hz hl hm;go_enter func271, ntmps271;go_wp2
 go_loopw [4] (fun iv wr=>∃k:Nat,k<=m/\iv= .int .i64 k/\Hid (Only (qd B A) w wr/\∃nv,RunR wr B base A l cp nv (r.notes (ls.take k)))) (fun iv _=>m-(intOf iv).toNat)
 case atStart=>exact⟨0,Nat.zero_le _,rfl,H0⟩
 case round=>
  obtain⟨k,hk,rfl,HC⟩:=hrel;clear H0
  have hm9:m<=1000:=by have:=HL.out;omega
  by_cases hlt:k<m
  . obtain⟨x,hx⟩:∃x,ls[k]? =some x:=⟨_,List.getElem?_eq_getElem (by rw[HM.out];exact hlt)⟩;obtain⟨hO,nv1,hP⟩:=HC.out;obtain⟨b,o,rfl,hc⟩:=HZ.out _ hO k x hx;have HP:=zh hP;have HO:=zh hO;have HN:=zh (qbc (r:=r) hx);have HNL:=zh (show(r.notes (ls.take k)).ns.length<=1000 by rw[qgt,List.length_take];have:=HL.out;omega);clear HC hO hP hx;go_wp2_with fail;clear hc;refine(qo B base A l cp nv1 _ x 0 _ HP.out HNL.out).mono ?_;rintro e w2 ⟨rfl,hO,nv2,hP⟩;have HC2:Hid (Only (qd B A) w w2/\∃nv,RunR w2 B base A l cp nv (r.notes (ls.take (k+1)))):=zh ⟨HO.out.trans hO,nv2,by rw[HN.out];exact hP⟩;clear hO hP HP HO;go_wp2
    go_roundw
    case rel=>exact⟨k+1,om,by go_num,HC2⟩
    case measure=>simp[intOf];omega
  . obtain rfl:k=m:=by omega
    have HE:Hid (Only (qd B A) w wr/\∃nv,RunR wr B base A l cp nv (r.notes ls)):=zh (by rw[show ls=ls.take k by rw[←HM.out,List.take_length]];exact HC.out);clear HC;go_wp2;go_returns;exact⟨rfl,HE.out.1,HE.out.2⟩
theorem qw3(B base:Nat)(A:Option Addr)(l cp:Nat)(nv:Value)(r:LS)(tail a:Int)(w:World)(h:RunR w B base A l cp nv r)(hl:r.ns.length<=900)(hx:Words r.xs)(ha:0<=r.a/\r.a<4294967296)(V:Value)(ls:List Int)(hw:Whats B A w V ls)(hm:ls.length<=90)(hr0: -1000<=a)(hr1:a<=1000)(hln:r.line=a)(hz:qa r.xs (nc r.n r.task)=0):
 Calls prog 198 #[Value.pointer (some ⟨B,0,none⟩),.int .i64 tail,.int .i64 a,V] w (qg B base A l cp w (.bool false) (r.peek.go (a+1))):=by
 have HZ:=zh hz;clear hz;have HW:=zh hw;have HM:=zh hm;have e1:(a+1==a)=false:=beq_eq_false_iff_ne.2 om;have e2:(a+2==a)=false:=beq_eq_false_iff_ne.2 om;have e3:(a+2==a+1)=false:=beq_eq_false_iff_ne.2 om;have e4:(a+3==a)=false:=beq_eq_false_iff_ne.2 om;have e5:(a+3==a+1)=false:=beq_eq_false_iff_ne.2 om;have e6:(a+3==a+2)=false:=beq_eq_false_iff_ne.2 om;clear hw hm;have HX:=zh hx;have HL:=zh hl;have HA:=zh ha;have HP:=zh h;have HLN:=zh hln
 have c5:w.cell? ⟨B,5,none⟩=some (.int .i64 (a)):=by rw[←hln];exact h.row.cell_ (i:=5) rfl
 have c3:w.cell? ⟨B,3,none⟩=some (.int .i64 r.task):=h.row.cell_ (i:=3) rfl;have c6:w.cell? ⟨B,6,none⟩=some (.int .u32 r.a):=h.row.cell_ (i:=6) rfl;have f6:w.frozen? ⟨B,6,none⟩=false:=h.row.frozen 6;obtain⟨ha0,ha1⟩:=ha;clear h hl hx hln;go_enter func198, ntmps198;go_wp2_with fail;refine(kh B base A l cp nv r r.task _ HP.out).mono ?_;rintro e w1 ⟨rfl,rfl⟩;go_wp2_with fail;clear c3 c5 c6 f6 ha0 ha1;have HO:=zh (Only.refl (qd B A) w);refine(kl B base A l cp nv r (nc r.n r.task) _ HP.out).mono ?_;rintro e w2 ⟨rfl,hO,nv2,hP⟩;have HP2:=zh hP;have HO2:=zh (HO.out.trans hO);clear hO hP;have c6:w2.cell? ⟨B,6,none⟩=some (.int .u32 r.a):=HP2.out.row.cell_ (i:=6) rfl;have f6:w2.frozen? ⟨B,6,none⟩=false:=HP2.out.row.frozen 6
 go_upto_region 4 with(fail)
 have HP3:Hid (RunR (w2.setCell ⟨B,6,none⟩ (.int .u32 (qa r.xs (nc r.n r.task)))) B base A l cp nv2 r.peek):=zh (HP2.out.setA (qa r.xs (nc r.n r.task)));have HO3:=zh (HO2.out.setCell (p:=⟨B,6,none⟩) (.inr (.inl rfl)) (.int .u32 (qa r.xs (nc r.n r.task))));clear c6 f6 HP2 HO2;generalize w2.setCell ⟨B,6,none⟩ (.int .u32 (qa r.xs (nc r.n r.task)))=w3 at *;have l5:w3.cell? ⟨B,5,none⟩=some (.int .i64 (r.line)):=HP3.out.row.cell_ (i:=5) rfl;have g5:w3.frozen? ⟨B,5,none⟩=false:=HP3.out.row.frozen 5
 go_upto_region 5 with(fail)
 have HP4:=zh (HP3.out.setLine (a+1));have HO4:=zh (HO3.out.setCell (p:=⟨B,5,none⟩) (.inr (.inl rfl)) (.int .i64 (a+1)));clear l5 g5 HP3 HO3;generalize w3.setCell ⟨B,5,none⟩ (.int .i64 (a+1))=w4 at *;have c6:w4.cell? ⟨B,6,none⟩=some (.int .u32 (qa r.xs (nc r.n r.task))):=HP4.out.row.cell_ (i:=6) rfl;rw[HZ.out]at c6;go_wp2;go_ret;exact⟨rfl,HO4.out,nv2,HP4.out⟩
theorem qrl(B base:Nat)(A:Option Addr)(l cp:Nat)(nv:Value)(r:LS)(tail a:Int)(w:World)(h:RunR w B base A l cp nv r)(hl:r.ns.length<=900)(hx:Words r.xs)(ha:0<=r.a/\r.a<4294967296)(V:Value)(ls:List Int)(hw:Whats B A w V ls)(hm:ls.length<=90)(hr0: -1000<=a)(hr1:a<=1000)(hln:r.line=a)(hz:qa r.xs (nc r.n r.task)≠0):
 Calls prog 198 #[Value.pointer (some ⟨B,0,none⟩),.int .i64 tail,.int .i64 a,V] w (qg B base A l cp w (.bool false) (r.peek.go (a+3))):=by
 have HZ:=zh hz;clear hz;have HW:=zh hw;have HM:=zh hm;have e1:(a+1==a)=false:=beq_eq_false_iff_ne.2 om;have e2:(a+2==a)=false:=beq_eq_false_iff_ne.2 om;have e3:(a+2==a+1)=false:=beq_eq_false_iff_ne.2 om;have e4:(a+3==a)=false:=beq_eq_false_iff_ne.2 om;have e5:(a+3==a+1)=false:=beq_eq_false_iff_ne.2 om;have e6:(a+3==a+2)=false:=beq_eq_false_iff_ne.2 om;clear hw hm;have HX:=zh hx;have HL:=zh hl;have HA:=zh ha;have HP:=zh h;have HLN:=zh hln
 have c5:w.cell? ⟨B,5,none⟩=some (.int .i64 (a)):=by rw[←hln];exact h.row.cell_ (i:=5) rfl
 have c3:w.cell? ⟨B,3,none⟩=some (.int .i64 r.task):=h.row.cell_ (i:=3) rfl;have c6:w.cell? ⟨B,6,none⟩=some (.int .u32 r.a):=h.row.cell_ (i:=6) rfl;have f6:w.frozen? ⟨B,6,none⟩=false:=h.row.frozen 6;obtain⟨ha0,ha1⟩:=ha;clear h hl hx hln;go_enter func198, ntmps198;go_wp2_with fail;refine(kh B base A l cp nv r r.task _ HP.out).mono ?_;rintro e w1 ⟨rfl,rfl⟩;go_wp2_with fail;clear c3 c5 c6 f6 ha0 ha1;have HO:=zh (Only.refl (qd B A) w);refine(kl B base A l cp nv r (nc r.n r.task) _ HP.out).mono ?_;rintro e w2 ⟨rfl,hO,nv2,hP⟩;have HP2:=zh hP;have HO2:=zh (HO.out.trans hO);clear hO hP;have c6:w2.cell? ⟨B,6,none⟩=some (.int .u32 r.a):=HP2.out.row.cell_ (i:=6) rfl;have f6:w2.frozen? ⟨B,6,none⟩=false:=HP2.out.row.frozen 6
 go_upto_region 4 with(fail)
 have HP3:Hid (RunR (w2.setCell ⟨B,6,none⟩ (.int .u32 (qa r.xs (nc r.n r.task)))) B base A l cp nv2 r.peek):=zh (HP2.out.setA (qa r.xs (nc r.n r.task)));have HO3:=zh (HO2.out.setCell (p:=⟨B,6,none⟩) (.inr (.inl rfl)) (.int .u32 (qa r.xs (nc r.n r.task))));clear c6 f6 HP2 HO2;generalize w2.setCell ⟨B,6,none⟩ (.int .u32 (qa r.xs (nc r.n r.task)))=w3 at *;have l5:w3.cell? ⟨B,5,none⟩=some (.int .i64 (r.line)):=HP3.out.row.cell_ (i:=5) rfl;have g5:w3.frozen? ⟨B,5,none⟩=false:=HP3.out.row.frozen 5
 go_upto_region 5 with(fail)
 have HP4:=zh (HP3.out.setLine (a+1));have HO4:=zh (HO3.out.setCell (p:=⟨B,5,none⟩) (.inr (.inl rfl)) (.int .i64 (a+1)));clear l5 g5 HP3 HO3;generalize w3.setCell ⟨B,5,none⟩ (.int .i64 (a+1))=w4 at *;have c6:w4.cell? ⟨B,6,none⟩=some (.int .u32 (qa r.xs (nc r.n r.task))):=HP4.out.row.cell_ (i:=6) rfl;have hb:(qa r.xs (nc r.n r.task)==0)=false:=beq_eq_false_iff_ne.2 HZ.out;have l5:w4.cell? ⟨B,5,none⟩=some (.int .i64 (a+1)):=HP4.out.row.cell_ (i:=5) rfl;have g5:w4.frozen? ⟨B,5,none⟩=false:=HP4.out.row.frozen 5;generalize qa r.xs (nc r.n r.task)=x at *;go_wp2;clear l5 g5 c6 hb;have HPZ:=zh (HP4.out.setLine (a+3));have HOZ:=zh (HO4.out.setCell (p:=⟨B,5,none⟩) (.inr (.inl rfl)) (.int .i64 (a+3)));go_ret;exact⟨rfl,HOZ.out,nv2,HPZ.out⟩
theorem qvg(B base:Nat)(A:Option Addr)(l cp:Nat)(nv:Value)(r:LS)(tail a:Int)(w:World)(h:RunR w B base A l cp nv r)(hl:r.ns.length<=900)(hx:Words r.xs)(ha:0<=r.a/\r.a<4294967296)(V:Value)(ls:List Int)(hw:Whats B A w V ls)(hm:ls.length<=90)(hr0: -1000<=a)(hr1:a<=1000)(hln:r.line=a+1)(ht:r.casOut tail=true):
 Calls prog 198 #[Value.pointer (some ⟨B,0,none⟩),.int .i64 tail,.int .i64 a,V] w (qg B base A l cp w (.bool true) ((r.doA 5 tail r.me 0).notes ls)):=by
 have HLEN:=zh (show(r.doA 5 tail r.me 0).ns.length+ls.length<=1000 by show r.ns.length+_<=_;omega);have HT:=zh ht;have HQ:=zh (show r.casOut tail=(qf r.xs tail && (qa r.xs tail==r.me))from rfl);clear ht;have HW:=zh hw;have HM:=zh hm;have e1:(a+1==a)=false:=beq_eq_false_iff_ne.2 om;have e2:(a+2==a)=false:=beq_eq_false_iff_ne.2 om;have e3:(a+2==a+1)=false:=beq_eq_false_iff_ne.2 om;have e4:(a+3==a)=false:=beq_eq_false_iff_ne.2 om;have e5:(a+3==a+1)=false:=beq_eq_false_iff_ne.2 om;have e6:(a+3==a+2)=false:=beq_eq_false_iff_ne.2 om;clear hw hm;have HX:=zh hx;have HL:=zh hl;have HA:=zh ha;have HP:=zh h;have HLN:=zh hln
 have c5:w.cell? ⟨B,5,none⟩=some (.int .i64 (a+1)):=by rw[←hln];exact h.row.cell_ (i:=5) rfl
 have c3:w.cell? ⟨B,3,none⟩=some (.int .i64 r.task):=h.row.cell_ (i:=3) rfl;have c6:w.cell? ⟨B,6,none⟩=some (.int .u32 r.a):=h.row.cell_ (i:=6) rfl;have f6:w.frozen? ⟨B,6,none⟩=false:=h.row.frozen 6;obtain⟨ha0,ha1⟩:=ha;clear h hl hx hln;go_enter func198, ntmps198;go_wp2_with fail;refine(qch B base A l cp nv r _ HP.out).mono ?_;rintro e w1 ⟨rfl,rfl⟩;go_wp2_with fail;clear c3 c5 c6 f6 ha0 ha1;have HO:=zh (Only.refl (qd B A) w);refine(xe B base A l cp nv r tail r.me 0 _ HP.out).mono ?_;rw[←HQ.out,HT.out];rintro e w2 ⟨rfl,hO,nv2,hP⟩;have HP2:=zh hP;have HO2:=zh (HO.out.trans hO);clear hO hP;have HWN:=zh (HW.out.move HO2.out);go_wp2_with fail;refine(qfd B base A l cp nv2 _ V ls _ HP2.out HWN.out HLEN.out).mono ?_;rintro e w3 ⟨rfl,hO,nv3,hP⟩;have HP3:=zh hP;have HO3:=zh (HO2.out.trans hO);clear hO hP;go_wp2;go_ret;exact⟨rfl,HO3.out,nv3,HP3.out⟩
theorem qr5(B base:Nat)(A:Option Addr)(l cp:Nat)(nv:Value)(r:LS)(tail a:Int)(w:World)(h:RunR w B base A l cp nv r)(hl:r.ns.length<=900)(hx:Words r.xs)(ha:0<=r.a/\r.a<4294967296)(V:Value)(ls:List Int)(hw:Whats B A w V ls)(hm:ls.length<=90)(hr0: -1000<=a)(hr1:a<=1000)(hln:r.line=a+1)(ht:r.casOut tail=false):
 Calls prog 198 #[Value.pointer (some ⟨B,0,none⟩),.int .i64 tail,.int .i64 a,V] w (qg B base A l cp w (.bool false) ((r.doA 5 tail r.me 0).go (a+2))):=by
 have HT:=zh ht;have HQ:=zh (show r.casOut tail=(qf r.xs tail && (qa r.xs tail==r.me))from rfl);clear ht;have HW:=zh hw;have HM:=zh hm;have e1:(a+1==a)=false:=beq_eq_false_iff_ne.2 om;have e2:(a+2==a)=false:=beq_eq_false_iff_ne.2 om;have e3:(a+2==a+1)=false:=beq_eq_false_iff_ne.2 om;have e4:(a+3==a)=false:=beq_eq_false_iff_ne.2 om;have e5:(a+3==a+1)=false:=beq_eq_false_iff_ne.2 om;have e6:(a+3==a+2)=false:=beq_eq_false_iff_ne.2 om;clear hw hm;have HX:=zh hx;have HL:=zh hl;have HA:=zh ha;have HP:=zh h;have HLN:=zh hln
 have c5:w.cell? ⟨B,5,none⟩=some (.int .i64 (a+1)):=by rw[←hln];exact h.row.cell_ (i:=5) rfl
 have c3:w.cell? ⟨B,3,none⟩=some (.int .i64 r.task):=h.row.cell_ (i:=3) rfl;have c6:w.cell? ⟨B,6,none⟩=some (.int .u32 r.a):=h.row.cell_ (i:=6) rfl;have f6:w.frozen? ⟨B,6,none⟩=false:=h.row.frozen 6;obtain⟨ha0,ha1⟩:=ha;clear h hl hx hln;go_enter func198, ntmps198;go_wp2_with fail;refine(qch B base A l cp nv r _ HP.out).mono ?_;rintro e w1 ⟨rfl,rfl⟩;go_wp2_with fail;clear c3 c5 c6 f6 ha0 ha1;have HO:=zh (Only.refl (qd B A) w);refine(xe B base A l cp nv r tail r.me 0 _ HP.out).mono ?_;rw[←HQ.out,HT.out];rintro e w2 ⟨rfl,hO,nv2,hP⟩;have HP2:=zh hP;have HO2:=zh (HO.out.trans hO);clear hO hP;have l5:w2.cell? ⟨B,5,none⟩=some (.int .i64 (r.line)):=HP2.out.row.cell_ (i:=5) rfl;have g5:w2.frozen? ⟨B,5,none⟩=false:=HP2.out.row.frozen 5;go_wp2;clear l5 g5;have HPZ:=zh (HP2.out.setLine (a+2));have HOZ:=zh (HO2.out.setCell (p:=⟨B,5,none⟩) (.inr (.inl rfl)) (.int .i64 (a+2)));go_ret;exact⟨rfl,HOZ.out,nv2,HPZ.out⟩
theorem qwm(B base:Nat)(A:Option Addr)(l cp:Nat)(nv:Value)(r:LS)(tail a:Int)(w:World)(h:RunR w B base A l cp nv r)(hl:r.ns.length<=900)(hx:Words r.xs)(ha:0<=r.a/\r.a<4294967296)(V:Value)(ls:List Int)(hw:Whats B A w V ls)(hm:ls.length<=90)(hr0: -1000<=a)(hr1:a<=1000)(hln:r.line=a+2)(hdn:(r.stepR (nc r.n r.task) isN).done=true):
 Calls prog 198 #[Value.pointer (some ⟨B,0,none⟩),.int .i64 tail,.int .i64 a,V] w (qg B base A l cp w (.bool false) (r.seeN.go (a+3))):=by
 cases hsn:(r.stepR (nc r.n r.task) isN).seen
 . rw[show r.seeN=r.wait (nc r.n r.task) isN by unfold LS.seeN;rw[hsn,if_neg Bool.false_ne_true]];have HSN:=zh hsn;have HDN:=zh hdn;clear hsn hdn;have HW:=zh hw;have HM:=zh hm;have e1:(a+1==a)=false:=beq_eq_false_iff_ne.2 om;have e2:(a+2==a)=false:=beq_eq_false_iff_ne.2 om;have e3:(a+2==a+1)=false:=beq_eq_false_iff_ne.2 om;have e4:(a+3==a)=false:=beq_eq_false_iff_ne.2 om;have e5:(a+3==a+1)=false:=beq_eq_false_iff_ne.2 om;have e6:(a+3==a+2)=false:=beq_eq_false_iff_ne.2 om;clear hw hm;have HX:=zh hx;have HL:=zh hl;have HA:=zh ha;have HP:=zh h;have HLN:=zh hln
   have c5:w.cell? ⟨B,5,none⟩=some (.int .i64 (a+2)):=by rw[←hln];exact h.row.cell_ (i:=5) rfl
   have c3:w.cell? ⟨B,3,none⟩=some (.int .i64 r.task):=h.row.cell_ (i:=3) rfl;have c6:w.cell? ⟨B,6,none⟩=some (.int .u32 r.a):=h.row.cell_ (i:=6) rfl;have f6:w.frozen? ⟨B,6,none⟩=false:=h.row.frozen 6;obtain⟨ha0,ha1⟩:=ha;clear h hl hx hln;go_enter func198, ntmps198;go_wp2_with fail;refine(kh B base A l cp nv r r.task _ HP.out).mono ?_;rintro e w1 ⟨rfl,rfl⟩;go_wp2_with fail;clear c3 c5 c6 f6 ha0 ha1;have HO:=zh (Only.refl (qd B A) w);refine(ke B base A l cp nv r (nc r.n r.task) 1 4294967295 0 _ HP.out HX.out).mono ?_;rw[xw HX.out,qcc HX.out,HSN.out,HDN.out];rintro e w2 ⟨rfl,hO,nv2,hP⟩;have HP2:=zh hP;have HO2:=zh (HO.out.trans hO);clear hO hP;have l5:w2.cell? ⟨B,5,none⟩=some (.int .i64 (r.line)):=HP2.out.row.cell_ (i:=5) rfl;have g5:w2.frozen? ⟨B,5,none⟩=false:=HP2.out.row.frozen 5;go_wp2;clear l5 g5;have HPZ:=zh (HP2.out.setLine (a+3));have HOZ:=zh (HO2.out.setCell (p:=⟨B,5,none⟩) (.inr (.inl rfl)) (.int .i64 (a+3)));go_ret;exact⟨rfl,HOZ.out,nv2,HPZ.out⟩
 . rw[show r.seeN=(r.wait (nc r.n r.task) isN).keepA (qa r.xs (nc r.n r.task)) by unfold LS.seeN;rw[hsn,if_pos rfl]];have HSN:=zh hsn;have HDN:=zh hdn;clear hsn hdn;have HW:=zh hw;have HM:=zh hm;have e1:(a+1==a)=false:=beq_eq_false_iff_ne.2 om;have e2:(a+2==a)=false:=beq_eq_false_iff_ne.2 om;have e3:(a+2==a+1)=false:=beq_eq_false_iff_ne.2 om;have e4:(a+3==a)=false:=beq_eq_false_iff_ne.2 om;have e5:(a+3==a+1)=false:=beq_eq_false_iff_ne.2 om;have e6:(a+3==a+2)=false:=beq_eq_false_iff_ne.2 om;clear hw hm;have HX:=zh hx;have HL:=zh hl;have HA:=zh ha;have HP:=zh h;have HLN:=zh hln
   have c5:w.cell? ⟨B,5,none⟩=some (.int .i64 (a+2)):=by rw[←hln];exact h.row.cell_ (i:=5) rfl
   have c3:w.cell? ⟨B,3,none⟩=some (.int .i64 r.task):=h.row.cell_ (i:=3) rfl;have c6:w.cell? ⟨B,6,none⟩=some (.int .u32 r.a):=h.row.cell_ (i:=6) rfl;have f6:w.frozen? ⟨B,6,none⟩=false:=h.row.frozen 6;obtain⟨ha0,ha1⟩:=ha;clear h hl hx hln;go_enter func198, ntmps198;go_wp2_with fail;refine(kh B base A l cp nv r r.task _ HP.out).mono ?_;rintro e w1 ⟨rfl,rfl⟩;go_wp2_with fail;clear c3 c5 c6 f6 ha0 ha1;have HO:=zh (Only.refl (qd B A) w);refine(ke B base A l cp nv r (nc r.n r.task) 1 4294967295 0 _ HP.out HX.out).mono ?_;rw[xw HX.out,qcc HX.out,HSN.out,HDN.out];rintro e w2 ⟨rfl,hO,nv2,hP⟩;have HP2:=zh hP;have HO2:=zh (HO.out.trans hO);clear hO hP;have HOLD:=zh (qgd HSN.out);have hac:=(show(r.wait (nc r.n r.task) isN).acc=ofV (r.stepR (nc r.n r.task) isN).acc from rfl)
   have c18:w2.cell? ⟨B,18,none⟩=some (.int .u32 (qa r.xs (nc r.n r.task))):=by
    have e:=HP2.out.row.cell_ (i:=18) (v:= .int .u32 (r.wait (nc r.n r.task) isN).acc.o) rfl;rw[hac]at e;rw[←HOLD.out];exact e
   have c6:w2.cell? ⟨B,6,none⟩=some (.int .u32 r.a):=HP2.out.row.cell_ (i:=6) rfl;have f6:w2.frozen? ⟨B,6,none⟩=false:=HP2.out.row.frozen 6;clear hac HOLD
   go_upto_region 18 with(fail)
   have HP3:Hid (RunR (w2.setCell ⟨B,6,none⟩ (.int .u32 (qa r.xs (nc r.n r.task)))) B base A l cp nv2 ((r.wait (nc r.n r.task) isN).keepA (qa r.xs (nc r.n r.task)))):=zh (HP2.out.setA (qa r.xs (nc r.n r.task)));have HO3:=zh (HO2.out.setCell (p:=⟨B,6,none⟩) (.inr (.inl rfl)) (.int .u32 (qa r.xs (nc r.n r.task))));clear c6 f6 c18 HP2 HO2;generalize w2.setCell ⟨B,6,none⟩ (.int .u32 (qa r.xs (nc r.n r.task)))=w3 at *;have l5:w3.cell? ⟨B,5,none⟩=some (.int .i64 (r.line)):=HP3.out.row.cell_ (i:=5) rfl;have g5:w3.frozen? ⟨B,5,none⟩=false:=HP3.out.row.frozen 5;go_wp2;clear l5 g5;have HPZ:=zh (HP3.out.setLine (a+3));have HOZ:=zh (HO3.out.setCell (p:=⟨B,5,none⟩) (.inr (.inl rfl)) (.int .i64 (a+3)));go_ret;exact⟨rfl,HOZ.out,nv2,HPZ.out⟩
theorem qqu(B base:Nat)(A:Option Addr)(l cp:Nat)(nv:Value)(r:LS)(tail a:Int)(w:World)(h:RunR w B base A l cp nv r)(hl:r.ns.length<=900)(hx:Words r.xs)(ha:0<=r.a/\r.a<4294967296)(V:Value)(ls:List Int)(hw:Whats B A w V ls)(hm:ls.length<=90)(hr0: -1000<=a)(hr1:a<=1000)(hln:r.line=a+2)(hdn:(r.stepR (nc r.n r.task) isN).done=false):
 Calls prog 198 #[Value.pointer (some ⟨B,0,none⟩),.int .i64 tail,.int .i64 a,V] w (qg B base A l cp w (.bool false) r.seeN):=by
 cases hsn:(r.stepR (nc r.n r.task) isN).seen
 . rw[show r.seeN=r.wait (nc r.n r.task) isN by unfold LS.seeN;rw[hsn,if_neg Bool.false_ne_true]];have HSN:=zh hsn;have HDN:=zh hdn;clear hsn hdn;have HW:=zh hw;have HM:=zh hm;have e1:(a+1==a)=false:=beq_eq_false_iff_ne.2 om;have e2:(a+2==a)=false:=beq_eq_false_iff_ne.2 om;have e3:(a+2==a+1)=false:=beq_eq_false_iff_ne.2 om;have e4:(a+3==a)=false:=beq_eq_false_iff_ne.2 om;have e5:(a+3==a+1)=false:=beq_eq_false_iff_ne.2 om;have e6:(a+3==a+2)=false:=beq_eq_false_iff_ne.2 om;clear hw hm;have HX:=zh hx;have HL:=zh hl;have HA:=zh ha;have HP:=zh h;have HLN:=zh hln
   have c5:w.cell? ⟨B,5,none⟩=some (.int .i64 (a+2)):=by rw[←hln];exact h.row.cell_ (i:=5) rfl
   have c3:w.cell? ⟨B,3,none⟩=some (.int .i64 r.task):=h.row.cell_ (i:=3) rfl;have c6:w.cell? ⟨B,6,none⟩=some (.int .u32 r.a):=h.row.cell_ (i:=6) rfl;have f6:w.frozen? ⟨B,6,none⟩=false:=h.row.frozen 6;obtain⟨ha0,ha1⟩:=ha;clear h hl hx hln;go_enter func198, ntmps198;go_wp2_with fail;refine(kh B base A l cp nv r r.task _ HP.out).mono ?_;rintro e w1 ⟨rfl,rfl⟩;go_wp2_with fail;clear c3 c5 c6 f6 ha0 ha1;have HO:=zh (Only.refl (qd B A) w);refine(ke B base A l cp nv r (nc r.n r.task) 1 4294967295 0 _ HP.out HX.out).mono ?_;rw[xw HX.out,qcc HX.out,HSN.out,HDN.out];rintro e w2 ⟨rfl,hO,nv2,hP⟩;have HP2:=zh hP;have HO2:=zh (HO.out.trans hO);clear hO hP;go_wp2;go_ret;exact⟨rfl,HO2.out,nv2,HP2.out⟩
 . rw[show r.seeN=(r.wait (nc r.n r.task) isN).keepA (qa r.xs (nc r.n r.task)) by unfold LS.seeN;rw[hsn,if_pos rfl]];have HSN:=zh hsn;have HDN:=zh hdn;clear hsn hdn;have HW:=zh hw;have HM:=zh hm;have e1:(a+1==a)=false:=beq_eq_false_iff_ne.2 om;have e2:(a+2==a)=false:=beq_eq_false_iff_ne.2 om;have e3:(a+2==a+1)=false:=beq_eq_false_iff_ne.2 om;have e4:(a+3==a)=false:=beq_eq_false_iff_ne.2 om;have e5:(a+3==a+1)=false:=beq_eq_false_iff_ne.2 om;have e6:(a+3==a+2)=false:=beq_eq_false_iff_ne.2 om;clear hw hm;have HX:=zh hx;have HL:=zh hl;have HA:=zh ha;have HP:=zh h;have HLN:=zh hln
   have c5:w.cell? ⟨B,5,none⟩=some (.int .i64 (a+2)):=by rw[←hln];exact h.row.cell_ (i:=5) rfl
   have c3:w.cell? ⟨B,3,none⟩=some (.int .i64 r.task):=h.row.cell_ (i:=3) rfl;have c6:w.cell? ⟨B,6,none⟩=some (.int .u32 r.a):=h.row.cell_ (i:=6) rfl;have f6:w.frozen? ⟨B,6,none⟩=false:=h.row.frozen 6;obtain⟨ha0,ha1⟩:=ha;clear h hl hx hln;go_enter func198, ntmps198;go_wp2_with fail;refine(kh B base A l cp nv r r.task _ HP.out).mono ?_;rintro e w1 ⟨rfl,rfl⟩;go_wp2_with fail;clear c3 c5 c6 f6 ha0 ha1;have HO:=zh (Only.refl (qd B A) w);refine(ke B base A l cp nv r (nc r.n r.task) 1 4294967295 0 _ HP.out HX.out).mono ?_;rw[xw HX.out,qcc HX.out,HSN.out,HDN.out];rintro e w2 ⟨rfl,hO,nv2,hP⟩;have HP2:=zh hP;have HO2:=zh (HO.out.trans hO);clear hO hP;have HOLD:=zh (qgd HSN.out);have hac:=(show(r.wait (nc r.n r.task) isN).acc=ofV (r.stepR (nc r.n r.task) isN).acc from rfl)
   have c18:w2.cell? ⟨B,18,none⟩=some (.int .u32 (qa r.xs (nc r.n r.task))):=by
    have e:=HP2.out.row.cell_ (i:=18) (v:= .int .u32 (r.wait (nc r.n r.task) isN).acc.o) rfl;rw[hac]at e;rw[←HOLD.out];exact e
   have c6:w2.cell? ⟨B,6,none⟩=some (.int .u32 r.a):=HP2.out.row.cell_ (i:=6) rfl;have f6:w2.frozen? ⟨B,6,none⟩=false:=HP2.out.row.frozen 6;clear hac HOLD
   go_upto_region 18 with(fail)
   have HP3:Hid (RunR (w2.setCell ⟨B,6,none⟩ (.int .u32 (qa r.xs (nc r.n r.task)))) B base A l cp nv2 ((r.wait (nc r.n r.task) isN).keepA (qa r.xs (nc r.n r.task)))):=zh (HP2.out.setA (qa r.xs (nc r.n r.task)));have HO3:=zh (HO2.out.setCell (p:=⟨B,6,none⟩) (.inr (.inl rfl)) (.int .u32 (qa r.xs (nc r.n r.task))));clear c6 f6 c18 HP2 HO2;generalize w2.setCell ⟨B,6,none⟩ (.int .u32 (qa r.xs (nc r.n r.task)))=w3 at *;go_wp2;go_ret;exact⟨rfl,HO3.out,nv2,HP3.out⟩
theorem qxh(B base:Nat)(A:Option Addr)(l cp:Nat)(nv:Value)(r:LS)(tail a:Int)(w:World)(h:RunR w B base A l cp nv r)(hl:r.ns.length<=900)(hx:Words r.xs)(ha:0<=r.a/\r.a<4294967296)(V:Value)(ls:List Int)(hw:Whats B A w V ls)(hm:ls.length<=90)(hr0: -1000<=a)(hr1:a<=1000)(hln:r.line=a+3):
 Calls prog 198 #[Value.pointer (some ⟨B,0,none⟩),.int .i64 tail,.int .i64 a,V] w (qg B base A l cp w (.bool true) (r.handOn ls)):=by
 have HLEN:=zh (show(r.doA 2 (bc r.n (r.a-1)) 0 0).ns.length+ls.length<=1000 by show r.ns.length+_<=_;omega);have HW:=zh hw;have HM:=zh hm;have e1:(a+1==a)=false:=beq_eq_false_iff_ne.2 om;have e2:(a+2==a)=false:=beq_eq_false_iff_ne.2 om;have e3:(a+2==a+1)=false:=beq_eq_false_iff_ne.2 om;have e4:(a+3==a)=false:=beq_eq_false_iff_ne.2 om;have e5:(a+3==a+1)=false:=beq_eq_false_iff_ne.2 om;have e6:(a+3==a+2)=false:=beq_eq_false_iff_ne.2 om;clear hw hm;have HX:=zh hx;have HL:=zh hl;have HA:=zh ha;have HP:=zh h;have HLN:=zh hln
 have c5:w.cell? ⟨B,5,none⟩=some (.int .i64 (a+3)):=by rw[←hln];exact h.row.cell_ (i:=5) rfl
 have c3:w.cell? ⟨B,3,none⟩=some (.int .i64 r.task):=h.row.cell_ (i:=3) rfl;have c6:w.cell? ⟨B,6,none⟩=some (.int .u32 r.a):=h.row.cell_ (i:=6) rfl;have f6:w.frozen? ⟨B,6,none⟩=false:=h.row.frozen 6;obtain⟨ha0,ha1⟩:=ha;clear h hl hx hln;go_enter func198, ntmps198;go_wp2_with fail;refine(qaz B base A l cp nv r (r.a-1) _ HP.out).mono ?_;rintro e w1 ⟨rfl,rfl⟩;go_wp2_with fail;clear c3 c5 c6 f6 ha0 ha1;have HO:=zh (Only.refl (qd B A) w);refine(vn B base A l cp nv r (bc r.n (r.a-1)) 0 _ HP.out).mono ?_;rintro e w2 ⟨rfl,hO,nv2,hP⟩;have HP2:=zh hP;have HO2:=zh (HO.out.trans hO);clear hO hP;have HWN:=zh (HW.out.move HO2.out);go_wp2_with fail;refine(qfd B base A l cp nv2 _ V ls _ HP2.out HWN.out HLEN.out).mono ?_;rintro e w3 ⟨rfl,hO,nv3,hP⟩;have HP3:=zh hP;have HO3:=zh (HO2.out.trans hO);clear hO hP;go_wp2_with fail;refine(vq B base A l cp nv3 _ (bc r.n (r.a-1)) _ HP3.out).mono ?_;rintro e w4 ⟨rfl,hO,nv4,hP⟩;have HP4:=zh hP;have HO4:=zh (HO3.out.trans hO);clear hO hP;go_wp2;go_ret;exact⟨rfl,HO4.out,nv4,HP4.out⟩
theorem qtx(B base:Nat)(A:Option Addr)(l cp:Nat)(nv:Value)(r:LS)(tail a:Int)(w:World)(h:RunR w B base A l cp nv r)(hl:r.ns.length<=900)(hx:Words r.xs)(ha:0<=r.a/\r.a<4294967296)(V:Value)(ls:List Int)(hw:Whats B A w V ls)(hm:ls.length<=90)(hr0: -1000<=a)(hr1:a<=1000)(ln:Int)(hln:r.line=ln)(n0:ln≠a)(n1:ln≠a+1)(n2:ln≠a+2)(n3:ln≠a+3):
 Calls prog 198 #[Value.pointer (some ⟨B,0,none⟩),.int .i64 tail,.int .i64 a,V] w (qg B base A l cp w (.bool false) r):=by
 have b0:(ln==a)=false:=beq_eq_false_iff_ne.2 n0;have b1:(ln==a+1)=false:=beq_eq_false_iff_ne.2 n1;have b2:(ln==a+2)=false:=beq_eq_false_iff_ne.2 n2;have b3:(ln==a+3)=false:=beq_eq_false_iff_ne.2 n3;clear n0 n1 n2 n3;have HW:=zh hw;have HM:=zh hm;have e1:(a+1==a)=false:=beq_eq_false_iff_ne.2 om;have e2:(a+2==a)=false:=beq_eq_false_iff_ne.2 om;have e3:(a+2==a+1)=false:=beq_eq_false_iff_ne.2 om;have e4:(a+3==a)=false:=beq_eq_false_iff_ne.2 om;have e5:(a+3==a+1)=false:=beq_eq_false_iff_ne.2 om;have e6:(a+3==a+2)=false:=beq_eq_false_iff_ne.2 om;clear hw hm;have HX:=zh hx;have HL:=zh hl;have HA:=zh ha;have HP:=zh h;have HLN:=zh hln
 have c5:w.cell? ⟨B,5,none⟩=some (.int .i64 (ln)):=by rw[←hln];exact h.row.cell_ (i:=5) rfl
 have c3:w.cell? ⟨B,3,none⟩=some (.int .i64 r.task):=h.row.cell_ (i:=3) rfl;have c6:w.cell? ⟨B,6,none⟩=some (.int .u32 r.a):=h.row.cell_ (i:=6) rfl;have f6:w.frozen? ⟨B,6,none⟩=false:=h.row.frozen 6;obtain⟨ha0,ha1⟩:=ha;clear h hl hx hln;go_enter func198, ntmps198;go_wp2;go_ret;exact⟨rfl,Only.refl _ _,nv,HP.out⟩
theorem qak(B base:Nat)(A:Option Addr)(l cp:Nat)(nv:Value)(r:LS)(tail a:Int)(w:World)(h:RunR w B base A l cp nv r)(hl:r.ns.length<=900)(hx:Words r.xs)(ha:0<=r.a/\r.a<4294967296)(V:Value)(ls:List Int)(hw:Whats B A w V ls)(hm:ls.length<=90)(hr0: -1000<=a)(hr1:a<=1000):
 Calls prog 198 #[Value.pointer (some ⟨B,0,none⟩),.int .i64 tail,.int .i64 a,V] w (qg B base A l cp w (.bool (r.mxGive tail a ls).2) (r.mxGive tail a ls).1):=by
 by_cases l0:r.line=a
 . by_cases hz:qa r.xs (nc r.n r.task)=0
   . rw[show r.mxGive tail a ls=_ by unfold LS.mxGive;rw[if_pos l0,if_pos hz]];exact qw3 B base A l cp nv r tail a w h hl hx ha V ls hw hm hr0 hr1 l0 hz
   . rw[show r.mxGive tail a ls=_ by unfold LS.mxGive;rw[if_pos l0,if_neg hz]];exact qrl B base A l cp nv r tail a w h hl hx ha V ls hw hm hr0 hr1 l0 hz
 by_cases l1:r.line=a+1
 . cases hz:r.casOut tail
   . rw[show r.mxGive tail a ls=_ by unfold LS.mxGive;rw[if_neg l0,if_pos l1,hz,if_neg Bool.false_ne_true]];exact qr5 B base A l cp nv r tail a w h hl hx ha V ls hw hm hr0 hr1 l1 hz
   . rw[show r.mxGive tail a ls=_ by unfold LS.mxGive;rw[if_neg l0,if_pos l1,hz,if_pos rfl]];exact qvg B base A l cp nv r tail a w h hl hx ha V ls hw hm hr0 hr1 l1 hz
 by_cases l2:r.line=a+2
 . cases hz:(r.stepR (nc r.n r.task) isN).done
   . rw[show r.mxGive tail a ls=_ by unfold LS.mxGive;rw[if_neg l0,if_neg l1,if_pos l2,hz,if_neg Bool.false_ne_true]];exact qqu B base A l cp nv r tail a w h hl hx ha V ls hw hm hr0 hr1 l2 hz
   . rw[show r.mxGive tail a ls=_ by unfold LS.mxGive;rw[if_neg l0,if_neg l1,if_pos l2,hz,if_pos rfl]];exact qwm B base A l cp nv r tail a w h hl hx ha V ls hw hm hr0 hr1 l2 hz
 by_cases l3:r.line=a+3
 . rw[show r.mxGive tail a ls=_ by unfold LS.mxGive;rw[if_neg l0,if_neg l1,if_neg l2,if_pos l3]];exact qxh B base A l cp nv r tail a w h hl hx ha V ls hw hm hr0 hr1 l3
 . rw[show r.mxGive tail a ls=_ by unfold LS.mxGive;rw[if_neg l0,if_neg l1,if_neg l2,if_neg l3]];exact qtx B base A l cp nv r tail a w h hl hx ha V ls hw hm hr0 hr1 _ rfl l0 l1 l2 l3
theorem qyq(B base:Nat)(A:Option Addr)(l cp:Nat)(nv:Value)(r:LS)(tail a:Int)(w:World)(h:RunR w B base A l cp nv r)(hl:r.ns.length<=900)(hx:Words r.xs)(ha:0<=r.a/\r.a<4294967296)(hr0: -1000<=a)(hr1:a<=1000)(hln:r.line=a):
 Calls prog 199 #[Value.pointer (some ⟨B,0,none⟩),.int .i64 tail,.int .i64 a] w (qg B base A l cp w (.tuple #[.bool false,.bool false]) ((r.doA 2 (nc r.n r.task) 0 0).go (a+1))):=by
 have HX:=zh hx;have HL:=zh hl;have HA:=zh ha;have HP:=zh h;have HLN:=zh hln
 have c5:w.cell? ⟨B,5,none⟩=some (.int .i64 (a)):=by rw[←hln];exact h.row.cell_ (i:=5) rfl
 have c3:w.cell? ⟨B,3,none⟩=some (.int .i64 r.task):=h.row.cell_ (i:=3) rfl;have c6:w.cell? ⟨B,6,none⟩=some (.int .u32 r.a):=h.row.cell_ (i:=6) rfl;have f6:w.frozen? ⟨B,6,none⟩=false:=h.row.frozen 6;obtain⟨ha0,ha1⟩:=ha;clear h hl hx hln;go_enter func199, ntmps199;go_wp2_with fail;refine(kh B base A l cp nv r r.task _ HP.out).mono ?_;rintro e w1 ⟨rfl,rfl⟩;go_wp2_with fail;clear c3 c5 c6 f6 ha0 ha1;have HO:=zh (Only.refl (qd B A) w);refine(vn B base A l cp nv r (nc r.n r.task) 0 _ HP.out).mono ?_;rintro e w2 ⟨rfl,hO,nv2,hP⟩;have HP2:=zh hP;have HO2:=zh (HO.out.trans hO);clear hO hP;have l5:w2.cell? ⟨B,5,none⟩=some (.int .i64 (r.line)):=HP2.out.row.cell_ (i:=5) rfl;have g5:w2.frozen? ⟨B,5,none⟩=false:=HP2.out.row.frozen 5;go_wp2;clear l5 g5;have HPZ:=zh (HP2.out.setLine (a+1));have HOZ:=zh (HO2.out.setCell (p:=⟨B,5,none⟩) (.inr (.inl rfl)) (.int .i64 (a+1)))
 go_ret2
 exact⟨rfl,HOZ.out,nv2,HPZ.out⟩
theorem zag(B base:Nat)(A:Option Addr)(l cp:Nat)(nv:Value)(r:LS)(tail a:Int)(w:World)(h:RunR w B base A l cp nv r)(hl:r.ns.length<=900)(hx:Words r.xs)(ha:0<=r.a/\r.a<4294967296)(hr0: -1000<=a)(hr1:a<=1000)(hln:r.line=a+1):
 Calls prog 199 #[Value.pointer (some ⟨B,0,none⟩),.int .i64 tail,.int .i64 a] w (qg B base A l cp w (.tuple #[.bool true,.bool (qf r.xs tail && (qa r.xs tail==0))]) (r.doA 5 tail 0 r.me)):=by
 have e1:(a+1==a)=false:=beq_eq_false_iff_ne.2 om;have HX:=zh hx;have HL:=zh hl;have HA:=zh ha;have HP:=zh h;have HLN:=zh hln
 have c5:w.cell? ⟨B,5,none⟩=some (.int .i64 (a+1)):=by rw[←hln];exact h.row.cell_ (i:=5) rfl
 have c3:w.cell? ⟨B,3,none⟩=some (.int .i64 r.task):=h.row.cell_ (i:=3) rfl;have c6:w.cell? ⟨B,6,none⟩=some (.int .u32 r.a):=h.row.cell_ (i:=6) rfl;have f6:w.frozen? ⟨B,6,none⟩=false:=h.row.frozen 6;obtain⟨ha0,ha1⟩:=ha;clear h hl hx hln;go_enter func199, ntmps199;go_wp2_with fail;refine(qch B base A l cp nv r _ HP.out).mono ?_;rintro e w1 ⟨rfl,rfl⟩;go_wp2_with fail;clear c3 c5 c6 f6 ha0 ha1;have HO:=zh (Only.refl (qd B A) w);refine(xe B base A l cp nv r tail 0 r.me _ HP.out).mono ?_;generalize (qf r.xs tail && (qa r.xs tail==0))=d at *;rintro e w2 ⟨rfl,hO,nv2,hP⟩;have HP2:=zh hP;have HO2:=zh (HO.out.trans hO);clear hO hP;go_wp2
 go_ret2
 exact⟨rfl,HO2.out,nv2,HP2.out⟩
theorem qwo(B base:Nat)(A:Option Addr)(l cp:Nat)(nv:Value)(r:LS)(tail a:Int)(w:World)(h:RunR w B base A l cp nv r)(hl:r.ns.length<=900)(hx:Words r.xs)(ha:0<=r.a/\r.a<4294967296)(hr0: -1000<=a)(hr1:a<=1000)(ln:Int)(hln:r.line=ln)(n0:ln≠a)(n1:ln≠a+1):
 Calls prog 199 #[Value.pointer (some ⟨B,0,none⟩),.int .i64 tail,.int .i64 a] w (qg B base A l cp w (.tuple #[.bool false,.bool false]) r):=by
 have b0:(ln==a)=false:=beq_eq_false_iff_ne.2 n0;have b1:(ln==a+1)=false:=beq_eq_false_iff_ne.2 n1;clear n0 n1;have HX:=zh hx;have HL:=zh hl;have HA:=zh ha;have HP:=zh h;have HLN:=zh hln
 have c5:w.cell? ⟨B,5,none⟩=some (.int .i64 (ln)):=by rw[←hln];exact h.row.cell_ (i:=5) rfl
 have c3:w.cell? ⟨B,3,none⟩=some (.int .i64 r.task):=h.row.cell_ (i:=3) rfl;have c6:w.cell? ⟨B,6,none⟩=some (.int .u32 r.a):=h.row.cell_ (i:=6) rfl;have f6:w.frozen? ⟨B,6,none⟩=false:=h.row.frozen 6;obtain⟨ha0,ha1⟩:=ha;clear h hl hx hln;go_enter func199, ntmps199;go_wp2
 go_ret2
 exact⟨rfl,Only.refl _ _,nv,HP.out⟩
theorem qa0(B base:Nat)(A:Option Addr)(l cp:Nat)(nv:Value)(r:LS)(tail a:Int)(w:World)(h:RunR w B base A l cp nv r)(hl:r.ns.length<=900)(hx:Words r.xs)(ha:0<=r.a/\r.a<4294967296)(hr0: -1000<=a)(hr1:a<=1000):
 Calls prog 199 #[Value.pointer (some ⟨B,0,none⟩),.int .i64 tail,.int .i64 a] w (qg B base A l cp w (.tuple #[.bool (r.mxTry tail a).2.1,.bool (r.mxTry tail a).2.2]) (r.mxTry tail a).1):=by
 by_cases l0:r.line=a
 . rw[show r.mxTry tail a=_ by unfold LS.mxTry;rw[if_pos l0]];exact qyq B base A l cp nv r tail a w h hl hx ha hr0 hr1 l0
 by_cases l1:r.line=a+1
 . rw[show r.mxTry tail a=_ by unfold LS.mxTry;rw[if_neg l0,if_pos l1]];exact zag B base A l cp nv r tail a w h hl hx ha hr0 hr1 l1
 . rw[show r.mxTry tail a=_ by unfold LS.mxTry;rw[if_neg l0,if_neg l1]];exact qwo B base A l cp nv r tail a w h hl hx ha hr0 hr1 _ rfl l0 l1
theorem qnn(s n:Int)(w:World):
 Calls prog 272 #[.int .i64 s,.int .i64 n] w fun e w'=>e= .returned (.bool (isF s n))/\w=w':=by
 by_cases h:0<=s/\s<=31/\1<=n/\n<=32
 . obtain⟨h1,h2,h3,h4⟩:=h
   have e:isF s n=decide (s+n<=32):=by simp[isF,h1,h2,h3,h4]
   have E:=zh e;clear e;go_enter func272, ntmps272;go_wp2;go_ret;exact⟨by rw[E.out];rfl,rfl⟩
 . have e:isF s n=false:=by
    have:¬(0<=s/\s<=31/\1<=n/\n<=32/\s+n<=32):=by omega
    simp[isF,this]
   have E:=zh e;have H:=zh h;clear e h
   by_cases h1:0<=s
   . by_cases h2:s<=31
     . by_cases h3:1<=n
       . have h4:32<n:=by have:=H.out;omega
         go_enter func272, ntmps272;go_wp2;go_ret;exact⟨by rw[E.out];rfl,rfl⟩
       . have h4:n<1:=by omega
         go_enter func272, ntmps272;go_wp2;go_ret;exact⟨by rw[E.out];rfl,rfl⟩
     . have h4:31<s:=by omega
       go_enter func272, ntmps272;go_wp2;go_ret;exact⟨by rw[E.out];rfl,rfl⟩
   . have h4:s<0:=by omega
     go_enter func272, ntmps272;go_wp2;go_ret;exact⟨by rw[E.out];rfl,rfl⟩
theorem qj6(s n:Int)(w:World)(h:isF s n=true):Calls prog 272 #[.int .i64 s,.int .i64 n] w fun e w'=>e= .returned (.bool true)/\w=w':=by
 have:=qnn s n w;rwa [h]at this
theorem qzf(s n:Int)(w:World)(h:isF s n=false):Calls prog 272 #[.int .i64 s,.int .i64 n] w fun e w'=>e= .returned (.bool false)/\w=w':=by
 have:=qnn s n w;rwa [h]at this
theorem qqr(n:Nat)(w:World)(h:n<=32):
 Calls prog 274 #[.int .i64 n] w fun e w'=>e= .returned (.int .i64 (pw n))/\w=w':=by
 go_enter func274, ntmps274;go_wp2
 go_loop [3,4] (fun p i=>∃k:Nat,k<=n/\i= .int .i64 k/\p= .int .i64 (pw k)) (fun _ i=>n-(intOf i).toNat)
 case atStart=>exact⟨0,Nat.zero_le _,rfl,rfl⟩
 case round=>
  obtain⟨k,hk,rfl,rfl⟩:=hrel;have hb:=xo (n:=k) om;have hp:=ji k;have HS:=zh (qvn (n:=k) om)
  by_cases hlt:k<n
  . go_wp2
    go_round
    case rel=>exact⟨k+1,om,by go_num,by rw[Int.natCast_add,show((1:Nat):Int)=1 from rfl,HS.out]⟩
    case measure=>simp[intOf];omega
  . obtain rfl:k=n:=by omega
    clear hlt;go_wp2;go_ret;exact⟨rfl,rfl⟩
theorem qe2(n:Int)(w:World)(h:0<=n/\n<=32):
 Calls prog 274 #[.int .i64 n] w fun e w'=>e= .returned (.int .i64 (pw n))/\w=w':=by
 obtain⟨m,rfl⟩:=Int.eq_ofNat_of_zero_le h.1;exact qqr m w om
theorem qc0(n:Int)(w:World)(k:Nat)(h1:0<=n)(h2:n<=32):
 Calls prog 274 #[.int .i64 n] (w.drewN k) fun e w'=>e= .returned (.int .i64 (pw n))/\∃m,w'=w.drewN m:=
 (qe2 n _ ⟨h1,h2⟩).mono fun _ _ ⟨he,hm⟩=>⟨he,k,hm.symm⟩
theorem qjx(v s n:Int)(w:World)(h:isF s n=true)(hv:0<=v/\v<4294967296):
 Calls prog 273 #[.int .u32 v,.int .i64 s,.int .i64 n] w fun e w'=>e= .returned (.int .u32 (ye v s n))/\Drew w w':=by
 obtain⟨h1,h2,h3,h4,h5⟩:=vj.1 h;obtain⟨h6,h7⟩:=hv;have p1:=ji s;have p2:=ji n;have p3:=xo (n:=s) om;have p4:=xo h4;have b1:0<=v/pw s:=Int.ediv_nonneg h6 om;have b2:v/pw s<4294967296:=Int.lt_of_le_of_lt (Int.ediv_le_self _ h6) h7;obtain⟨b3,b4⟩:=qav v s n;have b5:=qd1 (v:=v) h;have H:=zh h;clear h;go_enter func273, ntmps273;go_wp2_with fail;refine(qj6 s n _ H.out).mono ?_;rintro e w1 ⟨rfl,rfl⟩
 have h3':0<=n:=by omega
 have h5':s<=32:=by omega
 go_wp2
 go_quiet ((first|(exact qc0 _ _ _ h1 h5')|(exact qc0 _ _ _ h3' h4)))
 go_wp2;go_ret;refine⟨congrArg (fun x=>Ending.returned (.int .u32 x)) ?_,Drew.n _ _⟩;show ye v s n%4294967296=ye v s n;exact Int.emod_eq_of_lt b3 b5
theorem qlj(v s n:Int)(w:World)(k:Nat)(h:isF s n=true)(hv:0<=v/\v<4294967296):
 Calls prog 273 #[.int .u32 v,.int .i64 s,.int .i64 n] (w.drewN k) fun e w'=>e= .returned (.int .u32 (ye v s n))/\∃m,w'=w.drewN m:=
 (qjx v s n _ h hv).mono fun _ _ ⟨he,hm⟩=>⟨he,hm.quiet⟩
theorem qqz(v s n x:Int)(w:World)(h:isF s n=true)(hv:0<=v/\v<4294967296)(hx:0<=x/\x<4294967296):
 Calls prog 275 #[.int .u32 v,.int .i64 s,.int .i64 n,.int .u32 x] w fun e w'=>e= .returned (.int .u32 (xj v s n x))/\Drew w w':=by
 obtain⟨h1,h2,h3,h4,h5⟩:=vj.1 h;obtain⟨b1,b2⟩:=qzh (v:=v) x h hv;obtain⟨m1,m2⟩:=qv1 (v:=v) x h;have b5:=qd1 (v:=v) h;have HV:=zh hv;obtain⟨h6,h7⟩:=hv;obtain⟨h8,h9⟩:=hx;have p1:=ji s;have p2:=ji n;have p3:=xo (n:=s) om;have p4:=xo h4;obtain⟨b3,b4⟩:=qav v s n;obtain⟨b6,b7⟩:=qd4 x n;have H:=zh h;unfold xj at b1 b2;clear h
 have h3':0<=n:=by omega
 have h5':s<=32:=by omega
 go_enter func275, ntmps275;go_wp2_with fail;refine(qj6 s n _ H.out).mono ?_;rintro e w1 ⟨rfl,rfl⟩;go_wp2
 go_quiet ((first|(exact qlj _ _ _ _ _ H.out HV.out)|(exact qc0 _ _ _ h3' h4)))
 go_wp2_with fail;refine(qe2 s _ ⟨h1,h5'⟩).mono ?_;rintro e w1 ⟨rfl,rfl⟩;go_wp2;go_ret;exact⟨rfl,Drew.n _ _⟩
theorem qt8(v s n:Int)(w:World)(h:isF s n=false):
 Calls prog 204 #[.int .u32 v,.int .i64 s,.int .i64 n] w fun e w'=>e= .returned (.int .u32 0)/\w=w':=by
 have H:=zh h;clear h;go_enter func204, ntmps204;go_wp2_with fail;refine(qzf s n _ H.out).mono ?_;rintro e w1 ⟨rfl,rfl⟩;go_wp2;go_ret;exact⟨rfl,rfl⟩
theorem qo8(v s n:Int)(w:World)(h:isF s n=true)(hv:0<=v/\v<4294967296):
 Calls prog 204 #[.int .u32 v,.int .i64 s,.int .i64 n] w fun e w'=>e= .returned (.int .u32 ((xj v s n (ye v s n+1)-v)%4294967296))/\Drew w w':=by
 obtain⟨h1,h2,h3,h4,h5⟩:=vj.1 h;have HV:=zh hv;have b5:=qd1 (v:=v) h;have p2:=ji n;have p4:=xo h4;obtain⟨b3,b4⟩:=qav v s n;have H:=zh h;obtain⟨b6,b7⟩:=qd4 (ye v s n+1) n;have E:=zh (qo2 (v:=v) (s:=s) (n:=n) ((ye v s n+1)%pw n) (ye v s n+1) (Int.emod_emod _ _));clear h hv
 have h3':0<=n:=by omega
 go_enter func204, ntmps204;go_wp2_with fail;refine(qj6 s n _ H.out).mono ?_;rintro e w1 ⟨rfl,rfl⟩;go_wp2_with fail;refine(qjx v s n _ H.out HV.out).mono ?_;rintro e w1 ⟨rfl,hd⟩;have HD:=zh hd;clear hd;go_wp2_with fail;refine(qe2 n _ ⟨h3',h4⟩).mono ?_;rintro e w2 ⟨rfl,rfl⟩;go_wp2_with fail;refine(qqz v s n _ _ H.out HV.out ?_).mono ?_
 . omega
 rintro e w2 ⟨rfl,hd⟩;have HD2:=zh hd;clear hd;rw[E.out];go_wp2;go_ret;exact⟨rfl,HD.out.trans HD2.out⟩
theorem qsr{v s n:Int}(h:isF s n=true):qg1 v s n=(xj v s n (ye v s n+1)-v)%4294967296:=by
 have b3:=qav v s n;have b4:=xo (vj.1 h).2.2.2.1
 have e:xj v s n ((ye v s n+1)%4294967296)=xj v s n (ye v s n+1):=by
  refine qo2 _ _ ?_
  by_cases hc:ye v s n+1=4294967296
  . have:pw n=4294967296:=by omega
    rw[hc,this];rfl
  . exact congrArg (· %pw n) (Int.emod_eq_of_lt (a:=ye v s n+1) (b:=4294967296) om om)
 simp[qg1,qmn,qdw,h,e]
theorem qva{v s n:Int}(h:isF s n=false):qg1 v s n=0:=by simp[qg1,qmn,h]
theorem qhn(v s n:Int)(w:World)(hv:0<=v/\v<4294967296):
 Calls prog 204 #[.int .u32 v,.int .i64 s,.int .i64 n] w fun e w'=>e= .returned (.int .u32 (qg1 v s n))/\Drew w w':=by
 cases h:isF s n
 . refine(qt8 v s n w h).mono fun e w' ⟨he,hw⟩=>⟨?_,Drew.of_eq hw⟩;rw[he,qva h]
 . refine(qo8 v s n w h hv).mono fun e w' ⟨he,hw⟩=>⟨?_,hw⟩;rw[he,qsr h]
theorem RunR.reset{w:World}{B base:Nat}{A:Option Addr}{l cp:Nat}{nv:Value}{r:LS}(h:RunR w B base A l cp nv r):
 RunR ((((((w.setCell ⟨B,14,none⟩ (.int .i64 0)).setCell ⟨B,15,none⟩ (.int .i64 0)).setCell ⟨B,16,none⟩ (.int .u32 0)).setCell ⟨B,17,none⟩ (.int .u32 0)).setCell ⟨B,18,none⟩ (.int .u32 0)).setCell ⟨B,19,none⟩ (.slice none 0 0)) B base A l cp (.slice none 0 0) r.fresh:=
 (h.setAcc zn).setNotes (xc _ _)
theorem ql4(B base:Nat)(A:Option Addr)(l cp:Nat)(nv:Value)(r:LS)(w:World)(h:RunR w B base A l cp nv r)(hon:r.k.on=false):
 Calls prog 54 #[.pointer (some ⟨B,0,none⟩)] w (qg B base A l cp w (.bool false) r.fresh):=by
 have HON:=zh hon;have a14:w.cell? ⟨B,14,none⟩=some (.int .i64 r.acc.k):=h.row.cell_ (i:=14) rfl;have a15:w.cell? ⟨B,15,none⟩=some (.int .i64 r.acc.c):=h.row.cell_ (i:=15) rfl;have a16:w.cell? ⟨B,16,none⟩=some (.int .u32 r.acc.x):=h.row.cell_ (i:=16) rfl;have a17:w.cell? ⟨B,17,none⟩=some (.int .u32 r.acc.y):=h.row.cell_ (i:=17) rfl;have a18:w.cell? ⟨B,18,none⟩=some (.int .u32 r.acc.o):=h.row.cell_ (i:=18) rfl;have a19:w.cell? ⟨B,19,none⟩=some (nv):=h.row.cell_ (i:=19) rfl;have f14:w.frozen? ⟨B,14,none⟩=false:=h.row.frozen 14;have f15:w.frozen? ⟨B,15,none⟩=false:=h.row.frozen 15;have f16:w.frozen? ⟨B,16,none⟩=false:=h.row.frozen 16;have f17:w.frozen? ⟨B,17,none⟩=false:=h.row.frozen 17;have f18:w.frozen? ⟨B,18,none⟩=false:=h.row.frozen 18;have f19:w.frozen? ⟨B,19,none⟩=false:=h.row.frozen 19;have HP0:=zh h.reset;have HO0:=zh (qa4 (Only.refl (qd B A) w) (B:=B) (.inl rfl));clear h hon;go_enter func54, ntmps54
 go_upto_region 3 with(fail)
 clear a14 a15 a16 a17 a18 a19 f14 f15 f16 f17 f18 f19;generalize ((((((w.setCell ⟨B,14,none⟩ (.int .i64 0)).setCell ⟨B,15,none⟩ (.int .i64 0)).setCell ⟨B,16,none⟩ (.int .u32 0)).setCell ⟨B,17,none⟩ (.int .u32 0)).setCell ⟨B,18,none⟩ (.int .u32 0)).setCell ⟨B,19,none⟩ (.slice none 0 0))=w1 at *;have c9:w1.cell? ⟨B,9,none⟩=some (.bool r.k.on):=HP0.out.row.cell_ (i:=9) rfl;rw[HON.out]at c9;go_wp2;go_ret;exact⟨rfl,HO0.out,_,HP0.out⟩
theorem qm8(B base:Nat)(A:Option Addr)(l cp:Nat)(nv:Value)(r:LS)(w:World)(h:RunR w B base A l cp nv r)(hon:r.k.on=true):
 Calls prog 54 #[.pointer (some ⟨B,0,none⟩)] w (qg B base A l cp w (.bool true) r.waking):=by
 have hacc:=qj8 r.xs r.n r.k.on r.k.c r.k.i r.k.hit;rw[show r.waking={r.fresh with acc:=ofV (jn r.xs r.n r.k.on r.k.c r.k.i r.k.hit).acc,k:=(jn r.xs r.n r.k.on r.k.c r.k.i r.k.hit).next,xs:=(jn r.xs r.n r.k.on r.k.c r.k.i r.k.hit).xs}from rfl]
 have hzl:(jn r.xs r.n r.k.on r.k.c r.k.i r.k.hit).xs.length=l:=by
  rw[←h.len];unfold jn xh xi qa9
  repeat' split
  all_goals first|rfl|exact qdv _ _ _
 generalize hst:jn r.xs r.n r.k.on r.k.c r.k.i r.k.hit=t at *;obtain⟨nx,ac,zs⟩:=t;dsimp only at hacc hzl ⊢;generalize ha5:ofV ac=a5 at *;have HST:=zh hst;have HAC:=zh hacc;have HZL:=zh hzl;clear hst hacc hzl ha5;have HON:=zh hon;have a14:w.cell? ⟨B,14,none⟩=some (.int .i64 r.acc.k):=h.row.cell_ (i:=14) rfl;have a15:w.cell? ⟨B,15,none⟩=some (.int .i64 r.acc.c):=h.row.cell_ (i:=15) rfl;have a16:w.cell? ⟨B,16,none⟩=some (.int .u32 r.acc.x):=h.row.cell_ (i:=16) rfl;have a17:w.cell? ⟨B,17,none⟩=some (.int .u32 r.acc.y):=h.row.cell_ (i:=17) rfl;have a18:w.cell? ⟨B,18,none⟩=some (.int .u32 r.acc.o):=h.row.cell_ (i:=18) rfl;have a19:w.cell? ⟨B,19,none⟩=some (nv):=h.row.cell_ (i:=19) rfl;have f14:w.frozen? ⟨B,14,none⟩=false:=h.row.frozen 14;have f15:w.frozen? ⟨B,15,none⟩=false:=h.row.frozen 15;have f16:w.frozen? ⟨B,16,none⟩=false:=h.row.frozen 16;have f17:w.frozen? ⟨B,17,none⟩=false:=h.row.frozen 17;have f18:w.frozen? ⟨B,18,none⟩=false:=h.row.frozen 18;have f19:w.frozen? ⟨B,19,none⟩=false:=h.row.frozen 19;have HP0:=zh h.reset;have HO0:=zh (qa4 (Only.refl (qd B A) w) (B:=B) (.inl rfl));clear h hon;go_enter func54, ntmps54
 go_upto_region 3 with(fail)
 clear a14 a15 a16 a17 a18 a19 f14 f15 f16 f17 f18 f19;generalize ((((((w.setCell ⟨B,14,none⟩ (.int .i64 0)).setCell ⟨B,15,none⟩ (.int .i64 0)).setCell ⟨B,16,none⟩ (.int .u32 0)).setCell ⟨B,17,none⟩ (.int .u32 0)).setCell ⟨B,18,none⟩ (.int .u32 0)).setCell ⟨B,19,none⟩ (.slice none 0 0))=w1 at *;have c9:w1.cell? ⟨B,9,none⟩=some (.bool r.k.on):=HP0.out.row.cell_ (i:=9) rfl;rw[HON.out]at c9
 go_upto_region 5 with(fail)
 clear c9;have HQ:r.fresh.xs=r.xs/\r.fresh.n=r.n/\r.fresh.k=r.k:=⟨rfl,rfl,rfl⟩;have HQ2:=zh HQ;clear HQ
 refine qb (n:=26) 15 (fun w=>w.cell? ⟨B,0,none⟩=some (.slice A l cp)/\w.cell? ⟨B,1,none⟩=some (.int .i64 r.n)/\w.cell? ⟨B,9,none⟩=some (.bool r.k.on)/\w.cell? ⟨B,10,none⟩=some (.int .i64 r.k.c)/\w.cell? ⟨B,11,none⟩=some (.int .i64 r.k.i)/\w.cell? ⟨B,12,none⟩=some (.bool r.k.hit)) rfl kr
  ⟨HP0.out.row.cell_ (i:=0) rfl,HP0.out.row.cell_ (i:=1) rfl,HP0.out.row.cell_ (i:=9) rfl,HP0.out.row.cell_ (i:=10) rfl,HP0.out.row.cell_ (i:=11) rfl,HP0.out.row.cell_ (i:=12) rfl⟩ (fun hHeld=> ?_)
 have HP1:=zh (HP0.out.keep (Only.refl Nil w1).drew);have HO1:=zh HO0.out.drew;clear HP0 HO0;generalize w1.drew=w2 at *;refine za 0 rfl ?_;refine za 1 rfl ?_;refine za 2 rfl ?_;refine za 3 rfl ?_;refine za 4 rfl ?_;refine zt 5 rfl ?_;refine za 6 rfl ?_;refine za 7 rfl ?_;refine za 8 rfl ?_;refine zt 9 rfl ?_;refine za 10 rfl ?_;refine za 11 rfl ?_;refine za 12 rfl ?_;refine za 13 rfl ?_;refine zt 14 rfl ?_;refine mpc 15 rfl kr br (fun K hK=> ?_);go_simp;refine(qq1 base A l cp r.xs r.n r.k.on r.k.c r.k.i r.k.hit _ HP1.out.own HP1.out.len).mono ?_;rw[HST.out];intro e w3 hF;obtain⟨rfl,hO,hM⟩:=hF;dsimp only at hM ⊢;rw[HAC.out];clear HAC;dsimp only[Acc5.v,WkV.v];have HP2:=zh (HP1.out.call hO hM HZL.out);have HO2:=zh (HO1.out.trans hO.turned2);refine hK.out _ _ (.inl kr) ?_;clear hK K hHeld hO hM HP1 HO1;refine za 16 rfl ?_;refine za 17 rfl ?_;refine za 18 rfl ?_;refine za 19 rfl ?_;refine za 20 rfl ?_;refine za 21 rfl ?_;have a9:w3.cell? ⟨B,9,none⟩=some (.bool r.k.on):=HP2.out.row.cell_ (i:=9) rfl;have a10:w3.cell? ⟨B,10,none⟩=some (.int .i64 r.k.c):=HP2.out.row.cell_ (i:=10) rfl;have a11:w3.cell? ⟨B,11,none⟩=some (.int .i64 r.k.i):=HP2.out.row.cell_ (i:=11) rfl;have a12:w3.cell? ⟨B,12,none⟩=some (.bool r.k.hit):=HP2.out.row.cell_ (i:=12) rfl;have f9:w3.frozen? ⟨B,9,none⟩=false:=HP2.out.row.frozen 9;have f10:w3.frozen? ⟨B,10,none⟩=false:=HP2.out.row.frozen 10;have f11:w3.frozen? ⟨B,11,none⟩=false:=HP2.out.row.frozen 11;have f12:w3.frozen? ⟨B,12,none⟩=false:=HP2.out.row.frozen 12;refine mpc 22 rfl kr br (fun K hK=> ?_);go_simp;have HP3:=zh (HP2.out.setWake nx);have HO3:=zh (jk HO2.out (B:=B) (.inl rfl) (.bool nx.on) (.int .i64 nx.c) (.int .i64 nx.i) (.bool nx.hit));refine hK.out _ _ (.inl kr) ?_;clear hK K a9 a10 a11 a12 f9 f10 f11 f12 HP2 HO2;generalize (((w3.setCell ⟨B,9,none⟩ (.bool nx.on)).setCell ⟨B,10,none⟩ (.int .i64 nx.c)).setCell ⟨B,11,none⟩ (.int .i64 nx.i)).setCell ⟨B,12,none⟩ (.bool nx.hit)=w4 at *;refine za 23 rfl ?_;refine za 24 rfl ?_;have b14:w4.cell? ⟨B,14,none⟩=some (.int .i64 0):=HP3.out.row.cell_ (i:=14) rfl;have b15:w4.cell? ⟨B,15,none⟩=some (.int .i64 0):=HP3.out.row.cell_ (i:=15) rfl;have b16:w4.cell? ⟨B,16,none⟩=some (.int .u32 0):=HP3.out.row.cell_ (i:=16) rfl;have b17:w4.cell? ⟨B,17,none⟩=some (.int .u32 0):=HP3.out.row.cell_ (i:=17) rfl;have b18:w4.cell? ⟨B,18,none⟩=some (.int .u32 0):=HP3.out.row.cell_ (i:=18) rfl;have f14:w4.frozen? ⟨B,14,none⟩=false:=HP3.out.row.frozen 14;have f15:w4.frozen? ⟨B,15,none⟩=false:=HP3.out.row.frozen 15;have f16:w4.frozen? ⟨B,16,none⟩=false:=HP3.out.row.frozen 16;have f17:w4.frozen? ⟨B,17,none⟩=false:=HP3.out.row.frozen 17;have f18:w4.frozen? ⟨B,18,none⟩=false:=HP3.out.row.frozen 18;refine mpc 25 rfl kr br (fun K hK=> ?_);go_simp;have HP4:=zh (HP3.out.setAcc a5);have HO4:=zh (ze HO3.out (B:=B) (.inl rfl) (.int .i64 a5.k) (.int .i64 a5.c) (.int .u32 a5.x) (.int .u32 a5.y) (.int .u32 a5.o));refine hK.out _ _ (.inl kr) ?_;clear hK K b14 b15 b16 b17 b18 f14 f15 f16 f17 f18 HP3 HO3;generalize ((((w4.setCell ⟨B,14,none⟩ (.int .i64 a5.k)).setCell ⟨B,15,none⟩ (.int .i64 a5.c)).setCell ⟨B,16,none⟩ (.int .u32 a5.x)).setCell ⟨B,17,none⟩ (.int .u32 a5.y)).setCell ⟨B,18,none⟩ (.int .u32 a5.o)=w5 at *;refine qc kr ?_ _;go_wp2;go_ret;exact⟨rfl,HO4.out,_,HP4.out⟩
theorem qcf{w:World}{o:Oper}{a:Act}{K:Act->World->Prop}{Q:Exit->Act->World->Prop}(s x:Operand)
 (ho:o.op= .call {callee:= .builtin .append,args:= #[s,x],argTypes:= #[34, 34]})
 (base:Nat) (v:Value) (zs:List Nt) (hs:a.eval s=v) (hown:OwnN base w v zs)
 (u:Value) (ys:List Nt) (hx:a.eval x=u) (hu:OwnN 0 w u ys)
 (h1:zs.length<=4000) (h2:ys.length<=1000) (hbase:base<=w.heap.size)
 (h:∀v' w',OwnN base w' v' (zs++ys)->Only (fun k=>v.ownBlock=some k) w w'->K (a.put o.dst v') w'):o.wp prog a w K Q:=by
 obtain⟨i0,hi,hz0,hz1,hz2⟩:=info_parts qhu;rcases hu.2 with⟨rfl,hn⟩|⟨g,cap,cur,rfl,_,hg,hc,hm,hsz,ht⟩
 . obtain rfl:=List.eq_nil_of_length_eq_zero hn;have hrun:=run_append_owned_none (P:= prog) (w:=w) base 34 o.type 78 i0 4 underlying34 hi v zs.length (km zs) hown;unfold Oper.wp;simp[execOp,ho,resolve,invoke,builtin,hs,hx,hrun,Result.andThen];exact h v w (by rw[List.append_nil];exact hown) (Only.refl _ _)
 . refine wp_append_own w s x 34 ho base 78 i0 (.agg #[.int .i64 0,.int .i64 0,.int .i64 0,.int .i64 0]) 4 32 underlying34 hi hz0 hz1 hz2 rfl dc v zs.length (km zs) hs hown ⟨g,0,none⟩ ys.length cap (km ys) hx (kt ys) (fun j u hj=>World.ownsRow.cells hu (g:=g) rfl j u hj) (fun u hu=>qcq ys u hu) (by unfold maxLen;omega) om hbase (fun v' w' hO hG _=> ?_);refine h v' w' ?_ ((Only.refl _ w).grown hG (fun k hk=> .inr hk));have e:(zs++ys).length=zs.length+ys.length:=List.length_append;unfold OwnN;rw[e,qbz];exact hO
theorem qmo(A:Option Addr)(l cp:Nat)(xs:List Int)(n mode i s:Int)(hn:xs.length=l)(w:World)(hx:Ints w w.heap.size .u32 A xs):
 Calls prog 53 #[.slice A l cp,.int .i64 n,.int .i64 mode,.int .i64 i,.agg #[.int .i64 s]] w fun e w'=>
  e= .returned (.bool (jq xs n mode i s))/\Only Nil w w':=by
 have e1:=(Only.refl Nil w).alloc (Obj.cells #[Value.int IntKind.i64 s] 68);have HO:=zh e1;have HX:=zh (hx.only e1 (Nat.le_refl _) (fun _ _=>id));have HN:=zh hn;clear e1 hx hn
 by_cases h2:mode=2
 . by_cases h3:s=3
   . have hs:jq xs n mode i s= !vw xs n i:=by rw[h2,h3];rfl
     rw[hs];clear hs;subst h2 h3;go_enter func53, ntmps53;go_wp2_with fail;refine(qg8 A l cp _ xs n i HN.out _ HX.out).mono ?_;rintro e w2 ⟨rfl,rfl⟩;go_wp2;go_ret;exact⟨rfl,HO.out⟩
   . have hs:jq xs n mode i s=false:=by unfold jq;rw[beq_eq_false_iff_ne.2 h3,Bool.and_false,Bool.false_and]
     rw[hs];clear hs;subst h2;have h3':=beq_eq_false_iff_ne.2 h3;go_enter func53, ntmps53;go_wp2;go_ret;exact⟨rfl,HO.out⟩
 . have hs:jq xs n mode i s=false:=by unfold jq;rw[beq_eq_false_iff_ne.2 h2,Bool.false_and,Bool.false_and]
   rw[hs];clear hs;have h2':=beq_eq_false_iff_ne.2 h2;go_enter func53, ntmps53;go_wp2;go_ret;exact⟨rfl,HO.out⟩
theorem qe8(g gt base:Nat)(A:Option Addr)(l cp:Nat)(kind mode:Int)(k t:Nat)(m:MV)(W:World)(h:RWd W g gt base A l cp kind mode k m)(ht:t<k):
 Calls prog 23 #[.pointer (some ⟨g,0,none⟩),.int .i64 t] W fun e w'=>e= .returned (.bool (!decide ((m.rs t).op=0) && (!(m.rs t).k.on && jq m.xs k mode t (m.rs t).s)))/\Only Nil W w':=by
 have H:=zh h;have HT:=zh ht;have a0:W.cell? ⟨g,0,none⟩=some (.int .i64 kind):=H.out.row.cell_ (i:=0) rfl;have a1:W.cell? ⟨g,1,none⟩=some (.int .i64 mode):=H.out.row.cell_ (i:=1) rfl;have a2:W.cell? ⟨g,2,none⟩=some (.slice A l cp):=H.out.row.cell_ (i:=2) rfl;have a3:W.cell? ⟨g,3,none⟩=some (.slice (some ⟨gt,0,none⟩) k k):=H.out.row.cell_ (i:=3) rfl;have z0:W.cell? ⟨gt,t*11+1,none⟩=some (.int .i64 (m.rs t).op):=H.out.tasks.cell HT.out 1 rfl;have z1:W.cell? ⟨gt,t*11+1+1,none⟩=some (.int .i64 (m.rs t).line):=H.out.tasks.cell HT.out 2 rfl;have z2:W.cell? ⟨gt,t*11+1+2,none⟩=some (.int .u32 (m.rs t).a):=H.out.tasks.cell HT.out 3 rfl;have z3:W.cell? ⟨gt,t*11+1+3,none⟩=some (.int .u32 (m.rs t).b):=H.out.tasks.cell HT.out 4 rfl;have z4:W.cell? ⟨gt,t*11+1+4,none⟩=some (.int .i64 (m.rs t).s):=H.out.tasks.cell HT.out 5 rfl;have z5:W.cell? ⟨gt,t*11+1+5,none⟩=some (.bool (m.rs t).k.on):=H.out.tasks.cell HT.out 6 rfl;have z6:W.cell? ⟨gt,t*11+1+6,none⟩=some (.int .i64 (m.rs t).k.c):=H.out.tasks.cell HT.out 7 rfl;have z7:W.cell? ⟨gt,t*11+1+7,none⟩=some (.int .i64 (m.rs t).k.i):=H.out.tasks.cell HT.out 8 rfl;have z8:W.cell? ⟨gt,t*11+1+8,none⟩=some (.bool (m.rs t).k.hit):=H.out.tasks.cell HT.out 9 rfl;have z9:W.cell? ⟨gt,t*11+1+9,none⟩=some (.int .i64 (m.rs t).ret):=H.out.tasks.cell HT.out 10 rfl
 have q0:¬(t:Int)<0:=by omega
 have q1:¬(k:Int)<=(t:Int):=by omega
 clear h ht;obtain⟨o,ho⟩:∃o,(m.rs t).op=o:=⟨_,rfl⟩;obtain⟨on,hon⟩:∃on,(m.rs t).k.on=on:=⟨_,rfl⟩;obtain⟨s,hs⟩:∃s,(m.rs t).s=s:=⟨_,rfl⟩;have HE:=zh (And.intro ho (And.intro hon hs));rw[ho]at z0;rw[hs]at z4;rw[hon]at z5;clear ho hon hs;go_enter func23, ntmps23
 go_upto_region 4 with(fail)
 clear q0 q1 a0 a1 a2 a3 z0 z1 z2 z3 z4 z5 z6 z7 z8 z9;have e0:=(Only.refl Nil W).alloc (.cells #[.int .i64 o,.int .i64 (m.rs t).line,.int .u32 (m.rs t).a,.int .u32 (m.rs t).b,.int .i64 s,.bool on,.int .i64 (m.rs t).k.c,.int .i64 (m.rs t).k.i,.bool (m.rs t).k.hit,.int .i64 (m.rs t).ret] 72);have HO:=zh e0;have HW:=zh (H.out.keep e0);have HF:=zh (Row.new W 72 #[.int .i64 o,.int .i64 (m.rs t).line,.int .u32 (m.rs t).a,.int .u32 (m.rs t).b,.int .i64 s,.bool on,.int .i64 (m.rs t).k.c,.int .i64 (m.rs t).k.i,.bool (m.rs t).k.hit,.int .i64 (m.rs t).ret]);clear e0 H;generalize W.alloc (.cells #[.int .i64 o,.int .i64 (m.rs t).line,.int .u32 (m.rs t).a,.int .u32 (m.rs t).b,.int .i64 s,.bool on,.int .i64 (m.rs t).k.c,.int .i64 (m.rs t).k.i,.bool (m.rs t).k.hit,.int .i64 (m.rs t).ret] 72)=w1 at *;generalize W.heap.size=gf at *;have v0:w1.cell? ⟨gf,0,none⟩=some (.int .i64 o):=HF.out.cell_ (i:=0) rfl;have v4:w1.cell? ⟨gf,4,none⟩=some (.int .i64 s):=HF.out.cell_ (i:=4) rfl;have v5:w1.cell? ⟨gf,5,none⟩=some (.bool on):=HF.out.cell_ (i:=5) rfl;have a0:w1.cell? ⟨g,0,none⟩=some (.int .i64 kind):=HW.out.row.cell_ (i:=0) rfl;have a1:w1.cell? ⟨g,1,none⟩=some (.int .i64 mode):=HW.out.row.cell_ (i:=1) rfl;have a2:w1.cell? ⟨g,2,none⟩=some (.slice A l cp):=HW.out.row.cell_ (i:=2) rfl;have a3:w1.cell? ⟨g,3,none⟩=some (.slice (some ⟨gt,0,none⟩) k k):=HW.out.row.cell_ (i:=3) rfl;clear HF;have HW2:=zh (HW.out.keep (Only.refl Nil w1).drew);have HO2:=zh HO.out.drew;clear HW
 by_cases h0:o=0
 . subst h0
   go_quiet (fail)
   go_wp2;go_ret;exact⟨by rw[HE.out.1];rfl,HO.out.drewN _⟩
 . have hn:(o !=0)=true:=bne_iff_ne.2 h0;have HN:=zh h0;clear h0
   cases on
   rotate_left
   . go_quiet (fail)
     go_wp2;go_ret;exact⟨by rw[HE.out.1,HE.out.2.1,decide_eq_false HN.out];rfl,HO.out.drewN _⟩
   . go_still_tail 26,kr
     go_wp2_with fail;refine(qmo A l cp m.xs k mode t s HW2.out.len _ HW2.out.own.held.2.2).mono ?_;rintro e w3 ⟨rfl,hO⟩;have HO3:=zh (HO2.out.trans hO);clear hO;obtain⟨q,hq⟩:∃q,jq m.xs k mode t s=q:=⟨_,rfl⟩;rw[hq];have HQ:=zh hq;clear hq;go_wp2;go_ret;exact⟨by rw[HE.out.1,HE.out.2.1,HE.out.2.2,decide_eq_false HN.out,HQ.out];rfl,HO3.out⟩
theorem qiq(o:Int)(W:World):Calls prog 25 #[.int .i64 o] W fun e w'=>e= .returned (.string (opW o))/\Only Nil W w':=by
 have hc:o=0\/o=1\/o=2\/o=3\/o=4\/o=5\/o=6\/o=7\/o=8\/o<0\/8<o:=by omega
 rcases hc with rfl|rfl|rfl|rfl|rfl|rfl|rfl|rfl|rfl|h|h
 case inr.inr.inr.inr.inr.inr.inr.inr.inr.inl=>
  rw[qc5 om];go_enter func25, ntmps25;go_wp2;go_ret;exact⟨rfl,(Only.refl Nil W).alloc _⟩
 case inr.inr.inr.inr.inr.inr.inr.inr.inr.inr=>
  rw[qc5 om]
  have h0:¬o<0:=by omega
  go_enter func25, ntmps25;go_wp2;go_ret;exact⟨rfl,(Only.refl Nil W).alloc _⟩
 all_goals
  go_enter func25, ntmps25;go_wp2;go_ret;exact⟨rfl,(Only.refl Nil W).alloc _⟩
theorem zaf(A B:Option Addr)(c d n:Nat)(xs:List Int)(w:World)(hn:xs.length=n)(hx:Held w A n c xs)(hy:Held w B n d xs)(hm:n<=1048576):
 Calls prog 30 #[.slice A n c,.slice B n d] w fun e w'=>e= .returned (.bool true)/\∃m,w'=w.drewN m:=by
 have hx3:=hx.2.2;have hy3:=hy.2.2;clear hx hy;have HX:=zh hx3;have HY:=zh hy3;have HNX:=zh hn;clear hx3 hy3 hn;go_enter func30, ntmps30;go_wp2
 go_loopw [5] (fun i wr=>∃k:Nat,k<=n/\i= .int .i64 k/\∃m,wr=w.drewN m) (fun i _=>n-(intOf i).toNat)
 case atStart=>exact⟨0,Nat.zero_le _,rfl,0,rfl⟩
 case round=>
  obtain⟨k,hk,rfl,m,rfl⟩:=hrel
  by_cases hlt:k<n
  . obtain⟨b1,o1,hA,_,hc1⟩:=HX.out (by rw[HNX.out];omega);obtain⟨b2,o2,hB,_,hc2⟩:=HY.out (by rw[HNX.out];omega);subst hA hB;have c1:=hc1 k (by rw[HNX.out];omega);have c2:=hc2 k (by rw[HNX.out];omega);clear hc1 hc2;generalize xs.getD k 0=x at *
    have hxx:(x !=x)=false:=by simp
    go_wp2
    go_quiet (fail)
    go_wp2;exact⟨⟨k+1,om,by go_num,_,rfl⟩,by simp[intOf];omega⟩
  . have hkn:k=n:=by omega
    subst hkn;go_wp2;go_ret;exact⟨rfl,m,rfl⟩
theorem qy2(b:Nat)(A:Option Addr)(c:Nat)(xs:List Int)(w:World)(h:Mem w b A c xs):
 Calls prog 58 #[.pointer (some ⟨b,0,none⟩)] w fun e w'=>∃A' c',e= .returned (.slice A' xs.length c')/\Own w' w.heap.size A' c' xs/\Only Nil w w':=by
 have hl:=h.len;have hc:w.cell? ⟨b,0,none⟩=some (.slice A xs.length c):=h.hdr.cell_ (i:=0) rfl;have HH:=zh h;clear h;go_enter func58, ntmps58;go_wp2_with (go_at_call 44;refine(qge A xs.length c xs _ om HH.out.own.held).mono ?_;rintro e w1 ⟨A',c',rfl,ho,hO⟩);have HO:=zh ho;have HW:=zh hO;clear ho hO;go_ret;exact⟨A',c',rfl,HO.out,HW.out⟩
end Go.Proofs.YtgebffjejifidaaGreat
