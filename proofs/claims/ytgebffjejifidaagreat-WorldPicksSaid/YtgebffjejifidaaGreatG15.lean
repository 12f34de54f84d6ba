import Derived.Test.YtgebffjejifidaaGreatG1
import Derived.IntWalk
import Derived.Test.YtgebffjejifidaaGreatG14
import Derived.Test.YtgebffjejifidaaGreatG5
import Derived.Test.YtgebffjejifidaaGreatG11
import Derived.Test.YtgebffjejifidaaGreatG2
set_option linter.unusedVariables false
set_option linter.unusedSimpArgs false
set_option maxHeartbeats 40000000
set_option maxRecDepth 100000
namespace Go.Proofs.YtgebffjejifidaaGreat
open Go.RowKit Tryz
theorem qwa{r:LS}(h1:r.op=1)(h2:r.line=0):r.tf=(r.draw 1):=by unfold LS.tf;rw[h1,h2];rfl
theorem qf3{r:LS}(h1:r.op=1)(h2:r.line=1):r.tf=(r.awaitR):=by unfold LS.tf;rw[h1,h2];rfl
theorem qxc{r:LS}(h1:r.op=1)(h2:r.line=2):r.tf=(r.turn 1 4):=by unfold LS.tf;rw[h1,h2];rfl
theorem qx4{r:LS}(h1:r.op=2)(h2:r.line=0):r.tf=(r.turn 2 6):=by unfold LS.tf;rw[h1,h2];rfl
theorem qxg{r:LS}(h1:r.op=3)(h2:r.line=0):r.tf=(r.draw 2):=by unfold LS.tf;rw[h1,h2];rfl
theorem qez{r:LS}(h1:r.op=3)(h2:r.line=1):r.tf=(r.awaitW):=by unfold LS.tf;rw[h1,h2];rfl
theorem qwx{r:LS}(h1:r.op=4)(h2:r.line=0):r.tf=(r.leave):=by unfold LS.tf;rw[h1,h2];rfl
theorem qw9{r:LS}(h1:r.op=4)(h2:r.line=1):r.tf=(r.turn 2 8):=by unfold LS.tf;rw[h1,h2];rfl
theorem qw0{r:LS}(h1:r.op=5)(h2:r.line=0):r.tf=(r.look):=by unfold LS.tf;rw[h1,h2];rfl
theorem qi1{r:LS}(h1:r.op=5)(h2:r.line=1):r.tf=(r.weigh 1 0):=by unfold LS.tf;rw[h1,h2];rfl
theorem qo0{r:LS}(h1:r.op=5)(h2:r.line=2):r.tf=(if r.claimed then(r.claim.note 2 1).go 3 else r.claim.go 0):=by unfold LS.tf;rw[h1,h2];rfl
theorem qwd{r:LS}(h1:r.op=5)(h2:r.line=3):r.tf=(r.turn 1 4):=by unfold LS.tf;rw[h1,h2];rfl
theorem qxx{r:LS}(h1:r.op=6)(h2:r.line=0):r.tf=(r.look):=by unfold LS.tf;rw[h1,h2];rfl
theorem qj3{r:LS}(h1:r.op=6)(h2:r.line=1):r.tf=(r.weigh 2 0):=by unfold LS.tf;rw[h1,h2];rfl
theorem qna{r:LS}(h1:r.op=6)(h2:r.line=2):r.tf=(if r.claimed then((r.claim.note 2 2).note 4 0).fin true else r.claim.go 0):=by unfold LS.tf;rw[h1,h2];rfl
theorem qxf{r:LS}(h1:r.op=7)(h2:r.line=0):r.tf=(r.look):=by unfold LS.tf;rw[h1,h2];rfl
theorem qit{r:LS}(h1:r.op=7)(h2:r.line=1):r.tf=(r.weigh 2 1):=by unfold LS.tf;rw[h1,h2];rfl
theorem qnt{r:LS}(h1:r.op=7)(h2:r.line=2):r.tf=(if r.claimed then(r.claim.note 9 0).go 3 else r.claim.go 0):=by unfold LS.tf;rw[h1,h2];rfl
theorem qvr{r:LS}(h1:r.op=7)(h2:r.line=3):r.tf=(r.giveBack):=by unfold LS.tf;rw[h1,h2];rfl
theorem qwq{r:LS}(h1:r.op=8)(h2:r.line=0):r.tf=(r.turn 1 10):=by unfold LS.tf;rw[h1,h2];rfl
section
variable{B base:Nat}{A:Option Addr}{l cp:Nat}{r:LS}{w0 w:World}
theorem qae(S:SR w0 B base A l cp 900 r w)(hx:Words r.xs)(ha:0<=r.a/\r.a<4294967296)(hb:0<=r.b/\r.b<4294967296)(hh:(r.op=1/\r.line=0)\/(r.op=3/\r.line=0)\/(r.op=1/\r.line=1)\/(r.op=1/\r.line=2)\/(r.op=2/\r.line=0)\/(r.op=3/\r.line=1)\/(r.op=4/\r.line=0)\/(r.op=4/\r.line=1)\/(r.op=5/\r.line=0)\/(r.op=6/\r.line=0)\/(r.op=7/\r.line=0)\/(r.op=5/\r.line=3)\/(r.op=8/\r.line=0)\/(r.op=7/\r.line=3)):Calls prog 95 #[Value.pointer (some ⟨B,0,none⟩)] w (qg B base A l cp w0 (.tuple #[]) r.tf):=by
 obtain⟨ol,H1⟩:∃ol,Hid (r.op=ol):=⟨_,zh rfl⟩;obtain⟨ln,H2⟩:∃ln,Hid (r.line=ln):=⟨_,zh rfl⟩;rw[H1.out,H2.out]at hh;have HX:=zh hx;have HA:=zh ha;have HB:=zh hb;clear hx ha hb
 have q0:¬ln<0:=by omega
 have q1:¬3<ln:=by omega
 have q2:¬ol<1:=by omega
 have q3:¬8<ol:=by omega
 have hw1:IntKind.i64.wrap (ol*10)=ol*10:=IntWalk.i64_in _ om;have hw2:IntKind.i64.wrap (ol*10+ln)=ol*10+ln:=IntWalk.i64_in _ om;have HH:=zh hh;have d0:=decide_eq_false q0;have d1:=decide_eq_false q1;have d2:=decide_eq_false q2;have d3:=decide_eq_false q3;clear hh q0 q1 q2 q3
 have c4:w.cell? ⟨B,4,none⟩=some (.int .i64 ol):=by rw[←H1.out];exact S.c4
 have c5:w.cell? ⟨B,5,none⟩=some (.int .i64 ln):=by rw[←H2.out];exact S.c5
 have c6:=S.c6;have e0:=(Only.refl Nil w).alloc (.cells #[.int .i64 0,.int .u32 4294967295,.int .u32 r.a] 179);have HS:=zh (S.keep e0);have HU:=zh (Row.new w 179 #[.int .i64 0,.int .u32 4294967295,.int .u32 r.a]);clear e0;go_enter func95, ntmps95
 go_upto_region 3 with(fail)
 clear d0 d1 d2 d3 c4 c5 c6 S;generalize w.alloc (.cells #[.int .i64 0,.int .u32 4294967295,.int .u32 r.a] 179)=w2 at *;generalize w.heap.size=gu at *;have S:=HS.out;clear HS
 have c4:w2.cell? ⟨B,4,none⟩=some (.int .i64 ol):=by rw[←H1.out];exact S.c4
 have c5:w2.cell? ⟨B,5,none⟩=some (.int .i64 ln):=by rw[←H2.out];exact S.c5
 refine qb (n:=10) 9 (fun w=>w.cell? ⟨B,4,none⟩=some (.int .i64 ol)/\w.cell? ⟨B,5,none⟩=some (.int .i64 ln)) rfl kr ⟨c4,c5⟩ (fun hHeld=> ?_);clear c4 c5;replace S:=S.drew;refine za 0 rfl ?_;refine za 1 rfl ?_;refine za 2 rfl ?_;refine zt 3 rfl ?_;refine mpa 4 rfl (.int .i64 (ol*10)) (fun w=> ?_) ?_
 . go_simp
 refine za 5 rfl ?_;refine za 6 rfl ?_;refine za 7 rfl ?_;refine zt 8 rfl ?_;refine mpc 9 rfl kr br (fun K hK=> ?_);go_simp;refine hK.out _ _ (.inl kr) ?_;clear hK K hHeld hw1 hw2;refine qc kr ?_ _;have hh:=HH.out;clear HH;have HU:=zh HU.out.drew;generalize w2.drew=w3 at *;rcases hh with⟨rfl,rfl⟩|⟨rfl,rfl⟩|⟨rfl,rfl⟩|⟨rfl,rfl⟩|⟨rfl,rfl⟩|⟨rfl,rfl⟩|⟨rfl,rfl⟩|⟨rfl,rfl⟩|⟨rfl,rfl⟩|⟨rfl,rfl⟩|⟨rfl,rfl⟩|⟨rfl,rfl⟩|⟨rfl,rfl⟩|⟨rfl,rfl⟩
 . go_wp2_with fail;refine ks S fun w4 S=> ?_
   have c4:w4.cell? ⟨B,4,none⟩=some (.int .i64 1):=by rw[←H1.out];exact S.c4
   have c6:=S.c6;have f6:=S.froz 6;replace S:=S.setA (qa r.xs 0);go_wp2_with fail;clear c6 f6 c4;refine qm S fun w S=> ?_;have c5:=S.c5;have f5:=S.froz 5;replace S:=S.setLine (1);go_wp2;go_returns;exact S.fit (by rw[qwa H1.out H2.out];rfl)
 . go_wp2_with fail;refine ks S fun w4 S=> ?_
   have c4:w4.cell? ⟨B,4,none⟩=some (.int .i64 3):=by rw[←H1.out];exact S.c4
   have c6:=S.c6;have f6:=S.froz 6;replace S:=S.setA (qa r.xs 0);go_wp2_with fail;clear c6 f6 c4;refine qm S fun w S=> ?_;have c5:=S.c5;have f5:=S.froz 5;replace S:=S.setLine (1);go_wp2;go_returns;exact S.fit (by rw[qxg H1.out H2.out];rfl)
 . obtain⟨sn,hsn⟩:∃sn,(r.stepR 1 (r.mine)).seen=sn:=⟨_,rfl⟩;obtain⟨dn,hdn⟩:∃dn,(r.stepR 1 (r.mine)).done=dn:=⟨_,rfl⟩;obtain⟨r1,hr1⟩:∃r1,r.wait 1 (r.mine)=r1:=⟨_,rfl⟩;have H:=zh (And.intro hsn (And.intro hdn hr1));clear hsn hdn hr1;have u0:=HU.out.cell_ (i:=0) rfl;have u1:=HU.out.cell_ (i:=1) rfl;have u2:=HU.out.cell_ (i:=2) rfl;go_wp2_with fail;clear u0 u1 u2;refine qbl (q:=r.mine) S HX.out (qa7 (qq HX.out 1)) H.out.1 H.out.2.1 H.out.2.2 fun w7 S=> ?_
   cases sn
   all_goals cases dn
   . go_wp2;go_returns;exact S.fit (by rw[qf3 H1.out H2.out];unfold LS.awaitR;rw[H.out.2.1,H.out.2.2];try rfl)
   . have c5:=S.c5;have f5:=S.froz 5;replace S:=S.setLine (2);go_wp2;go_returns;exact S.fit (by rw[qf3 H1.out H2.out];unfold LS.awaitR;rw[H.out.2.1,H.out.2.2];try rfl)
   . go_wp2;go_returns;exact S.fit (by rw[qf3 H1.out H2.out];unfold LS.awaitR;rw[H.out.2.1,H.out.2.2];try rfl)
   . have c5:=S.c5;have f5:=S.froz 5;replace S:=S.setLine (2);go_wp2;go_returns;exact S.fit (by rw[qf3 H1.out H2.out];unfold LS.awaitR;rw[H.out.2.1,H.out.2.2];try rfl)
 . go_wp2_with fail;refine ks S fun w S=> ?_
   have c4:w.cell? ⟨B,4,none⟩=some (.int .i64 1):=by rw[←H1.out];exact S.c4
   go_wp2_with fail;clear c4;refine qm S fun w S=> ?_;go_wp2_with fail;refine vl S fun w S=> ?_;go_wp2_with fail;refine yu S fun w S=> ?_;go_wp2;go_returns;exact S.fit (by rw[qxc H1.out H2.out];rfl)
 . go_wp2_with fail;refine ks S fun w S=> ?_;go_wp2_with fail;refine qm S fun w S=> ?_;go_wp2_with fail;refine vl S fun w S=> ?_;go_wp2_with fail;refine yu S fun w S=> ?_;go_wp2;go_returns;exact S.fit (by rw[qx4 H1.out H2.out];rfl)
 . obtain⟨sn,hsn⟩:∃sn,(r.stepR 2 (r.mine)).seen=sn:=⟨_,rfl⟩;obtain⟨dn,hdn⟩:∃dn,(r.stepR 2 (r.mine)).done=dn:=⟨_,rfl⟩;obtain⟨r1,hr1⟩:∃r1,r.wait 2 (r.mine)=r1:=⟨_,rfl⟩;have H:=zh (And.intro hsn (And.intro hdn hr1));clear hsn hdn hr1;have u0:=HU.out.cell_ (i:=0) rfl;have u1:=HU.out.cell_ (i:=1) rfl;have u2:=HU.out.cell_ (i:=2) rfl;go_wp2_with fail;clear u0 u1 u2;refine qbl (q:=r.mine) S HX.out (qa7 (qq HX.out 2)) H.out.1 H.out.2.1 H.out.2.2 fun w7 S=> ?_
   cases sn
   all_goals cases dn
   . go_wp2;go_returns;exact S.fit (by rw[qez H1.out H2.out];unfold LS.awaitW;rw[H.out.1,H.out.2.1,H.out.2.2];try rfl)
   . go_wp2_with fail;refine yu S fun w S=> ?_;go_wp2;go_returns;exact S.fit (by rw[qez H1.out H2.out];unfold LS.awaitW;rw[H.out.1,H.out.2.1,H.out.2.2];try rfl)
   . go_wp2_with fail;refine qm S fun w S=> ?_;go_wp2;go_returns;exact S.fit (by rw[qez H1.out H2.out];unfold LS.awaitW;rw[H.out.1,H.out.2.1,H.out.2.2];try rfl)
   . go_wp2_with fail;refine qm S fun w S=> ?_;go_wp2_with fail;refine yu S fun w S=> ?_;go_wp2;go_returns;exact S.fit (by rw[qez H1.out H2.out];unfold LS.awaitW;rw[H.out.1,H.out.2.1,H.out.2.2];try rfl)
 . go_wp2_with fail;refine ks S fun w S=> ?_;go_wp2_with fail;refine qm S fun w S=> ?_;go_wp2_with fail;refine vl S fun w S=> ?_;have c5:=S.c5;have f5:=S.froz 5;replace S:=S.setLine (1);go_wp2;go_returns;exact S.fit (by rw[qwx H1.out H2.out];rfl)
 . go_wp2_with fail;refine ks S fun w S=> ?_;go_wp2_with fail;refine qm S fun w S=> ?_;go_wp2_with fail;refine vl S fun w S=> ?_;go_wp2_with fail;refine yu S fun w S=> ?_;go_wp2;go_returns;exact S.fit (by rw[qw9 H1.out H2.out];rfl)
 . go_wp2_with fail;refine yq S fun w4 S=> ?_;have c6:=S.c6;have f6:=S.froz 6;replace S:=S.setA (qa r.xs 0);have c5:=S.c5;have f5:=S.froz 5;replace S:=S.setLine (1);go_wp2;go_returns;exact S.fit (by rw[qw0 H1.out H2.out];rfl)
 . go_wp2_with fail;refine yq S fun w4 S=> ?_;have c6:=S.c6;have f6:=S.froz 6;replace S:=S.setA (qa r.xs 0);have c5:=S.c5;have f5:=S.froz 5;replace S:=S.setLine (1);go_wp2;go_returns;exact S.fit (by rw[qxx H1.out H2.out];rfl)
 . go_wp2_with fail;refine yq S fun w4 S=> ?_;have c6:=S.c6;have f6:=S.froz 6;replace S:=S.setA (qa r.xs 0);have c5:=S.c5;have f5:=S.froz 5;replace S:=S.setLine (1);go_wp2;go_returns;exact S.fit (by rw[qxf H1.out H2.out];rfl)
 . go_wp2_with fail;refine ks S fun w S=> ?_
   have c4:w.cell? ⟨B,4,none⟩=some (.int .i64 5):=by rw[←H1.out];exact S.c4
   go_wp2_with fail;clear c4;refine qm S fun w S=> ?_;go_wp2_with fail;refine vl S fun w S=> ?_;go_wp2_with fail;refine yu S fun w S=> ?_;go_wp2;go_returns;exact S.fit (by rw[qwd H1.out H2.out];rfl)
 . go_wp2_with fail;refine ks S fun w S=> ?_
   have c4:w.cell? ⟨B,4,none⟩=some (.int .i64 8):=by rw[←H1.out];exact S.c4
   go_wp2_with fail;clear c4;refine qm S fun w S=> ?_;go_wp2_with fail;refine vl S fun w S=> ?_;go_wp2_with fail;refine yu S fun w S=> ?_;go_wp2;go_returns;exact S.fit (by rw[qwq H1.out H2.out];rfl)
 . go_wp2_with fail;refine ks S fun w S=> ?_;go_wp2_with fail;refine yu S fun w S=> ?_;go_wp2;go_returns;exact S.fit (by rw[qvr H1.out H2.out];rfl)
end
section
variable{B base:Nat}{A:Option Addr}{l cp:Nat}{r:LS}{w0 w:World}
theorem qhp(S:SR w0 B base A l cp 900 r w)(hx:Words r.xs)(ha:0<=r.a/\r.a<4294967296)(hb:0<=r.b/\r.b<4294967296)(hh:(r.op=5/\r.line=1)\/(r.op=6/\r.line=1)\/(r.op=7/\r.line=1)\/(r.op=5/\r.line=2)\/(r.op=6/\r.line=2)\/(r.op=7/\r.line=2)):Calls prog 95 #[Value.pointer (some ⟨B,0,none⟩)] w (qg B base A l cp w0 (.tuple #[]) r.tf):=by
 obtain⟨ol,H1⟩:∃ol,Hid (r.op=ol):=⟨_,zh rfl⟩;obtain⟨ln,H2⟩:∃ln,Hid (r.line=ln):=⟨_,zh rfl⟩;rw[H1.out,H2.out]at hh;have HX:=zh hx;have HA:=zh ha;have HB:=zh hb;clear hx ha hb
 have q0:¬ln<0:=by omega
 have q1:¬3<ln:=by omega
 have q2:¬ol<1:=by omega
 have q3:¬8<ol:=by omega
 have hw1:IntKind.i64.wrap (ol*10)=ol*10:=IntWalk.i64_in _ om;have hw2:IntKind.i64.wrap (ol*10+ln)=ol*10+ln:=IntWalk.i64_in _ om;have HH:=zh hh;have d0:=decide_eq_false q0;have d1:=decide_eq_false q1;have d2:=decide_eq_false q2;have d3:=decide_eq_false q3;clear hh q0 q1 q2 q3
 have c4:w.cell? ⟨B,4,none⟩=some (.int .i64 ol):=by rw[←H1.out];exact S.c4
 have c5:w.cell? ⟨B,5,none⟩=some (.int .i64 ln):=by rw[←H2.out];exact S.c5
 have c6:=S.c6;have e0:=(Only.refl Nil w).alloc (.cells #[.int .i64 0,.int .u32 4294967295,.int .u32 r.a] 179);have HS:=zh (S.keep e0);have HU:=zh (Row.new w 179 #[.int .i64 0,.int .u32 4294967295,.int .u32 r.a]);clear e0;go_enter func95, ntmps95
 go_upto_region 3 with(fail)
 clear d0 d1 d2 d3 c4 c5 c6 S;generalize w.alloc (.cells #[.int .i64 0,.int .u32 4294967295,.int .u32 r.a] 179)=w2 at *;generalize w.heap.size=gu at *;have S:=HS.out;clear HS
 have c4:w2.cell? ⟨B,4,none⟩=some (.int .i64 ol):=by rw[←H1.out];exact S.c4
 have c5:w2.cell? ⟨B,5,none⟩=some (.int .i64 ln):=by rw[←H2.out];exact S.c5
 refine qb (n:=10) 9 (fun w=>w.cell? ⟨B,4,none⟩=some (.int .i64 ol)/\w.cell? ⟨B,5,none⟩=some (.int .i64 ln)) rfl kr ⟨c4,c5⟩ (fun hHeld=> ?_);clear c4 c5;replace S:=S.drew;refine za 0 rfl ?_;refine za 1 rfl ?_;refine za 2 rfl ?_;refine zt 3 rfl ?_;refine mpa 4 rfl (.int .i64 (ol*10)) (fun w=> ?_) ?_
 . go_simp
 refine za 5 rfl ?_;refine za 6 rfl ?_;refine za 7 rfl ?_;refine zt 8 rfl ?_;refine mpc 9 rfl kr br (fun K hK=> ?_);go_simp;refine hK.out _ _ (.inl kr) ?_;clear hK K hHeld hw1 hw2;refine qc kr ?_ _;have hh:=HH.out;clear HH;have HU:=zh HU.out.drew;generalize w2.drew=w3 at *;rcases hh with⟨rfl,rfl⟩|⟨rfl,rfl⟩|⟨rfl,rfl⟩|⟨rfl,rfl⟩|⟨rfl,rfl⟩|⟨rfl,rfl⟩
 . have c4:w3.cell? ⟨B,4,none⟩=some (.int .i64 5):=by rw[←H1.out];exact S.c4
   go_wp2_with fail;clear c4;refine yq S fun w4 S=> ?_;have c7:=S.c7;have f7:=S.froz 7;replace S:=S.setB (qa r.xs 1)
   go_upto_region 58 with(fail)
   clear c7 f7;generalize w4.setCell ⟨B,7,none⟩ (.int .u32 (qa r.xs 1))=w5 at *;refine qb (n:=10) 8 (fun w=>w.cell? ⟨B,6,none⟩=some (.int .u32 r.a)/\w.cell? ⟨B,7,none⟩=some (.int .u32 (qa r.xs 1))) rfl kr ⟨S.c6,S.c7⟩ (fun hHeld=> ?_);replace S:=S.drew;generalize w5.drew=w6 at *;refine za 0 rfl ?_;refine za 1 rfl ?_;refine za 2 rfl ?_;refine zt 3 rfl ?_;refine za 4 rfl ?_;refine za 5 rfl ?_;refine za 6 rfl ?_;refine zt 7 rfl ?_;refine mpc 8 rfl kr br (fun K hK=> ?_);go_simp;refine(yy r.a (qa r.xs 1) _ HA.out (jx HX.out 1)).mono ?_;obtain⟨ah,hah⟩:∃ah,zv r.a (qa r.xs 1)=ah:=⟨_,rfl⟩
   have hbd: -2147483648<=ah/\ah<=2147483647:=by rw[←hah];unfold zv;omega
   rw[hah];have HAH:=zh hah;clear hah;rintro e w9 ⟨rfl,rfl⟩;refine hK.out _ _ (.inl kr) ?_;clear hK K hHeld;refine mpa 9 rfl (.int .i64 ah) (fun w=> ?_) ?_
   . go_simp
   refine qc kr ?_ _;clear hbd
   by_cases q1:0<ah
   . have q2:¬ah<0:=by omega
     have q3:(ah==0)=false:=beq_eq_false_iff_ne.2 om;go_wp2_with fail;refine qm S fun w S=> ?_;go_wp2_with fail;refine yu S fun w S=> ?_;go_wp2;go_returns;exact S.fit (by rw[qi1 H1.out H2.out];unfold LS.weigh;rw[HAH.out,if_pos q1])
   . by_cases q2:ah<0
     . have q3:(ah==0)=false:=beq_eq_false_iff_ne.2 om;have c5:=S.c5;have f5:=S.froz 5;replace S:=S.setLine (0);go_wp2;go_returns;exact S.fit (by rw[qi1 H1.out H2.out];unfold LS.weigh;rw[HAH.out,if_neg (show ¬0<ah by omega),if_pos (show ah<0 by omega)])
     . have q3:ah=0:=by omega
       subst q3;clear q1 q2;have c5:=S.c5;have f5:=S.froz 5;replace S:=S.setLine (2);go_wp2;go_returns;exact S.fit (by rw[qi1 H1.out H2.out];unfold LS.weigh;rw[HAH.out,if_neg dc,if_neg dc])
 . have c4:w3.cell? ⟨B,4,none⟩=some (.int .i64 6):=by rw[←H1.out];exact S.c4
   go_wp2_with fail;clear c4;refine yq S fun w4 S=> ?_;have c7:=S.c7;have f7:=S.froz 7;replace S:=S.setB (qa r.xs 2)
   go_upto_region 58 with(fail)
   clear c7 f7;generalize w4.setCell ⟨B,7,none⟩ (.int .u32 (qa r.xs 2))=w5 at *;refine qb (n:=10) 8 (fun w=>w.cell? ⟨B,6,none⟩=some (.int .u32 r.a)/\w.cell? ⟨B,7,none⟩=some (.int .u32 (qa r.xs 2))) rfl kr ⟨S.c6,S.c7⟩ (fun hHeld=> ?_);replace S:=S.drew;generalize w5.drew=w6 at *;refine za 0 rfl ?_;refine za 1 rfl ?_;refine za 2 rfl ?_;refine zt 3 rfl ?_;refine za 4 rfl ?_;refine za 5 rfl ?_;refine za 6 rfl ?_;refine zt 7 rfl ?_;refine mpc 8 rfl kr br (fun K hK=> ?_);go_simp;refine(yy r.a (qa r.xs 2) _ HA.out (jx HX.out 2)).mono ?_;obtain⟨ah,hah⟩:∃ah,zv r.a (qa r.xs 2)=ah:=⟨_,rfl⟩
   have hbd: -2147483648<=ah/\ah<=2147483647:=by rw[←hah];unfold zv;omega
   rw[hah];have HAH:=zh hah;clear hah;rintro e w9 ⟨rfl,rfl⟩;refine hK.out _ _ (.inl kr) ?_;clear hK K hHeld;refine mpa 9 rfl (.int .i64 ah) (fun w=> ?_) ?_
   . go_simp
   refine qc kr ?_ _;clear hbd
   by_cases q1:0<ah
   . have q2:¬ah<0:=by omega
     have q3:(ah==0)=false:=beq_eq_false_iff_ne.2 om;go_wp2_with fail;refine qm S fun w S=> ?_;go_wp2_with fail;refine yu S fun w S=> ?_;go_wp2;go_returns;exact S.fit (by rw[qj3 H1.out H2.out];unfold LS.weigh;rw[HAH.out,if_pos q1])
   . by_cases q2:ah<0
     . have q3:(ah==0)=false:=beq_eq_false_iff_ne.2 om;have c5:=S.c5;have f5:=S.froz 5;replace S:=S.setLine (0);go_wp2;go_returns;exact S.fit (by rw[qj3 H1.out H2.out];unfold LS.weigh;rw[HAH.out,if_neg (show ¬0<ah by omega),if_pos (show ah<0 by omega)])
     . have q3:ah=0:=by omega
       subst q3;clear q1 q2;have c5:=S.c5;have f5:=S.froz 5;replace S:=S.setLine (2);go_wp2;go_returns;exact S.fit (by rw[qj3 H1.out H2.out];unfold LS.weigh;rw[HAH.out,if_neg dc,if_neg dc])
 . have c4:w3.cell? ⟨B,4,none⟩=some (.int .i64 7):=by rw[←H1.out];exact S.c4
   go_wp2_with fail;clear c4;refine yq S fun w4 S=> ?_;have c7:=S.c7;have f7:=S.froz 7;replace S:=S.setB (qa r.xs 2)
   go_upto_region 58 with(fail)
   clear c7 f7;generalize w4.setCell ⟨B,7,none⟩ (.int .u32 (qa r.xs 2))=w5 at *;refine qb (n:=10) 8 (fun w=>w.cell? ⟨B,6,none⟩=some (.int .u32 r.a)/\w.cell? ⟨B,7,none⟩=some (.int .u32 (qa r.xs 2))) rfl kr ⟨S.c6,S.c7⟩ (fun hHeld=> ?_);replace S:=S.drew;generalize w5.drew=w6 at *;refine za 0 rfl ?_;refine za 1 rfl ?_;refine za 2 rfl ?_;refine zt 3 rfl ?_;refine za 4 rfl ?_;refine za 5 rfl ?_;refine za 6 rfl ?_;refine zt 7 rfl ?_;refine mpc 8 rfl kr br (fun K hK=> ?_);go_simp;refine(yy r.a (qa r.xs 2) _ HA.out (jx HX.out 2)).mono ?_;obtain⟨ah,hah⟩:∃ah,zv r.a (qa r.xs 2)=ah:=⟨_,rfl⟩
   have hbd: -2147483648<=ah/\ah<=2147483647:=by rw[←hah];unfold zv;omega
   rw[hah];have HAH:=zh hah;clear hah;rintro e w9 ⟨rfl,rfl⟩;refine hK.out _ _ (.inl kr) ?_;clear hK K hHeld;refine mpa 9 rfl (.int .i64 ah) (fun w=> ?_) ?_
   . go_simp
   refine qc kr ?_ _;clear hbd
   by_cases q1:1<ah
   . have q2:¬ah<1:=by omega
     have q3:(ah==1)=false:=beq_eq_false_iff_ne.2 om;go_wp2_with fail;refine qm S fun w S=> ?_;go_wp2_with fail;refine yu S fun w S=> ?_;go_wp2;go_returns;exact S.fit (by rw[qit H1.out H2.out];unfold LS.weigh;rw[HAH.out,if_pos q1])
   . by_cases q2:ah<1
     . have q3:(ah==1)=false:=beq_eq_false_iff_ne.2 om;have c5:=S.c5;have f5:=S.froz 5;replace S:=S.setLine (0);go_wp2;go_returns;exact S.fit (by rw[qit H1.out H2.out];unfold LS.weigh;rw[HAH.out,if_neg (show ¬1<ah by omega),if_pos (show ah<1 by omega)])
     . have q3:ah=1:=by omega
       subst q3;clear q1 q2;have c5:=S.c5;have f5:=S.froz 5;replace S:=S.setLine (2);go_wp2;go_returns;exact S.fit (by rw[qit H1.out H2.out];unfold LS.weigh;rw[HAH.out,if_neg dc,if_neg dc])
 . go_upto_region 69 with(fail)
   have c6:w3.cell? ⟨B,6,none⟩=some (.int .u32 r.a):=S.c6;have hx1:IntKind.u32.wrap (r.a+1)=(r.a+1)%4294967296:=rfl;refine qb (n:=12) 10 (fun w=>w.cell? ⟨B,6,none⟩=some (.int .u32 r.a)) rfl kr c6 (fun hHeld=> ?_);clear c6;replace S:=S.drew;generalize w3.drew=w6 at *;refine za 0 rfl ?_;refine za 1 rfl ?_;refine za 2 rfl ?_;refine za 3 rfl ?_;refine zt 4 rfl ?_;refine za 5 rfl ?_;refine za 6 rfl ?_;refine za 7 rfl ?_;refine zt 8 rfl ?_;refine mpa 9 rfl (.int .u32 ((r.a+1)%4294967296)) (fun w=> ?_) ?_
   . go_simp
   refine mpc 10 rfl kr br (fun K hK=> ?_);go_simp;refine qgp S fun w7 S=> ?_;refine hK.out _ _ (.inl kr) ?_;clear hK K hHeld hx1;obtain⟨q,hq⟩:∃q,r.claimed=q:=⟨_,rfl⟩;have HQ:=zh hq;rw[show(qf r.xs 0 && (qa r.xs 0==r.a))=q from hq];clear hq
   cases q
   . refine mpa 11 rfl (.bool true) (fun w=> ?_) ?_
     . go_simp
     refine qc kr ?_ _;have c5:=S.c5;have f5:=S.froz 5;replace S:=S.setLine (0);go_wp2;go_returns;exact S.fit (by rw[qo0 H1.out H2.out];rw[if_neg (by rw[HQ.out];exact Bool.false_ne_true)];try rfl)
   . refine mpa 11 rfl (.bool false) (fun w=> ?_) ?_
     . go_simp
     refine qc kr ?_ _
     have c4:w7.cell? ⟨B,4,none⟩=some (.int .i64 5):=by rw[←H1.out];exact S.c4
     go_wp2_with fail;refine qm S fun w8 S=> ?_;clear c4
     have c4:w8.cell? ⟨B,4,none⟩=some (.int .i64 5):=by rw[←H1.out];exact S.c4
     have c5:=S.c5;have f5:=S.froz 5;replace S:=S.setLine (3);go_wp2;go_returns;exact S.fit (by rw[qo0 H1.out H2.out];rw[if_pos HQ.out];try rfl)
 . go_upto_region 69 with(fail)
   have c6:w3.cell? ⟨B,6,none⟩=some (.int .u32 r.a):=S.c6;have hx1:IntKind.u32.wrap (r.a+1)=(r.a+1)%4294967296:=rfl;refine qb (n:=12) 10 (fun w=>w.cell? ⟨B,6,none⟩=some (.int .u32 r.a)) rfl kr c6 (fun hHeld=> ?_);clear c6;replace S:=S.drew;generalize w3.drew=w6 at *;refine za 0 rfl ?_;refine za 1 rfl ?_;refine za 2 rfl ?_;refine za 3 rfl ?_;refine zt 4 rfl ?_;refine za 5 rfl ?_;refine za 6 rfl ?_;refine za 7 rfl ?_;refine zt 8 rfl ?_;refine mpa 9 rfl (.int .u32 ((r.a+1)%4294967296)) (fun w=> ?_) ?_
   . go_simp
   refine mpc 10 rfl kr br (fun K hK=> ?_);go_simp;refine qgp S fun w7 S=> ?_;refine hK.out _ _ (.inl kr) ?_;clear hK K hHeld hx1;obtain⟨q,hq⟩:∃q,r.claimed=q:=⟨_,rfl⟩;have HQ:=zh hq;rw[show(qf r.xs 0 && (qa r.xs 0==r.a))=q from hq];clear hq
   cases q
   . refine mpa 11 rfl (.bool true) (fun w=> ?_) ?_
     . go_simp
     refine qc kr ?_ _;have c5:=S.c5;have f5:=S.froz 5;replace S:=S.setLine (0);go_wp2;go_returns;exact S.fit (by rw[qna H1.out H2.out];rw[if_neg (by rw[HQ.out];exact Bool.false_ne_true)];try rfl)
   . refine mpa 11 rfl (.bool false) (fun w=> ?_) ?_
     . go_simp
     refine qc kr ?_ _
     have c4:w7.cell? ⟨B,4,none⟩=some (.int .i64 6):=by rw[←H1.out];exact S.c4
     go_wp2_with fail;refine qm S fun w8 S=> ?_;clear c4;go_wp2_with fail;refine qm S fun w9 S=> ?_;go_wp2_with fail;refine yu S fun w10 S=> ?_
     have c4:w10.cell? ⟨B,4,none⟩=some (.int .i64 6):=by rw[←H1.out];exact S.c4
     go_wp2;go_returns;exact S.fit (by rw[qna H1.out H2.out];rw[if_pos HQ.out];try rfl)
 . go_upto_region 69 with(fail)
   have c6:w3.cell? ⟨B,6,none⟩=some (.int .u32 r.a):=S.c6;have hx1:IntKind.u32.wrap (r.a+1)=(r.a+1)%4294967296:=rfl;refine qb (n:=12) 10 (fun w=>w.cell? ⟨B,6,none⟩=some (.int .u32 r.a)) rfl kr c6 (fun hHeld=> ?_);clear c6;replace S:=S.drew;generalize w3.drew=w6 at *;refine za 0 rfl ?_;refine za 1 rfl ?_;refine za 2 rfl ?_;refine za 3 rfl ?_;refine zt 4 rfl ?_;refine za 5 rfl ?_;refine za 6 rfl ?_;refine za 7 rfl ?_;refine zt 8 rfl ?_;refine mpa 9 rfl (.int .u32 ((r.a+1)%4294967296)) (fun w=> ?_) ?_
   . go_simp
   refine mpc 10 rfl kr br (fun K hK=> ?_);go_simp;refine qgp S fun w7 S=> ?_;refine hK.out _ _ (.inl kr) ?_;clear hK K hHeld hx1;obtain⟨q,hq⟩:∃q,r.claimed=q:=⟨_,rfl⟩;have HQ:=zh hq;rw[show(qf r.xs 0 && (qa r.xs 0==r.a))=q from hq];clear hq
   cases q
   . refine mpa 11 rfl (.bool true) (fun w=> ?_) ?_
     . go_simp
     refine qc kr ?_ _;have c5:=S.c5;have f5:=S.froz 5;replace S:=S.setLine (0);go_wp2;go_returns;exact S.fit (by rw[qnt H1.out H2.out];rw[if_neg (by rw[HQ.out];exact Bool.false_ne_true)];try rfl)
   . refine mpa 11 rfl (.bool false) (fun w=> ?_) ?_
     . go_simp
     refine qc kr ?_ _
     have c4:w7.cell? ⟨B,4,none⟩=some (.int .i64 7):=by rw[←H1.out];exact S.c4
     go_wp2_with fail;refine qm S fun w8 S=> ?_;clear c4;have c5:=S.c5;have f5:=S.froz 5;replace S:=S.setLine (3);go_wp2;go_returns;exact S.fit (by rw[qnt H1.out H2.out];rw[if_pos HQ.out];try rfl)
end
section
variable{B base:Nat}{A:Option Addr}{l cp:Nat}{r:LS}{w0 w:World}
theorem qbm(S:SR w0 B base A l cp 900 r w)(hx:Words r.xs)(ha:0<=r.a/\r.a<4294967296)(hb:0<=r.b/\r.b<4294967296)(hh:(r.op=1/\r.line=3)\/(r.op=2/\r.line=1)\/(r.op=2/\r.line=2)\/(r.op=2/\r.line=3)\/(r.op=3/\r.line=2)\/(r.op=3/\r.line=3)\/(r.op=4/\r.line=2)\/(r.op=4/\r.line=3)\/(r.op=6/\r.line=3)\/(r.op=8/\r.line=1)\/(r.op=8/\r.line=2)\/(r.op=8/\r.line=3)):Calls prog 95 #[Value.pointer (some ⟨B,0,none⟩)] w (qg B base A l cp w0 (.tuple #[]) r.tf):=by
 obtain⟨ol,H1⟩:∃ol,Hid (r.op=ol):=⟨_,zh rfl⟩;obtain⟨ln,H2⟩:∃ln,Hid (r.line=ln):=⟨_,zh rfl⟩;rw[H1.out,H2.out]at hh;have HX:=zh hx;have HA:=zh ha;have HB:=zh hb;clear hx ha hb
 have q0:¬ln<0:=by omega
 have q1:¬3<ln:=by omega
 have q2:¬ol<1:=by omega
 have q3:¬8<ol:=by omega
 have hw1:IntKind.i64.wrap (ol*10)=ol*10:=IntWalk.i64_in _ om;have hw2:IntKind.i64.wrap (ol*10+ln)=ol*10+ln:=IntWalk.i64_in _ om;have HH:=zh hh;have d0:=decide_eq_false q0;have d1:=decide_eq_false q1;have d2:=decide_eq_false q2;have d3:=decide_eq_false q3;clear hh q0 q1 q2 q3
 have c4:w.cell? ⟨B,4,none⟩=some (.int .i64 ol):=by rw[←H1.out];exact S.c4
 have c5:w.cell? ⟨B,5,none⟩=some (.int .i64 ln):=by rw[←H2.out];exact S.c5
 have c6:=S.c6;have e0:=(Only.refl Nil w).alloc (.cells #[.int .i64 0,.int .u32 4294967295,.int .u32 r.a] 179);have HS:=zh (S.keep e0);have HU:=zh (Row.new w 179 #[.int .i64 0,.int .u32 4294967295,.int .u32 r.a]);clear e0;go_enter func95, ntmps95
 go_upto_region 3 with(fail)
 clear d0 d1 d2 d3 c4 c5 c6 S;generalize w.alloc (.cells #[.int .i64 0,.int .u32 4294967295,.int .u32 r.a] 179)=w2 at *;generalize w.heap.size=gu at *;have S:=HS.out;clear HS
 have c4:w2.cell? ⟨B,4,none⟩=some (.int .i64 ol):=by rw[←H1.out];exact S.c4
 have c5:w2.cell? ⟨B,5,none⟩=some (.int .i64 ln):=by rw[←H2.out];exact S.c5
 refine qb (n:=10) 9 (fun w=>w.cell? ⟨B,4,none⟩=some (.int .i64 ol)/\w.cell? ⟨B,5,none⟩=some (.int .i64 ln)) rfl kr ⟨c4,c5⟩ (fun hHeld=> ?_);clear c4 c5;replace S:=S.drew;refine za 0 rfl ?_;refine za 1 rfl ?_;refine za 2 rfl ?_;refine zt 3 rfl ?_;refine mpa 4 rfl (.int .i64 (ol*10)) (fun w=> ?_) ?_
 . go_simp
 refine za 5 rfl ?_;refine za 6 rfl ?_;refine za 7 rfl ?_;refine zt 8 rfl ?_;refine mpc 9 rfl kr br (fun K hK=> ?_);go_simp;refine hK.out _ _ (.inl kr) ?_;clear hK K hHeld hw1 hw2;refine qc kr ?_ _;have hh:=HH.out;clear HH;have HU:=zh HU.out.drew;generalize w2.drew=w3 at *;rcases hh with⟨rfl,rfl⟩|⟨rfl,rfl⟩|⟨rfl,rfl⟩|⟨rfl,rfl⟩|⟨rfl,rfl⟩|⟨rfl,rfl⟩|⟨rfl,rfl⟩|⟨rfl,rfl⟩|⟨rfl,rfl⟩|⟨rfl,rfl⟩|⟨rfl,rfl⟩|⟨rfl,rfl⟩
 . go_wp2;go_returns;exact S.fit (by unfold LS.tf;rw[H1.out,H2.out];try rfl)
 . go_wp2;go_returns;exact S.fit (by unfold LS.tf;rw[H1.out,H2.out];try rfl)
 . go_wp2;go_returns;exact S.fit (by unfold LS.tf;rw[H1.out,H2.out];try rfl)
 . go_wp2;go_returns;exact S.fit (by unfold LS.tf;rw[H1.out,H2.out];try rfl)
 . go_wp2;go_returns;exact S.fit (by unfold LS.tf;rw[H1.out,H2.out];try rfl)
 . go_wp2;go_returns;exact S.fit (by unfold LS.tf;rw[H1.out,H2.out];try rfl)
 . go_wp2;go_returns;exact S.fit (by unfold LS.tf;rw[H1.out,H2.out];try rfl)
 . go_wp2;go_returns;exact S.fit (by unfold LS.tf;rw[H1.out,H2.out];try rfl)
 . go_wp2;go_returns;exact S.fit (by unfold LS.tf;rw[H1.out,H2.out];try rfl)
 . go_wp2;go_returns;exact S.fit (by unfold LS.tf;rw[H1.out,H2.out];try rfl)
 . go_wp2;go_returns;exact S.fit (by unfold LS.tf;rw[H1.out,H2.out];try rfl)
 . go_wp2;go_returns;exact S.fit (by unfold LS.tf;rw[H1.out,H2.out];try rfl)
end
section
variable{B base:Nat}{A:Option Addr}{l cp:Nat}{r:LS}{w0 w:World}
theorem qxd(S:SR w0 B base A l cp 900 r w)(hh:r.line<0\/3<r.line\/r.op<1\/8<r.op):Calls prog 95 #[Value.pointer (some ⟨B,0,none⟩)] w (qg B base A l cp w0 (.tuple #[]) r):=by
 obtain⟨ol,H1⟩:∃ol,Hid (r.op=ol):=⟨_,zh rfl⟩;obtain⟨ln,H2⟩:∃ln,Hid (r.line=ln):=⟨_,zh rfl⟩;rw[H1.out,H2.out]at hh
 have c4:w.cell? ⟨B,4,none⟩=some (.int .i64 ol):=by rw[←H1.out];exact S.c4
 have c5:w.cell? ⟨B,5,none⟩=some (.int .i64 ln):=by rw[←H2.out];exact S.c5
 by_cases q0:ln<0
 . clear hh;go_enter func95, ntmps95;go_wp2;go_returns;exact S.done
 by_cases q1:3<ln
 . clear hh;go_enter func95, ntmps95;go_wp2;go_returns;exact S.done
 by_cases q2:ol<1
 . clear hh;go_enter func95, ntmps95;go_wp2;go_returns;exact S.done
 . have q3:8<ol:=by omega
   clear hh;go_enter func95, ntmps95;go_wp2;go_returns;exact S.done
theorem qxs{r:LS}(h:r.line<0\/3<r.line\/r.op<1\/8<r.op):r.tf=r:=by
 have hc:vv r.op r.line=0:=by
  unfold vv
  repeat (first|rw[if_neg om])
 unfold LS.tf;rw[hc];rfl
theorem qkl(B base:Nat)(A:Option Addr)(l cp:Nat)(nv:Value)(r:LS)(w:World)(h:RunR w B base A l cp nv r)(hl:r.ns.length<=900)(hx:Words r.xs)(ha:0<=r.a/\r.a<4294967296)(hb:0<=r.b/\r.b<4294967296):Calls prog 95 #[Value.pointer (some ⟨B,0,none⟩)] w (qg B base A l cp w (.tuple #[]) r.tf):=by
 have S:=qbq (m:=900) h hl
 by_cases hi:r.line<0\/3<r.line\/r.op<1\/8<r.op
 . rw[qxs hi];exact qxd S hi
 have ho:r.op=1\/r.op=2\/r.op=3\/r.op=4\/r.op=5\/r.op=6\/r.op=7\/r.op=8:=by omega
 have hn:r.line=0\/r.line=1\/r.line=2\/r.line=3:=by omega
 rcases ho with h1|h1|h1|h1|h1|h1|h1|h1
 . rcases hn with h2|h2|h2|h2
   . exact qae S hx ha hb (.inl ⟨h1,h2⟩)
   . exact qae S hx ha hb (.inr (.inr (.inl ⟨h1,h2⟩)))
   . exact qae S hx ha hb (.inr (.inr (.inr (.inl ⟨h1,h2⟩))))
   . exact qbm S hx ha hb (.inl ⟨h1,h2⟩)
 . rcases hn with h2|h2|h2|h2
   . exact qae S hx ha hb (.inr (.inr (.inr (.inr (.inl ⟨h1,h2⟩)))))
   . exact qbm S hx ha hb (.inr (.inl ⟨h1,h2⟩))
   . exact qbm S hx ha hb (.inr (.inr (.inl ⟨h1,h2⟩)))
   . exact qbm S hx ha hb (.inr (.inr (.inr (.inl ⟨h1,h2⟩))))
 . rcases hn with h2|h2|h2|h2
   . exact qae S hx ha hb (.inr (.inl ⟨h1,h2⟩))
   . exact qae S hx ha hb (.inr (.inr (.inr (.inr (.inr (.inl ⟨h1,h2⟩))))))
   . exact qbm S hx ha hb (.inr (.inr (.inr (.inr (.inl ⟨h1,h2⟩)))))
   . exact qbm S hx ha hb (.inr (.inr (.inr (.inr (.inr (.inl ⟨h1,h2⟩))))))
 . rcases hn with h2|h2|h2|h2
   . exact qae S hx ha hb (.inr (.inr (.inr (.inr (.inr (.inr (.inl ⟨h1,h2⟩)))))))
   . exact qae S hx ha hb (.inr (.inr (.inr (.inr (.inr (.inr (.inr (.inl ⟨h1,h2⟩))))))))
   . exact qbm S hx ha hb (.inr (.inr (.inr (.inr (.inr (.inr (.inl ⟨h1,h2⟩)))))))
   . exact qbm S hx ha hb (.inr (.inr (.inr (.inr (.inr (.inr (.inr (.inl ⟨h1,h2⟩))))))))
 . rcases hn with h2|h2|h2|h2
   . exact qae S hx ha hb (.inr (.inr (.inr (.inr (.inr (.inr (.inr (.inr (.inl ⟨h1,h2⟩)))))))))
   . exact qhp S hx ha hb (.inl ⟨h1,h2⟩)
   . exact qhp S hx ha hb (.inr (.inr (.inr (.inl ⟨h1,h2⟩))))
   . exact qae S hx ha hb (.inr (.inr (.inr (.inr (.inr (.inr (.inr (.inr (.inr (.inr (.inr (.inl ⟨h1,h2⟩))))))))))))
 . rcases hn with h2|h2|h2|h2
   . exact qae S hx ha hb (.inr (.inr (.inr (.inr (.inr (.inr (.inr (.inr (.inr (.inl ⟨h1,h2⟩))))))))))
   . exact qhp S hx ha hb (.inr (.inl ⟨h1,h2⟩))
   . exact qhp S hx ha hb (.inr (.inr (.inr (.inr (.inl ⟨h1,h2⟩)))))
   . exact qbm S hx ha hb (.inr (.inr (.inr (.inr (.inr (.inr (.inr (.inr (.inl ⟨h1,h2⟩)))))))))
 . rcases hn with h2|h2|h2|h2
   . exact qae S hx ha hb (.inr (.inr (.inr (.inr (.inr (.inr (.inr (.inr (.inr (.inr (.inl ⟨h1,h2⟩)))))))))))
   . exact qhp S hx ha hb (.inr (.inr (.inl ⟨h1,h2⟩)))
   . exact qhp S hx ha hb (.inr (.inr (.inr (.inr (.inr (⟨h1,h2⟩))))))
   . exact qae S hx ha hb (.inr (.inr (.inr (.inr (.inr (.inr (.inr (.inr (.inr (.inr (.inr (.inr (.inr (⟨h1,h2⟩))))))))))))))
 . rcases hn with h2|h2|h2|h2
   . exact qae S hx ha hb (.inr (.inr (.inr (.inr (.inr (.inr (.inr (.inr (.inr (.inr (.inr (.inr (.inl ⟨h1,h2⟩)))))))))))))
   . exact qbm S hx ha hb (.inr (.inr (.inr (.inr (.inr (.inr (.inr (.inr (.inr (.inl ⟨h1,h2⟩))))))))))
   . exact qbm S hx ha hb (.inr (.inr (.inr (.inr (.inr (.inr (.inr (.inr (.inr (.inr (.inl ⟨h1,h2⟩)))))))))))
   . exact qbm S hx ha hb (.inr (.inr (.inr (.inr (.inr (.inr (.inr (.inr (.inr (.inr (.inr (⟨h1,h2⟩))))))))))))
end
section
variable(B base:Nat)(A:Option Addr)(l cp:Nat)(nv:Value)(r:LS)(c x y:Int)(w:World)
theorem vn(h:RunR w B base A l cp nv r):Calls prog 196 #[.pointer (some ⟨B,0,none⟩),.int .i64 c,.int .u32 x] w (qg B base A l cp w (.tuple #[]) (r.doA 2 c x 0)):=by
 go_enter func196, ntmps196;go_wp2_with fail;refine(qcg B base A l cp nv r 2 c x 0 _ h rfl).mono ?_;rintro e w1 ⟨rfl,hO,hP⟩;have HO:=zh hO;have HP:=zh hP;clear hO hP h;go_wp2;go_returns;exact⟨rfl,HO.out,nv,HP.out⟩
theorem qh8(h:RunR w B base A l cp nv r):Calls prog 269 #[.pointer (some ⟨B,0,none⟩),.int .i64 c,.int .u32 x] w (qg B base A l cp w (.int .u32 (qa r.xs c)) (r.doA 4 c x 0)):=by
 go_enter func269, ntmps269;go_wp2_with fail;refine(qcg B base A l cp nv r 4 c x 0 _ h rfl).mono ?_;rintro e w1 ⟨rfl,hO,hP⟩;have HO:=zh hO;have HP:=zh hP;clear hO hP h;go_wp2;go_ret;exact⟨rfl,HO.out,nv,HP.out⟩
end
theorem qn7{r:LS}(h1:r.op=1)(h2:r.line=0):r.pf=r.pCome:=by unfold LS.pf;rw[h1,h2];rfl
theorem qgl{r:LS}(h1:r.op=1)(h2:r.line=1):r.pf=r.pAdmit 0 r.left:=by unfold LS.pf;rw[h1,h2];rfl
theorem qs4{r:LS}(h1:r.op=2)(h2:r.line=0):r.pf=r.pDepart:=by unfold LS.pf;rw[h1,h2];rfl
theorem zav{r:LS}(h1:r.op=3)(h2:r.line=0):r.pf=r.pDraw:=by unfold LS.pf;rw[h1,h2];rfl
theorem qi8{r:LS}(h1:r.op=3)(h2:r.line=1):r.pf=r.pTurn:=by unfold LS.pf;rw[h1,h2];rfl
theorem qz9{r:LS}(h1:r.op=3)(h2:r.line=2):r.pf=r.pKeep 3:=by unfold LS.pf;rw[h1,h2];rfl
theorem zb2{r:LS}(h1:r.op=3)(h2:r.line=3):r.pf=r.pAppear 4:=by unfold LS.pf;rw[h1,h2];rfl
theorem qin{r:LS}(h1:r.op=3)(h2:r.line=4):r.pf=r.pAdmit 1 r.mine:=by unfold LS.pf;rw[h1,h2];rfl
theorem za3{r:LS}(h1:r.op=4)(h2:r.line=0):r.pf=r.pKeep 1:=by unfold LS.pf;rw[h1,h2];rfl
theorem qzp{r:LS}(h1:r.op=8)(h2:r.line=0):r.pf=r.pKeep 1:=by unfold LS.pf;rw[h1,h2];rfl
theorem qzc{r:LS}(h1:r.op=4)(h2:r.line=1):r.pf=r.pVanish 0 7:=by unfold LS.pf;rw[h1,h2];rfl
theorem qyo{r:LS}(h1:r.op=8)(h2:r.line=1):r.pf=r.pVanish 256 10:=by unfold LS.pf;rw[h1,h2];rfl
theorem qyc{r:LS}(h1:r.op=4)(h2:r.line=2):r.pf=r.pCount:=by unfold LS.pf;rw[h1,h2];rfl
theorem za4{r:LS}(h1:r.op=8)(h2:r.line=2):r.pf=r.pCount:=by unfold LS.pf;rw[h1,h2];rfl
theorem qyr{r:LS}(h1:r.op=4)(h2:r.line=3):r.pf=r.pPass true:=by unfold LS.pf;rw[h1,h2];rfl
theorem za8{r:LS}(h1:r.op=8)(h2:r.line=3):r.pf=r.pPass true:=by unfold LS.pf;rw[h1,h2];rfl
theorem qli{r:LS}(h1:r.op=5)(h2:r.line=0):r.pf=r.pLookIn:=by unfold LS.pf;rw[h1,h2];rfl
theorem qly{r:LS}(h1:r.op=5)(h2:r.line=1):r.pf=r.pSlip:=by unfold LS.pf;rw[h1,h2];rfl
theorem qzo{r:LS}(h1:r.op=6)(h2:r.line=0):r.pf=r.pLook 2 1:=by unfold LS.pf;rw[h1,h2];rfl
theorem zbh{r:LS}(h1:r.op=7)(h2:r.line=0):r.pf=r.pLook 2 1:=by unfold LS.pf;rw[h1,h2];rfl
theorem qmy{r:LS}(h1:r.op=6)(h2:r.line=1):r.pf=r.pWeighT:=by unfold LS.pf;rw[h1,h2];rfl
theorem qmh{r:LS}(h1:r.op=7)(h2:r.line=1):r.pf=r.pWeighT:=by unfold LS.pf;rw[h1,h2];rfl
theorem qto{r:LS}(h1:r.op=6)(h2:r.line=2):r.pf=r.pClaim:=by unfold LS.pf;rw[h1,h2];rfl
theorem qsu{r:LS}(h1:r.op=7)(h2:r.line=2):r.pf=r.pClaim:=by unfold LS.pf;rw[h1,h2];rfl
theorem qyg{r:LS}(h1:r.op=6)(h2:r.line=3):r.pf=r.pLook 0 4:=by unfold LS.pf;rw[h1,h2];rfl
theorem qyn{r:LS}(h1:r.op=7)(h2:r.line=3):r.pf=r.pLook 0 4:=by unfold LS.pf;rw[h1,h2];rfl
theorem qul{r:LS}(h1:r.op=6)(h2:r.line=4):r.pf=r.pWeighR 0:=by unfold LS.pf;rw[h1,h2];rfl
theorem qu8{r:LS}(h1:r.op=7)(h2:r.line=4):r.pf=r.pWeighR 256:=by unfold LS.pf;rw[h1,h2];rfl
theorem qye{r:LS}(h1:r.op=6)(h2:r.line=5):r.pf=r.pKeep 6:=by unfold LS.pf;rw[h1,h2];rfl
theorem zat{r:LS}(h1:r.op=7)(h2:r.line=5):r.pf=r.pKeep 6:=by unfold LS.pf;rw[h1,h2];rfl
theorem qyw{r:LS}(h1:r.op=6)(h2:r.line=6):r.pf=r.pAppear 7:=by unfold LS.pf;rw[h1,h2];rfl
theorem qzu{r:LS}(h1:r.op=7)(h2:r.line=6):r.pf=r.pAppear 7:=by unfold LS.pf;rw[h1,h2];rfl
theorem qim{r:LS}(h1:r.op=6)(h2:r.line=7):r.pf=r.pAdmit 1 r.mine:=by unfold LS.pf;rw[h1,h2];rfl
theorem qj0{r:LS}(h1:r.op=7)(h2:r.line=7):r.pf=r.pOthers:=by unfold LS.pf;rw[h1,h2];rfl
theorem zb5{r:LS}(h1:r.op=7)(h2:r.line=8):r.pf=r.pStop:=by unfold LS.pf;rw[h1,h2];rfl
theorem qyx{r:LS}(h1:r.op=6)(h2:r.line=9):r.pf=r.pPass false:=by unfold LS.pf;rw[h1,h2];rfl
theorem qyk{r:LS}(h1:r.op=7)(h2:r.line=9):r.pf=r.pPass false:=by unfold LS.pf;rw[h1,h2];rfl
theorem qah(v:Int)(w:World)(hv:0<=v/\v<4294967296):Calls prog 195 #[.int .u32 v] w fun e w'=>e= .returned (.int .u32 (yw v))/\w=w':=by
 obtain⟨h0,h1⟩:=hv;go_enter func195, ntmps195;go_wp2;go_ret;exact⟨yl (by unfold yw;omega),rfl⟩
theorem zcp{x:Int}(hx:0<=x/\x<4294967296):bits .and .u32 x 3=x%4:=by
 have:=bits_mask .u32 32 dc (fun k h0 h1=>by rw[IntKind.wrap_u32'];omega) 2 om x hx.1 (by simpa using hx.2)
 have h2:x%4294967296=x:=by omega
 simpa [h2] using this
theorem qsc{r:LS}{v:Int}(hv:0<=v/\v<4294967296):uIs 1 3 (r.a%4) v=r.left v:=by
 show(bits .and .u32 v 3 !=r.a%4)=(v%4 !=r.a%4);rw[zcp hv]
theorem qhc{r:LS}{v:Int}(hv:0<=v/\v<4294967296):uIs 0 4294967295 ((r.a-256)%4294967296) v=r.butMe v:=by
 show(bits .and .u32 v 4294967295==(r.a-256)%4294967296)=(v==(r.a-256)%4294967296);rw[qjd hv]
theorem qjq{R:LS}{l l':Int}(h:R.line=l):(R.go l').go l=R:=by cases R;subst h;try rfl
theorem qw5{r:LS}{K c x y v n q:Int}(h:r.line=0):((((r.doA K c x y).keepA v).note n q).go 1).go 0=((r.doA K c x y).keepA v).note n q:=qjq h
theorem qv2{r:LS}{K c x y v:Int}(h:r.line=0):(((r.doA K c x y).keepA v).go 1).go 0=(r.doA K c x y).keepA v:=qjq h
section
variable{B base:Nat}{A:Option Addr}{l cp:Nat}{r:LS}{w0 w:World}
theorem qig{m:Nat}{c x:Int}{Q:Ending->World->Prop}(S:SR w0 B base A l cp m r w)(k:∀w',SR w0 B base A l cp m (r.doA 2 c x 0) w'->Q (.returned (.tuple #[])) w'):Calls prog 196 #[Value.pointer (some ⟨B,0,none⟩),.int .i64 c,.int .u32 x] w Q:=
 S.call (fun _ h=>vn B base A l cp _ r c x _ h) S.len k
end
def rdI(r:LS):Prop:=(r.op=1/\r.line=0)\/(r.op=1/\r.line=1)\/(r.op=2/\r.line=0)\/(r.op=5/\r.line=0)\/(r.op=5/\r.line=1)
section
variable{B base:Nat}{A:Option Addr}{l cp:Nat}{r:LS}{w0 w:World}
theorem quk(S:SR w0 B base A l cp 900 r w)(hx:Words r.xs)(ha:0<=r.a/\r.a<4294967296)(hb:0<=r.b/\r.b<4294967296)(hh:rdI r):Calls prog 194 #[Value.pointer (some ⟨B,0,none⟩)] w (qg B base A l cp w0 (.bool true) r.pf):=by
 unfold rdI at hh;obtain⟨ol,H1⟩:∃ol,Hid (r.op=ol):=⟨_,zh rfl⟩;obtain⟨ln,H2⟩:∃ln,Hid (r.line=ln):=⟨_,zh rfl⟩;rw[H1.out,H2.out]at hh;have HX:=zh hx;have HA:=zh ha;have HB:=zh hb;clear hx ha hb
 have c4:w.cell? ⟨B,4,none⟩=some (.int .i64 ol):=by rw[←H1.out];exact S.c4
 have c5:w.cell? ⟨B,5,none⟩=some (.int .i64 ln):=by rw[←H2.out];exact S.c5
 have q0:¬ln<0:=by omega
 have q1:¬1<ln:=by omega
 have q2:¬ol<1:=by omega
 have q3:¬8<ol:=by omega
 have hw1:IntKind.i64.wrap (ol*10)=ol*10:=IntWalk.i64_in _ om;have hw2:IntKind.i64.wrap (ol*10+ln)=ol*10+ln:=IntWalk.i64_in _ om;have HH:=zh hh;clear hh;go_enter func194, ntmps194
 go_upto_region 4 with(fail)
 clear q0 q1 q2 q3;refine qb (n:=10) 9 (fun w=>w.cell? ⟨B,4,none⟩=some (.int .i64 ol)/\w.cell? ⟨B,5,none⟩=some (.int .i64 ln)) rfl kr ⟨c4,c5⟩ (fun hHeld=> ?_);clear c4 c5;replace S:=S.drew;refine za 0 rfl ?_;refine za 1 rfl ?_;refine za 2 rfl ?_;refine zt 3 rfl ?_;refine mpa 4 rfl (.int .i64 (ol*10)) (fun w=> ?_) ?_
 . go_simp
 refine za 5 rfl ?_;refine za 6 rfl ?_;refine za 7 rfl ?_;refine zt 8 rfl ?_;refine mpc 9 rfl kr br (fun K hK=> ?_);go_simp;refine hK.out _ _ (.inl kr) ?_;clear hK K hHeld hw1 hw2;refine qc kr ?_ _;have hh:=HH.out;clear HH;generalize w.drew=w2 at *;rcases hh with⟨rfl,rfl⟩|⟨rfl,rfl⟩|⟨rfl,rfl⟩|⟨rfl,rfl⟩|⟨rfl,rfl⟩
 . go_wp2_with fail;refine ks S fun w4 S=> ?_;have c6:=S.c6;have f6:=S.froz 6;replace S:=S.setA (qa r.xs 0);go_wp2_with fail;clear c6 f6;refine qm S fun w S=> ?_;have c5:=S.c5;have f5:=S.froz 5;replace S:=S.setLine (1)
   go_upto_region 10 with(fail)
   clear c5 f5;generalize w.setCell ⟨B,5,none⟩ (.int .i64 1)=w5 at *;have c6:w5.cell? ⟨B,6,none⟩=some (.int .u32 (qa r.xs 0)):=S.c6;obtain⟨hv0,hv1⟩:=qq HX.out 0
   by_cases h:qa r.xs 0%4=0
   . have hz:(qa r.xs 0%4==0)=true:=beq_iff_eq.2 h;have c5:=S.c5;have f5:=S.froz 5;replace S:=S.setLine (0);go_wp2_with fail;clear c5 f5 c6;refine qm S fun w S=> ?_;go_wp2_with fail;refine yu S fun w S=> ?_;go_wp2;go_returns;exact S.fit (by rw[qn7 H1.out H2.out];unfold LS.pCome;rw[if_pos (show va (qa r.xs 0)=0 from h)];exact(congrArg (fun R:LS=>(R.note 4 0).fin true) (qw5 (H2.out:r.line=0))).symm)
   . have hz:(qa r.xs 0%4==0)=false:=beq_eq_false_iff_ne.2 h;go_wp2;go_returns;exact S.fit (by rw[qn7 H1.out H2.out];unfold LS.pCome;rw[if_neg (show ¬va (qa r.xs 0)=0 from h)])
 . obtain⟨sn,hsn⟩:∃sn,(r.stepR 0 (r.left)).seen=sn:=⟨_,rfl⟩;obtain⟨dn,hdn⟩:∃dn,(r.stepR 0 (r.left)).done=dn:=⟨_,rfl⟩;obtain⟨r1,hr1⟩:∃r1,r.wait 0 (r.left)=r1:=⟨_,rfl⟩;have H:=zh (And.intro hsn (And.intro hdn hr1));clear hsn hdn hr1;have c6:=S.c6;obtain⟨ha0,ha1⟩:=HA.out;go_wp2_with fail;clear c6 ha0 ha1;refine qbl (q:=r.left) S HX.out (qsc (qq HX.out 0)) H.out.1 H.out.2.1 H.out.2.2 fun w7 S=> ?_
   cases sn
   all_goals cases dn
   . go_wp2;go_returns;exact S.fit (by rw[qgl H1.out H2.out];unfold LS.pAdmit;rw[H.out.1,H.out.2.1,H.out.2.2];try rfl)
   . go_wp2_with fail;refine yu S fun w S=> ?_;go_wp2;go_returns;exact S.fit (by rw[qgl H1.out H2.out];unfold LS.pAdmit;rw[H.out.1,H.out.2.1,H.out.2.2];try rfl)
   . go_wp2_with fail;refine qm S fun w S=> ?_;go_wp2;go_returns;exact S.fit (by rw[qgl H1.out H2.out];unfold LS.pAdmit;rw[H.out.1,H.out.2.1,H.out.2.2];try rfl)
   . go_wp2_with fail;refine qm S fun w S=> ?_;go_wp2_with fail;refine yu S fun w S=> ?_;go_wp2;go_returns;exact S.fit (by rw[qgl H1.out H2.out];unfold LS.pAdmit;rw[H.out.1,H.out.2.1,H.out.2.2];try rfl)
 . go_wp2_with fail;refine ks S fun w S=> ?_;go_wp2_with fail;refine qm S fun w S=> ?_;go_wp2_with fail;refine vl S fun w S=> ?_;go_wp2_with fail;refine yu S fun w S=> ?_;go_wp2;go_returns;exact S.fit (by rw[qs4 H1.out H2.out];rfl)
 . go_wp2_with fail;refine yq S fun w4 S=> ?_;have c6:=S.c6;have f6:=S.froz 6;replace S:=S.setA (qa r.xs 0);have c5:=S.c5;have f5:=S.froz 5;replace S:=S.setLine (1)
   go_upto_region 28 with(fail)
   clear c5 f5 c6 f6;generalize (w4.setCell ⟨B,6,none⟩ (.int .u32 (qa r.xs 0))).setCell ⟨B,5,none⟩ (.int .i64 1)=w5 at *;have c6:w5.cell? ⟨B,6,none⟩=some (.int .u32 (qa r.xs 0)):=S.c6;obtain⟨hv0,hv1⟩:=qq HX.out 0
   by_cases h:qa r.xs 0%4=0
   . have hz:(qa r.xs 0%4==0)=true:=beq_iff_eq.2 h;go_wp2;go_returns;exact S.fit (by rw[qli H1.out H2.out];unfold LS.pLookIn;rw[if_pos (show va (qa r.xs 0)=0 from h)])
   . have hz:(qa r.xs 0%4==0)=false:=beq_eq_false_iff_ne.2 h;have c5:=S.c5;have f5:=S.froz 5;replace S:=S.setLine (0);go_wp2_with fail;clear c5 f5 c6;refine qm S fun w S=> ?_;go_wp2_with fail;refine yu S fun w S=> ?_;go_wp2;go_returns;exact S.fit (by rw[qli H1.out H2.out];unfold LS.pLookIn;rw[if_neg (show ¬va (qa r.xs 0)=0 from h)];exact(congrArg (fun R:LS=>(R.note 5 0).fin false) (qv2 (H2.out:r.line=0))).symm)
 . go_upto_region 33 with(fail)
   have c6:w2.cell? ⟨B,6,none⟩=some (.int .u32 r.a):=S.c6;have hx1:IntKind.u32.wrap (r.a+256)=(r.a+256)%4294967296:=rfl;refine qb (n:=12) 10 (fun w=>w.cell? ⟨B,6,none⟩=some (.int .u32 r.a)) rfl kr c6 (fun hHeld=> ?_);clear c6;replace S:=S.drew;generalize w2.drew=w6 at *;refine za 0 rfl ?_;refine za 1 rfl ?_;refine za 2 rfl ?_;refine za 3 rfl ?_;refine zt 4 rfl ?_;refine za 5 rfl ?_;refine za 6 rfl ?_;refine za 7 rfl ?_;refine zt 8 rfl ?_;refine mpa 9 rfl (.int .u32 ((r.a+256)%4294967296)) (fun w=> ?_) ?_
   . go_simp
   refine mpc 10 rfl kr br (fun K hK=> ?_);go_simp;refine qgp S fun w7 S=> ?_;refine hK.out _ _ (.inl kr) ?_;clear hK K hHeld hx1;obtain⟨q,hq⟩:∃q,r.was 0=q:=⟨_,rfl⟩;have HQ:=zh hq;rw[show(qf r.xs 0 && (qa r.xs 0==r.a))=q from hq];clear hq
   cases q
   . refine mpa 11 rfl (.bool true) (fun w=> ?_) ?_
     . go_simp
     refine qc kr ?_ _;have c5:=S.c5;have f5:=S.froz 5;replace S:=S.setLine (0);go_wp2;go_returns;exact S.fit (by rw[qly H1.out H2.out];unfold LS.pSlip;rw[if_neg (by rw[HQ.out];exact Bool.false_ne_true)];try rfl)
   . refine mpa 11 rfl (.bool false) (fun w=> ?_) ?_
     . go_simp
     refine qc kr ?_ _;go_wp2_with fail;refine qm S fun w S=> ?_;go_wp2_with fail;refine qm S fun w S=> ?_;go_wp2_with fail;refine yu S fun w S=> ?_;go_wp2;go_returns;exact S.fit (by rw[qly H1.out H2.out];unfold LS.pSlip;rw[if_pos HQ.out];try rfl)
theorem ku(S:SR w0 B base A l cp 900 r w)(hh:¬rdI r):Calls prog 194 #[Value.pointer (some ⟨B,0,none⟩)] w fun e w'=>e= .returned (.bool false)/\Drew w w':=by
 unfold rdI at hh;obtain⟨ol,H1⟩:∃ol,Hid (r.op=ol):=⟨_,zh rfl⟩;obtain⟨ln,H2⟩:∃ln,Hid (r.line=ln):=⟨_,zh rfl⟩;rw[H1.out,H2.out]at hh
 have c4:w.cell? ⟨B,4,none⟩=some (.int .i64 ol):=by rw[←H1.out];exact S.c4
 have c5:w.cell? ⟨B,5,none⟩=some (.int .i64 ln):=by rw[←H2.out];exact S.c5
 by_cases q0:ln<0
 . clear hh;go_enter func194, ntmps194;go_wp2;go_ret;exact⟨rfl,Drew.refl _⟩
 by_cases q1:1<ln
 . clear hh;go_enter func194, ntmps194;go_wp2;go_ret;exact⟨rfl,Drew.refl _⟩
 by_cases q2:ol<1
 . clear hh;go_enter func194, ntmps194;go_wp2;go_ret;exact⟨rfl,Drew.refl _⟩
 by_cases q3:8<ol
 . clear hh;go_enter func194, ntmps194;go_wp2;go_ret;exact⟨rfl,Drew.refl _⟩
 have hw1:IntKind.i64.wrap (ol*10)=ol*10:=IntWalk.i64_in _ om;have hw2:IntKind.i64.wrap (ol*10+ln)=ol*10+ln:=IntWalk.i64_in _ om;have HH:=zh (show ¬ol*10+ln=10/\¬ol*10+ln=11/\¬ol*10+ln=20/\¬ol*10+ln=50/\¬ol*10+ln=51 by omega);clear hh;have HD:=zh (Drew.refl w);go_enter func194, ntmps194
 go_upto_region 4 with(fail)
 clear q0 q1 q2 q3;refine qb (n:=10) 9 (fun w=>w.cell? ⟨B,4,none⟩=some (.int .i64 ol)/\w.cell? ⟨B,5,none⟩=some (.int .i64 ln)) rfl kr ⟨c4,c5⟩ (fun hHeld=> ?_);clear c4 c5;replace S:=S.drew;refine za 0 rfl ?_;refine za 1 rfl ?_;refine za 2 rfl ?_;refine zt 3 rfl ?_;refine mpa 4 rfl (.int .i64 (ol*10)) (fun w=> ?_) ?_
 . go_simp
 refine za 5 rfl ?_;refine za 6 rfl ?_;refine za 7 rfl ?_;refine zt 8 rfl ?_;refine mpc 9 rfl kr br (fun K hK=> ?_);go_simp;refine hK.out _ _ (.inl kr) ?_;clear hK K hHeld hw1 hw2;refine qc kr ?_ _;have hh:=HH.out;clear HH;have HD:=zh (show Drew w w.drew from⟨1,rfl⟩);generalize w.drew=w2 at *;obtain⟨s0,s1,s2,s3,s4⟩:=hh;generalize ol*10+ln=z at *;go_wp2;go_ret;exact⟨rfl,HD.out⟩
end
section
variable{B base:Nat}{A:Option Addr}{l cp:Nat}{r:LS}{w0 w:World}
theorem qkd(S:SR w0 B base A l cp 900 r w)(hx:Words r.xs)(ha:0<=r.a/\r.a<4294967296)(hb:0<=r.b/\r.b<4294967296)(hh:(r.op=3/\r.line=0)\/(r.op=3/\r.line=1)\/(r.op=3/\r.line=2)\/(r.op=3/\r.line=3)\/(r.op=3/\r.line=4)):Calls prog 96 #[Value.pointer (some ⟨B,0,none⟩)] w (qg B base A l cp w0 (.tuple #[]) r.pf):=by
 have hno:¬rdI r:=by unfold rdI;omega
 have hrd:=ku S hno;obtain⟨ol,H1⟩:∃ol,Hid (r.op=ol):=⟨_,zh rfl⟩;obtain⟨ln,H2⟩:∃ln,Hid (r.line=ln):=⟨_,zh rfl⟩;rw[H1.out,H2.out]at hh;have HX:=zh hx;have HA:=zh ha;have HB:=zh hb;clear hx ha hb
 have q0:¬ln<0:=by omega
 have q1:¬9<ln:=by omega
 have q2:¬ol<1:=by omega
 have q3:¬8<ol:=by omega
 have hw1:IntKind.i64.wrap (ol*10)=ol*10:=IntWalk.i64_in _ om;have hw2:IntKind.i64.wrap (ol*10+ln)=ol*10+ln:=IntWalk.i64_in _ om;have HH:=zh hh;have HR:=zh hrd;have d0:=decide_eq_false q0;have d1:=decide_eq_false q1;have d2:=decide_eq_false q2;have d3:=decide_eq_false q3;clear hh hrd hno q0 q1 q2 q3;go_enter func96, ntmps96;go_wp2_with fail;refine(HR.out).mono ?_;rintro e w1 ⟨rfl,hd⟩;replace S:=S.drewd hd;clear hd HR
 have c4:w1.cell? ⟨B,4,none⟩=some (.int .i64 ol):=by rw[←H1.out];exact S.c4
 have c5:w1.cell? ⟨B,5,none⟩=some (.int .i64 ln):=by rw[←H2.out];exact S.c5
 have c6:=S.c6;have e0:=(Only.refl Nil w1).alloc (.cells #[.int .i64 0,.int .u32 4294967295,.int .u32 r.a] 179);have HS:=zh (S.keep e0);have HU:=zh (Row.new w1 179 #[.int .i64 0,.int .u32 4294967295,.int .u32 r.a]);clear e0
 go_upto_region 3 with(fail)
 clear d0 d1 d2 d3 c4 c5 c6 S;generalize w1.alloc (.cells #[.int .i64 0,.int .u32 4294967295,.int .u32 r.a] 179)=w2 at *;generalize w1.heap.size=gu at *;have S:=HS.out;clear HS
 have c4:w2.cell? ⟨B,4,none⟩=some (.int .i64 ol):=by rw[←H1.out];exact S.c4
 have c5:w2.cell? ⟨B,5,none⟩=some (.int .i64 ln):=by rw[←H2.out];exact S.c5
 go_upto_region 4 with(fail)
 refine qb (n:=10) 9 (fun w=>w.cell? ⟨B,4,none⟩=some (.int .i64 ol)/\w.cell? ⟨B,5,none⟩=some (.int .i64 ln)) rfl kr ⟨c4,c5⟩ (fun hHeld=> ?_);clear c4 c5;replace S:=S.drew;refine za 0 rfl ?_;refine za 1 rfl ?_;refine za 2 rfl ?_;refine zt 3 rfl ?_;refine mpa 4 rfl (.int .i64 (ol*10)) (fun w=> ?_) ?_
 . go_simp
 refine za 5 rfl ?_;refine za 6 rfl ?_;refine za 7 rfl ?_;refine zt 8 rfl ?_;refine mpc 9 rfl kr br (fun K hK=> ?_);go_simp;refine hK.out _ _ (.inl kr) ?_;clear hK K hHeld hw1 hw2;refine qc kr ?_ _;have hh:=HH.out;clear HH;have HU:=zh HU.out.drew;generalize w2.drew=w3 at *;rcases hh with⟨rfl,rfl⟩|⟨rfl,rfl⟩|⟨rfl,rfl⟩|⟨rfl,rfl⟩|⟨rfl,rfl⟩
 . go_wp2_with fail;refine ks S fun w4 S=> ?_;have c6:=S.c6;have f6:=S.froz 6;replace S:=S.setA (qa r.xs 2);go_wp2_with fail;clear c6 f6;refine qm S fun w S=> ?_;have c5:=S.c5;have f5:=S.froz 5;replace S:=S.setLine (1);go_wp2;go_returns;exact S.fit (by rw[zav H1.out H2.out];rfl)
 . obtain⟨sn,hsn⟩:∃sn,(r.stepR 3 (r.mine)).seen=sn:=⟨_,rfl⟩;obtain⟨dn,hdn⟩:∃dn,(r.stepR 3 (r.mine)).done=dn:=⟨_,rfl⟩;obtain⟨r1,hr1⟩:∃r1,r.wait 3 (r.mine)=r1:=⟨_,rfl⟩;have H:=zh (And.intro hsn (And.intro hdn hr1));clear hsn hdn hr1;have u0:=HU.out.cell_ (i:=0) rfl;have u1:=HU.out.cell_ (i:=1) rfl;have u2:=HU.out.cell_ (i:=2) rfl;go_wp2_with fail;clear u0 u1 u2;refine qbl (q:=r.mine) S HX.out (qa7 (qq HX.out 3)) H.out.1 H.out.2.1 H.out.2.2 fun w7 S=> ?_
   cases sn
   all_goals cases dn
   . go_wp2;go_returns;exact S.fit (by rw[qi8 H1.out H2.out];unfold LS.pTurn;rw[H.out.2.1,H.out.2.2];try rfl)
   . have c5:=S.c5;have f5:=S.froz 5;replace S:=S.setLine (2);go_wp2;go_returns;exact S.fit (by rw[qi8 H1.out H2.out];unfold LS.pTurn;rw[H.out.2.1,H.out.2.2];try rfl)
   . go_wp2;go_returns;exact S.fit (by rw[qi8 H1.out H2.out];unfold LS.pTurn;rw[H.out.2.1,H.out.2.2];try rfl)
   . have c5:=S.c5;have f5:=S.froz 5;replace S:=S.setLine (2);go_wp2;go_returns;exact S.fit (by rw[qi8 H1.out H2.out];unfold LS.pTurn;rw[H.out.2.1,H.out.2.2];try rfl)
 . go_wp2_with fail;refine yq S fun w4 S=> ?_;have c7:=S.c7;have f7:=S.froz 7;replace S:=S.setB (qa r.xs 4);have c5:=S.c5;have f5:=S.froz 5;replace S:=S.setLine (3);go_wp2;go_returns;exact S.fit (by rw[qz9 H1.out H2.out];rfl)
 . have c7:=S.c7;go_wp2_with fail;clear c7;refine(qah r.b _ HB.out).mono ?_;rintro e w4 ⟨rfl,rfl⟩;go_wp2_with fail;refine ks (x:=yw r.b) S fun w4 S=> ?_;have c6:=S.c6;have f6:=S.froz 6;replace S:=S.setA (qa r.xs 0);go_wp2_with fail;clear c6 f6;refine qm S fun w S=> ?_;have c5:=S.c5;have f5:=S.froz 5;replace S:=S.setLine (4);go_wp2;go_returns;exact S.fit (by rw[zb2 H1.out H2.out];rfl)
 . obtain⟨sn,hsn⟩:∃sn,(r.stepR 1 (r.mine)).seen=sn:=⟨_,rfl⟩;obtain⟨dn,hdn⟩:∃dn,(r.stepR 1 (r.mine)).done=dn:=⟨_,rfl⟩;obtain⟨r1,hr1⟩:∃r1,r.wait 1 (r.mine)=r1:=⟨_,rfl⟩;have H:=zh (And.intro hsn (And.intro hdn hr1));clear hsn hdn hr1;have u0:=HU.out.cell_ (i:=0) rfl;have u1:=HU.out.cell_ (i:=1) rfl;have u2:=HU.out.cell_ (i:=2) rfl;go_wp2_with fail;clear u0 u1 u2;refine qbl (q:=r.mine) S HX.out (qa7 (qq HX.out 1)) H.out.1 H.out.2.1 H.out.2.2 fun w7 S=> ?_
   cases sn
   all_goals cases dn
   . go_wp2;go_returns;exact S.fit (by rw[qin H1.out H2.out];unfold LS.pAdmit;rw[H.out.1,H.out.2.1,H.out.2.2];try rfl)
   . go_wp2_with fail;refine yu S fun w S=> ?_;go_wp2;go_returns;exact S.fit (by rw[qin H1.out H2.out];unfold LS.pAdmit;rw[H.out.1,H.out.2.1,H.out.2.2];try rfl)
   . go_wp2_with fail;refine qm S fun w S=> ?_;go_wp2;go_returns;exact S.fit (by rw[qin H1.out H2.out];unfold LS.pAdmit;rw[H.out.1,H.out.2.1,H.out.2.2];try rfl)
   . go_wp2_with fail;refine qm S fun w S=> ?_;go_wp2_with fail;refine yu S fun w S=> ?_;go_wp2;go_returns;exact S.fit (by rw[qin H1.out H2.out];unfold LS.pAdmit;rw[H.out.1,H.out.2.1,H.out.2.2];try rfl)
end
section
variable{B base:Nat}{A:Option Addr}{l cp:Nat}{r:LS}{w0 w:World}
theorem qed(S:SR w0 B base A l cp 900 r w)(hx:Words r.xs)(ha:0<=r.a/\r.a<4294967296)(hb:0<=r.b/\r.b<4294967296)(hh:(r.op=4/\r.line=0)\/(r.op=8/\r.line=0)\/(r.op=4/\r.line=1)\/(r.op=8/\r.line=1)\/(r.op=4/\r.line=2)\/(r.op=8/\r.line=2)\/(r.op=4/\r.line=3)\/(r.op=8/\r.line=3)):Calls prog 96 #[Value.pointer (some ⟨B,0,none⟩)] w (qg B base A l cp w0 (.tuple #[]) r.pf):=by
 have hno:¬rdI r:=by unfold rdI;omega
 have hrd:=ku S hno;obtain⟨ol,H1⟩:∃ol,Hid (r.op=ol):=⟨_,zh rfl⟩;obtain⟨ln,H2⟩:∃ln,Hid (r.line=ln):=⟨_,zh rfl⟩;rw[H1.out,H2.out]at hh;have HX:=zh hx;have HA:=zh ha;have HB:=zh hb;clear hx ha hb
 have q0:¬ln<0:=by omega
 have q1:¬9<ln:=by omega
 have q2:¬ol<1:=by omega
 have q3:¬8<ol:=by omega
 have hw1:IntKind.i64.wrap (ol*10)=ol*10:=IntWalk.i64_in _ om;have hw2:IntKind.i64.wrap (ol*10+ln)=ol*10+ln:=IntWalk.i64_in _ om;have HH:=zh hh;have HR:=zh hrd;have d0:=decide_eq_false q0;have d1:=decide_eq_false q1;have d2:=decide_eq_false q2;have d3:=decide_eq_false q3;clear hh hrd hno q0 q1 q2 q3;go_enter func96, ntmps96;go_wp2_with fail;refine(HR.out).mono ?_;rintro e w1 ⟨rfl,hd⟩;replace S:=S.drewd hd;clear hd HR
 have c4:w1.cell? ⟨B,4,none⟩=some (.int .i64 ol):=by rw[←H1.out];exact S.c4
 have c5:w1.cell? ⟨B,5,none⟩=some (.int .i64 ln):=by rw[←H2.out];exact S.c5
 have c6:=S.c6;have e0:=(Only.refl Nil w1).alloc (.cells #[.int .i64 0,.int .u32 4294967295,.int .u32 r.a] 179);have HS:=zh (S.keep e0);have HU:=zh (Row.new w1 179 #[.int .i64 0,.int .u32 4294967295,.int .u32 r.a]);clear e0
 go_upto_region 3 with(fail)
 clear d0 d1 d2 d3 c4 c5 c6 S;generalize w1.alloc (.cells #[.int .i64 0,.int .u32 4294967295,.int .u32 r.a] 179)=w2 at *;generalize w1.heap.size=gu at *;have S:=HS.out;clear HS
 have c4:w2.cell? ⟨B,4,none⟩=some (.int .i64 ol):=by rw[←H1.out];exact S.c4
 have c5:w2.cell? ⟨B,5,none⟩=some (.int .i64 ln):=by rw[←H2.out];exact S.c5
 go_upto_region 4 with(fail)
 refine qb (n:=10) 9 (fun w=>w.cell? ⟨B,4,none⟩=some (.int .i64 ol)/\w.cell? ⟨B,5,none⟩=some (.int .i64 ln)) rfl kr ⟨c4,c5⟩ (fun hHeld=> ?_);clear c4 c5;replace S:=S.drew;refine za 0 rfl ?_;refine za 1 rfl ?_;refine za 2 rfl ?_;refine zt 3 rfl ?_;refine mpa 4 rfl (.int .i64 (ol*10)) (fun w=> ?_) ?_
 . go_simp
 refine za 5 rfl ?_;refine za 6 rfl ?_;refine za 7 rfl ?_;refine zt 8 rfl ?_;refine mpc 9 rfl kr br (fun K hK=> ?_);go_simp;refine hK.out _ _ (.inl kr) ?_;clear hK K hHeld hw1 hw2;refine qc kr ?_ _;have hh:=HH.out;clear HH;have HU:=zh HU.out.drew;generalize w2.drew=w3 at *;rcases hh with⟨rfl,rfl⟩|⟨rfl,rfl⟩|⟨rfl,rfl⟩|⟨rfl,rfl⟩|⟨rfl,rfl⟩|⟨rfl,rfl⟩|⟨rfl,rfl⟩|⟨rfl,rfl⟩
 . go_wp2_with fail;refine yq S fun w4 S=> ?_;have c7:=S.c7;have f7:=S.froz 7;replace S:=S.setB (qa r.xs 4);have c5:=S.c5;have f5:=S.froz 5;replace S:=S.setLine (1);go_wp2;go_returns;exact S.fit (by rw[za3 H1.out H2.out];rfl)
 . go_wp2_with fail;refine yq S fun w4 S=> ?_;have c7:=S.c7;have f7:=S.froz 7;replace S:=S.setB (qa r.xs 4);have c5:=S.c5;have f5:=S.froz 5;replace S:=S.setLine (1);go_wp2;go_returns;exact S.fit (by rw[qzp H1.out H2.out];rfl)
 . have c4:w3.cell? ⟨B,4,none⟩=some (.int .i64 4):=by rw[←H1.out];exact S.c4
   have c7:=S.c7;have hx1:IntKind.u32.wrap (-yw r.b)=(-yw r.b)%4294967296:=rfl;go_wp2_with fail;clear c7 c4;refine(qah r.b _ HB.out).mono ?_;rintro e w4 ⟨rfl,rfl⟩;go_wp2_with fail;clear hx1;refine ks (x:=(-yw r.b)%4294967296) S fun w S=> ?_;go_wp2_with fail;refine qm S fun w S=> ?_;go_wp2_with fail;refine vl S fun w S=> ?_;have c5:=S.c5;have f5:=S.froz 5;replace S:=S.setLine (2);go_wp2;go_returns;exact S.fit (by rw[qzc H1.out H2.out];unfold LS.pVanish;rw[Int.zero_sub];try rfl)
 . have c4:w3.cell? ⟨B,4,none⟩=some (.int .i64 8):=by rw[←H1.out];exact S.c4
   have c7:=S.c7;have hx1:IntKind.u32.wrap (256-yw r.b)=(256-yw r.b)%4294967296:=rfl;go_wp2_with fail;clear c7 c4;refine(qah r.b _ HB.out).mono ?_;rintro e w4 ⟨rfl,rfl⟩;go_wp2_with fail;clear hx1;refine ks (x:=(256-yw r.b)%4294967296) S fun w S=> ?_;go_wp2_with fail;refine qm S fun w S=> ?_;go_wp2_with fail;refine vl S fun w S=> ?_;have c5:=S.c5;have f5:=S.froz 5;replace S:=S.setLine (2);go_wp2;go_returns;exact S.fit (by rw[qyo H1.out H2.out];rfl)
 . have c7:=S.c7;have hx1:IntKind.u32.wrap (r.b+1)=(r.b+1)%4294967296:=rfl;go_wp2_with fail;clear c7 hx1;refine qig (x:=(r.b+1)%4294967296) S fun w S=> ?_;have c5:=S.c5;have f5:=S.froz 5;replace S:=S.setLine (3);go_wp2;go_returns;exact S.fit (by rw[qyc H1.out H2.out];rfl)
 . have c7:=S.c7;have hx1:IntKind.u32.wrap (r.b+1)=(r.b+1)%4294967296:=rfl;go_wp2_with fail;clear c7 hx1;refine qig (x:=(r.b+1)%4294967296) S fun w S=> ?_;have c5:=S.c5;have f5:=S.froz 5;replace S:=S.setLine (3);go_wp2;go_returns;exact S.fit (by rw[za4 H1.out H2.out];rfl)
 . go_wp2_with fail;refine ks S fun w S=> ?_;go_wp2_with fail;refine qm S fun w S=> ?_;go_wp2_with fail;refine vl S fun w S=> ?_
   have c4:w.cell? ⟨B,4,none⟩=some (.int .i64 4):=by rw[←H1.out];exact S.c4
   go_wp2_with fail;clear c4;refine yu S fun w S=> ?_;go_wp2;go_returns;exact S.fit (by rw[qyr H1.out H2.out];rfl)
 . go_wp2_with fail;refine ks S fun w S=> ?_;go_wp2_with fail;refine qm S fun w S=> ?_;go_wp2_with fail;refine vl S fun w S=> ?_
   have c4:w.cell? ⟨B,4,none⟩=some (.int .i64 8):=by rw[←H1.out];exact S.c4
   go_wp2_with fail;clear c4;refine yu S fun w S=> ?_;go_wp2;go_returns;exact S.fit (by rw[za8 H1.out H2.out];rfl)
end
section
variable{B base:Nat}{A:Option Addr}{l cp:Nat}{r:LS}{w0 w:World}
theorem qh6(S:SR w0 B base A l cp 900 r w)(hx:Words r.xs)(ha:0<=r.a/\r.a<4294967296)(hb:0<=r.b/\r.b<4294967296)(hh:(r.op=6/\r.line=0)\/(r.op=7/\r.line=0)\/(r.op=6/\r.line=1)\/(r.op=7/\r.line=1)\/(r.op=6/\r.line=2)\/(r.op=7/\r.line=2)):Calls prog 96 #[Value.pointer (some ⟨B,0,none⟩)] w (qg B base A l cp w0 (.tuple #[]) r.pf):=by
 have hno:¬rdI r:=by unfold rdI;omega
 have hrd:=ku S hno;obtain⟨ol,H1⟩:∃ol,Hid (r.op=ol):=⟨_,zh rfl⟩;obtain⟨ln,H2⟩:∃ln,Hid (r.line=ln):=⟨_,zh rfl⟩;rw[H1.out,H2.out]at hh;have HX:=zh hx;have HA:=zh ha;have HB:=zh hb;clear hx ha hb
 have q0:¬ln<0:=by omega
 have q1:¬9<ln:=by omega
 have q2:¬ol<1:=by omega
 have q3:¬8<ol:=by omega
 have hw1:IntKind.i64.wrap (ol*10)=ol*10:=IntWalk.i64_in _ om;have hw2:IntKind.i64.wrap (ol*10+ln)=ol*10+ln:=IntWalk.i64_in _ om;have HH:=zh hh;have HR:=zh hrd;have d0:=decide_eq_false q0;have d1:=decide_eq_false q1;have d2:=decide_eq_false q2;have d3:=decide_eq_false q3;clear hh hrd hno q0 q1 q2 q3;go_enter func96, ntmps96;go_wp2_with fail;refine(HR.out).mono ?_;rintro e w1 ⟨rfl,hd⟩;replace S:=S.drewd hd;clear hd HR
 have c4:w1.cell? ⟨B,4,none⟩=some (.int .i64 ol):=by rw[←H1.out];exact S.c4
 have c5:w1.cell? ⟨B,5,none⟩=some (.int .i64 ln):=by rw[←H2.out];exact S.c5
 have c6:=S.c6;have e0:=(Only.refl Nil w1).alloc (.cells #[.int .i64 0,.int .u32 4294967295,.int .u32 r.a] 179);have HS:=zh (S.keep e0);have HU:=zh (Row.new w1 179 #[.int .i64 0,.int .u32 4294967295,.int .u32 r.a]);clear e0
 go_upto_region 3 with(fail)
 clear d0 d1 d2 d3 c4 c5 c6 S;generalize w1.alloc (.cells #[.int .i64 0,.int .u32 4294967295,.int .u32 r.a] 179)=w2 at *;generalize w1.heap.size=gu at *;have S:=HS.out;clear HS
 have c4:w2.cell? ⟨B,4,none⟩=some (.int .i64 ol):=by rw[←H1.out];exact S.c4
 have c5:w2.cell? ⟨B,5,none⟩=some (.int .i64 ln):=by rw[←H2.out];exact S.c5
 go_upto_region 4 with(fail)
 refine qb (n:=10) 9 (fun w=>w.cell? ⟨B,4,none⟩=some (.int .i64 ol)/\w.cell? ⟨B,5,none⟩=some (.int .i64 ln)) rfl kr ⟨c4,c5⟩ (fun hHeld=> ?_);clear c4 c5;replace S:=S.drew;refine za 0 rfl ?_;refine za 1 rfl ?_;refine za 2 rfl ?_;refine zt 3 rfl ?_;refine mpa 4 rfl (.int .i64 (ol*10)) (fun w=> ?_) ?_
 . go_simp
 refine za 5 rfl ?_;refine za 6 rfl ?_;refine za 7 rfl ?_;refine zt 8 rfl ?_;refine mpc 9 rfl kr br (fun K hK=> ?_);go_simp;refine hK.out _ _ (.inl kr) ?_;clear hK K hHeld hw1 hw2;refine qc kr ?_ _;have hh:=HH.out;clear HH;have HU:=zh HU.out.drew;generalize w2.drew=w3 at *;rcases hh with⟨rfl,rfl⟩|⟨rfl,rfl⟩|⟨rfl,rfl⟩|⟨rfl,rfl⟩|⟨rfl,rfl⟩|⟨rfl,rfl⟩
 . go_wp2_with fail;refine yq S fun w4 S=> ?_;have c6:=S.c6;have f6:=S.froz 6;replace S:=S.setA (qa r.xs 2);have c5:=S.c5;have f5:=S.froz 5;replace S:=S.setLine (1);go_wp2;go_returns;exact S.fit (by rw[qzo H1.out H2.out];rfl)
 . go_wp2_with fail;refine yq S fun w4 S=> ?_;have c6:=S.c6;have f6:=S.froz 6;replace S:=S.setA (qa r.xs 2);have c5:=S.c5;have f5:=S.froz 5;replace S:=S.setLine (1);go_wp2;go_returns;exact S.fit (by rw[zbh H1.out H2.out];rfl)
 . go_wp2_with fail;refine yq S fun w4 S=> ?_;have c7:=S.c7;have f7:=S.froz 7;replace S:=S.setB (qa r.xs 3)
   go_upto_region 58 with(fail)
   clear c7 f7;generalize w4.setCell ⟨B,7,none⟩ (.int .u32 (qa r.xs 3))=w5 at *;refine qb (n:=10) 8 (fun w=>w.cell? ⟨B,6,none⟩=some (.int .u32 r.a)/\w.cell? ⟨B,7,none⟩=some (.int .u32 (qa r.xs 3))) rfl kr ⟨S.c6,S.c7⟩ (fun hHeld=> ?_);replace S:=S.drew;generalize w5.drew=w6 at *;refine za 0 rfl ?_;refine za 1 rfl ?_;refine za 2 rfl ?_;refine zt 3 rfl ?_;refine za 4 rfl ?_;refine za 5 rfl ?_;refine za 6 rfl ?_;refine zt 7 rfl ?_;refine mpc 8 rfl kr br (fun K hK=> ?_);go_simp;refine(yy r.a (qa r.xs 3) _ HA.out (jx HX.out 3)).mono ?_;obtain⟨ah,hah⟩:∃ah,zv r.a (qa r.xs 3)=ah:=⟨_,rfl⟩
   have hbd: -2147483648<=ah/\ah<=2147483647:=by rw[←hah];unfold zv;omega
   rw[hah];have HAH:=zh hah;clear hah;rintro e w9 ⟨rfl,rfl⟩;refine hK.out _ _ (.inl kr) ?_;clear hK K hHeld;refine mpa 9 rfl (.int .i64 ah) (fun w=> ?_) ?_
   . go_simp
   refine qc kr ?_ _;clear hbd
   by_cases q1:0<ah
   . have q2:¬ah<0:=by omega
     have q3:(ah==0)=false:=beq_eq_false_iff_ne.2 om;go_wp2_with fail;refine qm S fun w S=> ?_;go_wp2_with fail;refine yu S fun w S=> ?_;go_wp2;go_returns;exact S.fit (by rw[qmy H1.out H2.out];unfold LS.pWeighT;rw[HAH.out,if_pos q1])
   . by_cases q2:ah<0
     . have q3:(ah==0)=false:=beq_eq_false_iff_ne.2 om;have c5:=S.c5;have f5:=S.froz 5;replace S:=S.setLine (0);go_wp2;go_returns;exact S.fit (by rw[qmy H1.out H2.out];unfold LS.pWeighT;rw[HAH.out,if_neg (show ¬0<ah by omega),if_pos (show ah<0 by omega)])
     . have q3:ah=0:=by omega
       subst q3;clear q1 q2;have c5:=S.c5;have f5:=S.froz 5;replace S:=S.setLine (2);go_wp2;go_returns;exact S.fit (by rw[qmy H1.out H2.out];unfold LS.pWeighT;rw[HAH.out,if_neg dc,if_neg dc])
 . go_wp2_with fail;refine yq S fun w4 S=> ?_;have c7:=S.c7;have f7:=S.froz 7;replace S:=S.setB (qa r.xs 3)
   go_upto_region 58 with(fail)
   clear c7 f7;generalize w4.setCell ⟨B,7,none⟩ (.int .u32 (qa r.xs 3))=w5 at *;refine qb (n:=10) 8 (fun w=>w.cell? ⟨B,6,none⟩=some (.int .u32 r.a)/\w.cell? ⟨B,7,none⟩=some (.int .u32 (qa r.xs 3))) rfl kr ⟨S.c6,S.c7⟩ (fun hHeld=> ?_);replace S:=S.drew;generalize w5.drew=w6 at *;refine za 0 rfl ?_;refine za 1 rfl ?_;refine za 2 rfl ?_;refine zt 3 rfl ?_;refine za 4 rfl ?_;refine za 5 rfl ?_;refine za 6 rfl ?_;refine zt 7 rfl ?_;refine mpc 8 rfl kr br (fun K hK=> ?_);go_simp;refine(yy r.a (qa r.xs 3) _ HA.out (jx HX.out 3)).mono ?_;obtain⟨ah,hah⟩:∃ah,zv r.a (qa r.xs 3)=ah:=⟨_,rfl⟩
   have hbd: -2147483648<=ah/\ah<=2147483647:=by rw[←hah];unfold zv;omega
   rw[hah];have HAH:=zh hah;clear hah;rintro e w9 ⟨rfl,rfl⟩;refine hK.out _ _ (.inl kr) ?_;clear hK K hHeld;refine mpa 9 rfl (.int .i64 ah) (fun w=> ?_) ?_
   . go_simp
   refine qc kr ?_ _;clear hbd
   by_cases q1:0<ah
   . have q2:¬ah<0:=by omega
     have q3:(ah==0)=false:=beq_eq_false_iff_ne.2 om;go_wp2_with fail;refine qm S fun w S=> ?_;go_wp2_with fail;refine yu S fun w S=> ?_;go_wp2;go_returns;exact S.fit (by rw[qmh H1.out H2.out];unfold LS.pWeighT;rw[HAH.out,if_pos q1])
   . by_cases q2:ah<0
     . have q3:(ah==0)=false:=beq_eq_false_iff_ne.2 om;have c5:=S.c5;have f5:=S.froz 5;replace S:=S.setLine (0);go_wp2;go_returns;exact S.fit (by rw[qmh H1.out H2.out];unfold LS.pWeighT;rw[HAH.out,if_neg (show ¬0<ah by omega),if_pos (show ah<0 by omega)])
     . have q3:ah=0:=by omega
       subst q3;clear q1 q2;have c5:=S.c5;have f5:=S.froz 5;replace S:=S.setLine (2);go_wp2;go_returns;exact S.fit (by rw[qmh H1.out H2.out];unfold LS.pWeighT;rw[HAH.out,if_neg dc,if_neg dc])
 . have c5:=S.c5;have f5:=S.froz 5;replace S:=S.setLine (0)
   go_upto_region 69 with(fail)
   clear c5 f5;generalize w3.setCell ⟨B,5,none⟩ (.int .i64 0)=w5 at *;have c6:w5.cell? ⟨B,6,none⟩=some (.int .u32 r.a):=S.c6;have hx1:IntKind.u32.wrap (r.a+1)=(r.a+1)%4294967296:=rfl;refine qb (n:=11) 10 (fun w=>w.cell? ⟨B,6,none⟩=some (.int .u32 r.a)) rfl kr c6 (fun hHeld=> ?_);clear c6;replace S:=S.drew;generalize w5.drew=w6 at *;refine za 0 rfl ?_;refine za 1 rfl ?_;refine za 2 rfl ?_;refine za 3 rfl ?_;refine zt 4 rfl ?_;refine za 5 rfl ?_;refine za 6 rfl ?_;refine za 7 rfl ?_;refine zt 8 rfl ?_;refine mpa 9 rfl (.int .u32 ((r.a+1)%4294967296)) (fun w=> ?_) ?_
   . go_simp
   refine mpc 10 rfl kr br (fun K hK=> ?_);go_simp;refine qgp S fun w7 S=> ?_;refine hK.out _ _ (.inl kr) ?_;clear hK K hHeld hx1;obtain⟨q,hq⟩:∃q,r.was 2=q:=⟨_,rfl⟩;have HQ:=zh hq;rw[show(qf (r.go 0).xs 2 && (qa (r.go 0).xs 2==r.a))=q from hq];clear hq;refine qc kr ?_ _
   cases q
   . go_wp2;go_returns;exact S.fit (by rw[qto H1.out H2.out];unfold LS.pClaim;rw[if_neg (by rw[HQ.out];exact Bool.false_ne_true)];try rfl)
   . go_wp2_with fail;refine qm S fun w S=> ?_;have c5:=S.c5;have f5:=S.froz 5;replace S:=S.setLine (3);go_wp2;go_returns;exact S.fit (by rw[qto H1.out H2.out];unfold LS.pClaim;rw[if_pos HQ.out];try rfl)
 . have c5:=S.c5;have f5:=S.froz 5;replace S:=S.setLine (0)
   go_upto_region 69 with(fail)
   clear c5 f5;generalize w3.setCell ⟨B,5,none⟩ (.int .i64 0)=w5 at *;have c6:w5.cell? ⟨B,6,none⟩=some (.int .u32 r.a):=S.c6;have hx1:IntKind.u32.wrap (r.a+1)=(r.a+1)%4294967296:=rfl;refine qb (n:=11) 10 (fun w=>w.cell? ⟨B,6,none⟩=some (.int .u32 r.a)) rfl kr c6 (fun hHeld=> ?_);clear c6;replace S:=S.drew;generalize w5.drew=w6 at *;refine za 0 rfl ?_;refine za 1 rfl ?_;refine za 2 rfl ?_;refine za 3 rfl ?_;refine zt 4 rfl ?_;refine za 5 rfl ?_;refine za 6 rfl ?_;refine za 7 rfl ?_;refine zt 8 rfl ?_;refine mpa 9 rfl (.int .u32 ((r.a+1)%4294967296)) (fun w=> ?_) ?_
   . go_simp
   refine mpc 10 rfl kr br (fun K hK=> ?_);go_simp;refine qgp S fun w7 S=> ?_;refine hK.out _ _ (.inl kr) ?_;clear hK K hHeld hx1;obtain⟨q,hq⟩:∃q,r.was 2=q:=⟨_,rfl⟩;have HQ:=zh hq;rw[show(qf (r.go 0).xs 2 && (qa (r.go 0).xs 2==r.a))=q from hq];clear hq;refine qc kr ?_ _
   cases q
   . go_wp2;go_returns;exact S.fit (by rw[qsu H1.out H2.out];unfold LS.pClaim;rw[if_neg (by rw[HQ.out];exact Bool.false_ne_true)];try rfl)
   . go_wp2_with fail;refine qm S fun w S=> ?_;have c5:=S.c5;have f5:=S.froz 5;replace S:=S.setLine (3);go_wp2;go_returns;exact S.fit (by rw[qsu H1.out H2.out];unfold LS.pClaim;rw[if_pos HQ.out];try rfl)
end
section
variable{B base:Nat}{A:Option Addr}{l cp:Nat}{r:LS}{w0 w:World}
theorem qhy(S:SR w0 B base A l cp 900 r w)(hx:Words r.xs)(ha:0<=r.a/\r.a<4294967296)(hb:0<=r.b/\r.b<4294967296)(hh:(r.op=6/\r.line=3)\/(r.op=7/\r.line=3)\/(r.op=6/\r.line=4)\/(r.op=7/\r.line=4)\/(r.op=6/\r.line=5)\/(r.op=7/\r.line=5)):Calls prog 96 #[Value.pointer (some ⟨B,0,none⟩)] w (qg B base A l cp w0 (.tuple #[]) r.pf):=by
 have hno:¬rdI r:=by unfold rdI;omega
 have hrd:=ku S hno;obtain⟨ol,H1⟩:∃ol,Hid (r.op=ol):=⟨_,zh rfl⟩;obtain⟨ln,H2⟩:∃ln,Hid (r.line=ln):=⟨_,zh rfl⟩;rw[H1.out,H2.out]at hh;have HX:=zh hx;have HA:=zh ha;have HB:=zh hb;clear hx ha hb
 have q0:¬ln<0:=by omega
 have q1:¬9<ln:=by omega
 have q2:¬ol<1:=by omega
 have q3:¬8<ol:=by omega
 have hw1:IntKind.i64.wrap (ol*10)=ol*10:=IntWalk.i64_in _ om;have hw2:IntKind.i64.wrap (ol*10+ln)=ol*10+ln:=IntWalk.i64_in _ om;have HH:=zh hh;have HR:=zh hrd;have d0:=decide_eq_false q0;have d1:=decide_eq_false q1;have d2:=decide_eq_false q2;have d3:=decide_eq_false q3;clear hh hrd hno q0 q1 q2 q3;go_enter func96, ntmps96;go_wp2_with fail;refine(HR.out).mono ?_;rintro e w1 ⟨rfl,hd⟩;replace S:=S.drewd hd;clear hd HR
 have c4:w1.cell? ⟨B,4,none⟩=some (.int .i64 ol):=by rw[←H1.out];exact S.c4
 have c5:w1.cell? ⟨B,5,none⟩=some (.int .i64 ln):=by rw[←H2.out];exact S.c5
 have c6:=S.c6;have e0:=(Only.refl Nil w1).alloc (.cells #[.int .i64 0,.int .u32 4294967295,.int .u32 r.a] 179);have HS:=zh (S.keep e0);have HU:=zh (Row.new w1 179 #[.int .i64 0,.int .u32 4294967295,.int .u32 r.a]);clear e0
 go_upto_region 3 with(fail)
 clear d0 d1 d2 d3 c4 c5 c6 S;generalize w1.alloc (.cells #[.int .i64 0,.int .u32 4294967295,.int .u32 r.a] 179)=w2 at *;generalize w1.heap.size=gu at *;have S:=HS.out;clear HS
 have c4:w2.cell? ⟨B,4,none⟩=some (.int .i64 ol):=by rw[←H1.out];exact S.c4
 have c5:w2.cell? ⟨B,5,none⟩=some (.int .i64 ln):=by rw[←H2.out];exact S.c5
 go_upto_region 4 with(fail)
 refine qb (n:=10) 9 (fun w=>w.cell? ⟨B,4,none⟩=some (.int .i64 ol)/\w.cell? ⟨B,5,none⟩=some (.int .i64 ln)) rfl kr ⟨c4,c5⟩ (fun hHeld=> ?_);clear c4 c5;replace S:=S.drew;refine za 0 rfl ?_;refine za 1 rfl ?_;refine za 2 rfl ?_;refine zt 3 rfl ?_;refine mpa 4 rfl (.int .i64 (ol*10)) (fun w=> ?_) ?_
 . go_simp
 refine za 5 rfl ?_;refine za 6 rfl ?_;refine za 7 rfl ?_;refine zt 8 rfl ?_;refine mpc 9 rfl kr br (fun K hK=> ?_);go_simp;refine hK.out _ _ (.inl kr) ?_;clear hK K hHeld hw1 hw2;refine qc kr ?_ _;have hh:=HH.out;clear HH;have HU:=zh HU.out.drew;generalize w2.drew=w3 at *;rcases hh with⟨rfl,rfl⟩|⟨rfl,rfl⟩|⟨rfl,rfl⟩|⟨rfl,rfl⟩|⟨rfl,rfl⟩|⟨rfl,rfl⟩
 . go_wp2_with fail;refine yq S fun w4 S=> ?_;have c6:=S.c6;have f6:=S.froz 6;replace S:=S.setA (qa r.xs 0);have c5:=S.c5;have f5:=S.froz 5;replace S:=S.setLine (4);go_wp2;go_returns;exact S.fit (by rw[qyg H1.out H2.out];rfl)
 . go_wp2_with fail;refine yq S fun w4 S=> ?_;have c6:=S.c6;have f6:=S.froz 6;replace S:=S.setA (qa r.xs 0);have c5:=S.c5;have f5:=S.froz 5;replace S:=S.setLine (4);go_wp2;go_returns;exact S.fit (by rw[qyn H1.out H2.out];rfl)
 . go_wp2_with fail;refine yq S fun w4 S=> ?_;have c7:=S.c7;have f7:=S.froz 7;replace S:=S.setB (qa r.xs 1)
   go_upto_region 79 with(fail)
   clear c7 f7;generalize w4.setCell ⟨B,7,none⟩ (.int .u32 (qa r.xs 1))=w5 at *;refine qb (n:=10) 8 (fun w=>w.cell? ⟨B,6,none⟩=some (.int .u32 r.a)/\w.cell? ⟨B,7,none⟩=some (.int .u32 (qa r.xs 1))) rfl kr ⟨S.c6,S.c7⟩ (fun hHeld=> ?_);replace S:=S.drew;generalize w5.drew=w6 at *;refine za 0 rfl ?_;refine za 1 rfl ?_;refine za 2 rfl ?_;refine zt 3 rfl ?_;refine za 4 rfl ?_;refine za 5 rfl ?_;refine za 6 rfl ?_;refine zt 7 rfl ?_;refine mpc 8 rfl kr br (fun K hK=> ?_);go_simp;refine(yy r.a (qa r.xs 1) _ HA.out (jx HX.out 1)).mono ?_;obtain⟨ah,hah⟩:∃ah,zv r.a (qa r.xs 1)=ah:=⟨_,rfl⟩
   have hbd: -2147483648<=ah/\ah<=2147483647:=by rw[←hah];unfold zv;omega
   rw[hah];have HAH:=zh hah;clear hah;rintro e w9 ⟨rfl,rfl⟩;refine hK.out _ _ (.inl kr) ?_;clear hK K hHeld;refine mpa 9 rfl (.int .i64 ah) (fun w=> ?_) ?_
   . go_simp
   refine qc kr ?_ _;clear hbd;have c5:=S.c5;have f5:=S.froz 5;replace S:=S.setLine (5)
   by_cases q1:ah<=0
   . have q2:¬0<ah:=by omega
     go_wp2;go_returns;exact S.fit (by rw[qul H1.out H2.out];unfold LS.pWeighR;rw[HAH.out,if_pos (show ah<=0 by omega)])
   . have q2:0<ah:=by omega
     go_wp2_with fail;clear c5 f5;refine qm S fun w S=> ?_;have c5:=S.c5;have f5:=S.froz 5;replace S:=S.setLine (9);go_wp2;go_returns;exact S.fit (by rw[qul H1.out H2.out];unfold LS.pWeighR;rw[HAH.out,if_neg (show ¬ah<=0 by omega)];try rfl)
 . go_wp2_with fail;refine yq S fun w4 S=> ?_;have c7:=S.c7;have f7:=S.froz 7;replace S:=S.setB (qa r.xs 1)
   go_upto_region 79 with(fail)
   clear c7 f7;generalize w4.setCell ⟨B,7,none⟩ (.int .u32 (qa r.xs 1))=w5 at *;refine qb (n:=10) 8 (fun w=>w.cell? ⟨B,6,none⟩=some (.int .u32 r.a)/\w.cell? ⟨B,7,none⟩=some (.int .u32 (qa r.xs 1))) rfl kr ⟨S.c6,S.c7⟩ (fun hHeld=> ?_);replace S:=S.drew;generalize w5.drew=w6 at *;refine za 0 rfl ?_;refine za 1 rfl ?_;refine za 2 rfl ?_;refine zt 3 rfl ?_;refine za 4 rfl ?_;refine za 5 rfl ?_;refine za 6 rfl ?_;refine zt 7 rfl ?_;refine mpc 8 rfl kr br (fun K hK=> ?_);go_simp;refine(yy r.a (qa r.xs 1) _ HA.out (jx HX.out 1)).mono ?_;obtain⟨ah,hah⟩:∃ah,zv r.a (qa r.xs 1)=ah:=⟨_,rfl⟩
   have hbd: -2147483648<=ah/\ah<=2147483647:=by rw[←hah];unfold zv;omega
   rw[hah];have HAH:=zh hah;clear hah;rintro e w9 ⟨rfl,rfl⟩;refine hK.out _ _ (.inl kr) ?_;clear hK K hHeld;refine mpa 9 rfl (.int .i64 ah) (fun w=> ?_) ?_
   . go_simp
   refine qc kr ?_ _;have hx1:IntKind.i64.wrap (ah-256)=ah-256:=IntWalk.i64_in _ om;clear hbd;have c5:=S.c5;have f5:=S.froz 5;replace S:=S.setLine (5)
   by_cases q1:ah<=256
   . have q2:¬0<ah-256:=by omega
     go_wp2;go_returns;exact S.fit (by rw[qu8 H1.out H2.out];unfold LS.pWeighR;rw[HAH.out,if_pos (show ah<=256 by omega)])
   . have q2:0<ah-256:=by omega
     go_wp2_with fail;clear c5 f5;refine qm S fun w S=> ?_;have c5:=S.c5;have f5:=S.froz 5;replace S:=S.setLine (9);go_wp2;go_returns;exact S.fit (by rw[qu8 H1.out H2.out];unfold LS.pWeighR;rw[HAH.out,if_neg (show ¬ah<=256 by omega)];try rfl)
 . go_wp2_with fail;refine yq S fun w4 S=> ?_;have c7:=S.c7;have f7:=S.froz 7;replace S:=S.setB (qa r.xs 4);have c5:=S.c5;have f5:=S.froz 5;replace S:=S.setLine (6);go_wp2;go_returns;exact S.fit (by rw[qye H1.out H2.out];rfl)
 . go_wp2_with fail;refine yq S fun w4 S=> ?_;have c7:=S.c7;have f7:=S.froz 7;replace S:=S.setB (qa r.xs 4);have c5:=S.c5;have f5:=S.froz 5;replace S:=S.setLine (6);go_wp2;go_returns;exact S.fit (by rw[zat H1.out H2.out];rfl)
end
end Go.Proofs.YtgebffjejifidaaGreat
