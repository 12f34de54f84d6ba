import Derived.Test.YtgebffjejifidaaGreatG1
import Derived.IntWalk
import Derived.Test.YtgebffjejifidaaGreatG11
import Derived.Test.YtgebffjejifidaaGreatG13
import Derived.Test.YtgebffjejifidaaGreatG14
import Derived.Test.YtgebffjejifidaaGreatG47
import Derived.Test.YtgebffjejifidaaGreatG16
import Derived.Test.YtgebffjejifidaaGreatG17
import Derived.Test.YtgebffjejifidaaGreatG40
import Derived.Test.YtgebffjejifidaaGreatG5
import Derived.Test.YtgebffjejifidaaGreatG2
import Derived.Test.YtgebffjejifidaaGreatG15
import Derived.Test.YtgebffjejifidaaGreatG46
set_option linter.unusedVariables false
set_option linter.unusedSimpArgs false
set_option maxHeartbeats 40000000
set_option maxRecDepth 100000
namespace Go.Proofs.YtgebffjejifidaaGreat
open Go.RowKit Tryz
theorem ko(B base:Nat)(A:Option Addr)(l cp:Nat)(nv:Value)(r:LS)(w:World)(h:RunR w B base A l cp nv r)(hl:r.ns.length<=900)(hx:Words r.xs)(op ln:Int)(hi:(op,ln)∈[(1,2),(2,1),(2,2),(4,1),(4,2),(5,2),(6,2),(7,2),(8,1),(8,2)])(h1:r.op=op)(h2:r.line=ln):
 Calls prog 99 #[Value.pointer (some ⟨B,0,none⟩)] w (qg B base A l cp w (.tuple #[]) r):=by
 have H1:=zh h1;have H2:=zh h2;clear h1 h2;simp only[List.mem_cons,List.not_mem_nil,or_false,Prod.mk.injEq]at hi;rcases hi with⟨rfl,rfl⟩|⟨rfl,rfl⟩|⟨rfl,rfl⟩|⟨rfl,rfl⟩|⟨rfl,rfl⟩|⟨rfl,rfl⟩|⟨rfl,rfl⟩|⟨rfl,rfl⟩|⟨rfl,rfl⟩|⟨rfl,rfl⟩
 . have HX:=zh hx;have HL:=zh hl;have HH:=zh h;clear h hl hx
   have c4:w.cell? ⟨B,4,none⟩=some (.int .i64 (1)):=by rw[←H1.out];exact HH.out.row.cell_ (i:=4) rfl
   have c5:w.cell? ⟨B,5,none⟩=some (.int .i64 (2)):=by rw[←H2.out];exact HH.out.row.cell_ (i:=5) rfl
   go_enter func99, ntmps99
   go_upto_region 3 with(fail)
   have hw1:IntKind.i64.wrap (10)=10:=rfl;have hw2:IntKind.i64.wrap (12)=12:=rfl;refine qb (n:=10) 9 (fun w=>w.cell? ⟨B,4,none⟩=some (.int .i64 (1))/\w.cell? ⟨B,5,none⟩=some (.int .i64 (2))) rfl kr ⟨c4,c5⟩ (fun hHeld=> ?_);have HP0:=zh (HH.out.keep (Only.refl Nil w).drew);have HO0:=zh ((Only.refl (qd B A) w).drew);clear HH c4 c5;generalize w.drew=w2 at *;refine za 0 rfl ?_;refine za 1 rfl ?_;refine za 2 rfl ?_;refine zt 3 rfl ?_;refine mpa 4 rfl (.int .i64 (10)) (fun w=> ?_) ?_
   . go_simp
   refine za 5 rfl ?_;refine za 6 rfl ?_;refine za 7 rfl ?_;refine zt 8 rfl ?_;refine mpc 9 rfl kr br (fun K hK=> ?_);go_simp;refine hK.out _ _ (.inl kr) ?_;clear hK K hHeld hw1 hw2;refine qc kr ?_ _;go_wp2;go_returns;exact⟨rfl,HO0.out,nv,HP0.out⟩
 . have HX:=zh hx;have HL:=zh hl;have HH:=zh h;clear h hl hx
   have c4:w.cell? ⟨B,4,none⟩=some (.int .i64 (2)):=by rw[←H1.out];exact HH.out.row.cell_ (i:=4) rfl
   have c5:w.cell? ⟨B,5,none⟩=some (.int .i64 (1)):=by rw[←H2.out];exact HH.out.row.cell_ (i:=5) rfl
   go_enter func99, ntmps99
   go_upto_region 3 with(fail)
   have hw1:IntKind.i64.wrap (20)=20:=rfl;have hw2:IntKind.i64.wrap (21)=21:=rfl;refine qb (n:=10) 9 (fun w=>w.cell? ⟨B,4,none⟩=some (.int .i64 (2))/\w.cell? ⟨B,5,none⟩=some (.int .i64 (1))) rfl kr ⟨c4,c5⟩ (fun hHeld=> ?_);have HP0:=zh (HH.out.keep (Only.refl Nil w).drew);have HO0:=zh ((Only.refl (qd B A) w).drew);clear HH c4 c5;generalize w.drew=w2 at *;refine za 0 rfl ?_;refine za 1 rfl ?_;refine za 2 rfl ?_;refine zt 3 rfl ?_;refine mpa 4 rfl (.int .i64 (20)) (fun w=> ?_) ?_
   . go_simp
   refine za 5 rfl ?_;refine za 6 rfl ?_;refine za 7 rfl ?_;refine zt 8 rfl ?_;refine mpc 9 rfl kr br (fun K hK=> ?_);go_simp;refine hK.out _ _ (.inl kr) ?_;clear hK K hHeld hw1 hw2;refine qc kr ?_ _;go_wp2;go_returns;exact⟨rfl,HO0.out,nv,HP0.out⟩
 . have HX:=zh hx;have HL:=zh hl;have HH:=zh h;clear h hl hx
   have c4:w.cell? ⟨B,4,none⟩=some (.int .i64 (2)):=by rw[←H1.out];exact HH.out.row.cell_ (i:=4) rfl
   have c5:w.cell? ⟨B,5,none⟩=some (.int .i64 (2)):=by rw[←H2.out];exact HH.out.row.cell_ (i:=5) rfl
   go_enter func99, ntmps99
   go_upto_region 3 with(fail)
   have hw1:IntKind.i64.wrap (20)=20:=rfl;have hw2:IntKind.i64.wrap (22)=22:=rfl;refine qb (n:=10) 9 (fun w=>w.cell? ⟨B,4,none⟩=some (.int .i64 (2))/\w.cell? ⟨B,5,none⟩=some (.int .i64 (2))) rfl kr ⟨c4,c5⟩ (fun hHeld=> ?_);have HP0:=zh (HH.out.keep (Only.refl Nil w).drew);have HO0:=zh ((Only.refl (qd B A) w).drew);clear HH c4 c5;generalize w.drew=w2 at *;refine za 0 rfl ?_;refine za 1 rfl ?_;refine za 2 rfl ?_;refine zt 3 rfl ?_;refine mpa 4 rfl (.int .i64 (20)) (fun w=> ?_) ?_
   . go_simp
   refine za 5 rfl ?_;refine za 6 rfl ?_;refine za 7 rfl ?_;refine zt 8 rfl ?_;refine mpc 9 rfl kr br (fun K hK=> ?_);go_simp;refine hK.out _ _ (.inl kr) ?_;clear hK K hHeld hw1 hw2;refine qc kr ?_ _;go_wp2;go_returns;exact⟨rfl,HO0.out,nv,HP0.out⟩
 . have HX:=zh hx;have HL:=zh hl;have HH:=zh h;clear h hl hx
   have c4:w.cell? ⟨B,4,none⟩=some (.int .i64 (4)):=by rw[←H1.out];exact HH.out.row.cell_ (i:=4) rfl
   have c5:w.cell? ⟨B,5,none⟩=some (.int .i64 (1)):=by rw[←H2.out];exact HH.out.row.cell_ (i:=5) rfl
   go_enter func99, ntmps99
   go_upto_region 3 with(fail)
   have hw1:IntKind.i64.wrap (40)=40:=rfl;have hw2:IntKind.i64.wrap (41)=41:=rfl;refine qb (n:=10) 9 (fun w=>w.cell? ⟨B,4,none⟩=some (.int .i64 (4))/\w.cell? ⟨B,5,none⟩=some (.int .i64 (1))) rfl kr ⟨c4,c5⟩ (fun hHeld=> ?_);have HP0:=zh (HH.out.keep (Only.refl Nil w).drew);have HO0:=zh ((Only.refl (qd B A) w).drew);clear HH c4 c5;generalize w.drew=w2 at *;refine za 0 rfl ?_;refine za 1 rfl ?_;refine za 2 rfl ?_;refine zt 3 rfl ?_;refine mpa 4 rfl (.int .i64 (40)) (fun w=> ?_) ?_
   . go_simp
   refine za 5 rfl ?_;refine za 6 rfl ?_;refine za 7 rfl ?_;refine zt 8 rfl ?_;refine mpc 9 rfl kr br (fun K hK=> ?_);go_simp;refine hK.out _ _ (.inl kr) ?_;clear hK K hHeld hw1 hw2;refine qc kr ?_ _;go_wp2;go_returns;exact⟨rfl,HO0.out,nv,HP0.out⟩
 . have HX:=zh hx;have HL:=zh hl;have HH:=zh h;clear h hl hx
   have c4:w.cell? ⟨B,4,none⟩=some (.int .i64 (4)):=by rw[←H1.out];exact HH.out.row.cell_ (i:=4) rfl
   have c5:w.cell? ⟨B,5,none⟩=some (.int .i64 (2)):=by rw[←H2.out];exact HH.out.row.cell_ (i:=5) rfl
   go_enter func99, ntmps99
   go_upto_region 3 with(fail)
   have hw1:IntKind.i64.wrap (40)=40:=rfl;have hw2:IntKind.i64.wrap (42)=42:=rfl;refine qb (n:=10) 9 (fun w=>w.cell? ⟨B,4,none⟩=some (.int .i64 (4))/\w.cell? ⟨B,5,none⟩=some (.int .i64 (2))) rfl kr ⟨c4,c5⟩ (fun hHeld=> ?_);have HP0:=zh (HH.out.keep (Only.refl Nil w).drew);have HO0:=zh ((Only.refl (qd B A) w).drew);clear HH c4 c5;generalize w.drew=w2 at *;refine za 0 rfl ?_;refine za 1 rfl ?_;refine za 2 rfl ?_;refine zt 3 rfl ?_;refine mpa 4 rfl (.int .i64 (40)) (fun w=> ?_) ?_
   . go_simp
   refine za 5 rfl ?_;refine za 6 rfl ?_;refine za 7 rfl ?_;refine zt 8 rfl ?_;refine mpc 9 rfl kr br (fun K hK=> ?_);go_simp;refine hK.out _ _ (.inl kr) ?_;clear hK K hHeld hw1 hw2;refine qc kr ?_ _;go_wp2;go_returns;exact⟨rfl,HO0.out,nv,HP0.out⟩
 . have HX:=zh hx;have HL:=zh hl;have HH:=zh h;clear h hl hx
   have c4:w.cell? ⟨B,4,none⟩=some (.int .i64 (5)):=by rw[←H1.out];exact HH.out.row.cell_ (i:=4) rfl
   have c5:w.cell? ⟨B,5,none⟩=some (.int .i64 (2)):=by rw[←H2.out];exact HH.out.row.cell_ (i:=5) rfl
   go_enter func99, ntmps99
   go_upto_region 3 with(fail)
   have hw1:IntKind.i64.wrap (50)=50:=rfl;have hw2:IntKind.i64.wrap (52)=52:=rfl;refine qb (n:=10) 9 (fun w=>w.cell? ⟨B,4,none⟩=some (.int .i64 (5))/\w.cell? ⟨B,5,none⟩=some (.int .i64 (2))) rfl kr ⟨c4,c5⟩ (fun hHeld=> ?_);have HP0:=zh (HH.out.keep (Only.refl Nil w).drew);have HO0:=zh ((Only.refl (qd B A) w).drew);clear HH c4 c5;generalize w.drew=w2 at *;refine za 0 rfl ?_;refine za 1 rfl ?_;refine za 2 rfl ?_;refine zt 3 rfl ?_;refine mpa 4 rfl (.int .i64 (50)) (fun w=> ?_) ?_
   . go_simp
   refine za 5 rfl ?_;refine za 6 rfl ?_;refine za 7 rfl ?_;refine zt 8 rfl ?_;refine mpc 9 rfl kr br (fun K hK=> ?_);go_simp;refine hK.out _ _ (.inl kr) ?_;clear hK K hHeld hw1 hw2;refine qc kr ?_ _;go_wp2;go_returns;exact⟨rfl,HO0.out,nv,HP0.out⟩
 . have HX:=zh hx;have HL:=zh hl;have HH:=zh h;clear h hl hx
   have c4:w.cell? ⟨B,4,none⟩=some (.int .i64 (6)):=by rw[←H1.out];exact HH.out.row.cell_ (i:=4) rfl
   have c5:w.cell? ⟨B,5,none⟩=some (.int .i64 (2)):=by rw[←H2.out];exact HH.out.row.cell_ (i:=5) rfl
   go_enter func99, ntmps99
   go_upto_region 3 with(fail)
   have hw1:IntKind.i64.wrap (60)=60:=rfl;have hw2:IntKind.i64.wrap (62)=62:=rfl;refine qb (n:=10) 9 (fun w=>w.cell? ⟨B,4,none⟩=some (.int .i64 (6))/\w.cell? ⟨B,5,none⟩=some (.int .i64 (2))) rfl kr ⟨c4,c5⟩ (fun hHeld=> ?_);have HP0:=zh (HH.out.keep (Only.refl Nil w).drew);have HO0:=zh ((Only.refl (qd B A) w).drew);clear HH c4 c5;generalize w.drew=w2 at *;refine za 0 rfl ?_;refine za 1 rfl ?_;refine za 2 rfl ?_;refine zt 3 rfl ?_;refine mpa 4 rfl (.int .i64 (60)) (fun w=> ?_) ?_
   . go_simp
   refine za 5 rfl ?_;refine za 6 rfl ?_;refine za 7 rfl ?_;refine zt 8 rfl ?_;refine mpc 9 rfl kr br (fun K hK=> ?_);go_simp;refine hK.out _ _ (.inl kr) ?_;clear hK K hHeld hw1 hw2;refine qc kr ?_ _;go_wp2;go_returns;exact⟨rfl,HO0.out,nv,HP0.out⟩
 . have HX:=zh hx;have HL:=zh hl;have HH:=zh h;clear h hl hx
   have c4:w.cell? ⟨B,4,none⟩=some (.int .i64 (7)):=by rw[←H1.out];exact HH.out.row.cell_ (i:=4) rfl
   have c5:w.cell? ⟨B,5,none⟩=some (.int .i64 (2)):=by rw[←H2.out];exact HH.out.row.cell_ (i:=5) rfl
   go_enter func99, ntmps99
   go_upto_region 3 with(fail)
   have hw1:IntKind.i64.wrap (70)=70:=rfl;have hw2:IntKind.i64.wrap (72)=72:=rfl;refine qb (n:=10) 9 (fun w=>w.cell? ⟨B,4,none⟩=some (.int .i64 (7))/\w.cell? ⟨B,5,none⟩=some (.int .i64 (2))) rfl kr ⟨c4,c5⟩ (fun hHeld=> ?_);have HP0:=zh (HH.out.keep (Only.refl Nil w).drew);have HO0:=zh ((Only.refl (qd B A) w).drew);clear HH c4 c5;generalize w.drew=w2 at *;refine za 0 rfl ?_;refine za 1 rfl ?_;refine za 2 rfl ?_;refine zt 3 rfl ?_;refine mpa 4 rfl (.int .i64 (70)) (fun w=> ?_) ?_
   . go_simp
   refine za 5 rfl ?_;refine za 6 rfl ?_;refine za 7 rfl ?_;refine zt 8 rfl ?_;refine mpc 9 rfl kr br (fun K hK=> ?_);go_simp;refine hK.out _ _ (.inl kr) ?_;clear hK K hHeld hw1 hw2;refine qc kr ?_ _;go_wp2;go_returns;exact⟨rfl,HO0.out,nv,HP0.out⟩
 . have HX:=zh hx;have HL:=zh hl;have HH:=zh h;clear h hl hx
   have c4:w.cell? ⟨B,4,none⟩=some (.int .i64 (8)):=by rw[←H1.out];exact HH.out.row.cell_ (i:=4) rfl
   have c5:w.cell? ⟨B,5,none⟩=some (.int .i64 (1)):=by rw[←H2.out];exact HH.out.row.cell_ (i:=5) rfl
   go_enter func99, ntmps99
   go_upto_region 3 with(fail)
   have hw1:IntKind.i64.wrap (80)=80:=rfl;have hw2:IntKind.i64.wrap (81)=81:=rfl;refine qb (n:=10) 9 (fun w=>w.cell? ⟨B,4,none⟩=some (.int .i64 (8))/\w.cell? ⟨B,5,none⟩=some (.int .i64 (1))) rfl kr ⟨c4,c5⟩ (fun hHeld=> ?_);have HP0:=zh (HH.out.keep (Only.refl Nil w).drew);have HO0:=zh ((Only.refl (qd B A) w).drew);clear HH c4 c5;generalize w.drew=w2 at *;refine za 0 rfl ?_;refine za 1 rfl ?_;refine za 2 rfl ?_;refine zt 3 rfl ?_;refine mpa 4 rfl (.int .i64 (80)) (fun w=> ?_) ?_
   . go_simp
   refine za 5 rfl ?_;refine za 6 rfl ?_;refine za 7 rfl ?_;refine zt 8 rfl ?_;refine mpc 9 rfl kr br (fun K hK=> ?_);go_simp;refine hK.out _ _ (.inl kr) ?_;clear hK K hHeld hw1 hw2;refine qc kr ?_ _;go_wp2;go_returns;exact⟨rfl,HO0.out,nv,HP0.out⟩
 . have HX:=zh hx;have HL:=zh hl;have HH:=zh h;clear h hl hx
   have c4:w.cell? ⟨B,4,none⟩=some (.int .i64 (8)):=by rw[←H1.out];exact HH.out.row.cell_ (i:=4) rfl
   have c5:w.cell? ⟨B,5,none⟩=some (.int .i64 (2)):=by rw[←H2.out];exact HH.out.row.cell_ (i:=5) rfl
   go_enter func99, ntmps99
   go_upto_region 3 with(fail)
   have hw1:IntKind.i64.wrap (80)=80:=rfl;have hw2:IntKind.i64.wrap (82)=82:=rfl;refine qb (n:=10) 9 (fun w=>w.cell? ⟨B,4,none⟩=some (.int .i64 (8))/\w.cell? ⟨B,5,none⟩=some (.int .i64 (2))) rfl kr ⟨c4,c5⟩ (fun hHeld=> ?_);have HP0:=zh (HH.out.keep (Only.refl Nil w).drew);have HO0:=zh ((Only.refl (qd B A) w).drew);clear HH c4 c5;generalize w.drew=w2 at *;refine za 0 rfl ?_;refine za 1 rfl ?_;refine za 2 rfl ?_;refine zt 3 rfl ?_;refine mpa 4 rfl (.int .i64 (80)) (fun w=> ?_) ?_
   . go_simp
   refine za 5 rfl ?_;refine za 6 rfl ?_;refine za 7 rfl ?_;refine zt 8 rfl ?_;refine mpc 9 rfl kr br (fun K hK=> ?_);go_simp;refine hK.out _ _ (.inl kr) ?_;clear hK K hHeld hw1 hw2;refine qc kr ?_ _;go_wp2;go_returns;exact⟨rfl,HO0.out,nv,HP0.out⟩
theorem qx3{r:LS}(h:r.line<0\/2<r.line\/r.op<1\/8<r.op):r.rf=r:=by
 have hc:vu r.op r.line=0:=by
  unfold vu
  repeat (first|rw[if_neg om])
 unfold LS.rf;rw[hc];rfl
theorem qkn(B base:Nat)(A:Option Addr)(l cp:Nat)(nv:Value)(r:LS)(w:World)(h:RunR w B base A l cp nv r)(hl:r.ns.length<=900)(hx:Words r.xs):Calls prog 99 #[Value.pointer (some ⟨B,0,none⟩)] w (qg B base A l cp w (.tuple #[]) r.rf):=by
 by_cases hi:r.line<0\/2<r.line\/r.op<1\/8<r.op
 . rw[show r.rf=r from qx3 hi];exact qvx B base A l cp nv r w h hl hx hi
 obtain⟨op,h1⟩:∃op,r.op=op:=⟨_,rfl⟩;obtain⟨ln,h2⟩:∃ln,r.line=ln:=⟨_,rfl⟩
 have ho:op=1\/op=2\/op=3\/op=4\/op=5\/op=6\/op=7\/op=8:=by omega
 have hn:ln=0\/ln=1\/ln=2:=by omega
 rcases ho with rfl|rfl|rfl|rfl|rfl|rfl|rfl|rfl<;>rcases hn with rfl|rfl|rfl
 . exact qw7 B base A l cp nv r w h hl hx h1 h2
 . exact qxt B base A l cp nv r w h hl hx h1 h2
 . rw[show r.rf=r by unfold LS.rf;rw[h1,h2];rfl];exact ko B base A l cp nv r w h hl hx 1 2 dc h1 h2
 . exact qxj B base A l cp nv r w h hl hx h1 h2
 . rw[show r.rf=r by unfold LS.rf;rw[h1,h2];rfl];exact ko B base A l cp nv r w h hl hx 2 1 dc h1 h2
 . rw[show r.rf=r by unfold LS.rf;rw[h1,h2];rfl];exact ko B base A l cp nv r w h hl hx 2 2 dc h1 h2
 . exact qxm B base A l cp nv r w h hl hx h1 h2
 . exact qwt B base A l cp nv r w h hl hx h1 h2
 . exact qwc B base A l cp nv r w h hl hx h1 h2
 . exact qxu B base A l cp nv r w h hl hx h1 h2
 . rw[show r.rf=r by unfold LS.rf;rw[h1,h2];rfl];exact ko B base A l cp nv r w h hl hx 4 1 dc h1 h2
 . rw[show r.rf=r by unfold LS.rf;rw[h1,h2];rfl];exact ko B base A l cp nv r w h hl hx 4 2 dc h1 h2
 . exact qxn B base A l cp nv r w h hl hx h1 h2
 . exact qxr B base A l cp nv r w h hl hx h1 h2
 . rw[show r.rf=r by unfold LS.rf;rw[h1,h2];rfl];exact ko B base A l cp nv r w h hl hx 5 2 dc h1 h2
 . exact qy1 B base A l cp nv r w h hl hx h1 h2
 . exact qx5 B base A l cp nv r w h hl hx h1 h2
 . rw[show r.rf=r by unfold LS.rf;rw[h1,h2];rfl];exact ko B base A l cp nv r w h hl hx 6 2 dc h1 h2
 . exact qvy B base A l cp nv r w h hl hx h1 h2
 . exact qv5 B base A l cp nv r w h hl hx h1 h2
 . rw[show r.rf=r by unfold LS.rf;rw[h1,h2];rfl];exact ko B base A l cp nv r w h hl hx 7 2 dc h1 h2
 . exact qxw B base A l cp nv r w h hl hx h1 h2
 . rw[show r.rf=r by unfold LS.rf;rw[h1,h2];rfl];exact ko B base A l cp nv r w h hl hx 8 1 dc h1 h2
 . rw[show r.rf=r by unfold LS.rf;rw[h1,h2];rfl];exact ko B base A l cp nv r w h hl hx 8 2 dc h1 h2
theorem qri(v:Int)(w:World)(hv:0<=v/\v<4294967296):Calls prog 205 #[.int .u32 v] w fun e w'=>e= .returned (.int .u32 (rF v))/\w=w':=by
 obtain⟨h0,h1⟩:=hv;go_enter func205, ntmps205;go_wp2;go_ret;exact⟨yl (by unfold rF;omega),rfl⟩
theorem qgi(v:Int)(w:World)(hv:0<=v/\v<4294967296):Calls prog 202 #[.int .u32 v] w fun e w'=>e= .returned (.int .u32 (oF v))/\w=w':=by
 obtain⟨h0,h1⟩:=hv;go_enter func202, ntmps202;go_wp2;go_ret;exact⟨yl (by unfold oF;omega),rfl⟩
theorem qe9(v:Int)(w:World)(hv:0<=v/\v<4294967296):Calls prog 201 #[.int .u32 v] w fun e w'=>e= .returned (.int .u32 (iF v))/\w=w':=by
 obtain⟨h0,h1⟩:=hv;go_enter func201, ntmps201;go_wp2;go_ret;exact⟨yl (by unfold iF;omega),rfl⟩
theorem qrq(v:Int):uIs 2 0 0 v=zz v:=by
 show(v/256%256==v/65536%256)=(v/65536%256==v/256%256);exact Bool.beq_comm
theorem qsw(x v:Int):uIs 3 0 x v=qbp x v:=rfl
section
variable{B base:Nat}{A:Option Addr}{l cp:Nat}{r:LS}{w0 w:World}
theorem qi9(what:Int)(S:SR w0 B base A l cp 902 r w):Calls prog 203 #[Value.pointer (some ⟨B,0,none⟩),.int .i64 what] w (qg B base A l cp w0 (.tuple #[]) ((r.note what 0).fin true)):=by
 go_enter func203, ntmps203;go_wp2_with fail;refine qm S fun w S=> ?_;go_wp2_with fail;refine yu S fun w S=> ?_;go_wp2;go_returns;exact S.done
end
section
variable{B base:Nat}{A:Option Addr}{l cp:Nat}{r:LS}{w0 w:World}
theorem qfm(S:SR w0 B base A l cp 900 r w)(hx:Words r.xs)(ha:0<=r.a/\r.a<4294967296)(hh:(r.op=1/\r.line=0)\/(r.op=1/\r.line=3)\/(r.op=1/\r.line=1)\/(r.op=1/\r.line=2)\/(r.op=2/\r.line=0)\/(r.op=3/\r.line=0)\/(r.op=3/\r.line=1)):Calls prog 100 #[Value.pointer (some ⟨B,0,none⟩)] w (qg B base A l cp w0 (.tuple #[]) r.wf):=by
 obtain⟨ol,H1⟩:∃ol,Hid (r.op=ol):=⟨_,zh rfl⟩;obtain⟨ln,H2⟩:∃ln,Hid (r.line=ln):=⟨_,zh rfl⟩;rw[H1.out,H2.out]at hh;have HX:=zh hx;have HA:=zh ha;clear hx ha
 have c4:w.cell? ⟨B,4,none⟩=some (.int .i64 ol):=by rw[←H1.out];exact S.c4
 have c5:w.cell? ⟨B,5,none⟩=some (.int .i64 ln):=by rw[←H2.out];exact S.c5
 have q0:¬ln<0:=by omega
 have q1:¬3<ln:=by omega
 have q2:¬ol<1:=by omega
 have q3:¬8<ol:=by omega
 have hw1:IntKind.i64.wrap (ol*10)=ol*10:=IntWalk.i64_in _ om;have hw2:IntKind.i64.wrap (ol*10+ln)=ol*10+ln:=IntWalk.i64_in _ om;have HH:=zh hh;clear hh;go_enter func100, ntmps100
 go_upto_region 2 with(fail)
 clear q0 q1 q2 q3;refine qb (n:=10) 9 (fun w=>w.cell? ⟨B,4,none⟩=some (.int .i64 ol)/\w.cell? ⟨B,5,none⟩=some (.int .i64 ln)) rfl kr ⟨c4,c5⟩ (fun hHeld=> ?_);clear c4 c5;replace S:=S.drew;generalize w.drew=w2 at *;refine za 0 rfl ?_;refine za 1 rfl ?_;refine za 2 rfl ?_;refine zt 3 rfl ?_;refine mpa 4 rfl (.int .i64 (ol*10)) (fun w=> ?_) ?_
 . go_simp
 refine za 5 rfl ?_;refine za 6 rfl ?_;refine za 7 rfl ?_;refine zt 8 rfl ?_;refine mpc 9 rfl kr br (fun K hK=> ?_);go_simp;refine hK.out _ _ (.inl kr) ?_;clear hK K hHeld hw1 hw2;refine qc kr ?_ _;have hh:=HH.out;clear HH;rcases hh with⟨rfl,rfl⟩|⟨rfl,rfl⟩|⟨rfl,rfl⟩|⟨rfl,rfl⟩|⟨rfl,rfl⟩|⟨rfl,rfl⟩|⟨rfl,rfl⟩
 . go_wp2_with fail;refine yq S fun w3 S=> ?_;have c6:=S.c6;have f6:=S.froz 6;replace S:=S.setA (qa r.xs 0)
   go_upto_region 6 with(fail)
   clear c6 f6;generalize w3.setCell ⟨B,6,none⟩ (.int .u32 (qa r.xs 0))=w4 at *
   have c5:w4.cell? ⟨B,5,none⟩=some (.int .i64 0):=by rw[←H2.out];exact S.c5
   go_wp2_with fail;clear c5;refine qm S fun w S=> ?_;have c5:=S.c5;have f5:=S.froz 5;replace S:=S.setLine (2)
   go_upto_region 9 with(fail)
   clear c5 f5;generalize w.setCell ⟨B,5,none⟩ (.int .i64 2)=w5 at *;refine qb (n:=11) 9 (fun w=>w.cell? ⟨B,6,none⟩=some (.int .u32 (qa r.xs 0))) rfl kr S.c6 (fun hHeld=> ?_);replace S:=S.drew;generalize w5.drew=w6 at *;refine za 0 rfl ?_;refine za 1 rfl ?_;refine za 2 rfl ?_;refine zt 3 rfl ?_;refine za 5 rfl ?_;refine za 6 rfl ?_;refine za 7 rfl ?_;refine zt 8 rfl ?_;refine mpc 4 rfl kr br (fun K hK=> ?_);go_simp;refine(qe9 _ _ (qq HX.out 0)).mono ?_;rintro e w7 ⟨rfl,rfl⟩;refine hK.out _ _ (.inr hHeld) ?_;clear hK K;refine mpc 9 rfl kr br (fun K hK=> ?_);go_simp;refine(qgi _ _ (qq HX.out 0)).mono ?_;rintro e w7 ⟨rfl,rfl⟩;refine hK.out _ _ (.inl kr) ?_;clear hK K hHeld;obtain⟨i,hi⟩:∃i,iF (qa r.xs 0)=i:=⟨_,rfl⟩;obtain⟨o,ho⟩:∃o,oF (qa r.xs 0)=o:=⟨_,rfl⟩;have HF:=zh (show zz (qa r.xs 0)=(i==o) by unfold zz;rw[hi,ho]);rw[hi,ho];clear hi ho
   by_cases h:i=o
   . subst h;refine mpa 10 rfl (.bool true) (fun w=> ?_) ?_
     . go_simp
     refine qc kr ?_ _;have c5:=S.c5;have f5:=S.froz 5;replace S:=S.setLine (1);go_wp2;go_returns;exact S.fit (by rw[qsi H1.out H2.out];unfold LS.gSee;rw[if_pos (by rw[HF.out];exact beq_self_eq_true i)];rfl)
   . have hq:(i==o)=false:=by simpa using h
     refine mpa 10 rfl (.bool false) (fun w=> ?_) ?_
     . go_simp
     refine qc kr ?_ _;go_wp2;go_returns;exact S.fit (by rw[qsi H1.out H2.out];unfold LS.gSee;rw[if_neg (by rw[HF.out,hq];exact Bool.false_ne_true)];rfl)
 . go_wp2_with fail;refine yq S fun w3 S=> ?_;have c6:=S.c6;have f6:=S.froz 6;replace S:=S.setA (qa r.xs 0)
   go_upto_region 6 with(fail)
   clear c6 f6;generalize w3.setCell ⟨B,6,none⟩ (.int .u32 (qa r.xs 0))=w4 at *
   have c5:w4.cell? ⟨B,5,none⟩=some (.int .i64 3):=by rw[←H2.out];exact S.c5
   go_upto_region 8 with(fail)
   clear c5;have c5:=S.c5;have f5:=S.froz 5;replace S:=S.setLine (2)
   go_upto_region 9 with(fail)
   clear c5 f5;generalize w4.setCell ⟨B,5,none⟩ (.int .i64 2)=w5 at *;refine qb (n:=11) 9 (fun w=>w.cell? ⟨B,6,none⟩=some (.int .u32 (qa r.xs 0))) rfl kr S.c6 (fun hHeld=> ?_);replace S:=S.drew;generalize w5.drew=w6 at *;refine za 0 rfl ?_;refine za 1 rfl ?_;refine za 2 rfl ?_;refine zt 3 rfl ?_;refine za 5 rfl ?_;refine za 6 rfl ?_;refine za 7 rfl ?_;refine zt 8 rfl ?_;refine mpc 4 rfl kr br (fun K hK=> ?_);go_simp;refine(qe9 _ _ (qq HX.out 0)).mono ?_;rintro e w7 ⟨rfl,rfl⟩;refine hK.out _ _ (.inr hHeld) ?_;clear hK K;refine mpc 9 rfl kr br (fun K hK=> ?_);go_simp;refine(qgi _ _ (qq HX.out 0)).mono ?_;rintro e w7 ⟨rfl,rfl⟩;refine hK.out _ _ (.inl kr) ?_;clear hK K hHeld;obtain⟨i,hi⟩:∃i,iF (qa r.xs 0)=i:=⟨_,rfl⟩;obtain⟨o,ho⟩:∃o,oF (qa r.xs 0)=o:=⟨_,rfl⟩;have HF:=zh (show zz (qa r.xs 0)=(i==o) by unfold zz;rw[hi,ho]);rw[hi,ho];clear hi ho
   by_cases h:i=o
   . subst h;refine mpa 10 rfl (.bool true) (fun w=> ?_) ?_
     . go_simp
     refine qc kr ?_ _;have c5:=S.c5;have f5:=S.froz 5;replace S:=S.setLine (1);go_wp2;go_returns;exact S.fit (by rw[qr9 H1.out H2.out];unfold LS.gSee;rw[if_pos (by rw[HF.out];exact beq_self_eq_true i)];rfl)
   . have hq:(i==o)=false:=by simpa using h
     refine mpa 10 rfl (.bool false) (fun w=> ?_) ?_
     . go_simp
     refine qc kr ?_ _;go_wp2;go_returns;exact S.fit (by rw[qr9 H1.out H2.out];unfold LS.gSee;rw[if_neg (by rw[HF.out,hq];exact Bool.false_ne_true)];rfl)
 . have c6:=S.c6;have hx1:IntKind.u32.wrap (r.a+1)=(r.a+1)%4294967296:=rfl
   go_upto_region 12 with(fail)
   refine qb (n:=11) 10 (fun w=>w.cell? ⟨B,6,none⟩=some (.int .u32 r.a)) rfl kr c6 (fun hHeld=> ?_);clear c6;replace S:=S.drew;generalize w2.drew=w3 at *;refine za 0 rfl ?_;refine za 1 rfl ?_;refine za 2 rfl ?_;refine za 3 rfl ?_;refine zt 4 rfl ?_;refine za 5 rfl ?_;refine za 6 rfl ?_;refine za 7 rfl ?_;refine zt 8 rfl ?_;refine mpa 9 rfl (.int .u32 ((r.a+1)%4294967296)) (fun w=> ?_) ?_
   . go_simp
   refine mpc 10 rfl kr br (fun K hK=> ?_);go_simp;refine qgp S fun w4 S=> ?_;refine hK.out _ _ (.inl kr) ?_;clear hK K hHeld hx1;obtain⟨q,hq⟩:∃q,r.at0 r.a=q:=⟨_,rfl⟩;have HQ:=zh hq;rw[show(qf r.xs 0 && (qa r.xs 0==r.a))=q from hq];clear hq;refine qc kr ?_ _
   cases q
   . have c5:=S.c5;have f5:=S.froz 5;replace S:=S.setLine (3);go_wp2;go_returns;exact S.fit (by rw[quu H1.out H2.out];unfold LS.gTake;rw[if_neg (by rw[HQ.out];exact Bool.false_ne_true)];rfl)
   . go_wp2_with fail;refine S.call (fun nv h=>qi9 4 (qbq h (Nat.le_trans S.len dc))) (m':=903) (by have:=S.len;simp only[LS.fin,LS.note,List.length_append,List.length_cons,List.length_nil]at this ⊢;omega) fun w S=> ?_;go_wp2;go_returns;exact S.fit (by rw[quu H1.out H2.out];unfold LS.gTake;rw[if_pos HQ.out];rfl)
 . obtain⟨sn,hsn⟩:∃sn,(r.stepR 0 (zz)).seen=sn:=⟨_,rfl⟩;obtain⟨dn,hdn⟩:∃dn,(r.stepR 0 (zz)).done=dn:=⟨_,rfl⟩;obtain⟨r1,hr1⟩:∃r1,r.wait 0 (zz)=r1:=⟨_,rfl⟩;have H:=zh (And.intro hsn (And.intro hdn hr1));clear hsn hdn hr1;go_wp2_with fail;refine qbl (q:=zz) S HX.out (qrq _) H.out.1 H.out.2.1 H.out.2.2 fun w3 S=> ?_
   cases sn
   . cases dn
     . go_wp2;go_returns;exact S.fit (by rw[qi2 H1.out H2.out];unfold LS.gWait LS.seeW;rw[H.out.1,H.out.2.1,H.out.2.2];rfl)
     . have c5:=S.c5;have f5:=S.froz 5;replace S:=S.setLine (1);go_wp2;go_returns;exact S.fit (by rw[qi2 H1.out H2.out];unfold LS.gWait LS.seeW;rw[H.out.1,H.out.2.1,H.out.2.2];rfl)
   . have c18:w3.cell? ⟨B,18,none⟩=some (.int .u32 (qa r.xs 0)):=by rw[←show r1.acc.o=qa r.xs 0 by rw[←H.out.2.2];exact qgd H.out.1];exact S.c18
     have c6:=S.c6;have f6:=S.froz 6;replace S:=S.setA (qa r.xs 0)
     go_upto_region 19 with(fail)
     clear c6 f6 c18;generalize w3.setCell ⟨B,6,none⟩ (.int .u32 (qa r.xs 0))=w4 at *
     cases dn
     . go_wp2;go_returns;exact S.fit (by rw[qi2 H1.out H2.out];unfold LS.gWait LS.seeW;rw[H.out.1,H.out.2.1,H.out.2.2];rfl)
     . have c5:=S.c5;have f5:=S.froz 5;replace S:=S.setLine (1);go_wp2;go_returns;exact S.fit (by rw[qi2 H1.out H2.out];unfold LS.gWait LS.seeW;rw[H.out.1,H.out.2.1,H.out.2.2];rfl)
 . go_wp2_with fail;refine ks S fun w S=> ?_;go_wp2_with fail;refine qm S fun w S=> ?_;go_wp2_with fail;refine vl S fun w S=> ?_;go_wp2_with fail;refine yu S fun w S=> ?_;go_wp2;go_returns;exact S.fit (by rw[qyi H1.out H2.out];rfl)
 . go_wp2_with fail;refine ks S fun w3 S=> ?_;have c6:=S.c6;have f6:=S.froz 6;replace S:=S.setA (qa r.xs 0);go_wp2_with fail;clear c6 f6;refine qm S fun w S=> ?_;have c5:=S.c5;have f5:=S.froz 5;replace S:=S.setLine (1);go_wp2;go_returns;exact S.fit (by rw[zan H1.out H2.out];rfl)
 . obtain⟨q,hq⟩:∃q,qbp (iF r.a)=q:=⟨_,rfl⟩;have HQ:=zh hq;clear hq;obtain⟨sn,hsn⟩:∃sn,(r.stepR 0 (q)).seen=sn:=⟨_,rfl⟩;obtain⟨dn,hdn⟩:∃dn,(r.stepR 0 (q)).done=dn:=⟨_,rfl⟩;obtain⟨r1,hr1⟩:∃r1,r.wait 0 (q)=r1:=⟨_,rfl⟩;have H:=zh (And.intro hsn (And.intro hdn hr1));clear hsn hdn hr1;have c6:=S.c6;go_wp2_with fail;clear c6;refine(qe9 _ _ HA.out).mono ?_;rintro e w3 ⟨rfl,rfl⟩;go_wp2_with fail;refine qbl (q:=q) S HX.out (by rw[←HQ.out];exact qsw _ _) H.out.1 H.out.2.1 H.out.2.2 fun w3 S=> ?_
   cases sn
   all_goals cases dn
   . go_wp2;go_returns;exact S.fit (by rw[qiy H1.out H2.out];unfold LS.pAdmit;rw[HQ.out,H.out.1,H.out.2.1,H.out.2.2];rfl)
   . go_wp2_with fail;refine yu S fun w S=> ?_;go_wp2;go_returns;exact S.fit (by rw[qiy H1.out H2.out];unfold LS.pAdmit;rw[HQ.out,H.out.1,H.out.2.1,H.out.2.2];rfl)
   . go_wp2_with fail;refine qm S fun w S=> ?_;go_wp2;go_returns;exact S.fit (by rw[qiy H1.out H2.out];unfold LS.pAdmit;rw[HQ.out,H.out.1,H.out.2.1,H.out.2.2];rfl)
   . go_wp2_with fail;refine qm S fun w S=> ?_;go_wp2_with fail;refine yu S fun w S=> ?_;go_wp2;go_returns;exact S.fit (by rw[qiy H1.out H2.out];unfold LS.pAdmit;rw[HQ.out,H.out.1,H.out.2.1,H.out.2.2];rfl)
end
section
variable{B base:Nat}{A:Option Addr}{l cp:Nat}{r:LS}{w0 w:World}
theorem qgf(S:SR w0 B base A l cp 900 r w)(hx:Words r.xs)(ha:0<=r.a/\r.a<4294967296)(hh:(r.op=4/\r.line=0)\/(r.op=8/\r.line=0)\/(r.op=4/\r.line=1)\/(r.op=8/\r.line=1)\/(r.op=5/\r.line=0)\/(r.op=6/\r.line=0)\/(r.op=7/\r.line=0)):Calls prog 100 #[Value.pointer (some ⟨B,0,none⟩)] w (qg B base A l cp w0 (.tuple #[]) r.wf):=by
 obtain⟨ol,H1⟩:∃ol,Hid (r.op=ol):=⟨_,zh rfl⟩;obtain⟨ln,H2⟩:∃ln,Hid (r.line=ln):=⟨_,zh rfl⟩;rw[H1.out,H2.out]at hh;have HX:=zh hx;have HA:=zh ha;clear hx ha
 have c4:w.cell? ⟨B,4,none⟩=some (.int .i64 ol):=by rw[←H1.out];exact S.c4
 have c5:w.cell? ⟨B,5,none⟩=some (.int .i64 ln):=by rw[←H2.out];exact S.c5
 have q0:¬ln<0:=by omega
 have q1:¬3<ln:=by omega
 have q2:¬ol<1:=by omega
 have q3:¬8<ol:=by omega
 have hw1:IntKind.i64.wrap (ol*10)=ol*10:=IntWalk.i64_in _ om;have hw2:IntKind.i64.wrap (ol*10+ln)=ol*10+ln:=IntWalk.i64_in _ om;have HH:=zh hh;clear hh;go_enter func100, ntmps100
 go_upto_region 2 with(fail)
 clear q0 q1 q2 q3;refine qb (n:=10) 9 (fun w=>w.cell? ⟨B,4,none⟩=some (.int .i64 ol)/\w.cell? ⟨B,5,none⟩=some (.int .i64 ln)) rfl kr ⟨c4,c5⟩ (fun hHeld=> ?_);clear c4 c5;replace S:=S.drew;generalize w.drew=w2 at *;refine za 0 rfl ?_;refine za 1 rfl ?_;refine za 2 rfl ?_;refine zt 3 rfl ?_;refine mpa 4 rfl (.int .i64 (ol*10)) (fun w=> ?_) ?_
 . go_simp
 refine za 5 rfl ?_;refine za 6 rfl ?_;refine za 7 rfl ?_;refine zt 8 rfl ?_;refine mpc 9 rfl kr br (fun K hK=> ?_);go_simp;refine hK.out _ _ (.inl kr) ?_;clear hK K hHeld hw1 hw2;refine qc kr ?_ _;have hh:=HH.out;clear HH;rcases hh with⟨rfl,rfl⟩|⟨rfl,rfl⟩|⟨rfl,rfl⟩|⟨rfl,rfl⟩|⟨rfl,rfl⟩|⟨rfl,rfl⟩|⟨rfl,rfl⟩
 . go_wp2_with fail;refine yq S fun w3 S=> ?_;have c6:=S.c6;have f6:=S.froz 6;replace S:=S.setA (qa r.xs 0)
   go_upto_region 39 with(fail)
   clear c6 f6;generalize w3.setCell ⟨B,6,none⟩ (.int .u32 (qa r.xs 0))=w4 at *;have c5:=S.c5;have f5:=S.froz 5;replace S:=S.setLine (1);go_wp2;go_returns;exact S.fit (by rw[zb6 H1.out H2.out];rfl)
 . go_wp2_with fail;refine yq S fun w3 S=> ?_;have c6:=S.c6;have f6:=S.froz 6;replace S:=S.setA (qa r.xs 0)
   go_upto_region 39 with(fail)
   clear c6 f6;generalize w3.setCell ⟨B,6,none⟩ (.int .u32 (qa r.xs 0))=w4 at *;have c5:=S.c5;have f5:=S.froz 5;replace S:=S.setLine (1);go_wp2;go_returns;exact S.fit (by rw[za5 H1.out H2.out];rfl)
 . have c6:=S.c6;go_wp2_with fail;clear c6;refine(qhn r.a 8 8 _ HA.out).mono ?_;rw[ql8];rintro e w3 ⟨rfl,hd⟩;replace S:=S.drewd hd;clear hd;go_wp2_with fail;refine ks S fun w S=> ?_;go_wp2_with fail;refine qm S fun w S=> ?_;go_wp2_with fail;refine qm S fun w S=> ?_;go_wp2_with fail;refine vl S fun w S=> ?_;go_wp2_with fail;refine yu S fun w S=> ?_;go_wp2;go_returns;exact S.fit (by rw[qyv H1.out H2.out];rfl)
 . have c6:=S.c6;go_wp2_with fail;clear c6;refine(qhn r.a 8 8 _ HA.out).mono ?_;rw[ql8];rintro e w3 ⟨rfl,hd⟩;replace S:=S.drewd hd;clear hd;have hx1:IntKind.u32.wrap (qbn r.a+1)=(qbn r.a+1)%4294967296:=rfl;go_wp2_with fail;clear hx1;refine ks (x:=(qbn r.a+1)%4294967296) S fun w S=> ?_;go_wp2_with fail;refine qm S fun w S=> ?_;go_wp2_with fail;refine vl S fun w S=> ?_;go_wp2_with fail;refine yu S fun w S=> ?_;go_wp2;go_returns;exact S.fit (by rw[zay H1.out H2.out];rfl)
 . go_wp2_with fail;refine yq S fun w3 S=> ?_;have c6:=S.c6;have f6:=S.froz 6;replace S:=S.setA (qa r.xs 0)
   go_upto_region 55 with(fail)
   clear c6 f6;generalize w3.setCell ⟨B,6,none⟩ (.int .u32 (qa r.xs 0))=w4 at *;refine qb (n:=12) 9 (fun w=>w.cell? ⟨B,6,none⟩=some (.int .u32 (qa r.xs 0))) rfl kr S.c6 (fun hHeld=> ?_);replace S:=S.drew;generalize w4.drew=w6 at *;refine za 0 rfl ?_;refine za 1 rfl ?_;refine za 2 rfl ?_;refine zt 3 rfl ?_;refine za 5 rfl ?_;refine za 6 rfl ?_;refine za 7 rfl ?_;refine zt 8 rfl ?_;refine mpc 4 rfl kr br (fun K hK=> ?_);go_simp;refine(qe9 _ _ (qq HX.out 0)).mono ?_;rintro e w7 ⟨rfl,rfl⟩;refine hK.out _ _ (.inr hHeld) ?_;clear hK K;refine mpc 9 rfl kr br (fun K hK=> ?_);go_simp;refine(qgi _ _ (qq HX.out 0)).mono ?_;rintro e w7 ⟨rfl,rfl⟩;refine hK.out _ _ (.inl kr) ?_;clear hK K hHeld;obtain⟨i,hi⟩:∃i,iF (qa r.xs 0)=i:=⟨_,rfl⟩;obtain⟨o,ho⟩:∃o,oF (qa r.xs 0)=o:=⟨_,rfl⟩;have HF:=zh (show zz (qa r.xs 0)=(i==o) by unfold zz;rw[hi,ho]);rw[hi,ho];clear hi ho
   by_cases h:i=o
   . subst h;refine mpa 10 rfl (.bool true) (fun w=> ?_) ?_
     . go_simp
     refine za 11 rfl ?_;refine qc kr ?_ _
     have c4:w6.cell? ⟨B,4,none⟩=some (.int .i64 5):=by rw[←H1.out];exact S.c4
     have c5:=S.c5;have f5:=S.froz 5;replace S:=S.setLine (1);go_wp2;clear c4;go_returns;exact S.fit (by rw[qqv H1.out H2.out];unfold LS.fLook;rw[HF.out,beq_self_eq_true];rfl)
   . have hq:(i==o)=false:=by simpa using h
     refine mpa 10 rfl (.bool false) (fun w=> ?_) ?_
     . go_simp
     refine za 11 rfl ?_;refine qc kr ?_ _
     have c4:w6.cell? ⟨B,4,none⟩=some (.int .i64 5):=by rw[←H1.out];exact S.c4
     go_wp2_with fail;clear c4;refine qm S fun w S=> ?_;go_wp2_with fail;refine yu S fun w S=> ?_;go_wp2;go_returns;exact S.fit (by rw[qqv H1.out H2.out];unfold LS.fLook;rw[HF.out,hq];rfl)
 . go_wp2_with fail;refine yq S fun w3 S=> ?_;have c6:=S.c6;have f6:=S.froz 6;replace S:=S.setA (qa r.xs 0)
   go_upto_region 55 with(fail)
   clear c6 f6;generalize w3.setCell ⟨B,6,none⟩ (.int .u32 (qa r.xs 0))=w4 at *;refine qb (n:=12) 9 (fun w=>w.cell? ⟨B,6,none⟩=some (.int .u32 (qa r.xs 0))) rfl kr S.c6 (fun hHeld=> ?_);replace S:=S.drew;generalize w4.drew=w6 at *;refine za 0 rfl ?_;refine za 1 rfl ?_;refine za 2 rfl ?_;refine zt 3 rfl ?_;refine za 5 rfl ?_;refine za 6 rfl ?_;refine za 7 rfl ?_;refine zt 8 rfl ?_;refine mpc 4 rfl kr br (fun K hK=> ?_);go_simp;refine(qe9 _ _ (qq HX.out 0)).mono ?_;rintro e w7 ⟨rfl,rfl⟩;refine hK.out _ _ (.inr hHeld) ?_;clear hK K;refine mpc 9 rfl kr br (fun K hK=> ?_);go_simp;refine(qgi _ _ (qq HX.out 0)).mono ?_;rintro e w7 ⟨rfl,rfl⟩;refine hK.out _ _ (.inl kr) ?_;clear hK K hHeld;obtain⟨i,hi⟩:∃i,iF (qa r.xs 0)=i:=⟨_,rfl⟩;obtain⟨o,ho⟩:∃o,oF (qa r.xs 0)=o:=⟨_,rfl⟩;have HF:=zh (show zz (qa r.xs 0)=(i==o) by unfold zz;rw[hi,ho]);rw[hi,ho];clear hi ho
   by_cases h:i=o
   . subst h;refine mpa 10 rfl (.bool true) (fun w=> ?_) ?_
     . go_simp
     refine za 11 rfl ?_;refine qc kr ?_ _
     have c4:w6.cell? ⟨B,4,none⟩=some (.int .i64 6):=by rw[←H1.out];exact S.c4
     have c6:=S.c6;go_wp2_with fail;clear c6;refine(qri _ _ (qq HX.out 0)).mono ?_;rintro e w7 ⟨rfl,rfl⟩;obtain⟨z,hz⟩:∃z,rF (qa r.xs 0)=z:=⟨_,rfl⟩;have HZ:=zh hz;rw[hz];clear hz
     by_cases h:z=0
     . subst h;have c5:=S.c5;have f5:=S.froz 5;replace S:=S.setLine (1);go_wp2;clear c4;go_returns;exact S.fit (by rw[qn1 H1.out H2.out];unfold LS.fLook;rw[HF.out,beq_self_eq_true,HZ.out];rfl)
     . have hz:(z==0)=false:=by simpa using h
       go_wp2_with fail;clear c4;refine qm S fun w S=> ?_;go_wp2_with fail;refine yu S fun w S=> ?_;go_wp2;go_returns;exact S.fit (by rw[qn1 H1.out H2.out];unfold LS.fLook;rw[HF.out,beq_self_eq_true,HZ.out,hz];rfl)
   . have hq:(i==o)=false:=by simpa using h
     refine mpa 10 rfl (.bool false) (fun w=> ?_) ?_
     . go_simp
     refine za 11 rfl ?_;refine qc kr ?_ _
     have c4:w6.cell? ⟨B,4,none⟩=some (.int .i64 6):=by rw[←H1.out];exact S.c4
     go_wp2_with fail;clear c4;refine qm S fun w S=> ?_;go_wp2_with fail;refine yu S fun w S=> ?_;go_wp2;go_returns;exact S.fit (by rw[qn1 H1.out H2.out];unfold LS.fLook;rw[HF.out,hq];rfl)
 . go_wp2_with fail;refine yq S fun w3 S=> ?_;have c6:=S.c6;have f6:=S.froz 6;replace S:=S.setA (qa r.xs 0)
   go_upto_region 55 with(fail)
   clear c6 f6;generalize w3.setCell ⟨B,6,none⟩ (.int .u32 (qa r.xs 0))=w4 at *;refine qb (n:=12) 9 (fun w=>w.cell? ⟨B,6,none⟩=some (.int .u32 (qa r.xs 0))) rfl kr S.c6 (fun hHeld=> ?_);replace S:=S.drew;generalize w4.drew=w6 at *;refine za 0 rfl ?_;refine za 1 rfl ?_;refine za 2 rfl ?_;refine zt 3 rfl ?_;refine za 5 rfl ?_;refine za 6 rfl ?_;refine za 7 rfl ?_;refine zt 8 rfl ?_;refine mpc 4 rfl kr br (fun K hK=> ?_);go_simp;refine(qe9 _ _ (qq HX.out 0)).mono ?_;rintro e w7 ⟨rfl,rfl⟩;refine hK.out _ _ (.inr hHeld) ?_;clear hK K;refine mpc 9 rfl kr br (fun K hK=> ?_);go_simp;refine(qgi _ _ (qq HX.out 0)).mono ?_;rintro e w7 ⟨rfl,rfl⟩;refine hK.out _ _ (.inl kr) ?_;clear hK K hHeld;obtain⟨i,hi⟩:∃i,iF (qa r.xs 0)=i:=⟨_,rfl⟩;obtain⟨o,ho⟩:∃o,oF (qa r.xs 0)=o:=⟨_,rfl⟩;have HF:=zh (show zz (qa r.xs 0)=(i==o) by unfold zz;rw[hi,ho]);rw[hi,ho];clear hi ho
   by_cases h:i=o
   . subst h;refine mpa 10 rfl (.bool true) (fun w=> ?_) ?_
     . go_simp
     refine za 11 rfl ?_;refine qc kr ?_ _
     have c4:w6.cell? ⟨B,4,none⟩=some (.int .i64 7):=by rw[←H1.out];exact S.c4
     have c6:=S.c6;go_wp2_with fail;clear c6;refine(qri _ _ (qq HX.out 0)).mono ?_;rintro e w7 ⟨rfl,rfl⟩;obtain⟨z,hz⟩:∃z,rF (qa r.xs 0)=z:=⟨_,rfl⟩;have HZ:=zh hz;rw[hz];clear hz
     by_cases h:z=1
     . subst h;have c5:=S.c5;have f5:=S.froz 5;replace S:=S.setLine (1);go_wp2;clear c4;go_returns;exact S.fit (by rw[qmt H1.out H2.out];unfold LS.fLook;rw[HF.out,beq_self_eq_true,HZ.out];rfl)
     . have hz:(z==1)=false:=by simpa using h
       go_wp2_with fail;clear c4;refine qm S fun w S=> ?_;go_wp2_with fail;refine yu S fun w S=> ?_;go_wp2;go_returns;exact S.fit (by rw[qmt H1.out H2.out];unfold LS.fLook;rw[HF.out,beq_self_eq_true,HZ.out,hz];rfl)
   . have hq:(i==o)=false:=by simpa using h
     refine mpa 10 rfl (.bool false) (fun w=> ?_) ?_
     . go_simp
     refine za 11 rfl ?_;refine qc kr ?_ _
     have c4:w6.cell? ⟨B,4,none⟩=some (.int .i64 7):=by rw[←H1.out];exact S.c4
     go_wp2_with fail;clear c4;refine qm S fun w S=> ?_;go_wp2_with fail;refine yu S fun w S=> ?_;go_wp2;go_returns;exact S.fit (by rw[qmt H1.out H2.out];unfold LS.fLook;rw[HF.out,hq];rfl)
end
section
variable{B base:Nat}{A:Option Addr}{l cp:Nat}{r:LS}{w0 w:World}
theorem qty(S:SR w0 B base A l cp 900 r w)(hx:Words r.xs)(ha:0<=r.a/\r.a<4294967296)(hh:(r.op=5/\r.line=1)\/(r.op=6/\r.line=1)\/(r.op=7/\r.line=1)):Calls prog 100 #[Value.pointer (some ⟨B,0,none⟩)] w (qg B base A l cp w0 (.tuple #[]) r.wf):=by
 obtain⟨ol,H1⟩:∃ol,Hid (r.op=ol):=⟨_,zh rfl⟩;obtain⟨ln,H2⟩:∃ln,Hid (r.line=ln):=⟨_,zh rfl⟩;rw[H1.out,H2.out]at hh;have HX:=zh hx;have HA:=zh ha;clear hx ha
 have c4:w.cell? ⟨B,4,none⟩=some (.int .i64 ol):=by rw[←H1.out];exact S.c4
 have c5:w.cell? ⟨B,5,none⟩=some (.int .i64 ln):=by rw[←H2.out];exact S.c5
 have q0:¬ln<0:=by omega
 have q1:¬3<ln:=by omega
 have q2:¬ol<1:=by omega
 have q3:¬8<ol:=by omega
 have hw1:IntKind.i64.wrap (ol*10)=ol*10:=IntWalk.i64_in _ om;have hw2:IntKind.i64.wrap (ol*10+ln)=ol*10+ln:=IntWalk.i64_in _ om;have HH:=zh hh;clear hh;go_enter func100, ntmps100
 go_upto_region 2 with(fail)
 clear q0 q1 q2 q3;refine qb (n:=10) 9 (fun w=>w.cell? ⟨B,4,none⟩=some (.int .i64 ol)/\w.cell? ⟨B,5,none⟩=some (.int .i64 ln)) rfl kr ⟨c4,c5⟩ (fun hHeld=> ?_);clear c4 c5;replace S:=S.drew;generalize w.drew=w2 at *;refine za 0 rfl ?_;refine za 1 rfl ?_;refine za 2 rfl ?_;refine zt 3 rfl ?_;refine mpa 4 rfl (.int .i64 (ol*10)) (fun w=> ?_) ?_
 . go_simp
 refine za 5 rfl ?_;refine za 6 rfl ?_;refine za 7 rfl ?_;refine zt 8 rfl ?_;refine mpc 9 rfl kr br (fun K hK=> ?_);go_simp;refine hK.out _ _ (.inl kr) ?_;clear hK K hHeld hw1 hw2;refine qc kr ?_ _;have hh:=HH.out;clear HH;rcases hh with⟨rfl,rfl⟩|⟨rfl,rfl⟩|⟨rfl,rfl⟩
 . have c6:=S.c6;have hx1:IntKind.u32.wrap (r.a+1)=(r.a+1)%4294967296:=rfl
   go_upto_region 65 with(fail)
   refine qb (n:=11) 10 (fun w=>w.cell? ⟨B,6,none⟩=some (.int .u32 r.a)) rfl kr c6 (fun hHeld=> ?_);clear c6;replace S:=S.drew;generalize w2.drew=w3 at *;refine za 0 rfl ?_;refine za 1 rfl ?_;refine za 2 rfl ?_;refine za 3 rfl ?_;refine zt 4 rfl ?_;refine za 5 rfl ?_;refine za 6 rfl ?_;refine za 7 rfl ?_;refine zt 8 rfl ?_;refine mpa 9 rfl (.int .u32 ((r.a+1)%4294967296)) (fun w=> ?_) ?_
   . go_simp
   refine mpc 10 rfl kr br (fun K hK=> ?_);go_simp;refine qgp S fun w4 S=> ?_;refine hK.out _ _ (.inl kr) ?_;clear hK K hHeld hx1;obtain⟨q,hq⟩:∃q,r.at0 r.a=q:=⟨_,rfl⟩;have HQ:=zh hq;rw[show(qf r.xs 0 && (qa r.xs 0==r.a))=q from hq];clear hq;refine qc kr ?_ _
   cases q
   . have c5:=S.c5;have f5:=S.froz 5;replace S:=S.setLine (0);go_wp2;go_returns;exact S.fit (by rw[qr8 H1.out H2.out];unfold LS.gSlip;rw[if_neg (by rw[HQ.out];exact Bool.false_ne_true)];rfl)
   . go_wp2_with fail;refine qm S fun w S=> ?_;go_wp2_with fail;refine S.call (fun nv h=>qi9 4 (qbq h (Nat.le_trans S.len dc))) (m':=903) (by have:=S.len;simp only[LS.fin,LS.note,List.length_append,List.length_cons,List.length_nil]at this ⊢;omega) fun w S=> ?_;go_wp2;go_returns;exact S.fit (by rw[qr8 H1.out H2.out];unfold LS.gSlip;rw[if_pos HQ.out];rfl)
 . have c6:=S.c6;have hx1:IntKind.u32.wrap (r.a+65536)=(r.a+65536)%4294967296:=rfl
   go_upto_region 70 with(fail)
   refine qb (n:=11) 10 (fun w=>w.cell? ⟨B,6,none⟩=some (.int .u32 r.a)) rfl kr c6 (fun hHeld=> ?_);clear c6;replace S:=S.drew;generalize w2.drew=w3 at *;refine za 0 rfl ?_;refine za 1 rfl ?_;refine za 2 rfl ?_;refine za 3 rfl ?_;refine zt 4 rfl ?_;refine za 5 rfl ?_;refine za 6 rfl ?_;refine za 7 rfl ?_;refine zt 8 rfl ?_;refine mpa 9 rfl (.int .u32 ((r.a+65536)%4294967296)) (fun w=> ?_) ?_
   . go_simp
   refine mpc 10 rfl kr br (fun K hK=> ?_);go_simp;refine qgp S fun w4 S=> ?_;refine hK.out _ _ (.inl kr) ?_;clear hK K hHeld hx1;obtain⟨q,hq⟩:∃q,r.at0 r.a=q:=⟨_,rfl⟩;have HQ:=zh hq;rw[show(qf r.xs 0 && (qa r.xs 0==r.a))=q from hq];clear hq;refine qc kr ?_ _
   cases q
   . have c5:=S.c5;have f5:=S.froz 5;replace S:=S.setLine (0);go_wp2;go_returns;exact S.fit (by rw[qur H1.out H2.out];unfold LS.gTry;rw[if_neg (by rw[HQ.out];exact Bool.false_ne_true)];rfl)
   . go_wp2_with fail;refine qm S fun w S=> ?_;go_wp2_with fail;refine S.call (fun nv h=>qi9 4 (qbq h (Nat.le_trans S.len dc))) (m':=903) (by have:=S.len;simp only[LS.fin,LS.note,List.length_append,List.length_cons,List.length_nil]at this ⊢;omega) fun w S=> ?_;go_wp2;go_returns;exact S.fit (by rw[qur H1.out H2.out];unfold LS.gTry;rw[if_pos HQ.out];rfl)
 . have c6:=S.c6;have hx1:IntKind.u32.wrap (r.a+65535)=(r.a+65535)%4294967296:=rfl
   go_upto_region 75 with(fail)
   refine qb (n:=11) 10 (fun w=>w.cell? ⟨B,6,none⟩=some (.int .u32 r.a)) rfl kr c6 (fun hHeld=> ?_);clear c6;replace S:=S.drew;generalize w2.drew=w3 at *;refine za 0 rfl ?_;refine za 1 rfl ?_;refine za 2 rfl ?_;refine za 3 rfl ?_;refine zt 4 rfl ?_;refine za 5 rfl ?_;refine za 6 rfl ?_;refine za 7 rfl ?_;refine zt 8 rfl ?_;refine mpa 9 rfl (.int .u32 ((r.a+65535)%4294967296)) (fun w=> ?_) ?_
   . go_simp
   refine mpc 10 rfl kr br (fun K hK=> ?_);go_simp;refine qgp S fun w4 S=> ?_;refine hK.out _ _ (.inl kr) ?_;clear hK K hHeld hx1;obtain⟨q,hq⟩:∃q,r.at0 r.a=q:=⟨_,rfl⟩;have HQ:=zh hq;rw[show(qf r.xs 0 && (qa r.xs 0==r.a))=q from hq];clear hq;refine qc kr ?_ _
   cases q
   . have c5:=S.c5;have f5:=S.froz 5;replace S:=S.setLine (0);go_wp2;go_returns;exact S.fit (by rw[quz H1.out H2.out];unfold LS.gUp;rw[if_neg (by rw[HQ.out];exact Bool.false_ne_true)];rfl)
   . go_wp2_with fail;refine S.call (fun nv h=>qi9 9 (qbq h (Nat.le_trans S.len dc))) (m':=903) (by have:=S.len;simp only[LS.fin,LS.note,List.length_append,List.length_cons,List.length_nil]at this ⊢;omega) fun w S=> ?_;go_wp2;go_returns;exact S.fit (by rw[quz H1.out H2.out];unfold LS.gUp;rw[if_pos HQ.out];rfl)
end
section
variable{B base:Nat}{A:Option Addr}{l cp:Nat}{r:LS}{w0 w:World}
theorem qa6(S:SR w0 B base A l cp 900 r w)(hx:Words r.xs)(ha:0<=r.a/\r.a<4294967296)(hh:(r.op=2/\r.line=1)\/(r.op=2/\r.line=2)\/(r.op=2/\r.line=3)\/(r.op=3/\r.line=2)\/(r.op=3/\r.line=3)\/(r.op=4/\r.line=2)\/(r.op=4/\r.line=3)\/(r.op=5/\r.line=2)\/(r.op=5/\r.line=3)\/(r.op=6/\r.line=2)\/(r.op=6/\r.line=3)\/(r.op=7/\r.line=2)\/(r.op=7/\r.line=3)\/(r.op=8/\r.line=2)\/(r.op=8/\r.line=3)):Calls prog 100 #[Value.pointer (some ⟨B,0,none⟩)] w (qg B base A l cp w0 (.tuple #[]) r.wf):=by
 obtain⟨ol,H1⟩:∃ol,Hid (r.op=ol):=⟨_,zh rfl⟩;obtain⟨ln,H2⟩:∃ln,Hid (r.line=ln):=⟨_,zh rfl⟩;rw[H1.out,H2.out]at hh;have HX:=zh hx;have HA:=zh ha;clear hx ha
 have c4:w.cell? ⟨B,4,none⟩=some (.int .i64 ol):=by rw[←H1.out];exact S.c4
 have c5:w.cell? ⟨B,5,none⟩=some (.int .i64 ln):=by rw[←H2.out];exact S.c5
 have q0:¬ln<0:=by omega
 have q1:¬3<ln:=by omega
 have q2:¬ol<1:=by omega
 have q3:¬8<ol:=by omega
 have hw1:IntKind.i64.wrap (ol*10)=ol*10:=IntWalk.i64_in _ om;have hw2:IntKind.i64.wrap (ol*10+ln)=ol*10+ln:=IntWalk.i64_in _ om;have HH:=zh hh;clear hh;go_enter func100, ntmps100
 go_upto_region 2 with(fail)
 clear q0 q1 q2 q3;refine qb (n:=10) 9 (fun w=>w.cell? ⟨B,4,none⟩=some (.int .i64 ol)/\w.cell? ⟨B,5,none⟩=some (.int .i64 ln)) rfl kr ⟨c4,c5⟩ (fun hHeld=> ?_);clear c4 c5;replace S:=S.drew;generalize w.drew=w2 at *;refine za 0 rfl ?_;refine za 1 rfl ?_;refine za 2 rfl ?_;refine zt 3 rfl ?_;refine mpa 4 rfl (.int .i64 (ol*10)) (fun w=> ?_) ?_
 . go_simp
 refine za 5 rfl ?_;refine za 6 rfl ?_;refine za 7 rfl ?_;refine zt 8 rfl ?_;refine mpc 9 rfl kr br (fun K hK=> ?_);go_simp;refine hK.out _ _ (.inl kr) ?_;clear hK K hHeld hw1 hw2;refine qc kr ?_ _;have hh:=HH.out;clear HH;rcases hh with⟨rfl,rfl⟩|⟨rfl,rfl⟩|⟨rfl,rfl⟩|⟨rfl,rfl⟩|⟨rfl,rfl⟩|⟨rfl,rfl⟩|⟨rfl,rfl⟩|⟨rfl,rfl⟩|⟨rfl,rfl⟩|⟨rfl,rfl⟩|⟨rfl,rfl⟩|⟨rfl,rfl⟩|⟨rfl,rfl⟩|⟨rfl,rfl⟩|⟨rfl,rfl⟩
 . go_wp2;go_returns;exact S.fit (by unfold LS.wf;rw[H1.out,H2.out];rfl)
 . go_wp2;go_returns;exact S.fit (by unfold LS.wf;rw[H1.out,H2.out];rfl)
 . go_wp2;go_returns;exact S.fit (by unfold LS.wf;rw[H1.out,H2.out];rfl)
 . go_wp2;go_returns;exact S.fit (by unfold LS.wf;rw[H1.out,H2.out];rfl)
 . go_wp2;go_returns;exact S.fit (by unfold LS.wf;rw[H1.out,H2.out];rfl)
 . go_wp2;go_returns;exact S.fit (by unfold LS.wf;rw[H1.out,H2.out];rfl)
 . go_wp2;go_returns;exact S.fit (by unfold LS.wf;rw[H1.out,H2.out];rfl)
 . go_wp2;go_returns;exact S.fit (by unfold LS.wf;rw[H1.out,H2.out];rfl)
 . go_wp2;go_returns;exact S.fit (by unfold LS.wf;rw[H1.out,H2.out];rfl)
 . go_wp2;go_returns;exact S.fit (by unfold LS.wf;rw[H1.out,H2.out];rfl)
 . go_wp2;go_returns;exact S.fit (by unfold LS.wf;rw[H1.out,H2.out];rfl)
 . go_wp2;go_returns;exact S.fit (by unfold LS.wf;rw[H1.out,H2.out];rfl)
 . go_wp2;go_returns;exact S.fit (by unfold LS.wf;rw[H1.out,H2.out];rfl)
 . go_wp2;go_returns;exact S.fit (by unfold LS.wf;rw[H1.out,H2.out];rfl)
 . go_wp2;go_returns;exact S.fit (by unfold LS.wf;rw[H1.out,H2.out];rfl)
end
theorem qvm(B base:Nat)(A:Option Addr)(l cp:Nat)(nv:Value)(r:LS)(w:World)(h:RunR w B base A l cp nv r)(hh:r.line<0\/3<r.line\/r.op<1\/8<r.op):
 Calls prog 100 #[Value.pointer (some ⟨B,0,none⟩)] w (qg B base A l cp w (.tuple #[]) r):=by
 have HH:=zh h;have c4:w.cell? ⟨B,4,none⟩=some (.int .i64 r.op):=h.row.cell_ (i:=4) rfl;have c5:w.cell? ⟨B,5,none⟩=some (.int .i64 r.line):=h.row.cell_ (i:=5) rfl;clear h;generalize r.op=ol at *;generalize r.line=ln at *
 by_cases q0:ln<0
 . clear hh;go_enter func100, ntmps100;go_wp2;go_returns;exact⟨rfl,Only.refl _ _,nv,HH.out⟩
 by_cases q1:3<ln
 . clear hh;go_enter func100, ntmps100;go_wp2;go_returns;exact⟨rfl,Only.refl _ _,nv,HH.out⟩
 by_cases q2:ol<1
 . clear hh;go_enter func100, ntmps100;go_wp2;go_returns;exact⟨rfl,Only.refl _ _,nv,HH.out⟩
 . have q3:8<ol:=by omega
   clear hh;go_enter func100, ntmps100;go_wp2;go_returns;exact⟨rfl,Only.refl _ _,nv,HH.out⟩
theorem qxi{r:LS}(h:r.line<0\/3<r.line\/r.op<1\/8<r.op):r.wf=r:=by
 have hc:vm r.op r.line=0:=by
  unfold vm
  repeat (first|rw[if_neg om])
 unfold LS.wf;rw[hc];rfl
theorem qjk(B base:Nat)(A:Option Addr)(l cp:Nat)(nv:Value)(r:LS)(w:World)(h:RunR w B base A l cp nv r)(hl:r.ns.length<=900)(hx:Words r.xs)(ha:0<=r.a/\r.a<4294967296):Calls prog 100 #[Value.pointer (some ⟨B,0,none⟩)] w (qg B base A l cp w (.tuple #[]) r.wf):=by
 by_cases hi:r.line<0\/3<r.line\/r.op<1\/8<r.op
 . rw[qxi hi];exact qvm B base A l cp nv r w h hi
 have S:=qbq (m:=900) h hl
 have ho:r.op=1\/r.op=2\/r.op=3\/r.op=4\/r.op=5\/r.op=6\/r.op=7\/r.op=8:=by omega
 have hn:r.line=0\/r.line=1\/r.line=2\/r.line=3:=by omega
 rcases ho with h1|h1|h1|h1|h1|h1|h1|h1
 . rcases hn with h2|h2|h2|h2
   . exact qfm S hx ha (.inl ⟨h1,h2⟩)
   . exact qfm S hx ha (.inr (.inr (.inl ⟨h1,h2⟩)))
   . exact qfm S hx ha (.inr (.inr (.inr (.inl ⟨h1,h2⟩))))
   . exact qfm S hx ha (.inr (.inl ⟨h1,h2⟩))
 . rcases hn with h2|h2|h2|h2
   . exact qfm S hx ha (.inr (.inr (.inr (.inr (.inl ⟨h1,h2⟩)))))
   . exact qa6 S hx ha (.inl ⟨h1,h2⟩)
   . exact qa6 S hx ha (.inr (.inl ⟨h1,h2⟩))
   . exact qa6 S hx ha (.inr (.inr (.inl ⟨h1,h2⟩)))
 . rcases hn with h2|h2|h2|h2
   . exact qfm S hx ha (.inr (.inr (.inr (.inr (.inr (.inl ⟨h1,h2⟩))))))
   . exact qfm S hx ha (.inr (.inr (.inr (.inr (.inr (.inr (⟨h1,h2⟩)))))))
   . exact qa6 S hx ha (.inr (.inr (.inr (.inl ⟨h1,h2⟩))))
   . exact qa6 S hx ha (.inr (.inr (.inr (.inr (.inl ⟨h1,h2⟩)))))
 . rcases hn with h2|h2|h2|h2
   . exact qgf S hx ha (.inl ⟨h1,h2⟩)
   . exact qgf S hx ha (.inr (.inr (.inl ⟨h1,h2⟩)))
   . exact qa6 S hx ha (.inr (.inr (.inr (.inr (.inr (.inl ⟨h1,h2⟩))))))
   . exact qa6 S hx ha (.inr (.inr (.inr (.inr (.inr (.inr (.inl ⟨h1,h2⟩)))))))
 . rcases hn with h2|h2|h2|h2
   . exact qgf S hx ha (.inr (.inr (.inr (.inr (.inl ⟨h1,h2⟩)))))
   . exact qty S hx ha (.inl ⟨h1,h2⟩)
   . exact qa6 S hx ha (.inr (.inr (.inr (.inr (.inr (.inr (.inr (.inl ⟨h1,h2⟩))))))))
   . exact qa6 S hx ha (.inr (.inr (.inr (.inr (.inr (.inr (.inr (.inr (.inl ⟨h1,h2⟩)))))))))
 . rcases hn with h2|h2|h2|h2
   . exact qgf S hx ha (.inr (.inr (.inr (.inr (.inr (.inl ⟨h1,h2⟩))))))
   . exact qty S hx ha (.inr (.inl ⟨h1,h2⟩))
   . exact qa6 S hx ha (.inr (.inr (.inr (.inr (.inr (.inr (.inr (.inr (.inr (.inl ⟨h1,h2⟩))))))))))
   . exact qa6 S hx ha (.inr (.inr (.inr (.inr (.inr (.inr (.inr (.inr (.inr (.inr (.inl ⟨h1,h2⟩)))))))))))
 . rcases hn with h2|h2|h2|h2
   . exact qgf S hx ha (.inr (.inr (.inr (.inr (.inr (.inr (⟨h1,h2⟩)))))))
   . exact qty S hx ha (.inr (.inr (⟨h1,h2⟩)))
   . exact qa6 S hx ha (.inr (.inr (.inr (.inr (.inr (.inr (.inr (.inr (.inr (.inr (.inr (.inl ⟨h1,h2⟩))))))))))))
   . exact qa6 S hx ha (.inr (.inr (.inr (.inr (.inr (.inr (.inr (.inr (.inr (.inr (.inr (.inr (.inl ⟨h1,h2⟩)))))))))))))
 . rcases hn with h2|h2|h2|h2
   . exact qgf S hx ha (.inr (.inl ⟨h1,h2⟩))
   . exact qgf S hx ha (.inr (.inr (.inr (.inl ⟨h1,h2⟩))))
   . exact qa6 S hx ha (.inr (.inr (.inr (.inr (.inr (.inr (.inr (.inr (.inr (.inr (.inr (.inr (.inr (.inl ⟨h1,h2⟩))))))))))))))
   . exact qa6 S hx ha (.inr (.inr (.inr (.inr (.inr (.inr (.inr (.inr (.inr (.inr (.inr (.inr (.inr (.inr (⟨h1,h2⟩)))))))))))))))
theorem qlf(kind:Int)(hk:1<=kind/\kind<=6)(B base:Nat)(A:Option Addr)(l cp:Nat)(nv:Value)(r:LS)(w:World)(h:RunR w B base A l cp nv r)(hl:r.ns.length<=900)(hx:Words r.xs)(ha:0<=r.a/\r.a<4294967296)(hb:0<=r.b/\r.b<4294967296):
 Calls prog 55 #[.int .i64 kind,.pointer (some ⟨B,0,none⟩)] w (qg B base A l cp w (.tuple #[]) (qk kind r)):=by
 have hc:kind=1\/kind=2\/kind=3\/kind=4\/kind=5\/kind=6:=by omega
 rcases hc with rfl|rfl|rfl|rfl|rfl|rfl
 . have HC:=zh (qkl B base A l cp nv r w h hl hx ha hb);clear h hl hx ha hb;go_enter func55, ntmps55;go_wp2_with fail;refine HC.out.mono ?_;clear HC;rintro e w1 ⟨rfl,hO,nv1,hP⟩;have H:=zh (And.intro hO hP);clear hO hP;go_wp2;go_returns;exact⟨rfl,H.out.1,nv1,H.out.2⟩
 . have HC:=zh (qk3 B base A l cp nv r w h hl hx ha hb);clear h hl hx ha hb;go_enter func55, ntmps55;go_wp2_with fail;refine HC.out.mono ?_;clear HC;rintro e w1 ⟨rfl,hO,nv1,hP⟩;have H:=zh (And.intro hO hP);clear hO hP;go_wp2;go_returns;exact⟨rfl,H.out.1,nv1,H.out.2⟩
 . have HC:=zh (qk1 B base A l cp nv r w h hl hx ha hb);clear h hl hx ha hb;go_enter func55, ntmps55;go_wp2_with fail;refine HC.out.mono ?_;clear HC;rintro e w1 ⟨rfl,hO,nv1,hP⟩;have H:=zh (And.intro hO hP);clear hO hP;go_wp2;go_returns;exact⟨rfl,H.out.1,nv1,H.out.2⟩
 . have HC:=zh (qjt B base A l cp nv r w h hl hx ha);clear h hl hx ha hb;go_enter func55, ntmps55;go_wp2_with fail;refine HC.out.mono ?_;clear HC;rintro e w1 ⟨rfl,hO,nv1,hP⟩;have H:=zh (And.intro hO hP);clear hO hP;go_wp2;go_returns;exact⟨rfl,H.out.1,nv1,H.out.2⟩
 . have HC:=zh (qkn B base A l cp nv r w h hl hx);clear h hl hx ha hb;go_enter func55, ntmps55;go_wp2_with fail;refine HC.out.mono ?_;clear HC;rintro e w1 ⟨rfl,hO,nv1,hP⟩;have H:=zh (And.intro hO hP);clear hO hP;go_wp2;go_returns;exact⟨rfl,H.out.1,nv1,H.out.2⟩
 . have HC:=zh (qjk B base A l cp nv r w h hl hx ha);clear h hl hx ha hb;go_enter func55, ntmps55;go_wp2_with fail;refine HC.out.mono ?_;clear HC;rintro e w1 ⟨rfl,hO,nv1,hP⟩;have H:=zh (And.intro hO hP);clear hO hP;go_wp2;go_returns;exact⟨rfl,H.out.1,nv1,H.out.2⟩
theorem qzk(o:Int):o=1\/o=2\/o=3\/o=4\/o=5\/o=6\/o=7\/o=8\/((o==1)=false/\(o==2)=false/\(o==3)=false/\(o==4)=false/\(o==5)=false/\(o==6)=false/\(o==7)=false/\(o==8)=false):=by
 simp only[beq_eq_false_iff_ne];omega
theorem qwz(o h:Int)(w:World):Calls prog 27 #[.int .i64 o,.int .i64 h] w fun e w'=>e= .returned (.int .i64 (qdh o h))/\w=w':=by
 rcases qzk o with rfl|rfl|rfl|rfl|rfl|rfl|rfl|rfl|⟨h1,h2,h3,h4,h5,h6,h7,h8⟩
 all_goals
  go_enter func27, ntmps27;go_wp2;go_ret
  first
   |exact⟨rfl,rfl⟩
   |exact⟨by simp only[beq_eq_false_iff_ne]at *;simp[qdh,h2,h4,h8],rfl⟩
theorem qk7(o r h:Int)(w:World):Calls prog 57 #[.int .i64 o,.int .i64 r,.int .i64 h] w fun e w'=>e= .returned (.int .i64 (kj o r h))/\w=w':=by
 by_cases hr:r=2
 . subst hr;rcases qzk o with rfl|rfl|rfl|rfl|rfl|rfl|rfl|rfl|⟨h1,h2,h3,h4,h5,h6,h7,h8⟩
   all_goals
    go_enter func57, ntmps57;go_wp2;go_ret
    first
     |exact⟨rfl,rfl⟩
     |exact⟨by simp only[beq_eq_false_iff_ne]at *;simp[kj,h1,h3,h5,h6,h7],rfl⟩
 . have HE:=zh (show kj o r h=h from if_pos hr);go_enter func57, ntmps57;go_wp2;go_ret;exact⟨by rw[HE.out];rfl,rfl⟩
theorem qth(o h:Int)(hh:h=0\/h=1\/h=2)(w:World):Calls prog 26 #[.int .i64 o,.int .i64 h] w fun e w'=>e= .returned (.bool (qfu o h))/\w=w':=by
 rcases qzk o with rfl|rfl|rfl|rfl|rfl|rfl|rfl|rfl|⟨h1,h2,h3,h4,h5,h6,h7,h8⟩<;>rcases hh with rfl|rfl|rfl
 all_goals
  go_enter func26, ntmps26;go_wp2;go_ret
  first
   |exact⟨rfl,rfl⟩
   |exact⟨by unfold qfu;simp[h1,h2,h3,h4,h5,h6,h7,h8],rfl⟩
end Go.Proofs.YtgebffjejifidaaGreat
