import Derived.Laws.StructEq
import Derived.Deep.Cut
import Derived.Test.YtgebffjejifidaaGreatG18
import Derived.Test.YtgebffjejifidaaGreatG1
import Derived.Test.YtgebffjejifidaaGreatG44
import Derived.Test.YtgebffjejifidaaGreatG45
import Derived.Test.YtgebffjejifidaaGreatG50
import Derived.Test.YtgebffjejifidaaGreatG51
set_option linter.unusedVariables false
set_option linter.unusedSimpArgs false
set_option maxHeartbeats 4000000
set_option maxRecDepth 100000
namespace Go.Proofs.YtgebffjejifidaaGreat
open Go.RowKit Tryz
theorem qp1(ran:Bool)(ac:Acc5)(nv nw:Value)(zs:List Nt)(w:World)(h1:ListN w nv zs)(h2:ListN w nw zs)(hm:zs.length<=100):
 Calls prog 9 #[.agg (zg ran ac nv),.agg (zg ran ac nw)] w fun e w'=>e= .returned (.bool true)/\Only Nil w w':=by
 obtain⟨k,c,x,y,o⟩:=ac;unfold zg;have H:=zh (show ∀W,Only Nil w W->_ from fun W ho=>qln nv nw zs W (h1.only ho) (h2.only ho) (Nat.le_trans hm dc));clear h1 h2 hm;go_enter func9, ntmps9;go_wp2_with fail;have e1:=((Only.refl Nil w).alloc (.cells #[.bool ran,.int .i64 k,.int .i64 c,.int .u32 x,.int .u32 y,.int .u32 o,nv] 36)).alloc (.cells #[.bool ran,.int .i64 k,.int .i64 c,.int .u32 x,.int .u32 y,.int .u32 o,nw] 36);refine(H.out _ e1).mono ?_;rintro e w1 ⟨rfl,hO⟩;have HO:=zh (e1.trans hO);clear e1 hO H;go_wp2;go_ret;exact⟨rfl,HO.out⟩
theorem OwnN.farW{w w':World}{g gt base l cp k:Nat}{A:Option Addr}{kind mode:Int}{m:MV}{v:Value}{zs:List Nt}(h:OwnN 0 w v zs)(hr:RWd w g gt base A l cp kind mode k m)(ho:Only (qw gt A) w w'):OwnN 0 w' v zs:=qx h ho fun i hi e=>by
 obtain⟨cur,hc⟩:=zw h hi;rcases e with rfl|hA
 . obtain⟨cs,hr'⟩:=hr.tasks.rowT;exact qh hc hr' dc rfl
 . obtain⟨c2,h2⟩:=zx hr.own hA;exact qh hc h2 dc rfl
theorem Row.farW{w w':World}{g gt base l cp k i:Nat}{A:Option Addr}{kind mode:Int}{m:MV}{cs:Array Value}(h:Row w i 36 cs)(hr:RWd w g gt base A l cp kind mode k m)(ho:Only (qw gt A) w w'):Row w' i 36 cs:=h.only ho fun e=>by
 rcases e with rfl|hA
 . obtain⟨cs,hr'⟩:=hr.tasks.rowT;exact qh h hr' dc rfl
 . obtain⟨c2,h2⟩:=zx hr.own hA;exact qh h h2 dc rfl
theorem qet(a0 a1 a2 a3:Int)(a4:Option Addr)(len4 cap4:Nat)(W:World)(w0:(Lit.int .i64 a0).wf=true)(w1:(Lit.int .i64 a1).wf=true)(w2:(Lit.int .i64 a2).wf=true)(w3:(Lit.int .u32 a3).wf=true)(w4:qf0 W a4 len4):
 Calls prog 3 #[.int .i64 a0,.int .i64 a1,.int .i64 a2,.int .u32 a3,.slice a4 len4 cap4] W fun e w'=>e= .returned (.bool true)/\Only Nil W w':=by
 obtain⟨l,hl,hp⟩:=qn4 w4;have h3:Wrd a3:=qsl w3;clear w0 w1 w2 w3 w4;rcases qt1 a0 a1 a2 a3 with⟨er,her,hN,hM⟩|⟨hk,hm,hn⟩
 . have HN:=zh hN;have HM:=zh hM;clear hN hM h3 hp hl;rcases her with rfl|rfl|rfl
   . go_enter func3, ntmps3;go_wp2_with fail;refine(HN.out _).mono ?_;rintro e v1 ⟨rfl,hO⟩;have HO1:=zh hO;clear hO;go_wp2_with fail;refine(HM.out _).mono ?_;rintro e v2 ⟨rfl,hO⟩;have HO:=zh (HO1.out.trans hO);clear hO HO1;go_wp2_with fail;refine(qar _).mono ?_;rintro e wz ⟨rfl,hz⟩;have HZ:=zh (HO.out.trans hz);clear hz;go_wp2;go_ret;exact⟨rfl,HZ.out⟩
   . go_enter func3, ntmps3;go_wp2_with fail;refine(HN.out _).mono ?_;rintro e v1 ⟨rfl,hO⟩;have HO1:=zh hO;clear hO;go_wp2_with fail;refine(HM.out _).mono ?_;rintro e v2 ⟨rfl,hO⟩;have HO:=zh (HO1.out.trans hO);clear hO HO1;go_wp2_with fail;refine(qar _).mono ?_;rintro e wz ⟨rfl,hz⟩;have HZ:=zh (HO.out.trans hz);clear hz;go_wp2;go_ret;exact⟨rfl,HZ.out⟩
   . go_enter func3, ntmps3;go_wp2_with fail;refine(HN.out _).mono ?_;rintro e v1 ⟨rfl,hO⟩;have HO1:=zh hO;clear hO;go_wp2_with fail;refine(HM.out _).mono ?_;rintro e v2 ⟨rfl,hO⟩;have HO:=zh (HO1.out.trans hO);clear hO HO1;go_wp2_with fail;refine(qar _).mono ?_;rintro e wz ⟨rfl,hz⟩;have HZ:=zh (HO.out.trans hz);clear hz;go_wp2;go_ret;exact⟨rfl,HZ.out⟩
 . obtain⟨k,rfl⟩:∃k:Nat,a2=k:=⟨a2.toNat,om⟩
   have hk1:1<=k/\k<=64:=by omega
   have HN:=zh (qkb a0 a1 a3 k W hk hm hk1 h3);have HM:=zh (fun W'=>qv6 a0 a1 a3 k W' hk hm hk1 h3);have HP:=zh (And.intro hl hp);have HK:=zh (And.intro hk (And.intro hk1 h3));clear hl hp hk hm hn hk1 h3
   by_cases h2000:2000<len4
   . have q1:(2000:Int)<len4:=by omega
     clear h2000;go_enter func3, ntmps3;go_wp2_with fail;refine HN.out.mono ?_;intro e v1 hn;obtain⟨g,gt,b,A,cp,rfl,hw⟩:=qlm HK.out.2.2 hn;have HW:=zh hw;clear hn hw HN;go_wp2_with fail;refine(HM.out _).mono ?_;intro e v2 hn;obtain⟨g2,gt2,A2,rfl,hw⟩:=qkr HW.out hn;have HW2:=zh (And.intro hw HW.out.inv);clear hn hw HW HM;have HO:=zh HW2.out.1.only;clear HW2;go_wp2_with fail;refine(qar _).mono ?_;rintro e wz ⟨rfl,hz⟩;have HZ:=zh (HO.out.trans hz);clear hz;go_wp2;go_ret;exact⟨rfl,HZ.out⟩
   . have q1:¬(2000:Int)<len4:=by omega
     have q0:(len4:Int)<=9223372036854775806:=by omega
     clear h2000;go_enter func3, ntmps3;go_wp2_with fail;refine HN.out.mono ?_;intro e v1 hn;obtain⟨g,gt,b,A,cp,rfl,hw⟩:=qlm HK.out.2.2 hn;have HW:=zh hw;clear hn hw HN;go_wp2_with fail;refine(HM.out _).mono ?_;intro e v2 hn;obtain⟨g2,gt2,A2,rfl,hw⟩:=qkr HW.out hn;have HW2:=zh (And.intro hw HW.out.inv);clear hn hw HW HM;obtain⟨M,hM⟩:∃M,M=v1.heap.size:=⟨_,rfl⟩;rw[←hM]at HW2;clear hM;generalize hL2:8+4*k=l2 at *;clear hL2;generalize mv0 a0 a1 k a3=m0 at *;go_wp2_with fail
     go_loopw [15] (fun iv wr=>∃i:Nat,i<=len4/\iv= .int .i64 i/\Wo2 W M g gt b A cp g2 gt2 A2 l2 l2 a0 a1 k (qby (qk a0) k m0 (l.take i)).1 (qby (qk a0) k m0 (l.take i)).1 wr/\WdI a1 k (qby (qk a0) k m0 (l.take i)).1) (fun iv _=>len4-(intOf iv).toNat)
     case atStart=>exact⟨0,Nat.zero_le _,rfl,HW2.out⟩
     case round=>
      obtain⟨i,hi,rfl,hI,hJ⟩:=hrel;clear HW2
      by_cases hlt:i<len4
      . obtain⟨p,hp⟩:∃p,l[i]? =some p:=⟨_,List.getElem?_eq_getElem (by rw[HP.out.1];exact hlt)⟩;have HX:=zh (congrArg Prod.fst (qg5 (L:=qk a0) (k:=k) (m:=m0) hp));obtain⟨t,o⟩:=p;have HPC:=zh (fun W' (h:Only Nil W W')=>HP.out.2 W' h i (t,o) hp);obtain⟨pb,pq,rfl,c0,c1⟩:=HPC.out _ hI.only;dsimp only at c0 c1;have HLT:=zh hlt
        have q2:(i:Int)<len4:=by omega
        unfold qf1 at HX;dsimp only at HX;generalize (qby (qk a0) k m0 (l.take i)).1=m at *;have HI:=zh hI;have HJ:=zh hJ;have HLE:=zh (qe7 (kind:=a0) hJ t o);have HJ2:=zh (hJ.pick (kind:=a0) t o);clear hp hi hlt hI hJ;go_wp2_with fail;refine(qfk g gt b A cp a0 a1 k t o m _ HI.out.wd HJ.out HK.out.1).mono ?_;rintro e u1 ⟨nv,rfl,hN,hO,hW⟩;have HI1:=zh (HI.out.turnP hO hW);have HN1:=zh hN;clear hO hW hN HI c0 c1;have HRP:=zh (fun W' (h:RWd W' g2 gt2 M A2 l2 l2 a0 a1 k m)=>qq4 g2 gt2 M A2 l2 l2 a0 a1 k t o m W' h HJ.out HK.out.1);unfold qs9 at HRP;generalize qbh (qk a0) k m t o=ev at *;generalize qeg (qk a0) k m t o=m' at *;obtain⟨ran,ac,ns⟩:=ev;dsimp only at HRP HN1 HLE ⊢;obtain⟨ak,az,ax,ay,ao⟩:=ac;obtain⟨Av,cv,rfl,_⟩:=HN1.out.list;have HEV:=zh (fun nw W' h1 h2=>qp1 ran ⟨ak,az,ax,ay,ao⟩ (.slice Av ns.length cv) nw ns W' h1 h2 (by have:=HLE.out;omega));unfold zg at HRP HEV ⊢;dsimp only at HRP HEV ⊢;have e2:=(Only.refl Nil u1).alloc (.cells #[.bool ran,.int .i64 ak,.int .i64 az,.int .u32 ax,.int .u32 ay,.int .u32 ao,.slice Av ns.length cv] 36);have HI2:=zh (HI1.out.keep e2);have HN2:=zh (HN1.out.only e2);have HE2:=zh (Row.new u1 36 #[.bool ran,.int .i64 ak,.int .i64 az,.int .u32 ax,.int .u32 ay,.int .u32 ao,.slice Av ns.length cv]);obtain⟨pb2,pq2,epb,d0,d1⟩:=HPC.out _ HI2.out.only
        obtain⟨rfl,rfl⟩:pb=pb2/\pq=pq2:=by cases epb;exact⟨rfl,rfl⟩
        try dsimp only at d0 d1
        clear e2 HI1 HN1 epb;go_wp2_with fail;generalize u1.alloc _=u2 at *;generalize u1.heap.size=P1 at *;clear d0 d1;refine(HRP.out _ HI2.out.rd).mono ?_;rintro e u3 ⟨nw,rfl,hN,hO,hW⟩;have HI3:=zh (HI2.out.turnR hO hW);have HN3:=zh (HN2.out.farW HI2.out.rd hO);have HE3:=zh (HE2.out.farW HI2.out.rd hO);have HM3:=zh hN;clear hO hW hN HI2 HN2 HE2 HRP;obtain⟨Aw,cw,rfl,_⟩:=HM3.out.list;have e4:=(Only.refl Nil u3).alloc (.cells #[.bool ran,.int .i64 ak,.int .i64 az,.int .u32 ax,.int .u32 ay,.int .u32 ao,.slice Aw ns.length cw] 36);have HI4:=zh (HI3.out.keep e4);have HN4:=zh (HN3.out.only e4).list;have HM4:=zh (HM3.out.only e4).list;have HE4:=zh (HE3.out.only e4 id);have HF4:=zh (Row.new u3 36 #[.bool ran,.int .i64 ak,.int .i64 az,.int .u32 ax,.int .u32 ay,.int .u32 ao,.slice Aw ns.length cw]);clear e4 HI3 HN3 HM3 HE3
        go_upto_region 12 with(fail)
        generalize u3.alloc _=u4 at *;generalize u3.heap.size=P2 at *;generalize ns.length=nl at *;have x0:u4.cell? ⟨P1,0,none⟩=some (.bool ran):=HE4.out.cell_ (i:=0) rfl;have x1:u4.cell? ⟨P1,1,none⟩=some (.int .i64 ak):=HE4.out.cell_ (i:=1) rfl;have x2:u4.cell? ⟨P1,2,none⟩=some (.int .i64 az):=HE4.out.cell_ (i:=2) rfl;have x3:u4.cell? ⟨P1,3,none⟩=some (.int .u32 ax):=HE4.out.cell_ (i:=3) rfl;have x4:u4.cell? ⟨P1,4,none⟩=some (.int .u32 ay):=HE4.out.cell_ (i:=4) rfl;have x5:u4.cell? ⟨P1,5,none⟩=some (.int .u32 ao):=HE4.out.cell_ (i:=5) rfl;have x6:u4.cell? ⟨P1,6,none⟩=some (.slice Av nl cv):=HE4.out.cell_ (i:=6) rfl;have y0:u4.cell? ⟨P2,0,none⟩=some (.bool ran):=HF4.out.cell_ (i:=0) rfl;have y1:u4.cell? ⟨P2,1,none⟩=some (.int .i64 ak):=HF4.out.cell_ (i:=1) rfl;have y2:u4.cell? ⟨P2,2,none⟩=some (.int .i64 az):=HF4.out.cell_ (i:=2) rfl;have y3:u4.cell? ⟨P2,3,none⟩=some (.int .u32 ax):=HF4.out.cell_ (i:=3) rfl;have y4:u4.cell? ⟨P2,4,none⟩=some (.int .u32 ay):=HF4.out.cell_ (i:=4) rfl;have y5:u4.cell? ⟨P2,5,none⟩=some (.int .u32 ao):=HF4.out.cell_ (i:=5) rfl;have y6:u4.cell? ⟨P2,6,none⟩=some (.slice Aw nl cw):=HF4.out.cell_ (i:=6) rfl
        by_cases h16:(i:Int)%16=0
        . have h17:(((i:Int)%16)==0)=true:=by rw[h16];rfl
          go_wp2_with fail;refine(HEV.out _ _ HN4.out HM4.out).mono ?_;rintro e u5 ⟨rfl,hO⟩;have HI5:=zh (HI4.out.keep hO);clear hO HI4 HN4 HM4 HE4 HF4 x0 x1 x2 x3 x4 x5 x6 y0 y1 y2 y3 y4 y5 y6 HEV;go_wp2_with fail;refine(qhe HI5.out HJ2.out HK.out.2.1).mono ?_;rintro e u6 ⟨rfl,hW⟩;have HI6:=zh (And.intro hW HJ2.out);clear hW HI5;go_wp2;exact⟨⟨i+1,by have:=HLT.out;omega,by go_num,by rw[HX.out];exact HI6.out⟩,by have:=HLT.out;simp[intOf];omega⟩
        . have h17:(((i:Int)%16)==0)=false:=beq_eq_false_iff_ne.2 h16;go_wp2_with fail;refine(HEV.out _ _ HN4.out HM4.out).mono ?_;rintro e u5 ⟨rfl,hO⟩;have HI5:=zh (HI4.out.keep hO);clear hO HI4 HN4 HM4 HE4 HF4 x0 x1 x2 x3 x4 x5 x6 y0 y1 y2 y3 y4 y5 y6 HEV;have HI6:=zh (And.intro HI5.out HJ2.out);go_wp2;exact⟨⟨i+1,by have:=HLT.out;omega,by go_num,by rw[HX.out];exact HI6.out⟩,by have:=HLT.out;simp[intOf];omega⟩
      . obtain rfl:i=len4:=by omega
        have HI:=zh hI;have HJ:=zh hJ;clear hI hJ hlt hi;go_wp2_with fail;refine(qhe HI.out HJ.out HK.out.2.1).mono ?_;rintro e u1 ⟨rfl,hW⟩;have HO:=zh hW.only;clear hW HI;go_wp2_with fail;refine(qar _).mono ?_;rintro e wz ⟨rfl,hz⟩;have HZ:=zh (HO.out.trans hz);clear hz;go_wp2;go_ret;exact⟨rfl,HZ.out⟩
end Go.Proofs.YtgebffjejifidaaGreat
