import Derived.Test.YtgebffjejifidaaGreatG1
import Derived.Laws.StructEq
import Derived.Deep.QuietTactic
import Derived.BigQuiet
import Derived.Deep.Cut
import Derived.Test.YtgebffjejifidaaGreatG45
import Derived.Test.YtgebffjejifidaaGreatG17
import Derived.Test.YtgebffjejifidaaGreatG18
import Derived.Test.YtgebffjejifidaaGreatG11
import Derived.Test.YtgebffjejifidaaGreatG5
set_option linter.unusedVariables false
set_option linter.unusedSimpArgs false
set_option maxHeartbeats 4000000
set_option maxRecDepth 100000
namespace Go.Proofs.YtgebffjejifidaaGreat
open Go.RowKit Tryz
theorem Held.drewN{w:World}{A:Option Addr}{n c:Nat}{xs:List Int}(h:Held w A n c xs)(j:Nat):Held (w.drewN j) A n c xs:=h
theorem qmr(A B:Option Addr)(c d n:Nat)(xs:List Int)(w:World)(j:Nat)(hn:xs.length=n)(hx:Held w A n c xs)(hy:Held w B n d xs)(hm:n<=1048576):
 Calls prog 30 #[.slice A n c,.slice B n d] (w.drewN j) fun e w'=>e= .returned (.bool true)/\∃m,w'=w.drewN m:=
 (zaf A B c d n xs (w.drewN j) hn (hx.drewN j) (hy.drewN j) hm).mono fun _ _ ⟨he,m,hm⟩=>⟨he,j+m,by rw[hm,World.drewN_drewN]⟩
theorem qrg(g gt b:Nat)(A:Option Addr)(cp:Nat)(kind mode:Int)(k:Nat)(m:MV)(w:World)(j:Nat)(h:WdP w g gt b A cp kind mode k m):
 Calls prog 31 #[.pointer (some ⟨g,0,none⟩)] (w.drewN j) fun e w'=>e= .returned (.int .i64 k)/\∃m,w'=w.drewN m:=
 (qih g gt b A cp kind mode k m (w.drewN j) (h.keep ((Only.refl Nil w).drewN j))).mono fun _ _ ⟨he,hm⟩=>⟨he,j,hm.symm⟩
theorem qlc{kind mode:Int}{k t:Nat}{m:MV}(hi:WdI mode k m)(ht:t<k):(!decide ((m.rs t).op=0) && (!(m.rs t).k.on && jq m.xs k mode t (m.rs t).s))=(m.at t).stuck:=by
 obtain⟨h1,h2,h3,_⟩:=hi.rs t ht
 by_cases h0:(m.rs t).op=0
 . rw[decide_eq_true h0,qpf hi ht h0];rfl
 . rw[decide_eq_false h0,show(m.at t).stuck=(!(m.rs t).k.on && jq m.xs (m.rs t).n (m.rs t).mode (m.rs t).task (m.rs t).s)from rfl,h1,h2,h3];rfl
structure Sm(W:World)(M g gt b:Nat)(A:Option Addr)(cp g2 gt2:Nat)(A2:Option Addr)(l2 cp2:Nat)(kind mode:Int)(k:Nat)(m:MV)(S1 g3 ct3:Nat)(cs:Array Value)(w:World):Prop where
 wo:Wo2 W M g gt b A cp g2 gt2 A2 l2 cp2 kind mode k m m w
 row:Row w S1 83 cs
 c4:cs[4]? =some (.slice (some ⟨g3,0,none⟩) k ct3)
 ts:TaskL w g3 k m.hold m.rs
theorem Sm.keep{W:World}{M g gt b cp g2 gt2 l2 cp2 k S1 g3 ct3:Nat}{A A2:Option Addr}{kind mode:Int}{m:MV}{cs:Array Value}{w w':World}(h:Sm W M g gt b A cp g2 gt2 A2 l2 cp2 kind mode k m S1 g3 ct3 cs w)(ho:Only Nil w w'):Sm W M g gt b A cp g2 gt2 A2 l2 cp2 kind mode k m S1 g3 ct3 cs w':=
 ⟨h.wo.keep ho,h.row.only ho id,h.c4,h.ts.only ho id⟩
theorem Sm.look{W:World}{M g gt b cp g2 gt2 l2 cp2 k S1 g3 ct3:Nat}{A A2:Option Addr}{kind mode:Int}{m:MV}{cs:Array Value}{w w':World}(h:Sm W M g gt b A cp g2 gt2 A2 l2 cp2 kind mode k m S1 g3 ct3 cs w)(ho:Only (At A) w w')(hw:WdP w' g gt b A cp kind mode k m):Sm W M g gt b A cp g2 gt2 A2 l2 cp2 kind mode k m S1 g3 ct3 cs w':=by
 have hA:∀i t cs,Row w i t cs->t≠ 22 ->¬At A i:=fun i t cs hi ht hA=>by
  obtain⟨cur,hc⟩:=zx h.wo.wd.mem.own hA;exact ht (hi.same hc).1
 obtain⟨ct,hr,_⟩:=h.ts.row;exact⟨h.wo.turnP (ho.mono fun _ _ h=> .inr h) hw,h.row.only ho (hA _ _ _ h.row dc),h.c4,h.ts.only ho (hA _ _ _ hr dc)⟩
theorem qhe{W:World}{M g gt b cp g2 gt2 l2 cp2 k:Nat}{A A2:Option Addr}{kind mode:Int}{m:MV}{w:World}(h:Wo2 W M g gt b A cp g2 gt2 A2 l2 cp2 kind mode k m m w)(hi:WdI mode k m)(hk:1<=k/\k<=64):
 Calls prog 10 #[.pointer (some ⟨g,0,none⟩),.pointer (some ⟨g2,0,none⟩)] w fun e w'=>e= .returned (.bool true)/\Wo2 W M g gt b A cp g2 gt2 A2 l2 cp2 kind mode k m m w':=by
 have H:=zh h;have HI:=zh hi;have HK:=zh hk
 have q8:(k:Int)<=64:=by omega
 clear h hi hk;go_enter func10, ntmps10;go_wp2_with fail;refine(qjl g gt b A cp kind mode k m _ H.out.wd HK.out).mono ?_;rintro e u3 ⟨A3,c3,g3,ct3,rfl,hO3,hT3,hg3,hN3⟩;have hl:m.xs.length=l2:=H.out.rd.len;unfold qiv;rw[hl];have e3:=(Only.refl Nil u3).alloc (.cells #[.int .i64 kind,.int .i64 mode,.int .i64 k,.slice A3 l2 c3,.slice (some ⟨g3,0,none⟩) k ct3] 83);have HH:=zh (H.out.keep (hN3.trans e3));have HS:=zh (Row.new u3 83 #[.int .i64 kind,.int .i64 mode,.int .i64 k,.slice A3 l2 c3,.slice (some ⟨g3,0,none⟩) k ct3]);have HT:=zh (hT3.only e3 id);have HE:=zh ((hO3.only e3 (fun _ _=>id)).held_n hl);have HL:=zh (And.intro hl (show l2<=1048576 by have:=HI.out.len;omega));clear e3 hO3 hT3 hg3 hN3 H hl
 go_upto_region 2 with(fail)
 generalize u3.alloc _=u4 at *;generalize u3.heap.size=S1 at *;have HR:=zh (HH.out.rd.own.held_n HL.out.1);have s0:u4.cell? ⟨S1,0,none⟩=some (.int .i64 kind):=HS.out.cell_ (i:=0) rfl;have s1:u4.cell? ⟨S1,1,none⟩=some (.int .i64 mode):=HS.out.cell_ (i:=1) rfl;have s2:u4.cell? ⟨S1,2,none⟩=some (.int .i64 k):=HS.out.cell_ (i:=2) rfl;have s3:u4.cell? ⟨S1,3,none⟩=some (.slice A3 l2 c3):=HS.out.cell_ (i:=3) rfl;have s4:u4.cell? ⟨S1,4,none⟩=some (.slice (some ⟨g3,0,none⟩) k ct3):=HS.out.cell_ (i:=4) rfl;have a0:u4.cell? ⟨g2,0,none⟩=some (.int .i64 kind):=HH.out.rd.row.cell_ (i:=0) rfl;have a1:u4.cell? ⟨g2,1,none⟩=some (.int .i64 mode):=HH.out.rd.row.cell_ (i:=1) rfl;have a2:u4.cell? ⟨g2,2,none⟩=some (.slice A2 l2 cp2):=HH.out.rd.row.cell_ (i:=2) rfl;have a3:u4.cell? ⟨g2,3,none⟩=some (.slice (some ⟨gt2,0,none⟩) k k):=HH.out.rd.row.cell_ (i:=3) rfl
 have b0:(kind !=kind)=false:=by simp
 have b1:(mode !=mode)=false:=by simp
 have b2:((k:Int) !=(k:Int))=false:=by simp
 go_quiet ((first|(exact qmr _ _ _ _ _ _ _ _ HL.out.1 HE.out HR.out HL.out.2)|(exact qrg _ _ _ _ _ _ _ _ _ _ _ HH.out.wd)))
 clear s0 s1 s2 s3 s4 a0 a1 a2 a3 b0 b1 b2;go_wp2_with fail;generalize hu5:u4.drewN _=u5;have HZ0:=zh (show Sm W M g gt b A cp g2 gt2 A2 l2 cp2 kind mode k m S1 g3 ct3 _ u5 from(Sm.mk HH.out HS.out rfl HT.out).keep (hu5▸(Only.refl Nil u4).drewN _));clear hu5 HH HS HT HE HR;generalize (#[.int .i64 kind,.int .i64 mode,.int .i64 k,.slice A3 l2 c3,.slice (some ⟨g3,0,none⟩) k ct3]:Array Value)=cs at *
 go_loopw [6] (fun jv wq=>∃j:Nat,j<=k/\jv= .int .i64 j/\Hid (Sm W M g gt b A cp g2 gt2 A2 l2 cp2 kind mode k m S1 g3 ct3 cs wq)) (fun jv _=>k-(intOf jv).toNat)
 case atStart=>exact⟨0,Nat.zero_le _,rfl,HZ0⟩
 case round=>
 obtain⟨j,hj,rfl,HX⟩:=hrel;clear HZ0;have a3:wr.cell? ⟨g2,3,none⟩=some (.slice (some ⟨gt2,0,none⟩) k k):=HX.out.wo.rd.row.cell_ (i:=3) rfl
 by_cases hjk:j<k
 . have HJK:=zh hjk
   have q5:(j:Int)<k:=by omega
   have q6:(0:Int)<=j:=by omega
   have q7:(j:Int).toNat=j:=rfl;have HH2:=zh (And.intro (show(if(0:Int)<=j/\(j:Int)<k then m.hold (j:Int).toNat else 0)=m.hold j from if_pos ⟨q6,q5⟩) (And.intro (show(if(0:Int)<=j/\(j:Int)<k then(m.rs (j:Int).toNat).op else 0)=(m.rs j).op from if_pos ⟨q6,q5⟩) (qlc (kind:=kind) HI.out hjk)));clear hj hjk
   go_upto_region 7 with(fail)
   clear a3;have HZ:=zh (HX.out.keep (Only.refl Nil wr).drew);clear HX;have s4:wr.drew.cell? ⟨S1,4,none⟩=some (.slice (some ⟨g3,0,none⟩) k ct3):=HZ.out.row.cell_ HZ.out.c4;have a3:wr.drew.cell? ⟨g2,3,none⟩=some (.slice (some ⟨gt2,0,none⟩) k k):=HZ.out.wo.rd.row.cell_ (i:=3) rfl;have x0:wr.drew.cell? ⟨g3,j*11,none⟩=some (.int .i64 (m.hold j)):=HZ.out.ts.cell HJK.out 0 rfl;have x1:wr.drew.cell? ⟨g3,j*11+1,none⟩=some (.int .i64 (m.rs j).op):=HZ.out.ts.cell HJK.out 1 rfl;have x2:wr.drew.cell? ⟨g3,j*11+2,none⟩=some (.int .i64 (m.rs j).line):=HZ.out.ts.cell HJK.out 2 rfl;have x3:wr.drew.cell? ⟨g3,j*11+3,none⟩=some (.int .u32 (m.rs j).a):=HZ.out.ts.cell HJK.out 3 rfl;have x4:wr.drew.cell? ⟨g3,j*11+4,none⟩=some (.int .u32 (m.rs j).b):=HZ.out.ts.cell HJK.out 4 rfl;have x5:wr.drew.cell? ⟨g3,j*11+5,none⟩=some (.int .i64 (m.rs j).s):=HZ.out.ts.cell HJK.out 5 rfl;have x6:wr.drew.cell? ⟨g3,j*11+6,none⟩=some (.bool (m.rs j).k.on):=HZ.out.ts.cell HJK.out 6 rfl;have x7:wr.drew.cell? ⟨g3,j*11+7,none⟩=some (.int .i64 (m.rs j).k.c):=HZ.out.ts.cell HJK.out 7 rfl;have x8:wr.drew.cell? ⟨g3,j*11+8,none⟩=some (.int .i64 (m.rs j).k.i):=HZ.out.ts.cell HJK.out 8 rfl;have x9:wr.drew.cell? ⟨g3,j*11+9,none⟩=some (.bool (m.rs j).k.hit):=HZ.out.ts.cell HJK.out 9 rfl;have x10:wr.drew.cell? ⟨g3,j*11+10,none⟩=some (.int .i64 (m.rs j).ret):=HZ.out.ts.cell HJK.out 10 rfl;have y0:wr.drew.cell? ⟨gt2,j*11,none⟩=some (.int .i64 (m.hold j)):=HZ.out.wo.rd.tasks.cell HJK.out 0 rfl;have y1:wr.drew.cell? ⟨gt2,j*11+1,none⟩=some (.int .i64 (m.rs j).op):=HZ.out.wo.rd.tasks.cell HJK.out 1 rfl;have y2:wr.drew.cell? ⟨gt2,j*11+2,none⟩=some (.int .i64 (m.rs j).line):=HZ.out.wo.rd.tasks.cell HJK.out 2 rfl;have y3:wr.drew.cell? ⟨gt2,j*11+3,none⟩=some (.int .u32 (m.rs j).a):=HZ.out.wo.rd.tasks.cell HJK.out 3 rfl;have y4:wr.drew.cell? ⟨gt2,j*11+4,none⟩=some (.int .u32 (m.rs j).b):=HZ.out.wo.rd.tasks.cell HJK.out 4 rfl;have y5:wr.drew.cell? ⟨gt2,j*11+5,none⟩=some (.int .i64 (m.rs j).s):=HZ.out.wo.rd.tasks.cell HJK.out 5 rfl;have y6:wr.drew.cell? ⟨gt2,j*11+6,none⟩=some (.bool (m.rs j).k.on):=HZ.out.wo.rd.tasks.cell HJK.out 6 rfl;have y7:wr.drew.cell? ⟨gt2,j*11+7,none⟩=some (.int .i64 (m.rs j).k.c):=HZ.out.wo.rd.tasks.cell HJK.out 7 rfl;have y8:wr.drew.cell? ⟨gt2,j*11+8,none⟩=some (.int .i64 (m.rs j).k.i):=HZ.out.wo.rd.tasks.cell HJK.out 8 rfl;have y9:wr.drew.cell? ⟨gt2,j*11+9,none⟩=some (.bool (m.rs j).k.hit):=HZ.out.wo.rd.tasks.cell HJK.out 9 rfl;have y10:wr.drew.cell? ⟨gt2,j*11+10,none⟩=some (.int .i64 (m.rs j).ret):=HZ.out.wo.rd.tasks.cell HJK.out 10 rfl;refine qb (n:=51) 45 (fun w=>w.cell? ⟨S1,4,none⟩=some (.slice (some ⟨g3,0,none⟩) k ct3)/\w.cell? ⟨g2,3,none⟩=some (.slice (some ⟨gt2,0,none⟩) k k)/\w.cell? ⟨g3,j*11,none⟩=some (.int .i64 (m.hold j))/\w.cell? ⟨g3,j*11+1,none⟩=some (.int .i64 (m.rs j).op)/\w.cell? ⟨g3,j*11+2,none⟩=some (.int .i64 (m.rs j).line)/\w.cell? ⟨g3,j*11+3,none⟩=some (.int .u32 (m.rs j).a)/\w.cell? ⟨g3,j*11+4,none⟩=some (.int .u32 (m.rs j).b)/\w.cell? ⟨g3,j*11+5,none⟩=some (.int .i64 (m.rs j).s)/\w.cell? ⟨g3,j*11+6,none⟩=some (.bool (m.rs j).k.on)/\w.cell? ⟨g3,j*11+7,none⟩=some (.int .i64 (m.rs j).k.c)/\w.cell? ⟨g3,j*11+8,none⟩=some (.int .i64 (m.rs j).k.i)/\w.cell? ⟨g3,j*11+9,none⟩=some (.bool (m.rs j).k.hit)/\w.cell? ⟨g3,j*11+10,none⟩=some (.int .i64 (m.rs j).ret)/\w.cell? ⟨gt2,j*11,none⟩=some (.int .i64 (m.hold j))/\w.cell? ⟨gt2,j*11+1,none⟩=some (.int .i64 (m.rs j).op)/\w.cell? ⟨gt2,j*11+2,none⟩=some (.int .i64 (m.rs j).line)/\w.cell? ⟨gt2,j*11+3,none⟩=some (.int .u32 (m.rs j).a)/\w.cell? ⟨gt2,j*11+4,none⟩=some (.int .u32 (m.rs j).b)/\w.cell? ⟨gt2,j*11+5,none⟩=some (.int .i64 (m.rs j).s)/\w.cell? ⟨gt2,j*11+6,none⟩=some (.bool (m.rs j).k.on)/\w.cell? ⟨gt2,j*11+7,none⟩=some (.int .i64 (m.rs j).k.c)/\w.cell? ⟨gt2,j*11+8,none⟩=some (.int .i64 (m.rs j).k.i)/\w.cell? ⟨gt2,j*11+9,none⟩=some (.bool (m.rs j).k.hit)/\w.cell? ⟨gt2,j*11+10,none⟩=some (.int .i64 (m.rs j).ret)) rfl kr ⟨s4,a3,x0,x1,x2,x3,x4,x5,x6,x7,x8,x9,x10,y0,y1,y2,y3,y4,y5,y6,y7,y8,y9,y10⟩ (fun hHeld=> ?_);clear s4 a3 x0 x1 x2 x3 x4 x5 x6 x7 x8 x9 x10 y0 y1 y2 y3 y4 y5 y6 y7 y8 y9 y10;generalize wr.drew=w2 at *;refine za 0 rfl ?_;refine zt 1 rfl ?_;refine za 2 rfl ?_;refine za 3 rfl ?_;refine zt 4 rfl ?_;refine za 5 rfl ?_;refine za 6 rfl ?_;refine za 7 rfl ?_;refine zt 8 rfl ?_;refine za 9 rfl ?_;refine za 10 rfl ?_;refine zt 11 rfl ?_;refine mpa 12 rfl (.bool false) (fun w=> ?_) ?_
   . go_simp
   refine za 13 rfl ?_;simp only[Act.put,k1,k2,k3];refine za 14 rfl ?_ (hw:=by kernel_rfl);refine za 15 rfl ?_ (hw:=by kernel_rfl);refine za 17 rfl ?_ (hw:=by kernel_rfl);refine za 18 rfl ?_ (hw:=by kernel_rfl);refine za 19 rfl ?_ (hw:=by kernel_rfl);refine zt 20 rfl ?_ (hw:=by kernel_rfl);refine za 21 rfl ?_ (hw:=by kernel_rfl);refine za 22 rfl ?_ (hw:=by kernel_rfl);refine za 23 rfl ?_ (hw:=by kernel_rfl);refine zt 24 rfl ?_ (hw:=by kernel_rfl);simp only[Act.put,k1,k2,k3];refine mpc 16 rfl kr kr (fun K hK=> ?_);go_simp;refine(qcy g gt b A cp kind mode k m j _ HZ.out.wo.wd).mono ?_;rw[HH2.out.1];rintro e w' ⟨rfl,hw'⟩;subst hw';refine hK.out _ _ (.inr hHeld) ?_;clear hK K;refine mpa 25 rfl (.bool false) (fun w=> ?_) ?_ (hw:=by kernel_rfl)
   . go_simp
   refine mpa 26 rfl (.bool false) (fun w=> ?_) ?_ (hw:=by kernel_rfl)
   . go_simp
   refine mpa 27 rfl (.bool false) (fun w=> ?_) ?_ (hw:=by kernel_rfl)
   . go_simp
   refine za 28 rfl ?_ (hw:=by kernel_rfl);refine za 29 rfl ?_ (hw:=by kernel_rfl);simp only[Act.put,k1,k2,k3];refine za 31 rfl ?_ (hw:=by kernel_rfl);refine za 32 rfl ?_ (hw:=by kernel_rfl);refine za 33 rfl ?_ (hw:=by kernel_rfl);refine zt 34 rfl ?_ (hw:=by kernel_rfl);refine za 35 rfl ?_ (hw:=by kernel_rfl);refine za 36 rfl ?_ (hw:=by kernel_rfl);refine za 37 rfl ?_ (hw:=by kernel_rfl);refine za 38 rfl ?_ (hw:=by kernel_rfl);refine zt 39 rfl ?_ (hw:=by kernel_rfl);simp only[Act.put,k1,k2,k3];refine mpc 30 rfl kr kr (fun K hK=> ?_);go_simp;refine(qms g gt b A cp kind mode k m j _ HZ.out.wo.wd).mono ?_;rw[HH2.out.2.1];rintro e w' ⟨rfl,hw'⟩;subst hw';refine hK.out _ _ (.inr hHeld) ?_;clear hK K;refine mpa 40 rfl (.bool false) (fun w=> ?_) ?_ (hw:=by kernel_rfl)
   . go_simp
   refine mpa 41 rfl (.bool false) (fun w=> ?_) ?_ (hw:=by kernel_rfl)
   . go_simp
   refine mpa 42 rfl (.bool false) (fun w=> ?_) ?_ (hw:=by kernel_rfl)
   . go_simp
   refine za 43 rfl ?_ (hw:=by kernel_rfl);refine za 44 rfl ?_ (hw:=by kernel_rfl);refine za 46 rfl ?_ (hw:=by kernel_rfl);refine za 47 rfl ?_ (hw:=by kernel_rfl);simp only[Act.put,k1,k2,k3];refine mpc 45 rfl kr kr (fun K hK=> ?_);go_simp;refine(qcn g gt b A cp kind mode k j m _ HZ.out.wo.wd HI.out HJK.out).mono ?_;rintro e wp ⟨rfl,hO,hW⟩;have HZ2:=zh (HZ.out.look hO hW);refine hK.out _ _ (.inl kr) ?_;clear hK K hHeld hO hW HZ;refine mpc 48 rfl kr kr (fun K hK=> ?_);go_simp;refine(qe8 g2 gt2 M A2 l2 cp2 kind mode k j m _ HZ2.out.wo.rd HJK.out).mono ?_;rw[HH2.out.2.2];rintro e wz ⟨rfl,hO⟩;have HZ3:=zh (HZ2.out.keep hO);refine hK.out _ _ (.inl kr) ?_;clear hK K hO HZ2;refine mpa 49 rfl (.bool false) (fun w=> ?_) ?_ (hw:=by kernel_rfl)
   . go_simp
   refine mpa 50 rfl (.bool false) (fun w=> ?_) ?_ (hw:=by kernel_rfl)
   . go_simp
   refine qc kr ?_ _;go_wp2_with fail;exact⟨⟨j+1,by have:=HJK.out;omega,by go_num,HZ3⟩,by have:=HJK.out;simp[intOf];omega⟩
 . obtain rfl:j=k:=by omega
   go_wp2;go_ret;exact⟨rfl,HX.out.wo⟩
end Go.Proofs.YtgebffjejifidaaGreat
