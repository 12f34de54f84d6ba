import Derived.Test.YtgebffjejifidaaGreatG1
import Derived.Test.YtgebffjejifidaaGreatG44
import Derived.Test.YtgebffjejifidaaGreatG10
import Derived.Test.YtgebffjejifidaaGreatG11
import Derived.Test.YtgebffjejifidaaGreatG30
import Derived.Test.YtgebffjejifidaaGreatG17
import Derived.Test.YtgebffjejifidaaGreatG14
import Derived.Test.YtgebffjejifidaaGreatG15
import Derived.Test.YtgebffjejifidaaGreatG16
set_option linter.unusedVariables false
set_option linter.unusedSimpArgs false
set_option maxHeartbeats 40000000
set_option maxRecDepth 100000
namespace Go.Proofs.YtgebffjejifidaaGreat
open Go.RowKit Tryz
def qwr(W:World)(g gt b:Nat)(A:Option Addr)(cp:Nat)(kind mode:Int)(k:Nat)(ev:Ev)(m':MV)(e:Ending)(w':World):Prop:=
 ∃nv,e= .returned (.agg (zg ev.ran ev.acc nv))/\OwnN 0 w' nv ev.ns/\Only (qw gt A) W w'/\WdP w' g gt b A cp kind mode k m'
theorem qad{W w:World}{g gt b E cp k:Nat}{A:Option Addr}{kind mode:Int}{m':MV}{ev:Ev}{nv:Value}{cs:Array Value}(hE:W.heap.size<=E)(he:Row w E 36 cs)(hn:OwnN 0 w nv ev.ns)(ho:Only (qw gt A) W w)(hw:WdP w g gt b A cp kind mode k m'):
 qwr W g gt b A cp kind mode k ev m' (.returned (.agg (zg ev.ran ev.acc nv))) (w.setRow E (zg ev.ran ev.acc nv)):=by
 have eE:=(Only.refl (· =E) w).setRow (g:=E) (.inr rfl) (zg ev.ran ev.acc nv);exact⟨nv,rfl,hn.farE he eE,ho.setRow (.inl hE) _,hw.farE he eE⟩
theorem qfa(w:World):OwnN 0 w (.slice none 0 0) ev0.ns:=xc 0 w
theorem qr6(g gt b:Nat)(A:Option Addr)(cp:Nat)(kind mode:Int)(k t:Nat)(m:MV)(W:World)(h:WdP W g gt b A cp kind mode k m)(hi:WdI mode k m)(hk:1<=kind/\kind<=6)(ht:t<k):
 Calls prog 20 #[.pointer (some ⟨g,0,none⟩),.int .i64 t] W (qwr W g gt b A cp kind mode k (if(m.at t).stuck then ev0 else qbj (qk kind) m t []) (if(m.at t).stuck then m else m.step (qk kind) t)):=by
 have HI:=zh hi;have HK:=zh hk;have HT:=zh ht;have HW:=zh h;obtain⟨q,hq⟩:∃q,(m.at t).stuck=q:=⟨_,rfl⟩;rw[hq];have HQ:=zh hq;clear hq h hi hk ht
 cases q
 . rw[if_neg Bool.false_ne_true,if_neg Bool.false_ne_true];go_enter func20, ntmps20
   go_upto_region 1 with(fail)
   have e0:=(Only.refl Nil W).alloc (.cells (zg false zn (.slice none 0 0)) 36);have HO1:=zh (e0.mono (T:=qw gt A) (fun _ _ h=>h.elim));have HW1:=zh (HW.out.keep e0);have HE1:=zh (Row.new W 36 (zg false zn (.slice none 0 0)));have HB:=zh (show ∀V:World,V=W->V.heap.size<=W.heap.size from fun _ h=>h▸Nat.le_refl _);unfold zg zn at e0 HO1 HW1 HE1;clear e0 HW;generalize W.alloc _=w1 at *;generalize W.heap.size=E at *;have HEL:=zh (HB.out W rfl);clear HB;go_wp2_with fail;refine(qcn g gt b A cp kind mode k t m _ HW1.out HI.out HT.out).mono ?_;rw[HQ.out];rintro e w2 ⟨rfl,hO,hW⟩;have HO2:=zh (HO1.out.trans (hO.mono (T:=qw gt A) (fun _ _ h=> .inr h)))
   have HE2:=zh (HE1.out.only hO (fun hA=>by
    obtain⟨cur,hc⟩:=zx HW1.out.mem.own hA
    exact qh HE1.out hc dc rfl))
   have HW2:=zh hW;clear hO hW HO1 HE1 HW1;go_wp2_with fail;refine(qgj g gt b A cp kind mode k t m (.slice none 0 0) [] _ _ HW2.out HI.out HK.out HT.out (xc 0 _) (Nat.zero_le _) rfl).mono ?_;rintro e w3 ⟨nv,rfl,hN,hO,hW⟩;obtain⟨A1,n1,c1,rfl⟩:=zu hN
   have HE3:=zh (HE2.out.only hO (by
    rintro(rfl|hA)
    . obtain⟨ct,hr⟩:=HW2.out.tasks.rowT;exact qh HE2.out hr dc rfl
    . obtain⟨cur,hc⟩:=zx HW2.out.mem.own hA
      exact qh HE2.out hc dc rfl))
   have HZ:=zh (qad (ev:=qbj (qk kind) m t []) (m':=m.step (qk kind) t) HEL.out HE3.out hN (HO2.out.trans hO) hW);clear hN hO hW;go_wp2_with (refine qn rfl 36 (.tmp 4) (.tmp 11) rfl br br HE3.out kr (Nat.le_refl 7) kr ?_);rw[zb br];exact qv results20 br (HE3.out.setRow _) underlying36 rfl kr rfl HZ.out
 . rw[if_pos rfl,if_pos rfl];go_enter func20, ntmps20
   go_upto_region 1 with(fail)
   have e0:=(Only.refl Nil W).alloc (.cells (zg false zn (.slice none 0 0)) 36);have HO1:=zh (e0.mono (T:=qw gt A) (fun _ _ h=>h.elim));have HW1:=zh (HW.out.keep e0);have HE1:=zh (Row.new W 36 (zg false zn (.slice none 0 0)));have HB:=zh (show ∀V:World,V=W->V.heap.size<=W.heap.size from fun _ h=>h▸Nat.le_refl _);unfold zg zn at e0 HO1 HW1 HE1;clear e0 HW;generalize W.alloc _=w1 at *;generalize W.heap.size=E at *;have HEL:=zh (HB.out W rfl);clear HB;go_wp2_with fail;refine(qcn g gt b A cp kind mode k t m _ HW1.out HI.out HT.out).mono ?_;rw[HQ.out];rintro e w2 ⟨rfl,hO,hW⟩;have HO2:=zh (HO1.out.trans (hO.mono (T:=qw gt A) (fun _ _ h=> .inr h)))
   have HE2:=zh (HE1.out.only hO (fun hA=>by
    obtain⟨cur,hc⟩:=zx HW1.out.mem.own hA
    exact qh HE1.out hc dc rfl))
   have HZ:=zh (qad (ev:=ev0) (m':=m) HEL.out HE2.out (qfa _) HO2.out hW);clear hO hW HO1 HE1 HW1;go_wp2_with (refine qn rfl 36 (.tmp 4) (.tmp 8) rfl br br HE2.out kr (Nat.le_refl 7) kr ?_);rw[zb br];exact qv results20 br (HE2.out.setRow _) underlying36 rfl kr rfl HZ.out
theorem zbb{o h:Int}(ho:1<=o/\o<=8)(hh:h=0\/h=1\/h=2):qbk o h=qfu o h:=by
 have hc:o=1\/o=2\/o=3\/o=4\/o=5\/o=6\/o=7\/o=8:=by omega
 rcases hc with rfl|rfl|rfl|rfl|rfl|rfl|rfl|rfl<;>rcases hh with rfl|rfl|rfl<;>rfl
theorem qub{w:World}{G:Nat}{n m:Nt}(h:Row w G 78 #[.int .i64 n.t,.int .i64 n.w,.int .i64 n.o,.int .i64 n.a,.int .i64 m.t,.int .i64 m.w,.int .i64 m.o,.int .i64 m.a]):OwnN 0 w (.slice (some ⟨G,0,none⟩) 2 2) [n,m]:=
 ⟨rfl,.inr ⟨G,2,_,rfl,Nat.zero_le _,h,Nat.le_refl _,by unfold maxLen;decide,rfl,rfl⟩⟩
theorem qkz(g gt b:Nat)(A:Option Addr)(cp:Nat)(kind mode:Int)(k t:Nat)(o:Int)(m:MV)(W:World)(h:WdP W g gt b A cp kind mode k m)(hi:WdI mode k m)(hk:1<=kind/\kind<=6)(ht:t<k)(ho:1<=o/\o<=8)(hid:(m.rs t).op=0):
 Calls prog 22 #[.pointer (some ⟨g,0,none⟩),.agg #[.int .i64 t,.int .i64 o]] W (qwr W g gt b A cp kind mode k (if qfu o (m.hold t)then qbj (qk kind) (m.start t o) t [⟨t,1,o,0⟩]else⟨true,zn,[⟨t,1,o,0⟩,⟨t,11,o,3⟩]⟩) (if qfu o (m.hold t)then(m.start t o).step (qk kind) t else m)):=by
 have HI:=zh hi;have HK:=zh hk;have HT:=zh ht;have HW:=zh h;have HOP:=zh ho;have hm:=qxq o (m.hold t);rw[zbb ho (hi.hold t ht)]at hm
 have q2:(t:Int)<k:=by omega
 have q3:(0:Int)<=t:=by omega
 have q4:(t:Int).toNat=t:=rfl;have q5:=ht;obtain⟨q,hq⟩:∃q,qfu o (m.hold t)=q:=⟨_,rfl⟩;rw[hq]at hm ⊢;have HM:=zh hm;clear hq h hi hk ht ho hm
 cases q
 . rw[if_neg Bool.false_ne_true,if_neg Bool.false_ne_true];go_enter func22, ntmps22
   go_upto_region 1 with(fail)
   have e0:=((Only.refl Nil W).alloc (.cells #[.int .i64 t,.int .i64 o] 39)).alloc (.cells (zg false zn (.slice none 0 0)) 36);have HO1:=zh (e0.mono (T:=qw gt A) (fun _ _ h=>h.elim));have HW1:=zh (HW.out.keep e0);have HP1:=zh ((Row.new W 39 #[.int .i64 t,.int .i64 o]).alloc (.cells (zg false zn (.slice none 0 0)) 36));have HE1:=zh (Row.new2 W (.cells #[.int .i64 t,.int .i64 o] 39) 36 (zg false zn (.slice none 0 0)));have HB:=zh (show ∀V:World,V=W->V.heap.size<=W.heap.size+1 from fun _ h=>h▸Nat.le_succ _);unfold zg zn at e0 HO1 HW1 HE1 HP1;clear e0 HW;generalize (W.alloc _).alloc _=w1 at *;generalize W.heap.size+1=E at *;generalize W.heap.size=P at *;have HEL:=zh (HB.out W rfl);clear HB;have p0:w1.cell? ⟨P,0,none⟩=some (.int .i64 t):=HP1.out.cell_ (i:=0) rfl;have p1:w1.cell? ⟨P,1,none⟩=some (.int .i64 o):=HP1.out.cell_ (i:=1) rfl;have a5:w1.cell? ⟨g,5,none⟩=some (.slice (some ⟨gt,0,none⟩) k k):=HW1.out.row.cell_ (i:=5) rfl
   go_still_tail 7,kr
   go_upto_region 3 with(fail)
   have e2:=((Only.refl Nil w1).alloc (.cells #[.int .i64 t,.int .i64 1,.int .i64 o,.int .i64 0] 78)).drew;have HO2:=zh (HO1.out.trans (e2.mono (T:=qw gt A) (fun _ _ h=>h.elim)));have HW2:=zh (HW1.out.keep e2);have HP2:=zh (HP1.out.only e2 id);have HE2:=zh (HE1.out.only e2 id);have HG2:=zh (Row.new w1 78 #[.int .i64 t,.int .i64 1,.int .i64 o,.int .i64 0]).drew;clear e2 HO1 HW1 HP1 HE1 p0 p1 a5;generalize (w1.alloc _).drew=w2 at *;generalize w1.heap.size=G at *;have p1:w2.cell? ⟨P,1,none⟩=some (.int .i64 o):=HP2.out.cell_ (i:=1) rfl;have d0:w2.cell? ⟨gt,t*11,none⟩=some (.int .i64 (m.hold t)):=HW2.out.tasks.cell HT.out 0 rfl
   go_still_tail 7,kr
   still_call ((HM.out _).mono (fun e w' ⟨h1,h2⟩=>⟨h1,h2.symm⟩))
   refine wpStill_nil ?_;clear p1 d0
   go_upto_region 4 with(fail)
   have HO3:=zh HO2.out.drew;have HW3:=zh (HW2.out.keep (Only.refl Nil w2).drew);have HP3:=zh HP2.out.drew;have HE3:=zh HE2.out.drew;have HG3:=zh HG2.out.drew;clear HO2 HW2 HP2 HE2 HG2;generalize w2.drew=w3 at *;have p0:w3.cell? ⟨P,0,none⟩=some (.int .i64 t):=HP3.out.cell_ (i:=0) rfl;have p1:w3.cell? ⟨P,1,none⟩=some (.int .i64 o):=HP3.out.cell_ (i:=1) rfl;have g0:w3.cell? ⟨G,0,none⟩=some (.int .i64 t):=HG3.out.cell_ (i:=0) rfl;have g1:w3.cell? ⟨G,1,none⟩=some (.int .i64 1):=HG3.out.cell_ (i:=1) rfl;have g2:w3.cell? ⟨G,2,none⟩=some (.int .i64 o):=HG3.out.cell_ (i:=2) rfl;have g3:w3.cell? ⟨G,3,none⟩=some (.int .i64 0):=HG3.out.cell_ (i:=3) rfl;refine qb (n:=9) 8 (fun w=>w.cell? ⟨P,0,none⟩=some (.int .i64 t)/\w.cell? ⟨P,1,none⟩=some (.int .i64 o)/\w.cell? ⟨G,0,none⟩=some (.int .i64 t)/\w.cell? ⟨G,1,none⟩=some (.int .i64 1)/\w.cell? ⟨G,2,none⟩=some (.int .i64 o)/\w.cell? ⟨G,3,none⟩=some (.int .i64 0)) rfl kr ⟨p0,p1,g0,g1,g2,g3⟩ (fun hHeld=> ?_);have HO4:=zh HO3.out.drew;have HW4:=zh (HW3.out.keep (Only.refl Nil w3).drew);have HP4:=zh HP3.out.drew;have HE4:=zh HE3.out.drew;have HG4:=zh HG3.out.drew;clear HO3 HW3 HP3 HE3 HG3 p0 p1 g0 g1 g2 g3;generalize w3.drew=w4 at *;refine zt 0 rfl ?_;refine zt 1 rfl ?_;refine zt 2 rfl ?_;refine zt 3 rfl ?_;refine zt 4 rfl ?_;refine mpc 5 rfl kr br (fun K hK=> ?_);go_simp;refine(qdn _ _ _ _).mono ?_;rintro e w5 ⟨rfl,hO⟩;have HO5:=zh (HO4.out.trans (hO.mono (T:=qw gt A) (fun _ _ h=>h.elim)));have HW5:=zh (HW4.out.keep hO);have HP5:=zh (HP4.out.only hO id);have HE5:=zh (HE4.out.only hO id);have HG5:=zh (HG4.out.only hO id);refine hK.out _ _ (.inr ⟨HP5.out.cell_ (i:=0) rfl,HP5.out.cell_ (i:=1) rfl,HG5.out.cell_ (i:=0) rfl,HG5.out.cell_ (i:=1) rfl,HG5.out.cell_ (i:=2) rfl,HG5.out.cell_ (i:=3) rfl⟩) ?_;clear hK K hHeld hO HO4 HW4 HP4 HE4 HG4;refine mpc 6 rfl kr br (fun K hK=> ?_);go_simp;have e6:=(Only.refl Nil w5).alloc (.cells #[.int .i64 t,.int .i64 1,.int .i64 o,.int .i64 0,.int .i64 t,.int .i64 11,.int .i64 o,.int .i64 3] 78);have HO6:=zh (HO5.out.trans (e6.mono (T:=qw gt A) (fun _ _ h=>h.elim)));have HW6:=zh (HW5.out.keep e6);have HP6:=zh (HP5.out.only e6 id);have HE6:=zh (HE5.out.only e6 id);have HG6:=zh (HG5.out.only e6 id);have HN6:=zh (qub (n:=⟨t,1,o,0⟩) (m:=⟨t,11,o,3⟩) (Row.new w5 78 #[.int .i64 t,.int .i64 1,.int .i64 o,.int .i64 0,.int .i64 t,.int .i64 11,.int .i64 o,.int .i64 3]));have hH6:(w5.alloc (.cells #[.int .i64 t,.int .i64 1,.int .i64 o,.int .i64 0,.int .i64 t,.int .i64 11,.int .i64 o,.int .i64 3] 78)).cell? ⟨P,0,none⟩=some (.int .i64 t)/\_/\_/\_/\_/\_:=⟨HP6.out.cell_ (i:=0) rfl,HP6.out.cell_ (i:=1) rfl,HG6.out.cell_ (i:=0) rfl,HG6.out.cell_ (i:=1) rfl,HG6.out.cell_ (i:=2) rfl,HG6.out.cell_ (i:=3) rfl⟩;refine hK.out _ _ (.inr hH6) ?_;clear hK K e6 HO5 HW5 HP5 HE5 HG5;generalize w5.alloc _=w6 at *;generalize w5.heap.size=Z at *;refine za 7 rfl ?_;have HZ:=zh (qad (ev:=⟨true,zn,[⟨t,1,o,0⟩,⟨t,11,o,3⟩]⟩) (m':=m) HEL.out HE6.out HN6.out HO6.out HW6.out);refine mpc 8 rfl kr br (fun K hK=> ?_);refine qct 36 (.tmp 4) (.tmp 34) rfl br br HE6.out kr (Nat.le_refl 7) kr ?_;rw[zb br];refine hK.out _ _ (.inl kr) ?_;clear hK K;refine qc kr ?_ _;go_wp2_with fail;exact qv results22 br (HE6.out.setRow _) underlying36 rfl kr rfl HZ.out
 . rw[if_pos rfl,if_pos rfl];go_enter func22, ntmps22
   go_upto_region 1 with(fail)
   have e0:=((Only.refl Nil W).alloc (.cells #[.int .i64 t,.int .i64 o] 39)).alloc (.cells (zg false zn (.slice none 0 0)) 36);have HO1:=zh (e0.mono (T:=qw gt A) (fun _ _ h=>h.elim));have HW1:=zh (HW.out.keep e0);have HP1:=zh ((Row.new W 39 #[.int .i64 t,.int .i64 o]).alloc (.cells (zg false zn (.slice none 0 0)) 36));have HE1:=zh (Row.new2 W (.cells #[.int .i64 t,.int .i64 o] 39) 36 (zg false zn (.slice none 0 0)));have HB:=zh (show ∀V:World,V=W->V.heap.size<=W.heap.size+1 from fun _ h=>h▸Nat.le_succ _);unfold zg zn at e0 HO1 HW1 HE1 HP1;clear e0 HW;generalize (W.alloc _).alloc _=w1 at *;generalize W.heap.size+1=E at *;generalize W.heap.size=P at *;have HEL:=zh (HB.out W rfl);clear HB;have p0:w1.cell? ⟨P,0,none⟩=some (.int .i64 t):=HP1.out.cell_ (i:=0) rfl;have p1:w1.cell? ⟨P,1,none⟩=some (.int .i64 o):=HP1.out.cell_ (i:=1) rfl;have a5:w1.cell? ⟨g,5,none⟩=some (.slice (some ⟨gt,0,none⟩) k k):=HW1.out.row.cell_ (i:=5) rfl
   go_still_tail 7,kr
   go_upto_region 3 with(fail)
   have e2:=((Only.refl Nil w1).alloc (.cells #[.int .i64 t,.int .i64 1,.int .i64 o,.int .i64 0] 78)).drew;have HO2:=zh (HO1.out.trans (e2.mono (T:=qw gt A) (fun _ _ h=>h.elim)));have HW2:=zh (HW1.out.keep e2);have HP2:=zh (HP1.out.only e2 id);have HE2:=zh (HE1.out.only e2 id);have HG2:=zh (Row.new w1 78 #[.int .i64 t,.int .i64 1,.int .i64 o,.int .i64 0]).drew;clear e2 HO1 HW1 HP1 HE1 p0 p1 a5;generalize (w1.alloc _).drew=w2 at *;generalize w1.heap.size=G at *;have p1:w2.cell? ⟨P,1,none⟩=some (.int .i64 o):=HP2.out.cell_ (i:=1) rfl;have d0:w2.cell? ⟨gt,t*11,none⟩=some (.int .i64 (m.hold t)):=HW2.out.tasks.cell HT.out 0 rfl
   go_still_tail 7,kr
   still_call ((HM.out _).mono (fun e w' ⟨h1,h2⟩=>⟨h1,h2.symm⟩))
   refine wpStill_nil ?_;clear p1 d0
   go_upto_region 5 with(fail)
   have HO3:=zh HO2.out.drew;have HW3:=zh (HW2.out.keep (Only.refl Nil w2).drew);have HP3:=zh HP2.out.drew;have HE3:=zh HE2.out.drew;have HG3:=zh HG2.out.drew;clear HO2 HW2 HP2 HE2 HG2 HM;generalize w2.drew=w3 at *;have p1:w3.cell? ⟨P,1,none⟩=some (.int .i64 o):=HP3.out.cell_ (i:=1) rfl;have d0:w3.cell? ⟨gt,t*11,none⟩=some (.int .i64 (m.hold t)):=HW3.out.tasks.cell HT.out 0 rfl
   have d1:w3.frozen? ⟨gt,t*11,none⟩=false:=by
    obtain⟨cs,hr⟩:=HW3.out.tasks.rowT;exact hr.frozen _
   go_still_tail 10,kr
   still_call ((qs3 _ _ _).mono (fun e w' ⟨h1,h2⟩=>⟨h1,h2.symm⟩))
   repeat still_step
   refine wpStill_nil ?_
   go_upto_region 6 with(fail)
   have eg:=((Only.refl (· =gt) w3).setCell (p:=⟨gt,t*11,none⟩) (.inr rfl) (.int .i64 (atI o (m.hold t)))).drew;obtain⟨ct,hrt⟩:=HW3.out.tasks.rowT;have HO5:=zh (HO3.out.trans (eg.mono (T:=qw gt A) (fun _ _ h=> .inl h)));have HW5:=zh ((HW3.out.putH HT.out (atI o (m.hold t))).keep (Only.refl Nil _).drew);have HP5:=zh (HP3.out.only eg (qh HP3.out hrt dc));have HE5:=zh (HE3.out.only eg (qh HE3.out hrt dc));have HG5:=zh (HG3.out.only eg (qh HG3.out hrt dc));clear eg hrt HO3 HW3 HP3 HE3 HG3 p1 d0 d1;generalize (w3.setCell _ _).drew=w5 at *;have p1:w5.cell? ⟨P,1,none⟩=some (.int .i64 o):=HP5.out.cell_ (i:=1) rfl;obtain⟨cs,hcs,hsz,_⟩:=HW5.out.tasks.row;have HC:=zh hcs
   have hsz':t*11+1+10<=cs.size:=by omega
   clear hcs hsz
   go_upto_region 7 with(refine qn rfl 72 (.tmp 50) (.tmp 48) rfl br br HC.out kr hsz' kr ?_)
   have eg:=(Only.refl (· =gt) w5).setRow (g:=gt) (.inr rfl) (vb cs (t*11+1) [.int .i64 o,.int .i64 0,.int .u32 0,.int .u32 0,.int .i64 0,.bool false,.int .i64 0,.int .i64 0,.bool false,.int .i64 0]);have HO6:=zh (HO5.out.trans (eg.mono (T:=qw gt A) (fun _ _ h=> .inl h)));have HW6:=zh (show WdP (w5.setRow gt (vb cs (t*11+1) [.int .i64 o,.int .i64 0,.int .u32 0,.int .u32 0,.int .i64 0,.bool false,.int .i64 0,.int .i64 0,.bool false,.int .i64 0])) g gt b A cp kind mode k (m.start t o)from HW5.out.putF HT.out HC.out (jt (m.at t) o));have HP6:=zh (HP5.out.only eg (qh HP5.out HC.out dc));have HE6:=zh (HE5.out.only eg (qh HE5.out HC.out dc));have HG6:=zh (HG5.out.only eg (qh HG5.out HC.out dc));clear eg HO5 HW5 HP5 HE5 HG5 HC hsz' p1;generalize w5.setRow gt _=w6 at *;have p0:w6.cell? ⟨P,0,none⟩=some (.int .i64 t):=HP6.out.cell_ (i:=0) rfl;have g0:w6.cell? ⟨G,0,none⟩=some (.int .i64 t):=HG6.out.cell_ (i:=0) rfl;have g1:w6.cell? ⟨G,1,none⟩=some (.int .i64 1):=HG6.out.cell_ (i:=1) rfl;have g2:w6.cell? ⟨G,2,none⟩=some (.int .i64 o):=HG6.out.cell_ (i:=2) rfl;have g3:w6.cell? ⟨G,3,none⟩=some (.int .i64 0):=HG6.out.cell_ (i:=3) rfl;go_wp2_with fail;have e6:=(Only.refl Nil w6).alloc (.cells #[.int .i64 t,.int .i64 1,.int .i64 o,.int .i64 0] 78);refine(qgj g gt b A cp kind mode k t (m.start t o) _ [⟨t,1,o,0⟩] _ _ (HW6.out.keep e6) (HI.out.start HT.out HOP.out) HK.out HT.out (qbs (n:=⟨t,1,o,0⟩) (Row.new w6 78 #[.int .i64 t,.int .i64 1,.int .i64 o,.int .i64 0])) (Nat.le_refl 1) rfl).mono ?_;rintro e w7 ⟨nv,rfl,hN,hO,hW⟩;obtain⟨A1,n1,c1,rfl⟩:=zu hN
   have HE7:=zh ((HE6.out.only e6 id).only hO (by
    rintro(rfl|hA)
    . obtain⟨ct,hr⟩:=HW6.out.tasks.rowT;exact qh HE6.out hr dc rfl
    . obtain⟨cur,hc⟩:=zx HW6.out.mem.own hA
      exact qh HE6.out hc dc rfl))
   have HZ:=zh (qad (ev:=qbj (qk kind) (m.start t o) t [⟨t,1,o,0⟩]) (m':=(m.start t o).step (qk kind) t) HEL.out HE7.out hN ((HO6.out.trans (e6.mono (T:=qw gt A) (fun _ _ h=>h.elim))).trans hO) hW);clear hN hO hW e6 p0 g0 g1 g2 g3;go_wp2_with (refine qn rfl 36 (.tmp 4) (.tmp 56) rfl br br HE7.out kr (Nat.le_refl 7) kr ?_);rw[zb br];exact qv results22 br (HE7.out.setRow _) underlying36 rfl kr rfl HZ.out
theorem qfk(g gt b:Nat)(A:Option Addr)(cp:Nat)(kind mode:Int)(k:Nat)(ti o:Int)(m:MV)(W:World)(h:WdP W g gt b A cp kind mode k m)(hi:WdI mode k m)(hk:1<=kind/\kind<=6):
 Calls prog 7 #[.pointer (some ⟨g,0,none⟩),.agg #[.int .i64 ti,.int .i64 o]] W (qwr W g gt b A cp kind mode k (qbh (qk kind) k m ti o) (qeg (qk kind) k m ti o)):=by
 have HI:=zh hi;have HK:=zh hk;have HW:=zh h;clear h hi hk;unfold qbh qeg
 by_cases ht:0<=ti/\ti<k
 . rw[if_pos ht,if_pos ht];obtain⟨t,rfl⟩:∃t:Nat,ti=t:=⟨ti.toNat,om⟩;rw[show(t:Int).toNat=t from rfl];have HT:=zh (show t<k by omega);have HH:=zh (show decide ((0:Int)<=t/\(t:Int)<k)=true from decide_eq_true ht)
   have q2:(t:Int)<k:=by omega
   have q3:(0:Int)<=t:=by omega
   have q4:(t:Int).toNat=t:=rfl;have q5:=HT.out;clear ht;unfold qni qo5
   by_cases h0:(m.rs t).op=0
   . rw[if_pos h0,if_pos h0];have HOPP:=zh h0
     by_cases ho:1<=o/\o<=8
     . rw[if_pos ho,if_pos ho];have HOR:=zh ho;have HX:=zh (qkm ho);have HBG:=zh (fun w (h:WdP w g gt b A cp kind mode k m)=>qkz g gt b A cp kind mode k t o m w h HI.out HK.out HT.out HOR.out HOPP.out);generalize (if qfu o (m.hold t)=true then qbj (qk kind) (m.start t o) t [⟨t,1,o,0⟩]else(⟨true,zn,[⟨t,1,o,0⟩,⟨t,11,o,3⟩]⟩:Ev))=ev at *;generalize (if qfu o (m.hold t)=true then(m.start t o).step (qk kind) t else m)=m' at *;clear ho h0;go_enter func7, ntmps7
       go_upto_region 1 with(fail)
       have e0:=((Only.refl Nil W).alloc (.cells #[.int .i64 (t:Int),.int .i64 o] 39)).alloc (.cells (zg false zn (.slice none 0 0)) 36);have HO1:=zh (e0.mono (T:=qw gt A) (fun _ _ h=>h.elim));have HW1:=zh (HW.out.keep e0);have HP1:=zh ((Row.new W 39 #[.int .i64 (t:Int),.int .i64 o]).alloc (.cells (zg false zn (.slice none 0 0)) 36));have HE1:=zh (Row.new2 W (.cells #[.int .i64 (t:Int),.int .i64 o] 39) 36 (zg false zn (.slice none 0 0)));have HB:=zh (show ∀V:World,V=W->V.heap.size<=W.heap.size+1 from fun _ h=>h▸Nat.le_succ _);unfold zg zn at e0 HO1 HW1 HE1 HP1;clear e0 HW;generalize (W.alloc _).alloc _=w1 at *;generalize W.heap.size+1=E at *;generalize W.heap.size=P at *;have HEL:=zh (HB.out W rfl);clear HB;have p0:w1.cell? ⟨P,0,none⟩=some (.int .i64 (t:Int)):=HP1.out.cell_ (i:=0) rfl;have p1:w1.cell? ⟨P,1,none⟩=some (.int .i64 o):=HP1.out.cell_ (i:=1) rfl;have a5:w1.cell? ⟨g,5,none⟩=some (.slice (some ⟨gt,0,none⟩) k k):=HW1.out.row.cell_ (i:=5) rfl;go_wp2_with fail;refine(kk g gt b A cp kind mode k m (t:Int) _ HW1.out).mono ?_;rw[HH.out];rintro e w2 ⟨rfl,rfl⟩
       go_upto_region 3 with(fail)
       have d1:w1.cell? ⟨gt,t*11+1,none⟩=some (.int .i64 (m.rs t).op):=HW1.out.tasks.cell HT.out 1 rfl;rw[HOPP.out]at d1
       go_still_tail 10,kr
       go_wp2_with fail;have HOO:=zh HO1.out.drew;have HWW:=zh (HW1.out.keep (Only.refl Nil w1).drew);have HPP:=zh HP1.out.drew;have HEE:=zh HE1.out.drew;clear HO1 HW1 HP1 HE1 a5 d1 p0 p1;generalize w1.drew=w2 at *;have p0:w2.cell? ⟨P,0,none⟩=some (.int .i64 t):=HPP.out.cell_ (i:=0) rfl;have p1:w2.cell? ⟨P,1,none⟩=some (.int .i64 o):=HPP.out.cell_ (i:=1) rfl;refine(qts o _).mono ?_;rintro e w3 ⟨rfl,hO⟩;have HO3:=zh hO;have hx:=HX.out;generalize opW o=X at *;clear hO;have HW3:=zh (HWW.out.keep HO3.out);have HE3:=zh (HEE.out.only HO3.out id);have HP3:=zh (HPP.out.only HO3.out id);have HOO3:=zh (HOO.out.trans (HO3.out.mono (T:=qw gt A) (fun _ _ h=>h.elim)));clear p0 p1 HOO HWW HPP HEE HO3;have HOO:=HOO3;have HWW:=HW3;have HEE:=HE3;have p0:w3.cell? ⟨P,0,none⟩=some (.int .i64 t):=HP3.out.cell_ (i:=0) rfl;have p1:w3.cell? ⟨P,1,none⟩=some (.int .i64 o):=HP3.out.cell_ (i:=1) rfl;clear HOO3 HW3 HE3 HP3;go_wp2_with fail;refine(HBG.out _ HWW.out).mono ?_;rintro e wZ ⟨nv,rfl,hN,hO,hW⟩;obtain⟨A1,n1,c1,rfl⟩:=zu hN
       have HEZ:=zh (HEE.out.only hO (by
        rintro(rfl|hA)
        . obtain⟨ct,hr⟩:=HWW.out.tasks.rowT;exact qh HEE.out hr dc rfl
        . obtain⟨cur,hc⟩:=zx HWW.out.mem.own hA
          exact qh HEE.out hc dc rfl))
       have HZ:=zh (qad (ev:=ev) (m':=m') HEL.out HEZ.out hN (HOO.out.trans hO) hW);clear hN hO hW;go_wp2_with (refine qn rfl 36 (.tmp 4) (.tmp 33) rfl br br HEZ.out kr (Nat.le_refl 7) kr ?_);rw[zb br];exact qv results7 br (HEZ.out.setRow _) underlying36 rfl kr rfl HZ.out
     . rw[if_neg ho,if_neg ho];have HX:=zh (qc5 ho);clear ho h0;go_enter func7, ntmps7
       go_upto_region 1 with(fail)
       have e0:=((Only.refl Nil W).alloc (.cells #[.int .i64 (t:Int),.int .i64 o] 39)).alloc (.cells (zg false zn (.slice none 0 0)) 36);have HO1:=zh (e0.mono (T:=qw gt A) (fun _ _ h=>h.elim));have HW1:=zh (HW.out.keep e0);have HP1:=zh ((Row.new W 39 #[.int .i64 (t:Int),.int .i64 o]).alloc (.cells (zg false zn (.slice none 0 0)) 36));have HE1:=zh (Row.new2 W (.cells #[.int .i64 (t:Int),.int .i64 o] 39) 36 (zg false zn (.slice none 0 0)));have HB:=zh (show ∀V:World,V=W->V.heap.size<=W.heap.size+1 from fun _ h=>h▸Nat.le_succ _);unfold zg zn at e0 HO1 HW1 HE1 HP1;clear e0 HW;generalize (W.alloc _).alloc _=w1 at *;generalize W.heap.size+1=E at *;generalize W.heap.size=P at *;have HEL:=zh (HB.out W rfl);clear HB;have p0:w1.cell? ⟨P,0,none⟩=some (.int .i64 (t:Int)):=HP1.out.cell_ (i:=0) rfl;have p1:w1.cell? ⟨P,1,none⟩=some (.int .i64 o):=HP1.out.cell_ (i:=1) rfl;have a5:w1.cell? ⟨g,5,none⟩=some (.slice (some ⟨gt,0,none⟩) k k):=HW1.out.row.cell_ (i:=5) rfl;go_wp2_with fail;refine(kk g gt b A cp kind mode k m (t:Int) _ HW1.out).mono ?_;rw[HH.out];rintro e w2 ⟨rfl,rfl⟩
       go_upto_region 3 with(fail)
       have d1:w1.cell? ⟨gt,t*11+1,none⟩=some (.int .i64 (m.rs t).op):=HW1.out.tasks.cell HT.out 1 rfl;rw[HOPP.out]at d1
       go_still_tail 10,kr
       go_wp2_with fail;have HOO:=zh HO1.out.drew;have HWW:=zh (HW1.out.keep (Only.refl Nil w1).drew);have HPP:=zh HP1.out.drew;have HEE:=zh HE1.out.drew;clear HO1 HW1 HP1 HE1 a5 d1 p0 p1;generalize w1.drew=w2 at *;have p0:w2.cell? ⟨P,0,none⟩=some (.int .i64 t):=HPP.out.cell_ (i:=0) rfl;have p1:w2.cell? ⟨P,1,none⟩=some (.int .i64 o):=HPP.out.cell_ (i:=1) rfl;refine(qts o _).mono ?_;rw[HX.out];rintro e w3 ⟨rfl,hO⟩;have HO3:=zh hO;clear hO;have HW3:=zh (HWW.out.keep HO3.out);have HE3:=zh (HEE.out.only HO3.out id);have HOO3:=zh (HOO.out.trans (HO3.out.mono (T:=qw gt A) (fun _ _ h=>h.elim)));clear p0 p1 HOO HWW HPP HEE HO3;have HOO:=HOO3;have HWW:=HW3;have HEE:=HE3;clear HOO3 HW3 HE3;have HZ:=zh (qad (ev:=ev0) (m':=m) HEL.out HEE.out (qfa _) HOO.out HWW.out);go_wp2_with (refine qn rfl 36 (.tmp 4) (.tmp 30) rfl br br HEE.out kr (Nat.le_refl 7) kr ?_);rw[zb br];exact qv results7 br (HEE.out.setRow _) underlying36 rfl kr rfl HZ.out
   . rw[if_neg h0,if_neg h0];obtain⟨op,hop⟩:∃op,(m.rs t).op=op:=⟨_,rfl⟩;have HOPP:=zh hop;have hn:¬op=0:=hop▸h0;have hn2:(op !=0)=true:=bne_iff_ne.2 hn;have HBG:=zh (fun w (h:WdP w g gt b A cp kind mode k m)=>qr6 g gt b A cp kind mode k t m w h HI.out HK.out HT.out);generalize (if(m.at t).stuck=true then ev0 else qbj (qk kind) m t [])=ev at *;generalize (if(m.at t).stuck=true then m else m.step (qk kind) t)=m' at *;clear h0 hop;go_enter func7, ntmps7
     go_upto_region 1 with(fail)
     have e0:=((Only.refl Nil W).alloc (.cells #[.int .i64 (t:Int),.int .i64 o] 39)).alloc (.cells (zg false zn (.slice none 0 0)) 36);have HO1:=zh (e0.mono (T:=qw gt A) (fun _ _ h=>h.elim));have HW1:=zh (HW.out.keep e0);have HP1:=zh ((Row.new W 39 #[.int .i64 (t:Int),.int .i64 o]).alloc (.cells (zg false zn (.slice none 0 0)) 36));have HE1:=zh (Row.new2 W (.cells #[.int .i64 (t:Int),.int .i64 o] 39) 36 (zg false zn (.slice none 0 0)));have HB:=zh (show ∀V:World,V=W->V.heap.size<=W.heap.size+1 from fun _ h=>h▸Nat.le_succ _);unfold zg zn at e0 HO1 HW1 HE1 HP1;clear e0 HW;generalize (W.alloc _).alloc _=w1 at *;generalize W.heap.size+1=E at *;generalize W.heap.size=P at *;have HEL:=zh (HB.out W rfl);clear HB;have p0:w1.cell? ⟨P,0,none⟩=some (.int .i64 (t:Int)):=HP1.out.cell_ (i:=0) rfl;have p1:w1.cell? ⟨P,1,none⟩=some (.int .i64 o):=HP1.out.cell_ (i:=1) rfl;have a5:w1.cell? ⟨g,5,none⟩=some (.slice (some ⟨gt,0,none⟩) k k):=HW1.out.row.cell_ (i:=5) rfl;go_wp2_with fail;refine(kk g gt b A cp kind mode k m (t:Int) _ HW1.out).mono ?_;rw[HH.out];rintro e w2 ⟨rfl,rfl⟩
     go_upto_region 3 with(fail)
     have d1:w1.cell? ⟨gt,t*11+1,none⟩=some (.int .i64 (m.rs t).op):=HW1.out.tasks.cell HT.out 1 rfl;rw[HOPP.out]at d1
     go_still_tail 10,kr
     go_wp2_with fail;have HOO:=zh HO1.out.drew;have HWW:=zh (HW1.out.keep (Only.refl Nil w1).drew);have HPP:=zh HP1.out.drew;have HEE:=zh HE1.out.drew;clear HO1 HW1 HP1 HE1 a5 d1 p0 p1;generalize w1.drew=w2 at *;have p0:w2.cell? ⟨P,0,none⟩=some (.int .i64 t):=HPP.out.cell_ (i:=0) rfl;have p1:w2.cell? ⟨P,1,none⟩=some (.int .i64 o):=HPP.out.cell_ (i:=1) rfl;refine(HBG.out _ HWW.out).mono ?_;rintro e wZ ⟨nv,rfl,hN,hO,hW⟩;obtain⟨A1,n1,c1,rfl⟩:=zu hN
     have HEZ:=zh (HEE.out.only hO (by
      rintro(rfl|hA)
      . obtain⟨ct,hr⟩:=HWW.out.tasks.rowT;exact qh HEE.out hr dc rfl
      . obtain⟨cur,hc⟩:=zx HWW.out.mem.own hA
        exact qh HEE.out hc dc rfl))
     have HZ:=zh (qad (ev:=ev) (m':=m') HEL.out HEZ.out hN (HOO.out.trans hO) hW);clear hN hO hW;go_wp2_with (refine qn rfl 36 (.tmp 4) (.tmp 25) rfl br br HEZ.out kr (Nat.le_refl 7) kr ?_);rw[zb br];exact qv results7 br (HEZ.out.setRow _) underlying36 rfl kr rfl HZ.out
 . rw[if_neg ht,if_neg ht];have HH:=zh (show decide (0<=ti/\ti<k)=false from decide_eq_false ht);clear ht;go_enter func7, ntmps7
   go_upto_region 1 with(fail)
   have e0:=((Only.refl Nil W).alloc (.cells #[.int .i64 ti,.int .i64 o] 39)).alloc (.cells (zg false zn (.slice none 0 0)) 36);have HO1:=zh (e0.mono (T:=qw gt A) (fun _ _ h=>h.elim));have HW1:=zh (HW.out.keep e0);have HP1:=zh ((Row.new W 39 #[.int .i64 ti,.int .i64 o]).alloc (.cells (zg false zn (.slice none 0 0)) 36));have HE1:=zh (Row.new2 W (.cells #[.int .i64 ti,.int .i64 o] 39) 36 (zg false zn (.slice none 0 0)));have HB:=zh (show ∀V:World,V=W->V.heap.size<=W.heap.size+1 from fun _ h=>h▸Nat.le_succ _);unfold zg zn at e0 HO1 HW1 HE1 HP1;clear e0 HW;generalize (W.alloc _).alloc _=w1 at *;generalize W.heap.size+1=E at *;generalize W.heap.size=P at *;have HEL:=zh (HB.out W rfl);clear HB;have p0:w1.cell? ⟨P,0,none⟩=some (.int .i64 ti):=HP1.out.cell_ (i:=0) rfl;have p1:w1.cell? ⟨P,1,none⟩=some (.int .i64 o):=HP1.out.cell_ (i:=1) rfl;have a5:w1.cell? ⟨g,5,none⟩=some (.slice (some ⟨gt,0,none⟩) k k):=HW1.out.row.cell_ (i:=5) rfl;go_wp2_with fail;refine(kk g gt b A cp kind mode k m ti _ HW1.out).mono ?_;rw[HH.out];rintro e w2 ⟨rfl,rfl⟩;have HOO:=HO1;have HWW:=HW1;have HEE:=HE1;clear HO1 HW1 HE1;have HZ:=zh (qad (ev:=ev0) (m':=m) HEL.out HEE.out (qfa _) HOO.out HWW.out);go_wp2_with (refine qn rfl 36 (.tmp 4) (.tmp 10) rfl br br HEE.out kr (Nat.le_refl 7) kr ?_);rw[zb br];exact qv results7 br (HEE.out.setRow _) underlying36 rfl kr rfl HZ.out
theorem qt6(r:Bool)(a:Acc5)(A:Option Addr)(n cp:Nat)(w:World):(Instr.field 36 (.agg #[.bool r,.int .i64 a.k,.int .i64 a.c,.int .u32 a.x,.int .u32 a.y,.int .u32 a.o,.slice A n cp]) 2).run prog w= .ok (.slice A n cp) w:=by
 first|rfl|kernel_rfl
def qnx(w:World)(A:Option Addr)(l:List (Int × Int)):Prop:=∀(i:Nat) (p:Int × Int),l[i]? =some p->∃b q,A=some ⟨b,q,none⟩/\w.cell? ⟨b,q+i*2,none⟩=some (.int .i64 p.1)/\w.cell? ⟨b,q+i*2+1,none⟩=some (.int .i64 p.2)
def qf1(L:LS->LS)(k:Nat)(s:MV × List Nt)(p:Int × Int):MV × List Nt:=(qeg L k s.1 p.1 p.2,s.2++(qbh L k s.1 p.1 p.2).ns)
def qby(L:LS->LS)(k:Nat)(m:MV)(l:List (Int × Int)):MV × List Nt:=l.foldl (qf1 L k) (m,[])
theorem qg5{L:LS->LS}{k:Nat}{m:MV}{l:List (Int × Int)}{i:Nat}{p:Int × Int}(h:l[i]? =some p):qby L k m (l.take (i+1))=qf1 L k (qby L k m (l.take i)) p:=by
 unfold qby;rw[List.take_add_one,h,List.foldl_append];rfl
section
variable{mode kind:Int}{k:Nat}{m:MV}
theorem qe7(h:WdI mode k m)(t o:Int):(qbh (qk kind) k m t o).ns.length<=4:=by
 unfold qbh;split
 case isFalse=>exact Nat.zero_le _
 case isTrue ht=>
  have ht':t.toNat<k:=by omega
  have hs:∀(m':MV) (told:List Nt),WdI mode k m'->told.length<=1->(qbj (qk kind) m' t.toNat told).ns.length<=4:=fun m' told h' hl=>by
   have hn:=(h'.next (kind:=kind) ht').2.2.2.2.1;unfold qbj kn;dsimp only;split
   . simp only[List.length_append,List.length_cons,List.length_nil];omega
   . simp only[List.length_append];omega
  unfold qni
  repeat' split
  . rename_i _ ho _;exact hs _ _ (h.start ht' ho) (Nat.le_refl 1)
  . show 2<=4;decide
  . exact Nat.zero_le _
  . exact Nat.zero_le _
  . exact hs _ _ h (Nat.zero_le _)
theorem qlv(h:WdI mode k m)(l:List (Int × Int)):∀i,i<=l.length->WdI mode k (qby (qk kind) k m (l.take i)).1/\(qby (qk kind) k m (l.take i)).2.length<=4*i
 |0,_=>⟨h,Nat.zero_le _⟩
 |i+1,hi=>by
  obtain⟨h1,h2⟩:=qlv h l i om;rw[qg5 (List.getElem?_eq_getElem om)];refine⟨h1.pick _ _,?_⟩;unfold qf1;dsimp only;rw[List.length_append];have:=qe7 (kind:=kind) h1 (l[i]' om).1 (l[i]' om).2;omega
end
theorem qlw(g gt b:Nat)(A:Option Addr)(cp:Nat)(kind mode:Int)(k:Nat)(m:MV)(A0:Option Addr)(n cap:Nat)(l:List (Int × Int))(W:World)(h:WdP W g gt b A cp kind mode k m)(hi:WdI mode k m)(hk:1<=kind/\kind<=6)(hn:l.length=n)(hm:n<=1000)
 (hp:∀w',Only (qw gt A) W w'->qnx w' A0 l):
 Calls prog 17 #[.pointer (some ⟨g,0,none⟩),.slice A0 n cap] W fun e w'=>∃v,e= .returned v/\OwnN W.heap.size w' v (qby (qk kind) k m l).2/\Only (qw gt A) W w'/\WdP w' g gt b A cp kind mode k (qby (qk kind) k m l).1:=by
 have HW:=zh h;have HI:=zh hi;have HK:=zh hk;have HP:=zh hp;have HM:=zh (And.intro hn hm)
 have q0:(n:Int)<=9223372036854775806:=by omega
 clear h hi hk hp hm hn;have hf:=qt6;go_enter func17, ntmps17;go_wp2_with fail
 go_loopw [5,10] (fun nv iv wr=>∃i:Nat,i<=n/\iv= .int .i64 i/\OwnN W.heap.size wr nv (qby (qk kind) k m (l.take i)).2/\Only (qw gt A) W wr/\WdP wr g gt b A cp kind mode k (qby (qk kind) k m (l.take i)).1) (fun _ iv _=>n-(intOf iv).toNat)
 case atStart=>exact⟨0,Nat.zero_le _,rfl,xc _ _,Only.refl _ _,HW.out⟩
 case round=>
  obtain⟨i,hi,rfl,hN,hO,hW⟩:=hrel;obtain⟨A1,n1,c1,rfl⟩:=zu hN;have HR:=zh (And.intro hN (And.intro hO hW));clear hN hO hW
  by_cases hlt:i<n
  . obtain⟨p,hp⟩:∃p,l[i]? =some p:=⟨_,List.getElem?_eq_getElem (by rw[HM.out.1];exact hlt)⟩;have HX:=zh (qg5 (L:=qk kind) (k:=k) (m:=m) hp);have HQ:=zh (qlv (kind:=kind) HI.out l i (by rw[HM.out.1];exact hi));obtain⟨pb,pq,rfl,c0,c1⟩:=HP.out _ HR.out.2.1 i p hp;obtain⟨t,o⟩:=p;dsimp only at c0 c1
    have q1:(i:Int)<n:=by omega
    have HLT:=zh hlt;clear hp hi;generalize qby (qk kind) k m (l.take i)=s at *;go_wp2_with fail;have e1:=(Only.refl Nil wr).alloc (.cells #[.int .i64 t,.int .i64 o] 39);refine(qfk g gt b A cp kind mode k t o s.1 _ (HR.out.2.2.keep e1) HQ.out.1 HK.out).mono ?_;rintro e w2 ⟨nv,rfl,hN2,hO2,hW2⟩;obtain⟨A2,n2,c2,rfl⟩:=zu hN2;have HL:=zh (qe7 (kind:=kind) HQ.out.1 t o)
    have HN1:=zh (qx (OwnN.only HR.out.1 e1) hO2 (fun j hj e=>by
     obtain⟨cur,hc⟩:=zw HR.out.1 hj;obtain⟨ct,hr⟩:=HR.out.2.2.tasks.rowT;rcases e with rfl|hA
     . exact qh hc hr dc rfl
     . obtain⟨cu,hcu⟩:=zx HR.out.2.2.mem.own hA
       exact qh hc hcu dc rfl))
    have HO2:=zh ((HR.out.2.1.trans (e1.mono (T:=qw gt A) (fun _ _ h=>h.elim))).trans hO2);have HW2:=zh hW2;have HN2:=zh hN2;clear hN2 hO2 hW2 e1 HR c0 c1;unfold zg;go_wp2_with (at_builtin;refine xu rfl (.tmp 14) (.tmp 18) rfl W.heap.size _ s.2 rfl HN1.out _ (qbh (qk kind) k s.1 t o).ns rfl HN2.out (by have h1:=HQ.out.2;have h2:=HM.out.2;omega) (by have h1:=HL.out;omega) HO2.out.size ?_);intro v' w3 hv ho;have HV:=zh (And.intro hv (And.intro (HO2.out.step ho (fun i hi e=>by have:=(HN1.out.lt i e).1;omega)) (HW2.out.apartN HN1.out ho)));clear hv ho;go_wp2
    go_roundw
    case rel=>exact⟨i+1,by have:=HLT.out;omega,by go_num,by rw[HX.out];exact HV.out.1,HV.out.2.1,by rw[HX.out];exact HV.out.2.2⟩
    case measure=>have:=HLT.out;simp[intOf];omega
  . obtain rfl:i=n:=by omega
    have HE:=zh (show l.take i=l by rw[←HM.out.1];exact List.take_length);rw[HE.out]at HR;clear HE;go_wp2;go_ret;exact⟨_,rfl,HR.out.1,HR.out.2.1,HR.out.2.2⟩
structure Wo(W:World)(g gt b:Nat)(A:Option Addr)(cp:Nat)(kind mode:Int)(k:Nat)(m:MV)(w:World):Prop where
 only:Only Nil W w
 wd:WdP w g gt b A cp kind mode k m
 inv:WdI mode k m
 gn:W.heap.size<=g/\W.heap.size<=gt/\W.heap.size<=b/\∀j,At A j->W.heap.size<=j
section
variable{W w w':World}{g gt b cp k:Nat}{A:Option Addr}{kind mode:Int}{m m':MV}
theorem Wo.keep(h:Wo W g gt b A cp kind mode k m w)(ho:Only Nil w w'):Wo W g gt b A cp kind mode k m w':=⟨h.only.trans ho,h.wd.keep ho,h.inv,h.gn⟩
theorem Wo.turn(h:Wo W g gt b A cp kind mode k m w)(ho:Only (qw gt A) w w')(hw:WdP w' g gt b A cp kind mode k m')(hi:WdI mode k m'):Wo W g gt b A cp kind mode k m' w':=
 ⟨h.only.step ho (fun i hi' e=>by
   rcases e with rfl|hA
   . have:=h.gn.2.1;omega
   . have:=h.gn.2.2.2 i hA;omega),hw,hi,h.gn⟩
theorem qlm{k:Nat}{b0:Int}(hb:Wrd b0){e:Ending}(h:zbt W kind mode k (mv0 kind mode k b0) e w'):∃g gt b A cp,e= .returned (.tuple #[.pointer (some ⟨g,0,none⟩),.int .i64 0])/\Wo W g gt b A cp kind mode k (mv0 kind mode k b0) w':=by
 obtain⟨g,gt,b,A,cp,he,hw,ho,h1,h2,h3,h4⟩:=h;exact⟨g,gt,b,A,cp,he,ho,hw,qsh hb,h1,h2,h3,h4⟩
end
theorem za9:(qby (qk 5) 2 (mv0 5 2 2 0) [(0,1),(1,1)]).2.length=8:=by decide+kernel
theorem zch:(qby (qk 5) 2 (mv0 5 2 2 0) [(0,1),(1,1)]).1.hold 0=1:=by decide+kernel
theorem zco:(qby (qk 5) 2 (mv0 5 2 2 0) [(0,1),(1,1)]).1.hold 1=1:=by decide+kernel
theorem qar(W:World):Calls prog 6 #[] W fun e w'=>e= .returned (.bool true)/\Only Nil W w':=by
 have HNW:=zh (qkb 5 2 0 2 W dc (.inr rfl) dc dc);go_enter func6, ntmps6;go_wp2_with fail;refine HNW.out.mono ?_;intro e w1 hN;obtain⟨g,gt,b,A,cp,rfl,hw⟩:=qlm (by unfold Wrd;decide) hN;have HW:=zh hw;clear hN hw HNW;go_wp2_with fail;have e1:=(Only.refl Nil w1).alloc (.cells #[.int .i64 0,.int .i64 1,.int .i64 1,.int .i64 1] 39);have HW1:=zh (HW.out.keep e1);have HR1:=zh (Row.new w1 39 #[.int .i64 0,.int .i64 1,.int .i64 1,.int .i64 1]);clear e1 HW;generalize w1.alloc _=w2 at *;generalize w1.heap.size=P at *;refine(qlw g gt b A cp 5 2 2 (mv0 5 2 2 0) (some ⟨P,0,none⟩) 2 2 [(0,1),(1,1)] _ HW1.out.wd HW1.out.inv dc rfl dc (fun w' ho i p hp=> ?_)).mono ?_
 . have hr:Row w' P 39 #[.int .i64 0,.int .i64 1,.int .i64 1,.int .i64 1]:=HR1.out.only ho (by
    rintro(rfl|hA)
    . obtain⟨ct,hc⟩:=HW1.out.wd.tasks.rowT;exact qh HR1.out hc dc rfl
    . obtain⟨cur,hc⟩:=zx HW1.out.wd.mem.own hA
      exact qh HR1.out hc dc rfl)
   match i,hp with
   |0,hp=>cases hp;exact⟨P,0,rfl,hr.cell_ (i:=0) rfl,hr.cell_ (i:=1) rfl⟩
   |1,hp=>cases hp;exact⟨P,0,rfl,hr.cell_ (i:=2) rfl,hr.cell_ (i:=3) rfl⟩
   |i+2,hp=>simp at hp
 rintro e w3 ⟨v,rfl,hN,hO,hW⟩;have hi:=(qlv (kind:=5) HW1.out.inv [(0,1),(1,1)] 2 (Nat.le_refl 2)).1;have HW3:=zh (HW1.out.turn hO hW hi);obtain⟨A3,c3,rfl,_⟩:=hN.list;rw[za9];clear hN hO hW hi HW1 HR1;have h0:=qcy g gt b A cp 5 2 2 _ 0 w3 HW3.out.wd;rw[if_pos dc,show(0:Int).toNat=0 from rfl,zch]at h0;have h1:=qcy g gt b A cp 5 2 2 _ 1 w3 HW3.out.wd;rw[if_pos dc,show(1:Int).toNat=1 from rfl,zco]at h1;have H0:=zh h0;have H1:=zh h1;clear h0 h1;go_wp2_with fail;refine H0.out.mono ?_;rintro e w4 ⟨rfl,rfl⟩;go_wp2_with fail;refine H1.out.mono ?_;rintro e w4 ⟨rfl,rfl⟩;go_wp2;go_ret;exact⟨rfl,HW3.out.only⟩
theorem qn4{w:World}{A:Option Addr}{len:Nat}(h:qf0 w A len):∃l:List (Int × Int),l.length=len/\∀w',Only Nil w w'->qnx w' A l:=by
 have hc:∃f:Nat->Int × Int,∀i,i<len->∃b q,A=some ⟨b,q,none⟩/\b<w.heap.size/\w.cell? ⟨b,q+i*2,none⟩=some (.int .i64 (f i).1)/\w.cell? ⟨b,q+i*2+1,none⟩=some (.int .i64 (f i).2):=by
  have h':∀i,∃p:Int × Int,i<len->∃b q,A=some ⟨b,q,none⟩/\b<w.heap.size/\w.cell? ⟨b,q+i*2,none⟩=some (.int .i64 p.1)/\w.cell? ⟨b,q+i*2+1,none⟩=some (.int .i64 p.2):=fun i=>by
   by_cases hi:i<len
   . obtain⟨b,q,t,o,h1,h2,h3,h4⟩:=h i hi;exact⟨(t,o),fun _=>⟨b,q,h1,h2,h3,h4⟩⟩
   . exact⟨(0,0),fun h=>absurd h hi⟩
  exact⟨fun i=>Classical.choose (h' i),fun i hi=>Classical.choose_spec (h' i) hi⟩
 obtain⟨f,hf⟩:=hc;refine⟨(List.range len).map f,by simp,fun w' ho i p hp=> ?_⟩;rw[List.getElem?_map]at hp;obtain⟨j,hj,rfl⟩:=Option.map_eq_some_iff.1 hp
 have hlt:i<len:=by
  have:=(List.getElem?_eq_some_iff.1 hj).1
  simpa using this
 rw[List.getElem?_range hlt]at hj;obtain rfl:=Option.some.inj hj;obtain⟨b,q,h1,h2,h3,h4⟩:=hf i hlt;exact⟨b,q,h1,(ho.cell (p:=⟨b,q+i*2,none⟩) h2 id).trans h3,(ho.cell (p:=⟨b,q+i*2+1,none⟩) h2 id).trans h4⟩
structure Wo2(W:World)(M g gt b:Nat)(A:Option Addr)(cp g2 gt2:Nat)(A2:Option Addr)(l2 cp2:Nat)(kind mode:Int)(k:Nat)(m n:MV)(w:World):Prop where
 only:Only Nil W w
 wd:WdP w g gt b A cp kind mode k m
 rd:RWd w g2 gt2 M A2 l2 cp2 kind mode k n
 gn:W.heap.size<=g/\W.heap.size<=gt/\W.heap.size<=b/\∀j,At A j->W.heap.size<=j
 lo:g<M/\gt<M/\b<M/\∀j,At A j->j<M
 hi:W.heap.size<=M/\M<=g2/\M<=gt2
section
variable{W w w':World}{M g gt b cp g2 gt2 l2 cp2 k:Nat}{A A2:Option Addr}{kind mode:Int}{m n m' n':MV}{S:Nat->Prop}
theorem Wo2.keep(h:Wo2 W M g gt b A cp g2 gt2 A2 l2 cp2 kind mode k m n w)(ho:Only Nil w w'):Wo2 W M g gt b A cp g2 gt2 A2 l2 cp2 kind mode k m n w':=
 ⟨h.only.trans ho,h.wd.keep ho,h.rd.keep ho,h.gn,h.lo,h.hi⟩
theorem Wo2.turnP(h:Wo2 W M g gt b A cp g2 gt2 A2 l2 cp2 kind mode k m n w)(ho:Only (qw gt A) w w')(hw:WdP w' g gt b A cp kind mode k m'):Wo2 W M g gt b A cp g2 gt2 A2 l2 cp2 kind mode k m' n w':=by
 have hn:∀i,M<=i->¬qw gt A i:=fun i hi e=>by
  rcases e with rfl|hA
  . have:=h.lo.2.1;omega
  . have:=h.lo.2.2.2 i hA;omega
 refine⟨h.only.step ho (fun i hi' e=> ?_),hw,⟨h.rd.row.only ho (hn _ h.hi.2.1),h.rd.own.only ho (fun i hi=>hn i (h.rd.own.base i hi)),h.rd.len,h.rd.words,h.rd.tasks.only ho (hn _ h.hi.2.2)⟩,h.gn,h.lo,h.hi⟩;rcases e with rfl|hA
 . have:=h.gn.2.1;omega
 . have:=h.gn.2.2.2 i hA;omega
theorem Wo2.turnR(h:Wo2 W M g gt b A cp g2 gt2 A2 l2 cp2 kind mode k m n w)(ho:Only (qw gt2 A2) w w')(hw:RWd w' g2 gt2 M A2 l2 cp2 kind mode k n'):Wo2 W M g gt b A cp g2 gt2 A2 l2 cp2 kind mode k m n' w':=by
 have hn:∀i,i<M->¬qw gt2 A2 i:=fun i hi e=>by
  rcases e with rfl|hA
  . have:=h.hi.2.2;omega
  . have:=h.rd.own.base i hA;omega
 refine⟨h.only.step ho (fun i hi' e=>hn i (by have:=h.hi.1;omega) e),⟨h.wd.row.only ho (hn _ h.lo.1),h.wd.mem.only ho (hn _ h.lo.2.2.1) (fun i hi=>hn i (h.lo.2.2.2 i hi)),h.wd.tasks.only ho (hn _ h.lo.2.1)⟩,hw,h.gn,h.lo,h.hi⟩
end
theorem qt1(kind mode n b:Int):(∃er,(er=1\/er=2\/er=3)/\(∀W,Calls prog 4 #[.int .i64 kind,.int .i64 mode,.int .i64 n,.int .u32 b] W (qjj W er))/\∀W,Calls prog 5 #[.int .i64 kind,.int .i64 mode,.int .i64 n,.int .u32 b] W (qjj W er))\/((1<=kind/\kind<=6)/\(mode=1\/mode=2)/\1<=n/\n<=64):=by
 by_cases hk:1<=kind/\kind<=6
 . by_cases hm:mode=1\/mode=2
   . by_cases hn:1<=n/\n<=64
     . exact .inr ⟨hk,hm,hn⟩
     . exact .inl ⟨2,dc,fun W=>zar kind mode n b W hk hm hn,fun W=>(zbj kind mode n b W hk hm hn).mono fun _ _ h=>h⟩
   . exact .inl ⟨1,dc,fun W=>qoa kind mode n b W hk hm,fun W=>(qp8 kind mode n b W hk hm).mono fun _ _ ⟨h1,h2⟩=>⟨h1,h2▸Only.refl Nil W⟩⟩
 . exact .inl ⟨3,dc,fun W=>qou kind mode n b W hk,fun W=>(qq7 kind mode n b W hk).mono fun _ _ ⟨h1,h2⟩=>⟨h1,h2▸Only.refl Nil W⟩⟩
theorem qkr{kind mode b0:Int}{k:Nat}{W w1 w2:World}{g gt b cp:Nat}{A:Option Addr}(h:Wo W g gt b A cp kind mode k (mv0 kind mode k b0) w1){e:Ending}(hr:qu4 w1 kind mode k (8+4*k) (mv0 kind mode k b0) e w2):
 ∃g2 gt2 A2,e= .returned (.tuple #[.pointer (some ⟨g2,0,none⟩),.int .i64 0])/\Wo2 W w1.heap.size g gt b A cp g2 gt2 A2 (8+4*k) (8+4*k) kind mode k (mv0 kind mode k b0) (mv0 kind mode k b0) w2:=by
 obtain⟨g2,gt2,gl,he,h1,h2,hd,ho⟩:=hr;exact⟨g2,gt2,some ⟨gl,0,none⟩,he,h.only.trans ho,h.wd.keep ho,hd,h.gn,h.wd.lt,h.only.size,h1,h2⟩
theorem qv6(kind mode b:Int)(k:Nat)(W:World)(hk:1<=kind/\kind<=6)(hm:mode=1\/mode=2)(hn:1<=k/\k<=64)(hb:0<=b/\b<4294967296):
 Calls prog 5 #[.int .i64 kind,.int .i64 mode,.int .i64 k,.int .u32 b] W (qu4 W kind mode k (8+4*k) (mv0 kind mode k b)):=
 qv4 kind mode b k (8+4*k) (mv0 kind mode k b) W hk hm hn (if_pos om) hb rfl (qsh (kind:=kind) (mode:=mode) (k:=k) hb).words (fun _ _=>rfl)
end Go.Proofs.YtgebffjejifidaaGreat
