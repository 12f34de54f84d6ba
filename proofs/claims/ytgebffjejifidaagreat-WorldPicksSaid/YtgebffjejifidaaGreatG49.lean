import Derived.Test.YtgebffjejifidaaGreatG1
import Derived.StillTailTactics
import Derived.Deep.QuietTactic
import Derived.BigQuiet
import Derived.Test.YtgebffjejifidaaGreatG11
import Derived.Test.YtgebffjejifidaaGreatG2
import Derived.Test.YtgebffjejifidaaGreatG44
import Derived.Test.YtgebffjejifidaaGreatG48
import Derived.Test.YtgebffjejifidaaGreatG17
import Derived.Test.YtgebffjejifidaaGreatG14
set_option linter.unusedVariables false
set_option linter.unusedSimpArgs false
set_option maxHeartbeats 8000000
set_option maxRecDepth 100000
namespace Go.Proofs.YtgebffjejifidaaGreat
open Go.RowKit Tryz
section
variable{w w':World}{g gt base cp k t l B E:Nat}{A:Option Addr}{kind mode:Int}{m:MV}{cs:Array Value}
theorem RWd.ne(h:RWd w g gt base A l cp kind mode k m):g≠gt/\¬At A g/\¬At A gt:=by
 obtain⟨ct,hr⟩:=h.tasks.rowT
 have ha:∀i t cs,Row w i t cs->t≠ 22 ->¬At A i:=fun i t cs hi ht hA=>by
  obtain⟨cur,hc⟩:=zx h.own hA;exact ht (hi.same hc).1
 exact⟨qh h.row hr dc,ha _ _ _ h.row dc,ha _ _ _ hr dc⟩
theorem RWd.lt(h:RWd w g gt base A l cp kind mode k m):g<w.heap.size/\gt<w.heap.size/\∀j,At A j->j<w.heap.size:=by
 obtain⟨ct,hr⟩:=h.tasks.rowT;exact⟨h.row.lt,hr.lt,h.own.lt⟩
theorem RWd.xsTurn(h:RWd w g gt base A l cp kind mode k m)(hB:g≠B/\gt≠B)(ho:Only (qd B A) w w'){xs:List Int}(hx:Own w' base A cp xs)(hl:xs.length=l)(hw:Words xs):RWd w' g gt base A l cp kind mode k {m with xs:=xs}:=by
 have hn:=h.ne;refine⟨h.row.only ho ?_,hx,hl,hw,h.tasks.only ho ?_⟩
 . rintro(e|hA)
   . exact hB.1 e
   . exact hn.2.1 hA
 . rintro(e|hA)
   . exact hB.2 e
   . exact hn.2.2 hA
theorem RWd.turnT(h:RWd w g gt base A l cp kind mode k m)(ho:Only (· =gt) w w'){f:Nat->LS}{hd:Nat->Int}(ht:Tasks w' gt k hd f):RWd w' g gt base A l cp kind mode k ⟨f,hd,m.xs⟩:=by
 have hn:=h.ne;exact⟨h.row.only ho hn.1,h.own.only ho (fun i hi e=>hn.2.2 (e▸hi)),h.len,h.words,ht⟩
theorem RWd.putF(h:RWd w g gt base A l cp kind mode k m)(ht:t<k)(hr:Row w gt 74 cs)(r:LS):RWd (w.setRow gt (vb cs (t*11+1) (zl 0 r).toList.tail)) g gt base A l cp kind mode k ⟨upd m.rs t r,m.hold,m.xs⟩:=
 h.turnT ((Only.refl (· =gt) w).setRow (.inr rfl) _) (h.tasks.putF ht hr r)
theorem Tasks.putT{h:Nat->Int}{f:Nat->LS}(T:Tasks w gt k h f)(ht:t<k)(hr:Row w gt 74 cs)(x:Int)(r:LS):Tasks (w.setRow gt (vb cs (t*11) (zl x r).toList)) gt k (upd h t x) (upd f t r):=by
 obtain⟨cs',hr',hs,hc⟩:=T.row;obtain rfl:=(hr'.same hr).2
 have hlen:t*11+(zl x r).toList.length<=cs'.size:=by show t*11+11<=_;omega
 refine⟨_,hr.setRow _,by rw[qh3 hlen];exact hs,fun i hi j v hv=> ?_⟩;have hj:j<11:=(Array.getElem?_eq_some_iff.1 hv).1
 by_cases e:i=t
 . subst e;rw[jm,jm]at hv;refine qng ?_ hlen;rw[Array.getElem?_toList];exact hv
 . rw[yp _ _ e,yp _ _ e]at hv;rw[qg0 _ hlen]
   . exact hc i hi j v hv
   . show i*11+j<t*11\/t*11+11<=i*11+j;omega
theorem RWd.putT(h:RWd w g gt base A l cp kind mode k m)(ht:t<k)(hr:Row w gt 74 cs)(x:Int)(r:LS):RWd (w.setRow gt (vb cs (t*11) (zl x r).toList)) g gt base A l cp kind mode k ⟨upd m.rs t r,upd m.hold t x,m.xs⟩:=
 h.turnT ((Only.refl (· =gt) w).setRow (.inr rfl) _) (h.tasks.putT ht hr x r)
theorem RWd.apartN(h:RWd w g gt base A l cp kind mode k m){b:Nat}{v:Value}{zs:List Nt}(hv:OwnN b w v zs)(ho:Only (fun k=>v.ownBlock=some k) w w'):RWd w' g gt base A l cp kind mode k m:=by
 obtain⟨cs,hr,hs,hc⟩:=h.tasks.row;refine⟨h.row.apartN hv ho dc,h.own.only ho fun i hi e=> ?_,h.len,h.words,⟨cs,hr.apartN hv ho dc,hs,hc⟩⟩;obtain⟨cur,hc⟩:=zw hv e;obtain⟨cur',hc'⟩:=zx h.own hi;exact absurd (hc.same hc').1 dc
theorem RWd.farE(h:RWd w g gt base A l cp kind mode k m)(he:Row w E 36 cs)(ho:Only (· =E) w w'):RWd w' g gt base A l cp kind mode k m:=by
 obtain⟨ct,hr⟩:=h.tasks.rowT;refine⟨h.row.only ho (qh h.row he dc),h.own.only ho fun i hi e=> ?_,h.len,h.words,h.tasks.only ho (qh hr he dc)⟩;obtain⟨cur,hc⟩:=zx h.own hi;exact qh hc he dc e
end
structure StpR(W:World)(g gt base E B:Nat)(A:Option Addr)(l cp:Nat)(kind mode:Int)(k:Nat)(m:MV)(r:LS)(nv tv:Value)(told:List Nt)(w:World):Prop where
 only:Only (qw gt A) W w
 wd:RWd w g gt base A l cp kind mode k m
 ev:Row w E 36 (zg false zn (.slice none 0 0))
 run:Row w B 101 (r.cells (.slice A l cp) nv)
 ns:OwnN 0 w nv r.ns
 tv:OwnN 0 w tv told
section
variable{W w w':World}{g gt base E B l cp k t:Nat}{A:Option Addr}{kind mode:Int}{m:MV}{r:LS}{nv tv:Value}{told:List Nt}
theorem StpR.keep(S:StpR W g gt base E B A l cp kind mode k m r nv tv told w)(ho:Only Nil w w'):StpR W g gt base E B A l cp kind mode k m r nv tv told w':=
 ⟨S.only.trans (ho.mono fun _ _ h=>h.elim),S.wd.keep ho,S.ev.only ho id,S.run.only ho id,S.ns.only ho,S.tv.only ho⟩
theorem StpR.tasks(S:StpR W g gt base E B A l cp kind mode k m r nv tv told w){m':MV}(ho:Only (· =gt) w w')(hw:RWd w' g gt base A l cp kind mode k m'):StpR W g gt base E B A l cp kind mode k m' r nv tv told w':=by
 obtain⟨cs,hr⟩:=S.wd.tasks.rowT;refine⟨S.only.trans (ho.mono fun _ _ h=> .inl h),hw,S.ev.only ho ?_,S.run.only ho ?_,qx S.ns ho ?_,qx S.tv ho ?_⟩
 . exact qh S.ev hr dc
 . exact qh S.run hr dc
 . rintro i hi rfl;obtain⟨cur,hc⟩:=zw S.ns hi;exact absurd (hc.same hr).1 dc
 . rintro i hi rfl;obtain⟨cur,hc⟩:=zw S.tv hi;exact absurd (hc.same hr).1 dc
theorem StpR.apart(S:StpR W g gt base E B A l cp kind mode k m r nv tv told w){b0:Nat}{v:Value}{zs:List Nt}(hv:OwnN b0 w v zs)(hw:W.heap.size<=b0)(hn:∀i,nv.ownBlock=some i->i<b0)(ht:∀i,tv.ownBlock=some i->i<b0)(ho:Only (fun k=>v.ownBlock=some k) w w'):StpR W g gt base E B A l cp kind mode k m r nv tv told w':=
 ⟨S.only.step ho (fun i hi e=>by have:=(hv.lt i e).1;omega),S.wd.apartN hv ho,S.ev.apartN hv ho dc,S.run.apartN hv ho dc,qx S.ns ho (fun i hi e=>by have:=(hv.lt i e).1;have:=hn i hi;omega),qx S.tv ho (fun i hi e=>by have:=(hv.lt i e).1;have:=ht i hi;omega)⟩
end
theorem qfn{kind:Int}(hk:1<=kind/\kind<=6)(r:LS)(hf:r.fresh=r):(r.k.on=true->r.waking=r.next (qk kind))/\(r.k.on=false->qk kind r.fresh=r.next (qk kind)):=by
 unfold LS.next;exact⟨fun h=>by rw[if_pos h],fun h=>by rw[if_neg (by rw[h];exact Bool.false_ne_true)]⟩
theorem qgg(g gt base:Nat)(A:Option Addr)(l cp:Nat)(kind mode:Int)(k t:Nat)(m:MV)(tv:Value)(told:List Nt)(r':LS)(W:World)(h:RWd W g gt base A l cp kind mode k m)(hi:WdI mode k m)(hkd:1<=kind/\kind<=6)(ht:t<k)(hv:OwnN 0 W tv told)(hl:told.length<=1)(hr':(m.at t).next (qk kind)=r'):
 Calls prog 24 #[.pointer (some ⟨g,0,none⟩),.int .i64 t,tv] W fun e w'=>∃nv,e= .returned (.agg (zg true r'.acc nv))/\OwnN 0 w' nv (kn t r' told)/\Only (qw gt A) W w'/\RWd w' g gt base A l cp kind mode k (m.put t r'):=by
 obtain⟨h1,h2,h3,h4,h5,_⟩:=hi.rs t ht;obtain⟨r,hr⟩:∃r,r=(m.at t).fresh:=⟨_,rfl⟩
 have hcells:r.cells (.slice A l cp) (.slice none 0 0)= #[.slice A l cp,.int .i64 k,.int .i64 mode,.int .i64 t,.int .i64 r.op,.int .i64 r.line,.int .u32 r.a,.int .u32 r.b,.int .i64 r.s,.bool r.k.on,.int .i64 r.k.c,.int .i64 r.k.i,.bool r.k.hit,.int .i64 r.ret,.int .i64 0,.int .i64 0,.int .u32 0,.int .u32 0,.int .u32 0,.slice none 0 0]:=by
  rw[hr];unfold LS.cells;rw[show(m.at t).fresh.n=k from h1,show(m.at t).fresh.mode=mode from h2,show(m.at t).fresh.task=t from h3];rfl
 have HN:=zh (hi.next (kind:=kind) ht);rw[hr']at HN;have HX:=zh (show r.xs=m.xs/\r.ns=[]/\Words r.xs/\Wrd r.a/\Wrd r.b/\r.fresh=r/\r.next (qk kind)=r' from⟨by rw[hr];rfl,by rw[hr];rfl,by rw[hr];exact hi.words,by rw[hr];exact h4,by rw[hr];exact h5,by rw[hr];rfl,by rw[hr,qfv];exact hr'⟩);have HR:=zh hr;have H:=zh h;have HT:=zh ht;have HV:=zh hv;have HL:=zh hl;have HK:=zh hkd;have HC:=zh hcells
 have q0:¬(t:Int)<0:=by omega
 have q1:¬(k:Int)<=(t:Int):=by omega
 have q2:(t:Int)<k:=by omega
 have q3:(0:Int)<=t:=by omega
 have q4:(t:Int).toNat=t:=rfl;have q5:=ht;obtain⟨A0,n0,c0,rfl⟩:=zu hv;clear h hi hkd ht hv hl hr' h1 h2 h3 h4 h5 hr hcells;go_enter func24, ntmps24
 go_upto_region 1 with(fail)
 have e0:=(Only.refl Nil W).alloc (.cells (zg false zn (.slice none 0 0)) 36);have HO1:=zh (e0.mono (T:=qw gt A) (fun _ _ h=>h.elim));have HW:=zh (H.out.keep e0);have HV1:=zh (HV.out.only e0);have HE1:=zh (Row.new W 36 (zg false zn (.slice none 0 0)));have HB:=zh (show ∀V:World,V=W->V.heap.size<=W.heap.size from fun _ h=>h▸Nat.le_refl _);unfold zg zn at e0 HO1 HW HV1 HE1;clear e0 H HV;generalize W.alloc _=w1 at *;generalize W.heap.size=E at *;have HEL:=zh (HB.out W rfl);clear HB;have a0:w1.cell? ⟨g,0,none⟩=some (.int .i64 kind):=HW.out.row.cell_ (i:=0) rfl;have a1:w1.cell? ⟨g,1,none⟩=some (.int .i64 mode):=HW.out.row.cell_ (i:=1) rfl;have a2:w1.cell? ⟨g,2,none⟩=some (.slice A l cp):=HW.out.row.cell_ (i:=2) rfl;have a3:w1.cell? ⟨g,3,none⟩=some (.slice (some ⟨gt,0,none⟩) k k):=HW.out.row.cell_ (i:=3) rfl
 have z0:w1.cell? ⟨gt,t*11+1,none⟩=some (.int .i64 r.op):=by rw[HR.out];exact HW.out.tasks.cell HT.out 1 rfl
 have z1:w1.cell? ⟨gt,t*11+1+1,none⟩=some (.int .i64 r.line):=by rw[HR.out];exact HW.out.tasks.cell HT.out 2 rfl
 have z2:w1.cell? ⟨gt,t*11+1+2,none⟩=some (.int .u32 r.a):=by rw[HR.out];exact HW.out.tasks.cell HT.out 3 rfl
 have z3:w1.cell? ⟨gt,t*11+1+3,none⟩=some (.int .u32 r.b):=by rw[HR.out];exact HW.out.tasks.cell HT.out 4 rfl
 have z4:w1.cell? ⟨gt,t*11+1+4,none⟩=some (.int .i64 r.s):=by rw[HR.out];exact HW.out.tasks.cell HT.out 5 rfl
 have z5:w1.cell? ⟨gt,t*11+1+5,none⟩=some (.bool r.k.on):=by rw[HR.out];exact HW.out.tasks.cell HT.out 6 rfl
 have z6:w1.cell? ⟨gt,t*11+1+6,none⟩=some (.int .i64 r.k.c):=by rw[HR.out];exact HW.out.tasks.cell HT.out 7 rfl
 have z7:w1.cell? ⟨gt,t*11+1+7,none⟩=some (.int .i64 r.k.i):=by rw[HR.out];exact HW.out.tasks.cell HT.out 8 rfl
 have z8:w1.cell? ⟨gt,t*11+1+8,none⟩=some (.bool r.k.hit):=by rw[HR.out];exact HW.out.tasks.cell HT.out 9 rfl
 have z9:w1.cell? ⟨gt,t*11+1+9,none⟩=some (.int .i64 r.ret):=by rw[HR.out];exact HW.out.tasks.cell HT.out 10 rfl
 go_still_tail 23,kr
 go_upto_region 2 with(fail)
 rw[←HC.out];have e1:=((Only.refl Nil w1).alloc (.cells (r.cells (.slice A l cp) (.slice none 0 0)) 101)).drew
 have HRR:Hid (RunR ((w1.alloc (.cells (r.cells (.slice A l cp) (.slice none 0 0)) 101)).drew) w1.heap.size base A l cp (.slice none 0 0) r):=
  zh ⟨Row.new w1 101 _,(by rw[HX.out.2.1];exact xc _ _),(by rw[HX.out.1];exact HW.out.own.only e1 (fun _ _=>id)),(by rw[HX.out.1];exact HW.out.len)⟩
 have HW2:=zh (HW.out.keep e1);have HO2:=zh (HO1.out.trans (e1.mono (T:=qw gt A) (fun _ _ h=>h.elim)));have HV2:=zh (HV1.out.only e1);have HE2:=zh (HE1.out.only e1 id);have HLB:Hid ((g<w1.heap.size/\gt<w1.heap.size)/\E<w1.heap.size/\W.heap.size<=w1.heap.size/\∀i,(Value.slice A0 n0 c0).ownBlock=some i->i<w1.heap.size):=zh ⟨⟨HW.out.lt.1,HW.out.lt.2.1⟩,HE1.out.lt,HO1.out.size,fun i h=>(HV1.out.lt i h).2⟩;clear e1 a0 a1 a2 a3 z0 z1 z2 z3 z4 z5 z6 z7 z8 z9 HW HO1 HV1 HE1;generalize (w1.alloc (.cells (r.cells (.slice A l cp) (.slice none 0 0)) 101)).drew=w2 at *;generalize w1.heap.size=B at *
 by_cases hon:r.k.on=true
 . go_wp2_with fail;refine(qm8 B base A l cp _ r _ HRR.out hon).mono ?_;rw[((qfn HK.out r HX.out.2.2.2.2.2.1).1 hon).trans HX.out.2.2.2.2.2.2];rintro e w4 ⟨rfl,hO,nv,hP⟩
   have hA:∀i t cs,Row w2 i t cs->t≠ 22 ->¬At A i:=fun i t cs hi ht hA=>by
    obtain⟨cur,hc⟩:=zx HW2.out.own hA;exact ht (hi.same hc).1
   obtain⟨A1,n1,c1,rfl⟩:=zu hP.notes
   have HS:Hid (StpR W g gt base E B A l cp kind mode k {m with xs:=r'.xs} r' (.slice A1 n1 c1) (.slice A0 n0 c0) told w4):=zh ⟨HO2.out.step hO (fun i hi hA=>by
    rcases hA with rfl|hA
    . have:=HLB.out.2.2.1;omega
    . exact .inr hA),HW2.out.xsTurn (B:=B) ⟨Nat.ne_of_lt HLB.out.1.1,Nat.ne_of_lt HLB.out.1.2⟩ hO hP.own hP.len HN.out.2.2.2.1,
    HE2.out.only hO (by
     rintro(e|hA')
     . have:=HLB.out.2.1;omega
     . exact hA _ _ _ HE2.out dc hA'),hP.row,hP.notes,qx HV2.out hO (fun i hi e=>by
     rcases e with e|hA'
     . have:=HLB.out.2.2.2 i hi;omega
     . obtain⟨cur,hc⟩:=zw HV2.out hi
       exact hA _ _ _ hc dc hA')⟩
   clear hO hP hA HO2 HW2 HV2 HE2 HRR HLB HC HR HX
   go_upto_region 4 with(fail)
   have a3:w4.cell? ⟨g,3,none⟩=some (.slice (some ⟨gt,0,none⟩) k k):=HS.out.wd.row.cell_ (i:=3) rfl;have b4:w4.cell? ⟨B,4,none⟩=some (.int .i64 r'.op):=HS.out.run.cell_ (i:=4) rfl;have b5:w4.cell? ⟨B,5,none⟩=some (.int .i64 r'.line):=HS.out.run.cell_ (i:=5) rfl;have b6:w4.cell? ⟨B,6,none⟩=some (.int .u32 r'.a):=HS.out.run.cell_ (i:=6) rfl;have b7:w4.cell? ⟨B,7,none⟩=some (.int .u32 r'.b):=HS.out.run.cell_ (i:=7) rfl;have b8:w4.cell? ⟨B,8,none⟩=some (.int .i64 r'.s):=HS.out.run.cell_ (i:=8) rfl;have b9:w4.cell? ⟨B,9,none⟩=some (.bool r'.k.on):=HS.out.run.cell_ (i:=9) rfl;have b10:w4.cell? ⟨B,10,none⟩=some (.int .i64 r'.k.c):=HS.out.run.cell_ (i:=10) rfl;have b11:w4.cell? ⟨B,11,none⟩=some (.int .i64 r'.k.i):=HS.out.run.cell_ (i:=11) rfl;have b12:w4.cell? ⟨B,12,none⟩=some (.bool r'.k.hit):=HS.out.run.cell_ (i:=12) rfl;have b13:w4.cell? ⟨B,13,none⟩=some (.int .i64 r'.ret):=HS.out.run.cell_ (i:=13) rfl;obtain⟨cs,hcs,hsz,_⟩:=HS.out.wd.tasks.row;have HCS:=zh hcs
   have hsz':t*11+1+10<=cs.size:=by omega
   clear hcs
   go_still_tail 11,kr
   go_upto_region 5 with(refine qn rfl 72 (.tmp 53) (.tmp 51) rfl br br HCS.out kr hsz' kr ?_)
   have HS5:=zh (show StpR W g gt base E B A l cp kind mode k (m.setR t r') r' (.slice A1 n1 c1) (.slice A0 n0 c0) told ((World.mk w4.heap w4.tape (w4.drawn+1) w4.os w4.output).setRow gt (vb cs (t*11+1) [.int .i64 r'.op,.int .i64 r'.line,.int .u32 r'.a,.int .u32 r'.b,.int .i64 r'.s,.bool r'.k.on,.int .i64 r'.k.c,.int .i64 r'.k.i,.bool r'.k.hit,.int .i64 r'.ret]))from(HS.out.keep (Only.refl Nil w4).drew).tasks ((Only.refl (· =gt) w4.drew).setRow (.inr rfl) _) ((HS.out.keep (Only.refl Nil w4).drew).wd.putF HT.out HCS.out.drew r'));clear HS HCS a3 b4 b5 b6 b7 b8 b9 b10 b11 b12 b13 hsz hsz';generalize (World.mk w4.heap w4.tape (w4.drawn+1) w4.os w4.output).setRow gt _=w5 at *;have b19:w5.cell? ⟨B,19,none⟩=some (.slice A1 n1 c1):=HS5.out.run.cell_ (i:=19) rfl;refine qb (n:=9) 7 (fun w=>w.cell? ⟨B,19,none⟩=some (.slice A1 n1 c1)) rfl kr b19 (fun hHeld=> ?_);have HS6:=zh (HS5.out.keep (Only.refl Nil w5).drew);clear b19 HS5;generalize w5.drew=w6 at *;refine za 1 rfl ?_;refine za 3 rfl ?_;refine za 4 rfl ?_;refine za 5 rfl ?_;refine zt 6 rfl ?_;refine mpc 0 rfl kr br (fun K hK=> ?_);go_simp;have e6:=(Only.refl Nil w6).alloc (.cells #[] 78);have HV7:=zh (show OwnN w6.heap.size (w6.alloc (.cells #[] 78)) (.slice (some ⟨w6.heap.size,0,none⟩) 0 0) []from World.ownsRow_made w6 #[] 0 (Nat.le_refl _) dc rfl);have HS7:=zh (HS6.out.keep e6);have HZ:=zh (And.intro HS6.out.only.size (And.intro (show ∀i,(Value.slice A1 n1 c1).ownBlock=some i->i<w6.heap.size from fun i h=>(HS6.out.ns.lt i h).2) (show ∀i,(Value.slice A0 n0 c0).ownBlock=some i->i<w6.heap.size from fun i h=>(HS6.out.tv.lt i h).2)));have HZ7:=zh e6.size;have hH7:(w6.alloc (.cells #[] 78)).cell? ⟨B,19,none⟩=some (.slice A1 n1 c1):=HS7.out.run.cell_ (i:=19) rfl;refine hK.out _ _ (.inr hH7) ?_;clear hK K hHeld e6 HS6;generalize w6.alloc _=w7 at *;generalize w6.heap.size=M at *;refine mpc 2 rfl kr br (fun K hK=> ?_);refine qcf (.tmp 54) (.tmp 55) rfl M _ [] rfl HV7.out _ told rfl HS7.out.tv (Nat.zero_le _) (by have:=HL.out;omega) HZ7.out ?_;intro v8 w8 hv ho;rw[List.nil_append]at hv;obtain⟨A8,n8,c8,rfl⟩:=zu hv;have HS8:=zh (HS7.out.apart HV7.out HZ.out.1 HZ.out.2.1 HZ.out.2.2 ho);have HV8:=zh hv;have HZ8:=zh (Nat.le_trans HZ7.out ho.size);have hH8:w8.cell? ⟨B,19,none⟩=some (.slice A1 n1 c1):=HS8.out.run.cell_ (i:=19) rfl;refine hK.out _ _ (.inr hH8) ?_;clear hK K hH7 hv ho HS7 HV7 HZ7;refine mpc 7 rfl kr br (fun K hK=> ?_);refine qcf (.tmp 56) (.tmp 60) rfl M _ told rfl HV8.out _ r'.ns rfl HS8.out.ns (by have:=HL.out;omega) (by have:=HN.out.2.2.2.2.1;omega) HZ8.out ?_;intro v9 w9 hv ho;obtain⟨A9,n9,c9,rfl⟩:=zu hv;have HS9:=zh (HS8.out.apart HV8.out HZ.out.1 HZ.out.2.1 HZ.out.2.2 ho);have HV9:=zh hv;have HZ9:=zh (Nat.le_trans HZ8.out ho.size);refine hK.out _ _ (.inl kr) ?_;clear hK K hH8 hv ho HS8 HV8 HZ8;refine za 8 rfl ?_;refine qc kr ?_ _;go_wp2_with fail;refine(qhq B base A l cp _ r' _ ⟨HS9.out.run,HS9.out.ns,HS9.out.wd.own,HS9.out.wd.len⟩).mono ?_;rintro e w10 ⟨rfl,rfl⟩;obtain⟨ov,hov⟩:∃ov,r'.over=ov:=⟨_,rfl⟩;rw[hov];have HOV:=zh hov;clear hov
   cases ov
   . have HRN:=zh HS9.out.run;have HEV:=zh HS9.out.ev;have HO:=zh HS9.out.only;have c14:w10.cell? ⟨B,14,none⟩=some (.int .i64 r'.acc.k):=HRN.out.cell_ (i:=14) rfl;have c15:w10.cell? ⟨B,15,none⟩=some (.int .i64 r'.acc.c):=HRN.out.cell_ (i:=15) rfl;have c16:w10.cell? ⟨B,16,none⟩=some (.int .u32 r'.acc.x):=HRN.out.cell_ (i:=16) rfl;have c17:w10.cell? ⟨B,17,none⟩=some (.int .u32 r'.acc.y):=HRN.out.cell_ (i:=17) rfl;have c18:w10.cell? ⟨B,18,none⟩=some (.int .u32 r'.acc.o):=HRN.out.cell_ (i:=18) rfl;go_wp2_with (refine qn rfl 36 (.tmp 6) (.tmp 104) rfl br br HEV.out kr (Nat.le_refl 7) kr ?_);rw[zb br];have eE:=(Only.refl (· =E) w10).setRow (g:=E) (.inr rfl) (zg true r'.acc (.slice A9 n9 c9));refine qv results24 br (HEV.out.setRow _) underlying36 rfl kr rfl ⟨(.slice A9 n9 c9),rfl,?_,HO.out.setRow (.inl HEL.out) _,?_⟩
     . rw[show kn t r' told=told++r'.ns by unfold kn;rw[HOV.out];exact if_neg Bool.false_ne_true];exact OwnN.farE (jg HV9.out (Nat.zero_le _)) HEV.out eE
     . rw[show m.put t r'=m.setR t r' by unfold MV.put;rw[HOV.out];exact if_neg Bool.false_ne_true];exact HS9.out.wd.farE HEV.out eE
   . have b4:w10.cell? ⟨B,4,none⟩=some (.int .i64 r'.op):=HS9.out.run.cell_ (i:=4) rfl;have b13:w10.cell? ⟨B,13,none⟩=some (.int .i64 r'.ret):=HS9.out.run.cell_ (i:=13) rfl
     go_upto_region 7 with(fail)
     go_quiet (fail)
     go_upto_region 8 with(fail)
     generalize hw11:w10.drewN _=w11;have e10:Only Nil w10 w11:=hw11▸(Only.refl Nil w10).drewN _;have HS10:=zh (HS9.out.keep e10);have HV10:=zh (OwnN.only HV9.out e10);have HZ10:=zh (Nat.le_trans HZ9.out e10.size);clear hw11 e10 HS9 HV9 HZ9 b4 b13;have e7:=(Only.refl Nil w11).alloc (.cells #[.int .i64 t,.int .i64 11,.int .i64 r'.op,.int .i64 r'.ret] 78);have HS11:=zh (HS10.out.keep e7);have HV11:=zh (OwnN.only HV10.out e7);have HU11:=zh (qbs (n:=⟨t,11,r'.op,r'.ret⟩) (Row.new w11 78 #[.int .i64 t,.int .i64 11,.int .i64 r'.op,.int .i64 r'.ret]));have HZ11:=zh (Nat.le_trans HZ10.out e7.size);clear e7 HS10 HV10 HZ10;go_wp2_with (at_builtin;go_loud (refine xu rfl (.tmp 74) (.tmp 79) rfl M _ (told++r'.ns) rfl HV11.out _ [⟨t,11,r'.op,r'.ret⟩] rfl HU11.out (by have h1:=HL.out;have h2:=HN.out.2.2.2.2.1;rw[List.length_append];omega) (show 1<=1000 by decide) HZ11.out ?_));intro v' w12 hv ho;obtain⟨A3,n3,c3,rfl⟩:=zu hv;have HS12:=zh (HS11.out.apart HV11.out HZ.out.1 HZ.out.2.1 HZ.out.2.2 ho);have HV12:=zh (jg hv (Nat.zero_le _));clear hv ho HS11 HV11 HU11 HZ11
     go_upto_region 9 with(fail)
     have a3:w12.cell? ⟨g,3,none⟩=some (.slice (some ⟨gt,0,none⟩) k k):=HS12.out.wd.row.cell_ (i:=3) rfl;have d0:w12.cell? ⟨gt,t*11,none⟩=some (.int .i64 (m.hold t)):=HS12.out.wd.tasks.cell HT.out 0 rfl;obtain⟨cs2,hcs2,hsz2,_⟩:=HS12.out.wd.tasks.row;have HC2:=zh hcs2
     have hsz3:t*11+11<=cs2.size:=by omega
     clear hcs2 hsz2
     go_still_tail 18,kr
     still_call ((qk7 _ _ _ _).mono (fun e w' ⟨h1,h2⟩=>⟨h1,h2.symm⟩))
     repeat still_step
     refine wpStill_nil ?_;obtain⟨x,hx⟩:∃x,kj r'.op r'.ret (m.hold t)=x:=⟨_,rfl⟩;rw[hx];have HX9:=zh hx;clear hx
     go_upto_region 10 with(refine qn rfl 74 (.tmp 98) (.tmp 97) rfl br br HC2.out kr hsz3 kr ?_)
     have HD:=zh (HS12.out.keep (Only.refl Nil w12).drew);have eg:=(Only.refl (· =gt) (World.mk w12.heap w12.tape (w12.drawn+1) w12.os w12.output)).setRow (g:=gt) (.inr rfl) (vb cs2 (t*11) (zl x (jt r' 0)).toList);have HWD:=zh (show RWd ((World.mk w12.heap w12.tape (w12.drawn+1) w12.os w12.output).setRow gt (vb cs2 (t*11) (zl x (jt r' 0)).toList)) g gt base A l cp kind mode k ⟨upd (m.setR t r').rs t (jt r' 0),upd (m.setR t r').hold t x,(m.setR t r').xs⟩from HD.out.wd.putT HT.out HC2.out.drew x (jt r' 0));have HO:=zh (HD.out.only.trans (eg.mono (T:=qw gt A) (fun _ _ h=> .inl h)));have HEV:=zh (HD.out.ev.only eg (qh HD.out.ev HC2.out.drew dc));have HRN:=zh (HD.out.run.only eg (qh HD.out.run HC2.out.drew dc))
     have HV:=zh (qx (OwnN.only HV12.out (Only.refl Nil w12).drew) eg (fun i hi e=>by
      obtain⟨cur,hc⟩:=zw HV12.out hi
      exact qh hc HC2.out dc e))
     clear eg HD HS12 HV12 HC2 hsz3 a3 d0;rw[show(zl x (jt r' 0)).toList=[.int .i64 x,.int .i64 0,.int .i64 0,.int .u32 0,.int .u32 0,.int .i64 0,.bool false,.int .i64 0,.int .i64 0,.bool false,.int .i64 0]from rfl]at *;generalize (World.mk w12.heap w12.tape (w12.drawn+1) w12.os w12.output).setRow gt _=w13 at *;have c14:w13.cell? ⟨B,14,none⟩=some (.int .i64 r'.acc.k):=HRN.out.cell_ (i:=14) rfl;have c15:w13.cell? ⟨B,15,none⟩=some (.int .i64 r'.acc.c):=HRN.out.cell_ (i:=15) rfl;have c16:w13.cell? ⟨B,16,none⟩=some (.int .u32 r'.acc.x):=HRN.out.cell_ (i:=16) rfl;have c17:w13.cell? ⟨B,17,none⟩=some (.int .u32 r'.acc.y):=HRN.out.cell_ (i:=17) rfl;have c18:w13.cell? ⟨B,18,none⟩=some (.int .u32 r'.acc.o):=HRN.out.cell_ (i:=18) rfl;go_wp2_with (refine qn rfl 36 (.tmp 6) (.tmp 104) rfl br br HEV.out kr (Nat.le_refl 7) kr ?_);rw[zb br];have eE:=(Only.refl (· =E) w13).setRow (g:=E) (.inr rfl) (zg true r'.acc (.slice A3 n3 c3));refine qv results24 br (HEV.out.setRow _) underlying36 rfl kr rfl ⟨(.slice A3 n3 c3),rfl,?_,HO.out.setRow (.inl HEL.out) _,?_⟩
     . rw[show kn t r' told=told++(r'.ns++[⟨t,11,r'.op,r'.ret⟩]) by unfold kn;rw[HOV.out];exact(if_pos rfl).trans (List.append_assoc _ _ _)];exact OwnN.farE HV.out HEV.out eE
     . rw[show m.put t r'=((m.setR t r').setH t x).setR t (jt r' 0) by unfold MV.put;rw[HOV.out,HX9.out];exact if_pos rfl];exact HWD.out.farE HEV.out eE
 . have hoff:r.k.on=false:=by cases h:r.k.on;rfl;exact absurd h hon
   go_wp2_with fail;refine(ql4 B base A l cp _ r _ HRR.out hoff).mono ?_;rintro e w3 ⟨rfl,hO3,nv3,hP3⟩;have HO3:=zh hO3;have HP3:=zh hP3;clear hO3 hP3
   have a0:w3.cell? ⟨g,0,none⟩=some (.int .i64 kind):=by
    have hn:=HW2.out.ne
    exact(HW2.out.row.only HO3.out (by
     rintro(e|hA)
     . have:=HLB.out.1.1;omega
     . exact hn.2.1 hA)).cell_ (i:=0) rfl
   go_wp2_with fail;refine(qlf kind HK.out B base A l cp _ r.fresh _ HP3.out (Nat.zero_le _) HX.out.2.2.1 HX.out.2.2.2.1 HX.out.2.2.2.2.1).mono ?_;rw[((qfn HK.out r HX.out.2.2.2.2.2.1).2 hoff).trans HX.out.2.2.2.2.2.2];rintro e w4 ⟨rfl,hO4,nv,hP⟩;have hO:=HO3.out.trans hO4;clear hO4 HO3 HP3 a0
   have hA:∀i t cs,Row w2 i t cs->t≠ 22 ->¬At A i:=fun i t cs hi ht hA=>by
    obtain⟨cur,hc⟩:=zx HW2.out.own hA;exact ht (hi.same hc).1
   obtain⟨A1,n1,c1,rfl⟩:=zu hP.notes
   have HS:Hid (StpR W g gt base E B A l cp kind mode k {m with xs:=r'.xs} r' (.slice A1 n1 c1) (.slice A0 n0 c0) told w4):=zh ⟨HO2.out.step hO (fun i hi hA=>by
    rcases hA with rfl|hA
    . have:=HLB.out.2.2.1;omega
    . exact .inr hA),HW2.out.xsTurn (B:=B) ⟨Nat.ne_of_lt HLB.out.1.1,Nat.ne_of_lt HLB.out.1.2⟩ hO hP.own hP.len HN.out.2.2.2.1,
    HE2.out.only hO (by
     rintro(e|hA')
     . have:=HLB.out.2.1;omega
     . exact hA _ _ _ HE2.out dc hA'),hP.row,hP.notes,qx HV2.out hO (fun i hi e=>by
     rcases e with e|hA'
     . have:=HLB.out.2.2.2 i hi;omega
     . obtain⟨cur,hc⟩:=zw HV2.out hi
       exact hA _ _ _ hc dc hA')⟩
   clear hO hP hA HO2 HW2 HV2 HE2 HRR HLB HC HR HX
   go_upto_region 4 with(fail)
   have a3:w4.cell? ⟨g,3,none⟩=some (.slice (some ⟨gt,0,none⟩) k k):=HS.out.wd.row.cell_ (i:=3) rfl;have b4:w4.cell? ⟨B,4,none⟩=some (.int .i64 r'.op):=HS.out.run.cell_ (i:=4) rfl;have b5:w4.cell? ⟨B,5,none⟩=some (.int .i64 r'.line):=HS.out.run.cell_ (i:=5) rfl;have b6:w4.cell? ⟨B,6,none⟩=some (.int .u32 r'.a):=HS.out.run.cell_ (i:=6) rfl;have b7:w4.cell? ⟨B,7,none⟩=some (.int .u32 r'.b):=HS.out.run.cell_ (i:=7) rfl;have b8:w4.cell? ⟨B,8,none⟩=some (.int .i64 r'.s):=HS.out.run.cell_ (i:=8) rfl;have b9:w4.cell? ⟨B,9,none⟩=some (.bool r'.k.on):=HS.out.run.cell_ (i:=9) rfl;have b10:w4.cell? ⟨B,10,none⟩=some (.int .i64 r'.k.c):=HS.out.run.cell_ (i:=10) rfl;have b11:w4.cell? ⟨B,11,none⟩=some (.int .i64 r'.k.i):=HS.out.run.cell_ (i:=11) rfl;have b12:w4.cell? ⟨B,12,none⟩=some (.bool r'.k.hit):=HS.out.run.cell_ (i:=12) rfl;have b13:w4.cell? ⟨B,13,none⟩=some (.int .i64 r'.ret):=HS.out.run.cell_ (i:=13) rfl;obtain⟨cs,hcs,hsz,_⟩:=HS.out.wd.tasks.row;have HCS:=zh hcs
   have hsz':t*11+1+10<=cs.size:=by omega
   clear hcs
   go_still_tail 11,kr
   go_upto_region 5 with(refine qn rfl 72 (.tmp 53) (.tmp 51) rfl br br HCS.out kr hsz' kr ?_)
   have HS5:=zh (show StpR W g gt base E B A l cp kind mode k (m.setR t r') r' (.slice A1 n1 c1) (.slice A0 n0 c0) told ((World.mk w4.heap w4.tape (w4.drawn+1) w4.os w4.output).setRow gt (vb cs (t*11+1) [.int .i64 r'.op,.int .i64 r'.line,.int .u32 r'.a,.int .u32 r'.b,.int .i64 r'.s,.bool r'.k.on,.int .i64 r'.k.c,.int .i64 r'.k.i,.bool r'.k.hit,.int .i64 r'.ret]))from(HS.out.keep (Only.refl Nil w4).drew).tasks ((Only.refl (· =gt) w4.drew).setRow (.inr rfl) _) ((HS.out.keep (Only.refl Nil w4).drew).wd.putF HT.out HCS.out.drew r'));clear HS HCS a3 b4 b5 b6 b7 b8 b9 b10 b11 b12 b13 hsz hsz';generalize (World.mk w4.heap w4.tape (w4.drawn+1) w4.os w4.output).setRow gt _=w5 at *;have b19:w5.cell? ⟨B,19,none⟩=some (.slice A1 n1 c1):=HS5.out.run.cell_ (i:=19) rfl;refine qb (n:=9) 7 (fun w=>w.cell? ⟨B,19,none⟩=some (.slice A1 n1 c1)) rfl kr b19 (fun hHeld=> ?_);have HS6:=zh (HS5.out.keep (Only.refl Nil w5).drew);clear b19 HS5;generalize w5.drew=w6 at *;refine za 1 rfl ?_;refine za 3 rfl ?_;refine za 4 rfl ?_;refine za 5 rfl ?_;refine zt 6 rfl ?_;refine mpc 0 rfl kr br (fun K hK=> ?_);go_simp;have e6:=(Only.refl Nil w6).alloc (.cells #[] 78);have HV7:=zh (show OwnN w6.heap.size (w6.alloc (.cells #[] 78)) (.slice (some ⟨w6.heap.size,0,none⟩) 0 0) []from World.ownsRow_made w6 #[] 0 (Nat.le_refl _) dc rfl);have HS7:=zh (HS6.out.keep e6);have HZ:=zh (And.intro HS6.out.only.size (And.intro (show ∀i,(Value.slice A1 n1 c1).ownBlock=some i->i<w6.heap.size from fun i h=>(HS6.out.ns.lt i h).2) (show ∀i,(Value.slice A0 n0 c0).ownBlock=some i->i<w6.heap.size from fun i h=>(HS6.out.tv.lt i h).2)));have HZ7:=zh e6.size;have hH7:(w6.alloc (.cells #[] 78)).cell? ⟨B,19,none⟩=some (.slice A1 n1 c1):=HS7.out.run.cell_ (i:=19) rfl;refine hK.out _ _ (.inr hH7) ?_;clear hK K hHeld e6 HS6;generalize w6.alloc _=w7 at *;generalize w6.heap.size=M at *;refine mpc 2 rfl kr br (fun K hK=> ?_);refine qcf (.tmp 54) (.tmp 55) rfl M _ [] rfl HV7.out _ told rfl HS7.out.tv (Nat.zero_le _) (by have:=HL.out;omega) HZ7.out ?_;intro v8 w8 hv ho;rw[List.nil_append]at hv;obtain⟨A8,n8,c8,rfl⟩:=zu hv;have HS8:=zh (HS7.out.apart HV7.out HZ.out.1 HZ.out.2.1 HZ.out.2.2 ho);have HV8:=zh hv;have HZ8:=zh (Nat.le_trans HZ7.out ho.size);have hH8:w8.cell? ⟨B,19,none⟩=some (.slice A1 n1 c1):=HS8.out.run.cell_ (i:=19) rfl;refine hK.out _ _ (.inr hH8) ?_;clear hK K hH7 hv ho HS7 HV7 HZ7;refine mpc 7 rfl kr br (fun K hK=> ?_);refine qcf (.tmp 56) (.tmp 60) rfl M _ told rfl HV8.out _ r'.ns rfl HS8.out.ns (by have:=HL.out;omega) (by have:=HN.out.2.2.2.2.1;omega) HZ8.out ?_;intro v9 w9 hv ho;obtain⟨A9,n9,c9,rfl⟩:=zu hv;have HS9:=zh (HS8.out.apart HV8.out HZ.out.1 HZ.out.2.1 HZ.out.2.2 ho);have HV9:=zh hv;have HZ9:=zh (Nat.le_trans HZ8.out ho.size);refine hK.out _ _ (.inl kr) ?_;clear hK K hH8 hv ho HS8 HV8 HZ8;refine za 8 rfl ?_;refine qc kr ?_ _;go_wp2_with fail;refine(qhq B base A l cp _ r' _ ⟨HS9.out.run,HS9.out.ns,HS9.out.wd.own,HS9.out.wd.len⟩).mono ?_;rintro e w10 ⟨rfl,rfl⟩;obtain⟨ov,hov⟩:∃ov,r'.over=ov:=⟨_,rfl⟩;rw[hov];have HOV:=zh hov;clear hov
   cases ov
   . have HRN:=zh HS9.out.run;have HEV:=zh HS9.out.ev;have HO:=zh HS9.out.only;have c14:w10.cell? ⟨B,14,none⟩=some (.int .i64 r'.acc.k):=HRN.out.cell_ (i:=14) rfl;have c15:w10.cell? ⟨B,15,none⟩=some (.int .i64 r'.acc.c):=HRN.out.cell_ (i:=15) rfl;have c16:w10.cell? ⟨B,16,none⟩=some (.int .u32 r'.acc.x):=HRN.out.cell_ (i:=16) rfl;have c17:w10.cell? ⟨B,17,none⟩=some (.int .u32 r'.acc.y):=HRN.out.cell_ (i:=17) rfl;have c18:w10.cell? ⟨B,18,none⟩=some (.int .u32 r'.acc.o):=HRN.out.cell_ (i:=18) rfl;go_wp2_with (refine qn rfl 36 (.tmp 6) (.tmp 104) rfl br br HEV.out kr (Nat.le_refl 7) kr ?_);rw[zb br];have eE:=(Only.refl (· =E) w10).setRow (g:=E) (.inr rfl) (zg true r'.acc (.slice A9 n9 c9));refine qv results24 br (HEV.out.setRow _) underlying36 rfl kr rfl ⟨(.slice A9 n9 c9),rfl,?_,HO.out.setRow (.inl HEL.out) _,?_⟩
     . rw[show kn t r' told=told++r'.ns by unfold kn;rw[HOV.out];exact if_neg Bool.false_ne_true];exact OwnN.farE (jg HV9.out (Nat.zero_le _)) HEV.out eE
     . rw[show m.put t r'=m.setR t r' by unfold MV.put;rw[HOV.out];exact if_neg Bool.false_ne_true];exact HS9.out.wd.farE HEV.out eE
   . have b4:w10.cell? ⟨B,4,none⟩=some (.int .i64 r'.op):=HS9.out.run.cell_ (i:=4) rfl;have b13:w10.cell? ⟨B,13,none⟩=some (.int .i64 r'.ret):=HS9.out.run.cell_ (i:=13) rfl
     go_upto_region 7 with(fail)
     go_quiet (fail)
     go_upto_region 8 with(fail)
     generalize hw11:w10.drewN _=w11;have e10:Only Nil w10 w11:=hw11▸(Only.refl Nil w10).drewN _;have HS10:=zh (HS9.out.keep e10);have HV10:=zh (OwnN.only HV9.out e10);have HZ10:=zh (Nat.le_trans HZ9.out e10.size);clear hw11 e10 HS9 HV9 HZ9 b4 b13;have e7:=(Only.refl Nil w11).alloc (.cells #[.int .i64 t,.int .i64 11,.int .i64 r'.op,.int .i64 r'.ret] 78);have HS11:=zh (HS10.out.keep e7);have HV11:=zh (OwnN.only HV10.out e7);have HU11:=zh (qbs (n:=⟨t,11,r'.op,r'.ret⟩) (Row.new w11 78 #[.int .i64 t,.int .i64 11,.int .i64 r'.op,.int .i64 r'.ret]));have HZ11:=zh (Nat.le_trans HZ10.out e7.size);clear e7 HS10 HV10 HZ10;go_wp2_with (at_builtin;go_loud (refine xu rfl (.tmp 74) (.tmp 79) rfl M _ (told++r'.ns) rfl HV11.out _ [⟨t,11,r'.op,r'.ret⟩] rfl HU11.out (by have h1:=HL.out;have h2:=HN.out.2.2.2.2.1;rw[List.length_append];omega) (show 1<=1000 by decide) HZ11.out ?_));intro v' w12 hv ho;obtain⟨A3,n3,c3,rfl⟩:=zu hv;have HS12:=zh (HS11.out.apart HV11.out HZ.out.1 HZ.out.2.1 HZ.out.2.2 ho);have HV12:=zh (jg hv (Nat.zero_le _));clear hv ho HS11 HV11 HU11 HZ11
     go_upto_region 9 with(fail)
     have a3:w12.cell? ⟨g,3,none⟩=some (.slice (some ⟨gt,0,none⟩) k k):=HS12.out.wd.row.cell_ (i:=3) rfl;have d0:w12.cell? ⟨gt,t*11,none⟩=some (.int .i64 (m.hold t)):=HS12.out.wd.tasks.cell HT.out 0 rfl;obtain⟨cs2,hcs2,hsz2,_⟩:=HS12.out.wd.tasks.row;have HC2:=zh hcs2
     have hsz3:t*11+11<=cs2.size:=by omega
     clear hcs2 hsz2
     go_still_tail 18,kr
     still_call ((qk7 _ _ _ _).mono (fun e w' ⟨h1,h2⟩=>⟨h1,h2.symm⟩))
     repeat still_step
     refine wpStill_nil ?_;obtain⟨x,hx⟩:∃x,kj r'.op r'.ret (m.hold t)=x:=⟨_,rfl⟩;rw[hx];have HX9:=zh hx;clear hx
     go_upto_region 10 with(refine qn rfl 74 (.tmp 98) (.tmp 97) rfl br br HC2.out kr hsz3 kr ?_)
     have HD:=zh (HS12.out.keep (Only.refl Nil w12).drew);have eg:=(Only.refl (· =gt) (World.mk w12.heap w12.tape (w12.drawn+1) w12.os w12.output)).setRow (g:=gt) (.inr rfl) (vb cs2 (t*11) (zl x (jt r' 0)).toList);have HWD:=zh (show RWd ((World.mk w12.heap w12.tape (w12.drawn+1) w12.os w12.output).setRow gt (vb cs2 (t*11) (zl x (jt r' 0)).toList)) g gt base A l cp kind mode k ⟨upd (m.setR t r').rs t (jt r' 0),upd (m.setR t r').hold t x,(m.setR t r').xs⟩from HD.out.wd.putT HT.out HC2.out.drew x (jt r' 0));have HO:=zh (HD.out.only.trans (eg.mono (T:=qw gt A) (fun _ _ h=> .inl h)));have HEV:=zh (HD.out.ev.only eg (qh HD.out.ev HC2.out.drew dc));have HRN:=zh (HD.out.run.only eg (qh HD.out.run HC2.out.drew dc))
     have HV:=zh (qx (OwnN.only HV12.out (Only.refl Nil w12).drew) eg (fun i hi e=>by
      obtain⟨cur,hc⟩:=zw HV12.out hi
      exact qh hc HC2.out dc e))
     clear eg HD HS12 HV12 HC2 hsz3 a3 d0;rw[show(zl x (jt r' 0)).toList=[.int .i64 x,.int .i64 0,.int .i64 0,.int .u32 0,.int .u32 0,.int .i64 0,.bool false,.int .i64 0,.int .i64 0,.bool false,.int .i64 0]from rfl]at *;generalize (World.mk w12.heap w12.tape (w12.drawn+1) w12.os w12.output).setRow gt _=w13 at *;have c14:w13.cell? ⟨B,14,none⟩=some (.int .i64 r'.acc.k):=HRN.out.cell_ (i:=14) rfl;have c15:w13.cell? ⟨B,15,none⟩=some (.int .i64 r'.acc.c):=HRN.out.cell_ (i:=15) rfl;have c16:w13.cell? ⟨B,16,none⟩=some (.int .u32 r'.acc.x):=HRN.out.cell_ (i:=16) rfl;have c17:w13.cell? ⟨B,17,none⟩=some (.int .u32 r'.acc.y):=HRN.out.cell_ (i:=17) rfl;have c18:w13.cell? ⟨B,18,none⟩=some (.int .u32 r'.acc.o):=HRN.out.cell_ (i:=18) rfl;go_wp2_with (refine qn rfl 36 (.tmp 6) (.tmp 104) rfl br br HEV.out kr (Nat.le_refl 7) kr ?_);rw[zb br];have eE:=(Only.refl (· =E) w13).setRow (g:=E) (.inr rfl) (zg true r'.acc (.slice A3 n3 c3));refine qv results24 br (HEV.out.setRow _) underlying36 rfl kr rfl ⟨(.slice A3 n3 c3),rfl,?_,HO.out.setRow (.inl HEL.out) _,?_⟩
     . rw[show kn t r' told=told++(r'.ns++[⟨t,11,r'.op,r'.ret⟩]) by unfold kn;rw[HOV.out];exact(if_pos rfl).trans (List.append_assoc _ _ _)];exact OwnN.farE HV.out HEV.out eE
     . rw[show m.put t r'=((m.setR t r').setH t x).setR t (jt r' 0) by unfold MV.put;rw[HOV.out,HX9.out];exact if_pos rfl];exact HWD.out.farE HEV.out eE
end Go.Proofs.YtgebffjejifidaaGreat
