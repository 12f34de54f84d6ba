import Derived.StillTailTactics
import Derived.Deep.Cut
import Derived.Deep.Slices
import Derived.Deep.Fields
import Derived.ChangeSame
import Derived.Test.YtgebffjejifidaaGreatChecked
import Derived.Laws.OwnMore
import Derived.Test.YtgebffjejifidaaGreatG5
import Derived.Test.YtgebffjejifidaaGreatG10
import Derived.Test.YtgebffjejifidaaGreatG1
import Derived.Test.YtgebffjejifidaaGreatG2
import Derived.Test.YtgebffjejifidaaGreatG6
set_option linter.unusedVariables false
set_option linter.unusedSimpArgs false
set_option maxHeartbeats 2000000
set_option maxRecDepth 100000
namespace Go.Proofs.YtgebffjejifidaaGreat
open Go.RowKit Tryz
def xs0(kind:Int)(k:Nat)(b:Int):List Int:=words kind (8+4*k) (qa8 kind).size b
def mv0(kind mode:Int)(k:Nat)(b:Int):MV:=⟨fun t=>zaa k mode t 0 (xs0 kind k b),fun _=>0,xs0 kind k b⟩
theorem qom(k:Int)(c:Nat){b:Int}(hb:Wrd b):Wrd (vf k c b):=by
 unfold Wrd at *;unfold vf
 repeat' split
 all_goals first|exact hb|omega
theorem qsh{kind mode:Int}{k:Nat}{b:Int}(hb:Wrd b):WdI mode k (mv0 kind mode k b):=by
 refine⟨qdu _ _ _ _,fun n hn=> ?_,fun t ht=>⟨rfl,rfl,rfl,xk,xk,⟨show(0:Int)<=0 by decide,show(0:Int)<=2 by decide⟩,show(0:Int)<=0 by decide,show(0:Int)<=8 by decide⟩,fun t ht=> .inl rfl,fun t ht _=>rfl⟩;have hn':n∈words kind (8+4*k) (qa8 kind).size b:=hn;unfold words at hn';obtain⟨j,_,rfl⟩:=List.mem_map.1 hn';split
 . have:=qom kind j hb;exact qnj this.1 this.2
 . exact qnj dc dc
def zbt(W:World)(kind mode:Int)(k:Nat)(m:MV)(e:Ending)(w':World):Prop:=
 ∃g gt b A cp,e= .returned (.tuple #[.pointer (some ⟨g,0,none⟩),.int .i64 0])/\WdP w' g gt b A cp kind mode k m/\Only Nil W w'/\W.heap.size<=g/\W.heap.size<=gt/\W.heap.size<=b/\∀j,At A j->W.heap.size<=j
def qjj(W:World)(er:Int)(e:Ending)(w':World):Prop:=e= .returned (.tuple #[.pointer none,.int .i64 er])/\Only Nil W w'
theorem qfb{kind:Int}(hk:1<=kind/\kind<=6):∃F,qbi kind= .func (.func F) #[] #[]:=by
 have hc:kind=1\/kind=2\/kind=3\/kind=4\/kind=5\/kind=6:=by omega
 rcases hc with rfl|rfl|rfl|rfl|rfl|rfl<;>exact⟨_,rfl⟩
theorem qoi{kind:Int}(hk:¬(1<=kind/\kind<=6)):qbi kind= .nilFunc:=by
 unfold qbi;rw[if_neg om,if_neg om,if_neg om,if_neg om,if_neg om,if_neg om]
theorem qou(kind mode n b:Int)(W:World)(hk:¬(1<=kind/\kind<=6)):
 Calls prog 4 #[.int .i64 kind,.int .i64 mode,.int .i64 n,.int .u32 b] W (qjj W 3):=by
 have HL:=zh (qcd kind);rw[decide_eq_false hk,qoi hk]at HL;clear hk;go_enter func4, ntmps4;go_wp2_with fail;refine(HL.out _).mono ?_;rintro e w1 ⟨rfl,rfl⟩;clear HL;go_wp2
 go_ret2
 exact⟨rfl,Only.refl _ _⟩
theorem qoa(kind mode n b:Int)(W:World)(hk:1<=kind/\kind<=6)(hm:¬(mode=1\/mode=2)):
 Calls prog 4 #[.int .i64 kind,.int .i64 mode,.int .i64 n,.int .u32 b] W (qjj W 1):=by
 have HL:=zh (qcd kind);obtain⟨F,hF⟩:=qfb hk;rw[decide_eq_true hk,hF]at HL;have h1:(mode !=1)=true:=bne_iff_ne.2 fun h=>hm (.inl h);have h2:(mode !=2)=true:=bne_iff_ne.2 fun h=>hm (.inr h);clear hk hm hF;go_enter func4, ntmps4;go_wp2_with fail;refine(HL.out _).mono ?_;rintro e w1 ⟨rfl,rfl⟩;clear HL;go_wp2
 go_ret2
 exact⟨rfl,Only.refl _ _⟩
theorem zar(kind mode n b:Int)(W:World)(hk:1<=kind/\kind<=6)(hm:mode=1\/mode=2)(hn:¬(1<=n/\n<=64)):
 Calls prog 4 #[.int .i64 kind,.int .i64 mode,.int .i64 n,.int .u32 b] W (qjj W 2):=by
 have HL:=zh (qcd kind);obtain⟨F,hF⟩:=qfb hk;rw[decide_eq_true hk,hF]at HL;have HK:=zh hk;have HN:=zh hn;clear hk hn hF;rcases hm with rfl|rfl
 all_goals
  go_enter func4, ntmps4;go_wp2_with fail;refine(HL.out _).mono ?_;rintro e w1 ⟨rfl,rfl⟩;clear HL;go_wp2_with fail;refine(qmm kind n b _ HK.out HN.out).mono ?_;rintro e w2 ⟨rfl,hO⟩;have HO:=zh hO;clear hO;go_wp2
  go_ret2
  exact⟨rfl,HO.out⟩
theorem qkb(kind mode b:Int)(k:Nat)(W:World)(hk:1<=kind/\kind<=6)(hm:mode=1\/mode=2)(hn:1<=k/\k<=64)(hb:0<=b/\b<4294967296):
 Calls prog 4 #[.int .i64 kind,.int .i64 mode,.int .i64 k,.int .u32 b] W (zbt W kind mode k (mv0 kind mode k b)):=by
 have HL:=zh (qcd kind);obtain⟨F,hF⟩:=qfb hk;rw[decide_eq_true hk,hF]at HL;have HF:=zh hF;have hs:xy k=8+4*k:=if_pos om;have HFI:=zh (show ∀w,Calls _ _ _ w _ from fun w=>qpt kind k b (8+4*k) w hk om (by rw[hs];omega) hb);have HPN:=zh (show ∀w,Calls _ _ _ w _ from fun w=>qo3 (k:Int) w om);have HKK:=zh (show 8+4*k<=264 by omega);have hmk:=fun W=>qf7 k hn.2 W
 have q0:¬(k:Int)<0:=by omega
 clear hs hk hn hb hF;rcases hm with rfl|rfl
 . go_enter func4, ntmps4;go_wp2_with fail;refine(HL.out _).mono ?_;rintro e w1 ⟨rfl,rfl⟩;clear HL;go_wp2_with fail;refine(HFI.out _).mono ?_;rintro e w2 ⟨gl,rfl,hg,hR,hO⟩;have HL2:=zh (And.intro hg (And.intro hR hO));clear hg hR hO HFI;go_wp2_with fail;refine(HPN.out _).mono ?_;rintro e w3 ⟨rfl,hO⟩;have HO3:=zh hO;clear hO HPN;have e3:=(Only.refl Nil w3).alloc (.cells #[.int .i64 k] 50);go_wp2_with fail;have hlen:(xs0 kind k b).length=8+4*k:=qdu _ _ _ _;have hown:Own (w3.alloc (.cells #[.int .i64 k] 50)) 0 (some ⟨gl,0,none⟩) (xs0 kind k b).length (xs0 kind k b):=Own.row_ (xs:=xs0 kind k b) ((HL2.out.2.1.only HO3.out id).only e3 id) (by have:=HKK.out;omega) (Nat.zero_le _);have hheld:=hown.held;rw[hlen]at hheld;refine(qnw _ _ _ (xs0 kind k b) _ (by have:=HKK.out;omega) hheld).mono ?_;rintro e w4 ⟨bm,A',cp',rfl,hb,hA,hM,hO⟩;have HM:=zh hM;have HO4:=zh ((HL2.out.2.2.trans HO3.out).trans (e3.trans hO));have HS4:=zh (show W.heap.size<=(w3.alloc (.cells #[.int .i64 k] 50)).heap.size from((HL2.out.2.2.trans HO3.out).trans e3).size);have HB:=zh (And.intro (Nat.le_trans HS4.out hb) (fun j hj=>Nat.le_trans HS4.out (hA j hj)));have HMP:=zh ((Row.new w3 50 #[.int .i64 k]).only hO id);clear hlen hown hheld e3 hb hA hM hO HS4 HL2 HO3;generalize w3.heap.size=M at *;have m0:w4.cell? ⟨M,0,none⟩=some (.int .i64 k):=HMP.out.cell_ (i:=0) rfl
   go_upto_region 11 with(fail)
   refine qb (n:=11) 8 (fun w=>w.cell? ⟨M,0,none⟩=some (.int .i64 k)) rfl kr m0 (fun hHeld=> ?_);have HM5:=zh (HM.out.only (Only.refl Nil w4).drew id (fun _ _=>id));have HO5:=zh HO4.out.drew;have HMP5:=zh HMP.out.drew;have HZ5:=zh (show W.heap.size<=w4.drew.heap.size from HO4.out.size);clear HM HO4 HMP m0;generalize w4.drew=w5 at *;refine za 0 rfl ?_;refine za 1 rfl ?_;refine za 2 rfl ?_;refine za 3 rfl ?_;refine zt 4 rfl ?_;refine za 5 rfl ?_;refine mpc 6 rfl kr br (fun K hK=> ?_);go_simp;have e6:=(Only.refl Nil w5).alloc (.cells (madeCells jb (k*11)) 74);have hH6:(w5.alloc (.cells (madeCells jb (k*11)) 74)).cell? ⟨M,0,none⟩=some (.int .i64 k):=(HMP5.out.only e6 id).cell_ (i:=0) rfl;have HT6:=zh (show Tasks (w5.alloc (.cells (madeCells jb (k*11)) 74)) w5.heap.size k (fun _=>0) (fun t=>zaa k 1 t 0 (xs0 kind k b))from qco (fun i hi=>rfl) (Row.new w5 74 _));have HM6:=zh (HM5.out.only e6 id (fun _ _=>id));have HO6:=zh (HO5.out.trans e6);have HZ6:=zh (Nat.le_trans HZ5.out (Nat.le_succ _));refine hK.out _ _ (.inr hH6) ?_;clear hK K hHeld HM5 HO5 HMP5 e6 hmk;have HZZ:=zh (show ∀V:World,V=w5->V.heap.size<=w5.heap.size from fun _ h=>h▸Nat.le_refl _);generalize w5.alloc _=w6 at *;generalize w5.heap.size=GT at *;refine za 7 rfl ?_;refine mpc 8 rfl kr br (fun K hK=> ?_);go_simp;have e8:=(Only.refl Nil w6).alloc (.cells #[.int .i64 kind,.int .i64 1,.func (.func F) #[] #[],.pointer (some ⟨bm,0,none⟩),.int .i64 k,.slice (some ⟨GT,0,none⟩) k k] 58);have HWW:=zh (show WdP (w6.alloc (.cells #[.int .i64 kind,.int .i64 1,.func (.func F) #[] #[],.pointer (some ⟨bm,0,none⟩),.int .i64 k,.slice (some ⟨GT,0,none⟩) k k] 58)) w6.heap.size GT bm A' cp' kind 1 k (mv0 kind 1 k b)from⟨by unfold qzm;rw[HF.out];exact Row.new w6 _ _,HM6.out.only e8 id (fun _ _=>id),HT6.out.only e8 id⟩);have HO8:=zh (HO6.out.trans e8);refine hK.out _ _ (.inl kr) ?_;clear hK K hH6 HM6 HT6 e8;generalize w6.alloc _=w8 at *;have HL8:=zh HO6.out.size;generalize w6.heap.size=G8 at *;refine za 9 rfl ?_;refine za 10 rfl ?_;refine qc kr ?_ _;go_wp2
   go_ret2
   exact⟨G8,GT,bm,A',cp',rfl,HWW.out,HO8.out,HL8.out,HZ5.out,HB.out.1,HB.out.2⟩
 . go_enter func4, ntmps4;go_wp2_with fail;refine(HL.out _).mono ?_;rintro e w1 ⟨rfl,rfl⟩;clear HL;go_wp2_with fail;refine(HFI.out _).mono ?_;rintro e w2 ⟨gl,rfl,hg,hR,hO⟩;have HL2:=zh (And.intro hg (And.intro hR hO));clear hg hR hO HFI;go_wp2_with fail;refine(HPN.out _).mono ?_;rintro e w3 ⟨rfl,hO⟩;have HO3:=zh hO;clear hO HPN;have e3:=(Only.refl Nil w3).alloc (.cells #[.int .i64 k] 50);go_wp2_with fail;have hlen:(xs0 kind k b).length=8+4*k:=qdu _ _ _ _;have hown:Own (w3.alloc (.cells #[.int .i64 k] 50)) 0 (some ⟨gl,0,none⟩) (xs0 kind k b).length (xs0 kind k b):=Own.row_ (xs:=xs0 kind k b) ((HL2.out.2.1.only HO3.out id).only e3 id) (by have:=HKK.out;omega) (Nat.zero_le _);have hheld:=hown.held;rw[hlen]at hheld;refine(qnw _ _ _ (xs0 kind k b) _ (by have:=HKK.out;omega) hheld).mono ?_;rintro e w4 ⟨bm,A',cp',rfl,hb,hA,hM,hO⟩;have HM:=zh hM;have HO4:=zh ((HL2.out.2.2.trans HO3.out).trans (e3.trans hO));have HS4:=zh (show W.heap.size<=(w3.alloc (.cells #[.int .i64 k] 50)).heap.size from((HL2.out.2.2.trans HO3.out).trans e3).size);have HB:=zh (And.intro (Nat.le_trans HS4.out hb) (fun j hj=>Nat.le_trans HS4.out (hA j hj)));have HMP:=zh ((Row.new w3 50 #[.int .i64 k]).only hO id);clear hlen hown hheld e3 hb hA hM hO HS4 HL2 HO3;generalize w3.heap.size=M at *;have m0:w4.cell? ⟨M,0,none⟩=some (.int .i64 k):=HMP.out.cell_ (i:=0) rfl
   go_upto_region 11 with(fail)
   refine qb (n:=11) 8 (fun w=>w.cell? ⟨M,0,none⟩=some (.int .i64 k)) rfl kr m0 (fun hHeld=> ?_);have HM5:=zh (HM.out.only (Only.refl Nil w4).drew id (fun _ _=>id));have HO5:=zh HO4.out.drew;have HMP5:=zh HMP.out.drew;have HZ5:=zh (show W.heap.size<=w4.drew.heap.size from HO4.out.size);clear HM HO4 HMP m0;generalize w4.drew=w5 at *;refine za 0 rfl ?_;refine za 1 rfl ?_;refine za 2 rfl ?_;refine za 3 rfl ?_;refine zt 4 rfl ?_;refine za 5 rfl ?_;refine mpc 6 rfl kr br (fun K hK=> ?_);go_simp;have e6:=(Only.refl Nil w5).alloc (.cells (madeCells jb (k*11)) 74);have hH6:(w5.alloc (.cells (madeCells jb (k*11)) 74)).cell? ⟨M,0,none⟩=some (.int .i64 k):=(HMP5.out.only e6 id).cell_ (i:=0) rfl;have HT6:=zh (show Tasks (w5.alloc (.cells (madeCells jb (k*11)) 74)) w5.heap.size k (fun _=>0) (fun t=>zaa k 2 t 0 (xs0 kind k b))from qco (fun i hi=>rfl) (Row.new w5 74 _));have HM6:=zh (HM5.out.only e6 id (fun _ _=>id));have HO6:=zh (HO5.out.trans e6);have HZ6:=zh (Nat.le_trans HZ5.out (Nat.le_succ _));refine hK.out _ _ (.inr hH6) ?_;clear hK K hHeld HM5 HO5 HMP5 e6 hmk;have HZZ:=zh (show ∀V:World,V=w5->V.heap.size<=w5.heap.size from fun _ h=>h▸Nat.le_refl _);generalize w5.alloc _=w6 at *;generalize w5.heap.size=GT at *;refine za 7 rfl ?_;refine mpc 8 rfl kr br (fun K hK=> ?_);go_simp;have e8:=(Only.refl Nil w6).alloc (.cells #[.int .i64 kind,.int .i64 2,.func (.func F) #[] #[],.pointer (some ⟨bm,0,none⟩),.int .i64 k,.slice (some ⟨GT,0,none⟩) k k] 58);have HWW:=zh (show WdP (w6.alloc (.cells #[.int .i64 kind,.int .i64 2,.func (.func F) #[] #[],.pointer (some ⟨bm,0,none⟩),.int .i64 k,.slice (some ⟨GT,0,none⟩) k k] 58)) w6.heap.size GT bm A' cp' kind 2 k (mv0 kind 2 k b)from⟨by unfold qzm;rw[HF.out];exact Row.new w6 _ _,HM6.out.only e8 id (fun _ _=>id),HT6.out.only e8 id⟩);have HO8:=zh (HO6.out.trans e8);refine hK.out _ _ (.inl kr) ?_;clear hK K hH6 HM6 HT6 e8;generalize w6.alloc _=w8 at *;have HL8:=zh HO6.out.size;generalize w6.heap.size=G8 at *;refine za 9 rfl ?_;refine za 10 rfl ?_;refine qc kr ?_ _;go_wp2
   go_ret2
   exact⟨G8,GT,bm,A',cp',rfl,HWW.out,HO8.out,HL8.out,HZ5.out,HB.out.1,HB.out.2⟩
theorem qcy(g gt b:Nat)(A:Option Addr)(cp:Nat)(kind mode:Int)(k:Nat)(m:MV)(t:Int)(w:World)(h:WdP w g gt b A cp kind mode k m):
 Calls prog 18 #[.pointer (some ⟨g,0,none⟩),.int .i64 t] w fun e w'=>e= .returned (.int .i64 (if 0<=t/\t<k then m.hold t.toNat else 0))/\w=w':=by
 by_cases ht:0<=t/\t<k
 . rw[if_pos ht];obtain⟨i,rfl⟩:∃i:Nat,t=i:=⟨t.toNat,om⟩;rw[show(i:Int).toNat=i from rfl]
   have hi:i<k:=by omega
   have a5:w.cell? ⟨g,5,none⟩=some (.slice (some ⟨gt,0,none⟩) k k):=h.row.cell_ (i:=5) rfl;have d0:w.cell? ⟨gt,i*11,none⟩=some (.int .i64 (m.hold i)):=h.tasks.cell hi 0 rfl;have HH:=zh (kk g gt b A cp kind mode k m i w h);rw[decide_eq_true ht]at HH
   have q2:(i:Int)<k:=by omega
   have q3:(0:Int)<=i:=by omega
   have q4:(i:Int).toNat=i:=rfl;clear h ht;go_enter func18, ntmps18;go_wp2_with fail;refine HH.out.mono ?_;rintro e w1 ⟨rfl,rfl⟩;go_wp2;go_ret;exact⟨rfl,rfl⟩
 . rw[if_neg ht];have HH:=zh (kk g gt b A cp kind mode k m t w h);rw[decide_eq_false ht]at HH;clear h ht;go_enter func18, ntmps18;go_wp2_with fail;refine HH.out.mono ?_;rintro e w1 ⟨rfl,rfl⟩;go_wp2;go_ret;exact⟨rfl,rfl⟩
theorem qms(g gt b:Nat)(A:Option Addr)(cp:Nat)(kind mode:Int)(k:Nat)(m:MV)(t:Int)(w:World)(h:WdP w g gt b A cp kind mode k m):
 Calls prog 32 #[.pointer (some ⟨g,0,none⟩),.int .i64 t] w fun e w'=>e= .returned (.int .i64 (if 0<=t/\t<k then(m.rs t.toNat).op else 0))/\w=w':=by
 by_cases ht:0<=t/\t<k
 . rw[if_pos ht];obtain⟨i,rfl⟩:∃i:Nat,t=i:=⟨t.toNat,om⟩;rw[show(i:Int).toNat=i from rfl]
   have hi:i<k:=by omega
   have a5:w.cell? ⟨g,5,none⟩=some (.slice (some ⟨gt,0,none⟩) k k):=h.row.cell_ (i:=5) rfl;have d0:w.cell? ⟨gt,i*11+1,none⟩=some (.int .i64 ((m.rs i).op)):=h.tasks.cell hi 1 rfl;have HH:=zh (kk g gt b A cp kind mode k m i w h);rw[decide_eq_true ht]at HH
   have q2:(i:Int)<k:=by omega
   have q3:(0:Int)<=i:=by omega
   have q4:(i:Int).toNat=i:=rfl;clear h ht;go_enter func32, ntmps32;go_wp2_with fail;refine HH.out.mono ?_;rintro e w1 ⟨rfl,rfl⟩;go_wp2;go_ret;exact⟨rfl,rfl⟩
 . rw[if_neg ht];have HH:=zh (kk g gt b A cp kind mode k m t w h);rw[decide_eq_false ht]at HH;clear h ht;go_enter func32, ntmps32;go_wp2_with fail;refine HH.out.mono ?_;rintro e w1 ⟨rfl,rfl⟩;go_wp2;go_ret;exact⟨rfl,rfl⟩
open Go.RowKit Go.ChangeShapes Go.WideShapes Go.Deep
section
variable{H:Type}{enc:TypeId × Value->H}{P:Program}{w:World}{base:Nat}{spare:Nat->Bool}{held:Bool}
theorem qsa{t e:TypeId}{fs:Array Field}{fuel len cap:Nat}{A:Option Addr}{x:DataW H × List MemPlace}(ht:P.underlying t=some (.slice e))(he:P.underlying e=some (.struct fs))
 (hone:oneCellFields P fs=true) (hC:P.cellsOf e=fs.size) (h0:0<fs.size) (h:DataW.trod enc P w base spare held fuel t [.slice A len cap]=some x):
 ∀i,i<len->∃b o,A=some ⟨b,o,none⟩/\b<w.heap.size/\∀j f,fs[j]? =some f->∃v n y,w.cell? ⟨b,o+(i*fs.size+j),none⟩=some v/\DataW.trod enc P w base spare held n f.type [v]=some y:=by
 intro i hi;rcases open_slice ht h with⟨hcs,_⟩|⟨a,len',cap',m,n,D,Pl,hcs,_,hl,_,hmm,_,hrow⟩
 . simp only[List.cons.injEq,Value.slice.injEq]at hcs;omega
 . simp only[List.cons.injEq,Value.slice.injEq,and_true]at hcs;obtain⟨rfl,rfl,rfl⟩:=hcs
   have him:i<m:=by rw[hmm];split<;>omega
   obtain⟨cs,hc,hy⟩:=hrow i him;rw[hC]at hc;obtain⟨_,hlen,hat⟩:=World.cells?_some hc;obtain⟨ys,k,_,_,_,hyl,hf⟩:=DataW.trod_struct he hy
   have hcell:∀j,j<fs.size->∃v,cs[j]? =some v/\w.cell? (a.add (i*fs.size+j))=some v:=by
    intro j hj;have hv:cs[j]? =some (cs[j]' om):=List.getElem?_eq_getElem om;exact⟨_,hv,by rw[←Go.Deep.add_add,hat j hj,hv]⟩
   obtain⟨b,o,spot⟩:=a
   have hspot:spot=none:=by
    obtain⟨cs0,hc0,_⟩:=hrow 0 om;rw[hC]at hc0;obtain⟨_,hlen0,hat0⟩:=World.cells?_some hc0;have e:=hat0 0 h0;have hv:cs0[0]? =some (cs0[0]' om):=List.getElem?_eq_getElem om;rw[hv]at e
    simpa [Addr.add] using World.cell?_spot e
   subst hspot;refine⟨b,o,rfl,?_,fun j f hj=> ?_⟩
   . obtain⟨v,_,hv⟩:=hcell 0 h0;have:=World.block_lt_of_cell? w _ hv
     rwa [qpu]at this
   . have hjl:j<fs.size:=(Array.getElem?_eq_some_iff.1 hj).1;obtain⟨ho,hk⟩:=hone_of hone j f hj;obtain⟨v,hv,hcv⟩:=hcell j hjl;have h1:=hf j f hj;rw[ho,hk,List.drop_eq_getElem_cons om]at h1;have hys:ys[j]? =some (ys[j]' om):=List.getElem?_eq_getElem om;rw[List.getElem?_eq_getElem om]at hv;injection hv with hv;rw[hv]at h1;refine⟨v,k,_,by rw[←qe0];exact hcv,h1.trans hys⟩
end
def qf0(w:World)(A:Option Addr)(len:Nat):Prop:=∀i,i<len->∃b q t o,A=some ⟨b,q,none⟩/\b<w.heap.size/\
 w.cell? ⟨b,q+i*2,none⟩=some (.int .i64 t)/\w.cell? ⟨b,q+i*2+1,none⟩=some (.int .i64 o)
theorem qmd{H:Type}{enc:TypeId × Value->H}{w:World}{base:Nat}{spare:Nat->Bool}{held:Bool}{fuel len cap:Nat}{A:Option Addr}{x:DataW H × List MemPlace}
 (h:DataW.trod enc prog w base spare held fuel 23 [.slice A len cap]=some x):qf0 w A len:=by
 intro i hi;obtain⟨b,o,hA,hb,hf⟩:=qsa underlying23 underlying39 kr kr dc h i hi;obtain⟨v0,n0,y0,c0,t0⟩:=hf 0 _ rfl;obtain⟨v1,n1,y1,c1,t1⟩:=hf 1 _ rfl;obtain⟨z0,e0,_,wz0⟩:=DataW.trod_int underlying3 t0;obtain⟨z1,e1,_,wz⟩:=DataW.trod_int underlying3 t1;simp only[List.cons.injEq,and_true]at e0 e1;subst e0 e1;exact⟨b,o,z0,z1,hA,hb,c0,c1⟩
structure RWd(W:World)(g gt base:Nat)(A:Option Addr)(l cp:Nat)(kind mode:Int)(k:Nat)(m:MV):Prop where
 row:Row W g 63 #[.int .i64 kind,.int .i64 mode,.slice A l cp,.slice (some ⟨gt,0,none⟩) k k]
 own:Own W base A cp m.xs
 len:m.xs.length=l
 words:Words m.xs
 tasks:Tasks W gt k m.hold m.rs
theorem RWd.keep{W W':World}{g gt base:Nat}{A:Option Addr}{l cp:Nat}{kind mode:Int}{k:Nat}{m:MV}(h:RWd W g gt base A l cp kind mode k m)(ho:Only Nil W W'):RWd W' g gt base A l cp kind mode k m:=
 ⟨h.row.only ho id,h.own.only ho (fun _ _=>id),h.len,h.words,h.tasks.only ho id⟩
theorem yj(n:Int)(w:World):
 Calls prog 46 #[.int .i64 n] w fun e w'=>e= .returned (.int .i64 (xy n))/\w=w':=by
 by_cases h1:1<=n
 . by_cases h2:n<=64
   . have hc:xy n=8+4*n:=if_pos ⟨h1,h2⟩;rw[hc];clear hc;go_enter func46, ntmps46;go_wp2;go_ret;exact⟨rfl,rfl⟩
   . have hc:xy n=0:=if_neg (fun h=>h2 h.2);rw[hc];clear hc;go_enter func46, ntmps46;go_wp2;go_ret;exact⟨rfl,rfl⟩
 . have hc:xy n=0:=if_neg (fun h=>h1 h.1);rw[hc];clear hc;go_enter func46, ntmps46;go_wp2;go_ret;exact⟨rfl,rfl⟩
theorem kz(k:Int)(w:World)(hk:1<=k/\k<=6):Calls prog 45 #[.int .i64 k] w (qnp k w):=by
 rcases qen hk with rfl|rfl|rfl|rfl|rfl|rfl
 all_goals
  clear hk;go_enter func45, ntmps45;go_wp2;go_ret;exact⟨w.heap.size,rfl,Nat.le_refl _,Row.new _ _ _,(Only.refl _ _).alloc _⟩
theorem qgq(k n b:Int)(w:World)(hk:1<=k/\k<=6)(hn:¬(1<=n/\n<=64)):
 Calls prog 16 #[.int .i64 k,.int .i64 n,.int .u32 b] w fun e w'=>e= .returned (.tuple #[.slice none 0 0,.int .i64 2])/\Only Nil w w':=by
 have HK:=zh hk;have HZ:=zh (show xy n=0 from if_neg hn);clear hk hn;go_enter func16, ntmps16;go_wp2_with fail;refine(kz k _ HK.out).mono ?_;intro e w1 hF;obtain⟨gn,rfl,hgn,hR,hO⟩:=hF;have HL:=zh (qk4 k HK.out);generalize (qa8 k).size=L at *;have l1:=HL.out.1;have HO1:=zh hO;clear hR hO hgn;go_wp2_with fail;refine(yj n _).mono ?_;rw[HZ.out];rintro e w2 ⟨rfl,rfl⟩;go_wp2
 go_ret2
 exact⟨rfl,HO1.out⟩
theorem qba(k:Int)(S c:Nat)(b:Int)(h:vf k c b=0):words k S (c+1) b=words k S c b:=by
 unfold words;apply List.map_congr_left;intro j _
 by_cases h1:j<c
 . rw[if_pos h1,if_pos om]
 . by_cases h2:j=c
   . subst h2;rw[if_pos om,if_neg om,h]
   . rw[if_neg om,if_neg h1]
theorem qd7(S j:Nat)(h:j<S):(madeCells #[.int .u32 0] S)[j]? =some (.int .u32 0):=by
 rw[←Array.getElem?_toList,toList_madeCells_one,List.getElem?_replicate,if_pos h]
theorem zcn(S:Nat)(b:Int):(((madeCells #[.int .u32 0] S).setIfInBounds 0 (.int .u32 (b))).setIfInBounds 1 (.int .u32 (b))).setIfInBounds 2 (.int .u32 (b))=cellsOf (words 1 S 3 b):=by
 rw[qbg 1 S b];have e0:(cellsOf (words 1 S 0 b)).setIfInBounds 0 (.int .u32 (b))=cellsOf (words 1 S 1 b):=yo 1 S 0 b;have e1:(cellsOf (words 1 S 1 b)).setIfInBounds 1 (.int .u32 (b))=cellsOf (words 1 S 2 b):=yo 1 S 1 b;have e2:(cellsOf (words 1 S 2 b)).setIfInBounds 2 (.int .u32 (b))=cellsOf (words 1 S 3 b):=yo 1 S 2 b;rw[e0,e1,e2]
theorem zcg(S:Nat)(b:Int):(((((madeCells #[.int .u32 0] S).setIfInBounds 0 (.int .u32 (b*256%4294967296))).setIfInBounds 1 (.int .u32 (b*256%4294967296))).setIfInBounds 2 (.int .u32 (b))).setIfInBounds 3 (.int .u32 (b))).setIfInBounds 4 (.int .u32 (b))=cellsOf (words 2 S 5 b):=by
 rw[qbg 2 S b];have e0:(cellsOf (words 2 S 0 b)).setIfInBounds 0 (.int .u32 (b*256%4294967296))=cellsOf (words 2 S 1 b):=yo 2 S 0 b;have e1:(cellsOf (words 2 S 1 b)).setIfInBounds 1 (.int .u32 (b*256%4294967296))=cellsOf (words 2 S 2 b):=yo 2 S 1 b;have e2:(cellsOf (words 2 S 2 b)).setIfInBounds 2 (.int .u32 (b))=cellsOf (words 2 S 3 b):=yo 2 S 2 b;have e3:(cellsOf (words 2 S 3 b)).setIfInBounds 3 (.int .u32 (b))=cellsOf (words 2 S 4 b):=yo 2 S 3 b;have e4:(cellsOf (words 2 S 4 b)).setIfInBounds 4 (.int .u32 (b))=cellsOf (words 2 S 5 b):=yo 2 S 4 b;rw[e0,e1,e2,e3,e4]
theorem zcq(S:Nat)(b:Int):(((madeCells #[.int .u32 0] S).setIfInBounds 0 (.int .u32 (b*256%4294967296))).setIfInBounds 1 (.int .u32 (b*256%4294967296))).setIfInBounds 3 (.int .u32 (b))=cellsOf (words 3 S 4 b):=by
 rw[qbg 3 S b];have e0:(cellsOf (words 3 S 0 b)).setIfInBounds 0 (.int .u32 (b*256%4294967296))=cellsOf (words 3 S 1 b):=yo 3 S 0 b;have e1:(cellsOf (words 3 S 1 b)).setIfInBounds 1 (.int .u32 (b*256%4294967296))=cellsOf (words 3 S 2 b):=yo 3 S 1 b;have e2:words 3 S 2 b=words 3 S 3 b:=(qba 3 S 2 b rfl).symm;have e3:(cellsOf (words 3 S 3 b)).setIfInBounds 3 (.int .u32 (b))=cellsOf (words 3 S 4 b):=yo 3 S 3 b;rw[e0,e1,e2,e3]
theorem zci(S:Nat)(b:Int):madeCells #[.int .u32 0] S=cellsOf (words 4 S 2 b):=by
 rw[qbg 4 S b];have e0:words 4 S 0 b=words 4 S 1 b:=(qba 4 S 0 b rfl).symm;have e1:words 4 S 1 b=words 4 S 2 b:=(qba 4 S 1 b rfl).symm;rw[e0,e1]
theorem zcj(S:Nat)(b:Int):madeCells #[.int .u32 0] S=cellsOf (words 5 S 1 b):=by
 rw[qbg 5 S b];have e0:words 5 S 0 b=words 5 S 1 b:=(qba 5 S 0 b rfl).symm;rw[e0]
theorem zcm(S:Nat)(b:Int):(madeCells #[.int .u32 0] S).setIfInBounds 0 (.int .u32 (b%256*256+b%256*65536))=cellsOf (words 6 S 1 b):=by
 rw[qbg 6 S b];have e0:(cellsOf (words 6 S 0 b)).setIfInBounds 0 (.int .u32 (b%256*256+b%256*65536))=cellsOf (words 6 S 1 b):=yo 6 S 0 b;rw[e0]
theorem qi6(k n b:Int)(S:Nat)(w:World)(hk:1<=k/\k<=6)(hn:1<=n/\n<=64)(hS:xy n=S)(hb:0<=b/\b<4294967296):
 Calls prog 16 #[.int .i64 k,.int .i64 n,.int .u32 b] w (qnq k b S w):=by
 have hz:xy n=8+4*n:=if_pos hn
 have s1:12<=S:=by omega
 have s2:S<=300:=by omega
 have HS:=zh hS;have HN:=zh hn;obtain⟨b1,b2⟩:=hb;clear hz hS hn;have hmk:=fun W=>run_make_row' (P:= prog) 46 22 (.int .u32 0) 4 underlying46 qyb rfl .i64 .i64 S om om W;have m0:=qd7 S 0 om;have m1:=qd7 S 1 om;have m2:=qd7 S 2 om;have m3:=qd7 S 3 om;have m4:=qd7 S 4 om
 have hz0:((S:Int)==0)=false:=by
  have:¬(S:Int)=0:=by omega
  simpa using this
 have hcase:=qen hk;rcases hcase with rfl|rfl|rfl|rfl|rfl|rfl
 . go_enter func16, ntmps16;go_wp2_with fail;refine(kz _ _ hk).mono ?_;intro e w1 hF;obtain⟨gn,rfl,hgn,hR,hO⟩:=hF;rw[show(qa8 1).size=3 from rfl];have HO1:=zh hO;clear hR hO hgn;go_wp2_with fail;refine(yj n _).mono ?_;rw[HS.out];rintro e w2 ⟨rfl,rfl⟩;go_wp2_with fail;refine(yj n _).mono ?_;rw[HS.out];rintro e w2 ⟨rfl,rfl⟩;go_wp2
   go_ret2
   exact⟨w1.heap.size,rfl,HO1.out.size,(zcn S b).symm▸Row.new w1 22 _,HO1.out.alloc _⟩
 . go_enter func16, ntmps16;go_wp2_with fail;refine(kz _ _ hk).mono ?_;intro e w1 hF;obtain⟨gn,rfl,hgn,hR,hO⟩:=hF;rw[show(qa8 2).size=5 from rfl];have HO1:=zh hO;clear hR hO hgn;go_wp2_with fail;refine(yj n _).mono ?_;rw[HS.out];rintro e w2 ⟨rfl,rfl⟩;go_wp2_with fail;refine(yj n _).mono ?_;rw[HS.out];rintro e w2 ⟨rfl,rfl⟩;go_wp2
   go_ret2
   exact⟨w1.heap.size,rfl,HO1.out.size,(zcg S b).symm▸Row.new w1 22 _,HO1.out.alloc _⟩
 . go_enter func16, ntmps16;go_wp2_with fail;refine(kz _ _ hk).mono ?_;intro e w1 hF;obtain⟨gn,rfl,hgn,hR,hO⟩:=hF;rw[show(qa8 3).size=4 from rfl];have HO1:=zh hO;clear hR hO hgn;go_wp2_with fail;refine(yj n _).mono ?_;rw[HS.out];rintro e w2 ⟨rfl,rfl⟩;go_wp2_with fail;refine(yj n _).mono ?_;rw[HS.out];rintro e w2 ⟨rfl,rfl⟩;go_wp2
   go_ret2
   exact⟨w1.heap.size,rfl,HO1.out.size,(zcq S b).symm▸Row.new w1 22 _,HO1.out.alloc _⟩
 . go_enter func16, ntmps16;go_wp2_with fail;refine(kz _ _ hk).mono ?_;intro e w1 hF;obtain⟨gn,rfl,hgn,hR,hO⟩:=hF;rw[show(qa8 4).size=2 from rfl];have HO1:=zh hO;clear hR hO hgn;go_wp2_with fail;refine(yj n _).mono ?_;rw[HS.out];rintro e w2 ⟨rfl,rfl⟩;go_wp2_with fail;refine(yj n _).mono ?_;rw[HS.out];rintro e w2 ⟨rfl,rfl⟩;go_wp2
   go_ret2
   exact⟨w1.heap.size,rfl,HO1.out.size,(zci S b).symm▸Row.new w1 22 _,HO1.out.alloc _⟩
 . go_enter func16, ntmps16;go_wp2_with fail;refine(kz _ _ hk).mono ?_;intro e w1 hF;obtain⟨gn,rfl,hgn,hR,hO⟩:=hF;rw[show(qa8 5).size=1 from rfl];have HO1:=zh hO;clear hR hO hgn;go_wp2_with fail;refine(yj n _).mono ?_;rw[HS.out];rintro e w2 ⟨rfl,rfl⟩;go_wp2_with fail;refine(yj n _).mono ?_;rw[HS.out];rintro e w2 ⟨rfl,rfl⟩;go_wp2
   go_ret2
   exact⟨w1.heap.size,rfl,HO1.out.size,(zcj S b).symm▸Row.new w1 22 _,HO1.out.alloc _⟩
 . go_enter func16, ntmps16;go_wp2_with fail;refine(kz _ _ hk).mono ?_;intro e w1 hF;obtain⟨gn,rfl,hgn,hR,hO⟩:=hF;rw[show(qa8 6).size=1 from rfl];have HO1:=zh hO;clear hR hO hgn;go_wp2_with fail;refine(yj n _).mono ?_;rw[HS.out];rintro e w2 ⟨rfl,rfl⟩;go_wp2_with fail;refine(yj n _).mono ?_;rw[HS.out];rintro e w2 ⟨rfl,rfl⟩;go_wp2
   go_ret2
   exact⟨w1.heap.size,rfl,HO1.out.size,(zcm S b).symm▸Row.new w1 22 _,HO1.out.alloc _⟩
def qat(k:Int):ByteArray:=
 if k=1 then⟨#[116,97,115,107,45,102,97,105,114]⟩
 else if k=2 then⟨#[112,104,97,115,101,45,102,97,105,114]⟩
 else if k=3 then⟨#[112,104,97,115,101,45,113,117,101,117,101]⟩
 else if k=4 then⟨#[102,97,105,114,45,113,117,101,117,101]⟩
 else if k=5 then⟨#[114,101,97,100,101,114,115,45,102,105,114,115,116]⟩
 else if k=6 then⟨#[119,114,105,116,101,114,115,45,102,105,114,115,116]⟩
 else⟨#[]⟩
theorem qft{k:Int}(h:¬(1<=k/\k<=6)):qat k=⟨#[]⟩:=by
 unfold qat
 rw[if_neg om,if_neg om,if_neg om,if_neg om,if_neg om,if_neg om]
theorem qca(k:Int)(w:World):Calls prog 15 #[.int .i64 k] w fun e w'=>e= .returned (.string (qat k))/\w=w':=by
 by_cases hk:1<=k/\k<=6
 . have hc:k=1\/k=2\/k=3\/k=4\/k=5\/k=6:=by omega
   rcases hc with rfl|rfl|rfl|rfl|rfl|rfl
   all_goals
    go_enter func15, ntmps15;go_wp2;go_ret;exact⟨rfl,rfl⟩
 . rw[qft hk]
   have h1:¬k=1:=by omega
   have h2:¬k=2:=by omega
   have h3:¬k=3:=by omega
   have h4:¬k=4:=by omega
   have h5:¬k=5:=by omega
   have h6:¬k=6:=by omega
   clear hk;go_enter func15, ntmps15;go_wp2;go_ret;exact⟨rfl,rfl⟩
theorem qq7(kind mode n b:Int)(W:World)(hk:¬(1<=kind/\kind<=6)):
 Calls prog 5 #[.int .i64 kind,.int .i64 mode,.int .i64 n,.int .u32 b] W fun e w'=>e= .returned (.tuple #[.pointer none,.int .i64 3])/\W=w':=by
 have HK:=zh hk;clear hk;go_enter func5, ntmps5;go_wp2_with fail;refine(qca kind _).mono ?_;rintro e w1 ⟨rfl,rfl⟩;rw[qft HK.out];go_wp2
 go_ret2
 exact⟨rfl,rfl⟩
theorem qcp{k:Int}(h:1<=k/\k<=6):(qat k).toList.isEmpty=false:=by
 have hc:k=1\/k=2\/k=3\/k=4\/k=5\/k=6:=by omega
 rcases hc with h|h|h|h|h|h
 . subst h;exact(show(qat 1).toList.isEmpty=false by kernel_rfl)
 . subst h;exact(show(qat 2).toList.isEmpty=false by kernel_rfl)
 . subst h;exact(show(qat 3).toList.isEmpty=false by kernel_rfl)
 . subst h;exact(show(qat 4).toList.isEmpty=false by kernel_rfl)
 . subst h;exact(show(qat 5).toList.isEmpty=false by kernel_rfl)
 . subst h;exact(show(qat 6).toList.isEmpty=false by kernel_rfl)
theorem qp8(kind mode n b:Int)(W:World)(hk:1<=kind/\kind<=6)(hm:¬(mode=1\/mode=2)):
 Calls prog 5 #[.int .i64 kind,.int .i64 mode,.int .i64 n,.int .u32 b] W fun e w'=>e= .returned (.tuple #[.pointer none,.int .i64 1])/\W=w':=by
 have hx:=qcp hk;have h1:(mode !=1)=true:=bne_iff_ne.2 fun h=>hm (.inl h);have h2:(mode !=2)=true:=bne_iff_ne.2 fun h=>hm (.inr h);clear hk hm;go_enter func5, ntmps5;go_wp2_with fail;refine(qca kind _).mono ?_;rintro e w1 ⟨rfl,rfl⟩;generalize qat kind=X at *;go_wp2
 go_ret2
 exact⟨rfl,rfl⟩
theorem zbj(kind mode n b:Int)(W:World)(hk:1<=kind/\kind<=6)(hm:mode=1\/mode=2)(hn:¬(1<=n/\n<=64)):
 Calls prog 5 #[.int .i64 kind,.int .i64 mode,.int .i64 n,.int .u32 b] W fun e w'=>e= .returned (.tuple #[.pointer none,.int .i64 2])/\Only Nil W w':=by
 have hx:=qcp hk;have HK:=zh hk;have HN:=zh hn;clear hk hn;rcases hm with rfl|rfl
 all_goals
  go_enter func5, ntmps5;go_wp2_with fail;refine(qca kind _).mono ?_;rintro e w1 ⟨rfl,rfl⟩;generalize qat kind=X at *;go_wp2_with fail;refine(qgq kind n b _ HK.out HN.out).mono ?_;rintro e w2 ⟨rfl,hO⟩;have HO:=zh hO;clear hO;go_wp2
  go_ret2
  exact⟨rfl,HO.out⟩
def qu4(W:World)(kind mode:Int)(k S:Nat)(m:MV)(e:Ending)(w':World):Prop:=
 ∃g gt gl,e= .returned (.tuple #[.pointer (some ⟨g,0,none⟩),.int .i64 0])/\W.heap.size<=g/\W.heap.size<=gt/\RWd w' g gt W.heap.size (some ⟨gl,0,none⟩) S S kind mode k m/\Only Nil W w'
theorem qv4(kind mode b:Int)(k S:Nat)(m:MV)(W:World)(hk:1<=kind/\kind<=6)(hm:mode=1\/mode=2)(hn:1<=k/\k<=64)(hS:xy k=S)(hb:0<=b/\b<4294967296)
 (hx:m.xs=words kind S (qa8 kind).size b) (hw:Words m.xs) (hz:∀i,i<k->zl (m.hold i) (m.rs i)=jb):
 Calls prog 5 #[.int .i64 kind,.int .i64 mode,.int .i64 k,.int .u32 b] W (qu4 W kind mode k S m):=by
 have hs:xy k=8+4*k:=if_pos om
 have hl:m.xs.length=S:=by rw[hx];simp[words]
 have HF:=zh (show ∀w,Calls _ _ _ w _ from fun w=>qi6 kind k b S w hk om hS hb);have HQ:=zh (And.intro hl (And.intro hw (And.intro hz (show S<=300 by omega))));have HX:=zh hx;have hmk:=fun W=>qf7 k hn.2 W;have hX:=qcp hk;clear hs hl hw hz hx hk hn hS hb;rcases hm with rfl|rfl
 all_goals
  go_enter func5, ntmps5;go_wp2_with fail;refine(qca kind _).mono ?_;rintro e w1 ⟨rfl,rfl⟩;generalize qat kind=X at *;go_wp2_with fail;refine(HF.out _).mono ?_;rintro e w2 ⟨gl,rfl,hg,hR,hO⟩;have HL:=zh (And.intro hg (And.intro hR hO));clear hg hR hO HF;go_wp2
  go_ret2
  have e1:=(Only.refl Nil w2).alloc (.cells (madeCells jb (k*11)) 74);have e2:=fun v=>e1.alloc (.cells #[.int .i64 kind,v,.slice (some ⟨gl,0,none⟩) S S,.slice (some ⟨w2.heap.size,0,none⟩) k k] 63);refine⟨_,w2.heap.size,gl,rfl,?_,HL.out.2.2.size,⟨?_,?_,HQ.out.1,HQ.out.2.1,(qco HQ.out.2.2.1 (Row.new w2 74 _)).only ((Only.refl Nil _).alloc _) id⟩,HL.out.2.2.trans (e2 _)⟩
  . exact Nat.le_trans HL.out.2.2.size (Nat.le_succ _)
  . rw[show w2.heap.size+1=(w2.alloc (.cells (madeCells jb (k*11)) 74)).heap.size from(Array.size_push _).symm];exact Row.new _ 63 _
  . have h:=Own.row_ (xs:=m.xs) (base:=W.heap.size) (by rw[HX.out];exact HL.out.2.1) (by rw[HQ.out.1];have:=HQ.out.2.2.2;omega) HL.out.1;rw[HQ.out.1]at h;exact h.only (e2 _) (fun _ _=>id)
theorem qn3(mode c:Int)(w:World):Calls prog 266 #[.int .i64 mode,.int .i64 c] w fun e w'=>e= .returned (qax mode c).v/\Only Nil w w':=by
 by_cases hm:mode=2
 . subst hm;rw[qkg];go_enter func266, ntmps266;go_wp2;exact qv (P:= prog) results266 (t:= 70) br ((Row.new _ _ _).alloc _) underlying70 rfl kr rfl ⟨rfl,((Only.refl _ _).alloc _).alloc _⟩
 . rw[qh0 hm];have h2:(mode==2)=false:=beq_eq_false_iff_ne.2 hm;clear hm;go_enter func266, ntmps266;go_wp2;exact qv (P:= prog) results266 (t:= 70) br ((Row.new _ _ _).alloc _) underlying70 rfl kr rfl ⟨rfl,((Only.refl _ _).alloc _).alloc _⟩
theorem kf(A:Option Addr)(n cap:Nat)(xs:List Int)(c:Int)(hn:xs.length=n)(w:World):
 Calls prog 263 #[.slice A n cap,.int .i64 c] w fun e w'=>e= .returned (.bool (qf xs c))/\w'=w:=by
 have HN:=zh hn;clear hn
 by_cases h0:0<=c
 . go_enter func263, ntmps263;go_wp2;go_ret;exact⟨by simp[qf,HN.out,h0],rfl⟩
 . go_enter func263, ntmps263;go_wp2;go_ret
   have hf:qf xs c=false:=by
    have:¬(0<=c/\c<xs.length):=by omega
    simp[qf,this]
   exact⟨by simp[hf],rfl⟩
theorem qq0(A:Option Addr)(n cp:Nat)(xs:List Int)(k c x y o:Int)(w:World)(hn:xs.length=n)(hk:zm xs k c=false):
 Calls prog 185 #[.slice A n cp,.agg #[.int .i64 k,.int .i64 c,.int .u32 x,.int .u32 y,.int .u32 o]] w fun e w'=>
  e= .returned (.tuple #[.agg #[.int .i64 0,.int .i64 0,.int .u32 0,.int .u32 0,.int .u32 0],.bool false])/\Only Nil w w':=by
 have hcase:qf xs c=false\/(qf xs c=true/\k<1)\/(qf xs c=true/\¬k<1/\5<k):=by
  cases ht:qf xs c
  . exact .inl rfl
  . simp only[zm,ht,Bool.true_and,yi,decide_eq_false_iff_not]at hk
    have:k<1\/(¬k<1/\5<k):=by omega
    rcases this with h|h
    . exact .inr (.inl ⟨rfl,h⟩)
    . exact .inr (.inr ⟨rfl,h⟩)
 clear hk;have HN:=zh hn;clear hn;rcases hcase with ht|⟨ht,h1⟩|⟨ht,h1,h2⟩
 all_goals
  have HT:=zh ht;clear ht;go_enter func185, ntmps185;go_wp2_with fail;refine(kf A n cp xs c HN.out _).mono ?_;rw[HT.out];rintro e w1 ⟨rfl,rfl⟩;go_wp2;go_returns;exact⟨rfl,by(repeat' (first|(with_reducible exact Only.refl _ _)|(with_reducible assumption)|(with_reducible refine Only.setCell ?_ ?_ _)|(with_reducible refine Only.drewN ?_ _)|(with_reducible refine Only.drew ?_)|(with_reducible refine Only.alloc ?_ _)|(left;simp;done)|(left;simp;omega)|(right;rfl)))⟩
theorem qki{cur:Array Value}{i:Nat}{u:Value}(h:cur[i]? =some u):cur.setIfInBounds i u=cur:=by
 obtain⟨hi,rfl⟩:=Array.getElem?_eq_some_iff.1 h;rw[Array.setIfInBounds_def,dif_pos hi];exact Array.set_getElem_self hi
theorem qrw(g n cp:Nat)(cur:Array Value)(xs:List Int)(k c x y o:Int)(w:World)(hn:xs.length=n)(hr:Row w g 22 cur)(ht:qf xs c=true)(hk:yi k=true)(hv:cur[c.toNat]? =some (.int .u32 (qa xs c))):
 Calls prog 185 #[.slice (some ⟨g,0,none⟩) n cp,.agg #[.int .i64 k,.int .i64 c,.int .u32 x,.int .u32 y,.int .u32 o]] w fun e w'=>
  e= .returned (.tuple #[.agg #[.int .i64 k,.int .i64 c,.int .u32 x,.int .u32 y,.int .u32 (qa xs c)],.bool true])/\Only (· =g) w w'/\Row w' g 22 (cur.setIfInBounds c.toNat (.int .u32 (yr k x y (qa xs c)))):=by
 have HN:=zh hn;have HT:=zh ht
 have hc0:0<=c/\c<(n:Int):=by have e:=HT.out;simp only[qf,decide_eq_true_eq]at e;omega
 obtain⟨hc0,hc1⟩:=hc0;have hglt:=hr.lt;have hcell:=hr.cell_ hv
 have hfro:=hr.frozen c.toNat
 have HR:=zh hr;have HV:=zh hv;clear hr hv hn ht;generalize hw:qa xs c=v at *;have HW:=zh hw;clear hw
 have hcase:k=1\/k=2\/k=3\/k=4\/k=5:=by simp only[yi,decide_eq_true_eq]at hk;omega
 clear hk;rcases hcase with rfl|rfl|rfl|rfl|rfl
 . go_enter func185, ntmps185;go_wp2_with fail;refine(kf _ n cp xs c HN.out _).mono ?_;rw[HT.out];rintro e w1 ⟨rfl,hw1⟩;obtain rfl:=hw1.symm;go_wp2;refine zc (P:= prog) results185 (t:= 33) (g:=w.heap.size+1) (cs:= #[.int .i64 1,.int .i64 c,.int .u32 x,.int .u32 y,.int .u32 v]) rfl ?_ underlying33 rfl kr rfl ⟨rfl,?_,?_⟩
   . exact Row.new2 _ _ _ _
   . (repeat' (first|(with_reducible exact Only.refl _ _)|(with_reducible assumption)|(with_reducible refine Only.setCell ?_ ?_ _)|(with_reducible refine Only.drewN ?_ _)|(with_reducible refine Only.drew ?_)|(with_reducible refine Only.alloc ?_ _)|(left;simp;done)|(left;simp;omega)|(right;rfl)))
   . rw[show yr 1 x y v=v by simp[yr],qki HV.out];exact(HR.out.alloc _).alloc _
 . go_enter func185, ntmps185;go_wp2_with fail;refine(kf _ n cp xs c HN.out _).mono ?_;rw[HT.out];rintro e w1 ⟨rfl,hw1⟩;obtain rfl:=hw1.symm;go_wp2;refine zc (P:= prog) results185 (t:= 33) (g:=w.heap.size+1) (cs:= #[.int .i64 2,.int .i64 c,.int .u32 x,.int .u32 y,.int .u32 v]) rfl ?_ underlying33 rfl kr rfl ⟨rfl,?_,?_⟩
   . have e2:=Row.new2 (w.setCell ⟨g,c.toNat,none⟩ (.int .u32 x)) (Obj.cells #[.int .i64 2,.int .i64 c,.int .u32 x,.int .u32 y,.int .u32 v] 33) 33 #[.int .i64 2,.int .i64 c,.int .u32 x,.int .u32 y,.int .u32 v]
     simpa using e2
   . (repeat' (first|(with_reducible exact Only.refl _ _)|(with_reducible assumption)|(with_reducible refine Only.setCell ?_ ?_ _)|(with_reducible refine Only.drewN ?_ _)|(with_reducible refine Only.drew ?_)|(with_reducible refine Only.alloc ?_ _)|(left;simp;done)|(left;simp;omega)|(right;rfl)))
   . rw[show yr 2 x y v=x by simp[yr]];exact((HR.out.set c.toNat (.int .u32 x)).alloc _).alloc _
 . go_enter func185, ntmps185;go_wp2_with fail;refine(kf _ n cp xs c HN.out _).mono ?_;rw[HT.out];rintro e w1 ⟨rfl,hw1⟩;obtain rfl:=hw1.symm;go_wp2;refine zc (P:= prog) results185 (t:= 33) (g:=w.heap.size+1) (cs:= #[.int .i64 3,.int .i64 c,.int .u32 x,.int .u32 y,.int .u32 v]) rfl ?_ underlying33 rfl kr rfl ⟨rfl,?_,?_⟩
   . have e2:=Row.new2 (w.setCell ⟨g,c.toNat,none⟩ (.int .u32 ((v+x)%4294967296))) (Obj.cells #[.int .i64 3,.int .i64 c,.int .u32 x,.int .u32 y,.int .u32 v] 33) 33 #[.int .i64 3,.int .i64 c,.int .u32 x,.int .u32 y,.int .u32 v]
     simpa using e2
   . (repeat' (first|(with_reducible exact Only.refl _ _)|(with_reducible assumption)|(with_reducible refine Only.setCell ?_ ?_ _)|(with_reducible refine Only.drewN ?_ _)|(with_reducible refine Only.drew ?_)|(with_reducible refine Only.alloc ?_ _)|(left;simp;done)|(left;simp;omega)|(right;rfl)))
   . rw[show yr 3 x y v=(v+x)%4294967296 by simp only[yr,if_true];rw[Int.add_comm]];exact((HR.out.set c.toNat (.int .u32 ((v+x)%4294967296))).alloc _).alloc _
 . go_enter func185, ntmps185;go_wp2_with fail;refine(kf _ n cp xs c HN.out _).mono ?_;rw[HT.out];rintro e w1 ⟨rfl,hw1⟩;obtain rfl:=hw1.symm;go_wp2;refine zc (P:= prog) results185 (t:= 33) (g:=w.heap.size+1) (cs:= #[.int .i64 4,.int .i64 c,.int .u32 x,.int .u32 y,.int .u32 v]) rfl ?_ underlying33 rfl kr rfl ⟨rfl,?_,?_⟩
   . have e2:=Row.new2 (w.setCell ⟨g,c.toNat,none⟩ (.int .u32 x)) (Obj.cells #[.int .i64 4,.int .i64 c,.int .u32 x,.int .u32 y,.int .u32 v] 33) 33 #[.int .i64 4,.int .i64 c,.int .u32 x,.int .u32 y,.int .u32 v]
     simpa using e2
   . (repeat' (first|(with_reducible exact Only.refl _ _)|(with_reducible assumption)|(with_reducible refine Only.setCell ?_ ?_ _)|(with_reducible refine Only.drewN ?_ _)|(with_reducible refine Only.drew ?_)|(with_reducible refine Only.alloc ?_ _)|(left;simp;done)|(left;simp;omega)|(right;rfl)))
   . rw[show yr 4 x y v=x by simp[yr]];exact((HR.out.set c.toNat (.int .u32 x)).alloc _).alloc _
 . by_cases he:v=x
   . have hb:=beq_iff_eq.2 he;have HE:=zh he;clear he;go_enter func185, ntmps185;go_wp2_with fail;refine(kf _ n cp xs c HN.out _).mono ?_;rw[HT.out];rintro e w1 ⟨rfl,hw1⟩;obtain rfl:=hw1.symm;go_wp2;refine zc (P:= prog) results185 (t:= 33) (g:=w.heap.size+1) (cs:= #[.int .i64 5,.int .i64 c,.int .u32 x,.int .u32 y,.int .u32 v]) rfl ?_ underlying33 rfl kr rfl ⟨rfl,?_,?_⟩
     . have e2:=Row.new2 (w.setCell ⟨g,c.toNat,none⟩ (.int .u32 y)) (Obj.cells #[.int .i64 5,.int .i64 c,.int .u32 x,.int .u32 y,.int .u32 v] 33) 33 #[.int .i64 5,.int .i64 c,.int .u32 x,.int .u32 y,.int .u32 v]
       simpa using e2
     . (repeat' (first|(with_reducible exact Only.refl _ _)|(with_reducible assumption)|(with_reducible refine Only.setCell ?_ ?_ _)|(with_reducible refine Only.drewN ?_ _)|(with_reducible refine Only.drew ?_)|(with_reducible refine Only.alloc ?_ _)|(left;simp;done)|(left;simp;omega)|(right;rfl)))
     . rw[show yr 5 x y v=y by simp[yr,HE.out]];exact((HR.out.set c.toNat (.int .u32 y)).alloc _).alloc _
   . have hb:=beq_eq_false_iff_ne.2 he;have HE:=zh he;clear he;go_enter func185, ntmps185;go_wp2_with fail;refine(kf _ n cp xs c HN.out _).mono ?_;rw[HT.out];rintro e w1 ⟨rfl,hw1⟩;obtain rfl:=hw1.symm;go_wp2;refine zc (P:= prog) results185 (t:= 33) (g:=w.heap.size+1) (cs:= #[.int .i64 5,.int .i64 c,.int .u32 x,.int .u32 y,.int .u32 v]) rfl ?_ underlying33 rfl kr rfl ⟨rfl,?_,?_⟩
     . exact Row.new2 _ _ _ _
     . (repeat' (first|(with_reducible exact Only.refl _ _)|(with_reducible assumption)|(with_reducible refine Only.setCell ?_ ?_ _)|(with_reducible refine Only.drewN ?_ _)|(with_reducible refine Only.drew ?_)|(with_reducible refine Only.alloc ?_ _)|(left;simp;done)|(left;simp;omega)|(right;rfl)))
     . rw[show yr 5 x y v=v by simp[yr,HE.out],qki HV.out];exact(HR.out.alloc _).alloc _
theorem ym(base:Nat)(A:Option Addr)(n cp:Nat)(xs:List Int)(k c x y o:Int)(w:World)(h:Own w base A cp xs)(hn:xs.length=n):
 Calls prog 185 #[.slice A n cp,.agg #[.int .i64 k,.int .i64 c,.int .u32 x,.int .u32 y,.int .u32 o]] w fun e w'=>
  e= .returned (.tuple #[qr xs k c x y,.bool (zm xs k c)])/\Only (At A) w w'/\Own w' base A cp (yk xs k c x y):=by
 cases hk:zm xs k c
 . refine(qq0 A n cp xs k c x y o w hn hk).mono fun e w' ⟨he,hO⟩=>⟨by rw[he];simp[qr,hk,jf],hO.mono (fun _ _ hj=>hj.elim),?_⟩;rw[show yk xs k c x y=xs by simp[yk,hk]];exact h.only hO (fun _ _=>id)
 . have hk2:=hk;simp only[zm,Bool.and_eq_true]at hk2;obtain⟨ht,hik⟩:=hk2;have ht2:=ht;simp only[qf,decide_eq_true_eq]at ht2;obtain⟨g,cur,rfl,hb,hr,hcell,hset⟩:=h.row (i:=c.toNat) om;rw[show xs.getD c.toNat 0=qa xs c by simp[qa,ht]]at hcell;refine(qrw g n cp cur xs k c x y o w hn hr ht hik hcell).mono fun e w' ⟨he,hO,hR⟩=>⟨by rw[he];simp[qr,hk,jf],hO.mono (fun _ _ hj=>⟨_,rfl,hj.symm⟩),?_⟩;rw[show yk xs k c x y=xs.set c.toNat (yr k x y (qa xs c)) by simp[yk,hk]];exact hset _ _ hR
structure RunR(w:World)(B base:Nat)(A:Option Addr)(l cp:Nat)(nv:Value)(r:LS):Prop where
 row:Row w B 101 (r.cells (.slice A l cp) nv)
 notes:OwnN 0 w nv r.ns
 own:Own w base A cp r.xs
 len:r.xs.length=l
def qg(B base:Nat)(A:Option Addr)(l cp:Nat)(w:World)(v:Value)(r:LS)(e:Ending)(w':World):Prop:=
 e= .returned v/\Only (qd B A) w w'/\∃nv,RunR w' B base A l cp nv r
section
variable{w w':World}{B base:Nat}{A:Option Addr}{l cp:Nat}{nv:Value}{r r':LS}{ys:List Int}{S:Nat->Prop}
theorem RunR.far(h:RunR w B base A l cp nv r){j:Nat}(hj:At A j):j≠B:=by
 rintro rfl;obtain⟨cur,hc⟩:=zx h.own hj;exact absurd (h.row.same hc).1 dc
theorem RunR.farN(h:RunR w B base A l cp nv r){i:Nat}(hi:nv.ownBlock=some i):i≠B/\¬At A i:=by
 obtain⟨cur,hc⟩:=zw h.notes hi;refine⟨?_,fun hj=> ?_⟩
 . rintro rfl;exact absurd (h.row.same hc).1 dc
 . obtain⟨cs,hr⟩:=zx h.own hj;exact absurd (hr.same hc).1 dc
theorem RunR.call(h:RunR w B base A l cp nv r)(ho:Only (At A) w w')(hm:Own w' base A cp ys)(hl:ys.length=l):RunR w' B base A l cp nv {r with xs:=ys}:=
 ⟨h.row.only ho (fun e=>h.far e rfl),qx h.notes ho (fun i hi e=>(h.farN hi).2 e),hm,hl⟩
theorem RunR.apart(h:RunR w B base A l cp nv r)(ho:Only S w w')(hb:¬S B)(hm:∀j,At A j->¬S j)(hn:∀i,nv.ownBlock=some i->¬S i):RunR w' B base A l cp nv r:=
 ⟨h.row.only ho hb,qx h.notes ho hn,h.own.only ho hm,h.len⟩
theorem RunR.keep(h:RunR w B base A l cp nv r)(ho:Only Nil w w'):RunR w' B base A l cp nv r:=h.apart ho id (fun _ _=>id) (fun _ _=>id)
theorem RunR.turn(h:RunR w B base A l cp nv r)(ho:Only (· =B) w w')(hr:Row w' B 101 (r'.cells (.slice A l cp) nv))(hn:r'.ns=r.ns)(hx:r'.xs=r.xs):RunR w' B base A l cp nv r':=
 ⟨hr,by rw[hn];exact qx h.notes ho (fun i hi=>(h.farN hi).1),by rw[hx];exact h.own.only ho (fun j hj=>h.far hj),by rw[hx];exact h.len⟩
theorem RunR.setAcc(h:RunR w B base A l cp nv r)(a:Acc5):
 RunR (((((w.setCell ⟨B,14,none⟩ (.int .i64 a.k)).setCell ⟨B,15,none⟩ (.int .i64 a.c)).setCell ⟨B,16,none⟩ (.int .u32 a.x)).setCell ⟨B,17,none⟩ (.int .u32 a.y)).setCell ⟨B,18,none⟩ (.int .u32 a.o)) B base A l cp nv {r with acc:=a}:=
 h.turn (ze (Only.refl (· =B) _) rfl _ _ _ _ _) (qc4 h.row a) rfl rfl
theorem RunR.setRet(h:RunR w B base A l cp nv r)(v:Int):RunR (w.setCell ⟨B,13,none⟩ (.int .i64 v)) B base A l cp nv {r with ret:=v}:=
 h.turn ((Only.refl (· =B) w).setCell (p:=⟨B,13,none⟩) (.inr rfl) _) (h.row.set 13 (.int .i64 v)) rfl rfl
theorem RunR.setLine(h:RunR w B base A l cp nv r)(v:Int):RunR (w.setCell ⟨B,5,none⟩ (.int .i64 v)) B base A l cp nv (r.go v):=
 h.turn ((Only.refl (· =B) w).setCell (p:=⟨B,5,none⟩) (.inr rfl) _) (h.row.set 5 (.int .i64 v)) rfl rfl
theorem RunR.setS(h:RunR w B base A l cp nv r)(v:Int):RunR (w.setCell ⟨B,8,none⟩ (.int .i64 v)) B base A l cp nv {r with s:=v}:=
 h.turn ((Only.refl (· =B) w).setCell (p:=⟨B,8,none⟩) (.inr rfl) _) (h.row.set 8 (.int .i64 v)) rfl rfl
theorem RunR.setWake(h:RunR w B base A l cp nv r)(k:WkV):
 RunR ((((w.setCell ⟨B,9,none⟩ (.bool k.on)).setCell ⟨B,10,none⟩ (.int .i64 k.c)).setCell ⟨B,11,none⟩ (.int .i64 k.i)).setCell ⟨B,12,none⟩ (.bool k.hit)) B base A l cp nv {r with k:=k}:=
 h.turn (jk (Only.refl (· =B) w) rfl _ _ _ _) (qdk h.row k) rfl rfl
theorem RunR.setNotes{v:Value}{zs:List Nt}(h:RunR w B base A l cp nv r)(hn:OwnN 0 w v zs):RunR (w.setCell ⟨B,19,none⟩ v) B base A l cp v {r with ns:=zs}:=by
 have ho:=(Only.refl (· =B) w).setCell (p:=⟨B,19,none⟩) (.inr rfl) v;refine⟨h.row.set 19 v,qx hn ho (fun i hi=> ?_),h.own.only ho (fun j hj=>h.far hj),h.len⟩;rintro rfl;obtain⟨cur,hc⟩:=zw hn hi;exact absurd (h.row.same hc).1 dc
end
theorem qcg(B base:Nat)(A:Option Addr)(l cp:Nat)(nv:Value)(r:LS)(k c x y:Int)(w:World)(h:RunR w B base A l cp nv r)(hk:yi k=true):
 Calls prog 264 #[.pointer (some ⟨B,0,none⟩),.int .i64 k,.int .i64 c,.int .u32 x,.int .u32 y] w fun e w'=>e= .returned (.int .u32 (qa r.xs c))/\Only (qd B A) w w'/\RunR w' B base A l cp nv (r.doA k c x y):=by
 have m0:w.cell? ⟨B,0,none⟩=some (.slice A l cp):=h.row.cell_ (i:=0) rfl;have HP:=zh h;have HW:=zh (qj7 (xs:=r.xs) (k:=k) (c:=c) (x:=x) (y:=y) hk);have HLN:=zh ((qdz r.xs k c x y).trans h.len);have HD:=zh (show r.doA k c x y={r with acc:=qeb r.xs k c x y,xs:=yk r.xs k c x y}from rfl);have HV:=zh (qai r.xs k c x y);clear h hk;go_enter func264, ntmps264;go_wp2_with fail;clear m0;refine(ym base A l cp r.xs k c x y 0 _ HP.out.own HP.out.len).mono ?_;rw[HV.out];clear HV;generalize qeb r.xs k c x y=ac at *;rintro e w1 ⟨rfl,hO,hM⟩;dsimp only[Acc5.v];have e0:=(Only.refl Nil w1).alloc (.cells #[.int .i64 ac.k,.int .i64 ac.c,.int .u32 ac.x,.int .u32 ac.y,.int .u32 ac.o] 33);have HP1:=zh ((HP.out.call hO hM HLN.out).keep e0);have HO1:=zh ((hO.turned2 (B:=B)).alloc (.cells #[.int .i64 ac.k,.int .i64 ac.c,.int .u32 ac.x,.int .u32 ac.y,.int .u32 ac.o] 33));have HR1:=zh (Row.new w1 33 #[.int .i64 ac.k,.int .i64 ac.c,.int .u32 ac.x,.int .u32 ac.y,.int .u32 ac.o]);have HBA:=zh (show w1.heap.size≠B from fun e=>by have:=(HP.out.row.only hO (fun e=>HP.out.far e rfl)).lt;omega);clear hO hM HP e0
 go_upto_region 2 with(fail)
 generalize w1.alloc (.cells #[.int .i64 ac.k,.int .i64 ac.c,.int .u32 ac.x,.int .u32 ac.y,.int .u32 ac.o] 33)=w2 at *;generalize w1.heap.size=g at *;have a0:w2.cell? ⟨g,0,none⟩=some (.int .i64 ac.k):=HR1.out.cell_ (i:=0) rfl;have a1:w2.cell? ⟨g,1,none⟩=some (.int .i64 ac.c):=HR1.out.cell_ (i:=1) rfl;have a2:w2.cell? ⟨g,2,none⟩=some (.int .u32 ac.x):=HR1.out.cell_ (i:=2) rfl;have a3:w2.cell? ⟨g,3,none⟩=some (.int .u32 ac.y):=HR1.out.cell_ (i:=3) rfl;have a4:w2.cell? ⟨g,4,none⟩=some (.int .u32 ac.o):=HR1.out.cell_ (i:=4) rfl;have b14:w2.cell? ⟨B,14,none⟩=some (.int .i64 r.acc.k):=HP1.out.row.cell_ (i:=14) rfl;have b15:w2.cell? ⟨B,15,none⟩=some (.int .i64 r.acc.c):=HP1.out.row.cell_ (i:=15) rfl;have b16:w2.cell? ⟨B,16,none⟩=some (.int .u32 r.acc.x):=HP1.out.row.cell_ (i:=16) rfl;have b17:w2.cell? ⟨B,17,none⟩=some (.int .u32 r.acc.y):=HP1.out.row.cell_ (i:=17) rfl;have b18:w2.cell? ⟨B,18,none⟩=some (.int .u32 r.acc.o):=HP1.out.row.cell_ (i:=18) rfl;have f14:w2.frozen? ⟨B,14,none⟩=false:=HP1.out.row.frozen 14;have f15:w2.frozen? ⟨B,15,none⟩=false:=HP1.out.row.frozen 15;have f16:w2.frozen? ⟨B,16,none⟩=false:=HP1.out.row.frozen 16;have f17:w2.frozen? ⟨B,17,none⟩=false:=HP1.out.row.frozen 17;have f18:w2.frozen? ⟨B,18,none⟩=false:=HP1.out.row.frozen 18
 go_upto_region 3 with(fail)
 clear a0 a1 a2 a3 a4 b14 b15 b16 b17 b18 f14 f15 f16 f17 f18;have HP2:=zh (HP1.out.setAcc ac);have HO2:=zh (ze HO1.out (B:=B) (.inl rfl) (.int .i64 ac.k) (.int .i64 ac.c) (.int .u32 ac.x) (.int .u32 ac.y) (.int .u32 ac.o));have HR2:=zh (HR1.out.only (ze (Only.refl (· =B) w2) rfl (.int .i64 ac.k) (.int .i64 ac.c) (.int .u32 ac.x) (.int .u32 ac.y) (.int .u32 ac.o)) HBA.out);clear HP1 HO1 HR1;generalize (((((w2.setCell ⟨B,14,none⟩ (.int .i64 ac.k)).setCell ⟨B,15,none⟩ (.int .i64 ac.c)).setCell ⟨B,16,none⟩ (.int .u32 ac.x)).setCell ⟨B,17,none⟩ (.int .u32 ac.y)).setCell ⟨B,18,none⟩ (.int .u32 ac.o))=w3 at *;have a4:w3.cell? ⟨g,4,none⟩=some (.int .u32 ac.o):=HR2.out.cell_ (i:=4) rfl;go_wp2;go_ret;exact⟨by rw[←HW.out];rfl,HO2.out,by rw[HD.out];exact HP2.out⟩
section
variable(B base:Nat)(A:Option Addr)(l cp:Nat)(nv:Value)(r:LS)(c x y:Int)(w:World)
theorem kl(h:RunR w B base A l cp nv r):Calls prog 191 #[.pointer (some ⟨B,0,none⟩),.int .i64 c] w (qg B base A l cp w (.int .u32 (qa r.xs c)) (r.doA 1 c 0 0)):=by
 go_enter func191, ntmps191;go_wp2_with fail;refine(qcg B base A l cp nv r 1 c 0 0 _ h rfl).mono ?_;rintro e w1 ⟨rfl,hO,hP⟩;have HO:=zh hO;have HP:=zh hP;clear hO hP h;go_wp2;go_ret;exact⟨rfl,HO.out,nv,HP.out⟩
theorem qjc(xs:List Int)(k a x y d:Int):qf (yk xs k a x y) d=qf xs d:=by unfold qf;rw[qdz]
theorem xe(h:RunR w B base A l cp nv r):Calls prog 193 #[.pointer (some ⟨B,0,none⟩),.int .i64 c,.int .u32 x,.int .u32 y] w (qg B base A l cp w (.bool (qf r.xs c && (qa r.xs c==x))) (r.doA 5 c x y)):=by
 have HTT:=zh (qjc r.xs 5 c x y c)
 cases hq:(qa r.xs c==x)
 . have HQ:=zh hq;clear hq;rw[Bool.and_false];go_enter func193, ntmps193;go_wp2_with fail;refine(qcg B base A l cp nv r 5 c x y _ h rfl).mono ?_;rintro e w1 ⟨rfl,hO,hP⟩;have HO:=zh hO;have HP:=zh hP;have hq:=HQ.out;clear hO hP h;generalize qa r.xs c=v at *;go_wp2;go_ret;exact⟨rfl,HO.out,nv,HP.out⟩
 . have HQ:=zh hq;clear hq;rw[Bool.and_true];go_enter func193, ntmps193;go_wp2_with fail;refine(qcg B base A l cp nv r 5 c x y _ h rfl).mono ?_;rintro e w1 ⟨rfl,hO,hP⟩;have HO:=zh hO;have HP:=zh hP;have hq:=HQ.out;have m0:w1.cell? ⟨B,0,none⟩=some (.slice A l cp):=hP.row.cell_ (i:=0) rfl;have HLN:=zh hP.len;clear hO hP h;generalize qa r.xs c=v at *;go_wp2_with fail;refine(kf A l cp _ c HLN.out _).mono ?_;rw[show qf (r.doA 5 c x y).xs c=qf r.xs c from HTT.out];rintro e w2 ⟨rfl,rfl⟩;go_wp2;go_ret;exact⟨rfl,HO.out,nv,HP.out⟩
end
theorem vq(B base:Nat)(A:Option Addr)(l cp:Nat)(nv:Value)(r:LS)(c:Int)(w:World)(h:RunR w B base A l cp nv r):
 Calls prog 189 #[.pointer (some ⟨B,0,none⟩),.int .i64 c] w (qg B base A l cp w (.tuple #[]) (r.wake c)):=by
 have c2:w.cell? ⟨B,2,none⟩=some (.int .i64 r.mode):=h.row.cell_ (i:=2) rfl;have HP:=zh h;clear h;go_enter func189, ntmps189;go_wp2_with fail;clear c2;refine(qn3 r.mode c _).mono ?_;rintro e w1 ⟨rfl,hO⟩;have HP1:=zh (HP.out.keep hO);have HO:=zh (hO.mono (T:=qd B A) (fun _ _ h=>h.elim));clear hO HP;have HD:=zh (show r.wake c={r with k:=qax r.mode c}from rfl);generalize qax r.mode c=k at *;dsimp only[WkV.v];have a9:w1.cell? ⟨B,9,none⟩=some (.bool r.k.on):=HP1.out.row.cell_ (i:=9) rfl;have a10:w1.cell? ⟨B,10,none⟩=some (.int .i64 r.k.c):=HP1.out.row.cell_ (i:=10) rfl;have a11:w1.cell? ⟨B,11,none⟩=some (.int .i64 r.k.i):=HP1.out.row.cell_ (i:=11) rfl;have a12:w1.cell? ⟨B,12,none⟩=some (.bool r.k.hit):=HP1.out.row.cell_ (i:=12) rfl;have f9:w1.frozen? ⟨B,9,none⟩=false:=HP1.out.row.frozen 9;have f10:w1.frozen? ⟨B,10,none⟩=false:=HP1.out.row.frozen 10;have f11:w1.frozen? ⟨B,11,none⟩=false:=HP1.out.row.frozen 11;have f12:w1.frozen? ⟨B,12,none⟩=false:=HP1.out.row.frozen 12;go_wp2;clear a9 a10 a11 a12 f9 f10 f11 f12;go_returns;exact⟨rfl,jk HO.out (.inl rfl) _ _ _ _,nv,by rw[HD.out];exact HP1.out.setWake k⟩
theorem qev(ty:TypeId)(g1 b:Nat)(v:Value)(zs:List Nt)(w:World)(hown:OwnN 0 w v zs)(hrow:Row w g1 78 #[])(hb:b<=g1)(h1:zs.length<=1000):
 ∃A' c' w',(Builtin.append_ #[34, 34] ty #[.slice (some ⟨g1,0,none⟩) 0 0,v]).run prog w= .ok (.slice A' zs.length c') w'/\OwnN b w' (.slice A' zs.length c') zs/\Only Nil w w':=by
 obtain⟨i0,hi,hz0,hz1,hz2⟩:=info_parts qhu;have hlt:=hrow.lt;have hown1:w.ownsRow b 78 4 (.slice (some ⟨g1,0,none⟩) 0 0) 0 []:=⟨rfl,.inr ⟨g1,0, #[],rfl,hb,hrow,Nat.le_refl _,dc,rfl,rfl⟩⟩;rcases hown.2 with⟨rfl,hn⟩|⟨q,cap,cur,rfl,_,hq,_⟩
 . obtain rfl:=List.eq_nil_of_length_eq_zero hn;have hr:=run_append_owned_none (P:= prog) (w:=w) b 34 ty 78 i0 4 underlying34 hi _ 0 [] hown1;exact⟨_,_,w,hr,hown1,Only.refl _ _⟩
 . cases zs with
   |nil=>
    have hr:=run_append_room (P:= prog) w 34 ty 78 i0 underlying34 hi g1 0 0 #[] hrow ⟨q,0,none⟩ 0 cap [] (by simp) (fun j u h=>by simp at h) (fun u h=>by simp at h) dc (by simp)
    have ho:Only Nil w (w.setRow g1 #[]):=⟨rfl,rfl,rfl,by simp,fun k hk _=>by
     by_cases e:k=g1
     . subst e;rw[setRow_heap w k #[] _ 78 _ hrow];exact hrow.symm
     . exact setRow_other w g1 k _ e⟩
    refine⟨some ⟨g1,0,none⟩,0,_,hr,qx hown1 (S:=Nil) ?_ (fun _ _=>id),?_⟩
    . simpa using ho
    . simpa using ho
   |cons z zr=>
    have hl0:0<(z::zr).length:=by simp
    generalize z::zr=zs at *;have hnews:∀j u,(km zs)[j]? =some u->w.cell? ((⟨q,0,none⟩:Addr).add j)=some u:=World.ownsRow.cells hown (g:=q) rfl;have hr:=run_append_grow (P:= prog) w 34 ty 78 i0 _ underlying34 hi hz0 ⟨g1,0,none⟩ 0 0 [] (by simp) (fun j u h=>by simp at h) ⟨q,0,none⟩ zs.length cap (km zs) (by rw[hz1];exact kt zs) hnews om om (growslice_fits om (by rw[hz2];omega));simp only[Nat.zero_add]at hr;have hge:=grownCap_ge w zs.length 0 78;have hcm:=grownCap_le_maxLen w zs.length 0 78 (by unfold maxLen;omega);refine⟨_,_,_,hr,⟨kt zs,.inr ⟨w.heap.size,_,_,rfl,om,heap_alloc_new w.drew _,hge,hcm,?_,?_⟩⟩,(Only.refl Nil w).drew.alloc _⟩
    . simp only[Array.size_append,List.size_toArray,size_zeroCells,kt,List.length_nil];show 0+zs.length*4+_*4=_;omega
    . simp only[Array.toList_append,List.nil_append];rw[←kt];exact List.take_left
theorem xx{o:Oper}{a:Act}{K:Act->World->Prop}{Q:Exit->Act->World->Prop}(s x:Operand)(ho:o.op= .call {callee:= .builtin .append,args:= #[s,x],argTypes:= #[34, 34]})
 (g1 b:Nat) (v:Value) (zs:List Nt) (w:World) (hs:a.eval s= .slice (some ⟨g1,0,none⟩) 0 0) (hx:a.eval x=v) (hown:OwnN 0 w v zs) (hrow:Row w g1 78 #[]) (hb:b<=g1) (h1:zs.length<=1000)
 (h:∀A' n' c' w',OwnN b w' (.slice A' n' c') zs->Only Nil w w'->K (a.put o.dst (.slice A' n' c')) w'):o.wp prog a w K Q:=by
 obtain⟨A',c',w',hr,h2,h3⟩:=qev o.type g1 b v zs w hown hrow hb h1;unfold Oper.wp execOp;simp only[ho,resolve,invoke,builtin,Sem.run_bind,Sem.run_pure,Result.andThen_ok,List.map_toArray,List.map_cons,List.map_nil,hs,hx,hr];exact h _ _ _ w' h2 h3
theorem xt{o:Oper}{a:Act}{K:Act->World->Prop}{Q:Exit->Act->World->Prop}(s x:Operand)(ho:o.op= .call {callee:= .builtin .append,args:= #[s,x],argTypes:= #[34, 34]})
 (b:Nat) (v:Value) (zs:List Nt) (w:World) (g:Nat) (n:Nt) (hs:a.eval s=v) (hx:a.eval x= .slice (some ⟨g,0,none⟩) 1 1) (hown:OwnN b w v zs) (hrow:Row w g 78 #[.int .i64 n.t,.int .i64 n.w,.int .i64 n.o,.int .i64 n.a]) (hb:b<=w.heap.size) (h1:zs.length<=1000)
 (h:∀A' n' c' w',OwnN b w' (.slice A' n' c') (zs++[n])->(∀w0,Only Nil w0 w->w0.heap.size<=b->Only Nil w0 w')->K (a.put o.dst (.slice A' n' c')) w'):o.wp prog a w K Q:=by
 obtain⟨i0,hi,hz0,hz1,hz2⟩:=info_parts qhu;refine wp_append_own w s x 34 ho b 78 i0 (.agg #[.int .i64 0,.int .i64 0,.int .i64 0,.int .i64 0]) 4 32 underlying34 hi hz0 hz1 hz2 rfl dc v zs.length (km zs) hs hown ⟨g,0,none⟩ 1 1 (xq n) hx rfl (fun j u hj=> ?_) (fun u hu=> ?_) (by unfold maxLen;omega) om hb (fun v' w' hO hG _=> ?_)
 . rw[qe0,Nat.zero_add];exact hrow.cell_ (by rw[←hj];simp[xq])
 . unfold xq at hu;simp only[List.mem_cons,List.not_mem_nil,or_false]at hu;rcases hu with rfl|rfl|rfl|rfl<;>rfl
 . have hO':OwnN b w' v' (zs++[n]):=by
    unfold OwnN;rw[qbz,List.length_append,show km [n]=xq n from List.append_nil _];exact hO
   obtain⟨A',c',rfl,_⟩:=qgh hO'
   exact h _ _ _ w' hO' (fun w0 h0 hb=>h0.grown hG (fun k hk=> .inl (by
    obtain⟨hk1,_⟩:=World.ownsRow.lt hown k hk
    omega)))
theorem qo(B base:Nat)(A:Option Addr)(l cp:Nat)(nv:Value)(r:LS)(what arg:Int)(w:World)(h:RunR w B base A l cp nv r)(hl:r.ns.length<=1000):
 Calls prog 187 #[.pointer (some ⟨B,0,none⟩),.int .i64 what,.int .i64 arg] w (qg B base A l cp w (.tuple #[]) (r.note what arg)):=by
 have m19:w.cell? ⟨B,19,none⟩=some nv:=h.row.cell_ (i:=19) rfl;have m3:w.cell? ⟨B,3,none⟩=some (.int .i64 r.task):=h.row.cell_ (i:=3) rfl;have HP0:=zh h;have HL:=zh hl;clear h hl;go_enter func187, ntmps187;refine qb (n:=19) 15 (fun w=>w.cell? ⟨B,19,none⟩=some nv/\w.cell? ⟨B,3,none⟩=some (.int .i64 r.task)) rfl kr ⟨m19,m3⟩ (fun hHeld=> ?_);have HP:=zh (HP0.out.keep (Only.refl Nil w).drew);have HO:=zh ((Only.refl (qd B A) w).drew);clear m19 m3 HP0;generalize w.drew=w2 at *;have HN:=zh (Only.refl Nil w2);obtain⟨B0,HB0⟩:∃B0,Hid (∀W:World,W=w2->W.heap.size=B0):=⟨w2.heap.size,zh (fun W h=>by rw[h])⟩;refine za 0 rfl ?_;refine za 2 rfl ?_;refine za 3 rfl ?_;refine za 4 rfl ?_;refine zt 5 rfl ?_;refine za 7 rfl ?_;refine za 8 rfl ?_;refine za 9 rfl ?_;refine zt 10 rfl ?_;refine za 11 rfl ?_;refine za 12 rfl ?_;refine za 13 rfl ?_;refine qwy rfl rfl kr br (fun K hK=> ?_) br (fun K hK=> ?_)
 . go_simp;have HN2:=zh (HN.out.alloc (.cells #[] 78));have H1:=zh (Row.new w2 78 #[]);have HG1:=zh (show B0<=w2.heap.size by rw[←HB0.out w2 rfl];exact HN.out.size);have hHeld2:(w2.alloc (.cells #[] 78)).cell? ⟨B,19,none⟩=some nv/\(w2.alloc (.cells #[] 78)).cell? ⟨B,3,none⟩=some (.int .i64 r.task):=⟨(HP.out.keep HN2.out).row.cell_ (i:=19) rfl,(HP.out.keep HN2.out).row.cell_ (i:=3) rfl⟩;refine hK.out _ _ (.inr hHeld2) ?_;clear hK K hHeld HN;generalize w2.alloc (.cells #[] 78)=w3 at *;generalize w2.heap.size=g1 at *;have HN:=HN2;have hHeld:=hHeld2;clear HN2 hHeld2;refine qw4 rfl rfl kr br (fun K hK=> ?_) br (fun K hK=> ?_)
   . refine xx (.tmp 7) (.tmp 11) rfl g1 B0 nv r.ns _ br br (HP.out.keep HN.out).notes H1.out HG1.out HL.out (fun A6 n6 c6 w4 h6 hO=> ?_);have HN2:=zh (HN.out.trans hO);have H6:=zh h6;have hHeld2:w4.cell? ⟨B,19,none⟩=some nv/\w4.cell? ⟨B,3,none⟩=some (.int .i64 r.task):=⟨(HP.out.keep HN2.out).row.cell_ (i:=19) rfl,(HP.out.keep HN2.out).row.cell_ (i:=3) rfl⟩;refine hK.out _ _ (.inr hHeld2) ?_;clear hK K hHeld HN h6 H1;have HN:=HN2;have hHeld:=hHeld2;clear HN2 hHeld2;refine mpc 14 rfl kr br (fun K hK=> ?_);go_simp;have HN2:=zh (HN.out.alloc (.cells #[.int .i64 r.task,.int .i64 what,.int .i64 0,.int .i64 arg] 78));have H14:=zh (Row.new w4 78 #[.int .i64 r.task,.int .i64 what,.int .i64 0,.int .i64 arg]);have hHeld2:(w4.alloc (.cells #[.int .i64 r.task,.int .i64 what,.int .i64 0,.int .i64 arg] 78)).cell? ⟨B,19,none⟩=some nv/\(w4.alloc (.cells #[.int .i64 r.task,.int .i64 what,.int .i64 0,.int .i64 arg] 78)).cell? ⟨B,3,none⟩=some (.int .i64 r.task):=⟨(HP.out.keep HN2.out).row.cell_ (i:=19) rfl,(HP.out.keep HN2.out).row.cell_ (i:=3) rfl⟩;refine hK.out _ _ (.inr hHeld2) ?_;clear hK K hHeld HN;have H62:=zh (H6.out.only ((Only.refl Nil w4).alloc (.cells #[.int .i64 r.task,.int .i64 what,.int .i64 0,.int .i64 arg] 78)));clear H6;generalize w4.alloc (.cells #[.int .i64 r.task,.int .i64 what,.int .i64 0,.int .i64 arg] 78)=w5 at *;generalize w4.heap.size=g14 at *;have HN:=HN2;have hHeld:=hHeld2;clear HN2 hHeld2;have H6:=H62;clear H62;refine mpc 15 rfl kr br (fun K hK=> ?_);refine xt (.tmp 12) (.tmp 20) rfl B0 _ r.ns _ g14 ⟨r.task,what,0,arg⟩ br br H6.out H14.out (by rw[←HB0.out w2 rfl];exact HN.out.size) HL.out (fun A9 n9 c9 w6 hown hon=> ?_);have HN2:=zh (hon w2 HN.out (Nat.le_of_eq (HB0.out w2 rfl)));have HP2:=zh (HP.out.keep HN2.out);have HO2:=zh (HO.out.trans (HN2.out.mono (T:=qd B A) (fun _ _ h=>h.elim)));have HV:Hid (OwnN 0 w6 _ _):=zh (jg hown (Nat.zero_le _));refine hK.out _ _ (.inl kr) ?_;clear hK K hHeld hown hon HN HP HO HN2;refine za 16 rfl ?_;refine za 17 rfl ?_;have c19:w6.cell? ⟨B,19,none⟩=some nv:=HP2.out.row.cell_ (i:=19) rfl;have f19:w6.frozen? ⟨B,19,none⟩=false:=HP2.out.row.frozen 19;refine mpc 18 rfl kr br (fun K hK=> ?_);go_simp;refine hK.out _ _ (.inl kr) ?_;clear hK K c19 f19;refine qc kr ?_ _;go_wp2;go_returns;exact⟨rfl,HO2.out.setCell (p:=⟨B,19,none⟩) (.inr (.inl rfl)) _,_,HP2.out.setNotes HV.out⟩
   . go_simp;have HN2:=zh (HN.out.alloc (.cells #[.int .i64 r.task,.int .i64 what,.int .i64 0,.int .i64 arg] 78));have H14:=zh (Row.new w3 78 #[.int .i64 r.task,.int .i64 what,.int .i64 0,.int .i64 arg]);have hHeld2:(w3.alloc (.cells #[.int .i64 r.task,.int .i64 what,.int .i64 0,.int .i64 arg] 78)).cell? ⟨B,19,none⟩=some nv/\(w3.alloc (.cells #[.int .i64 r.task,.int .i64 what,.int .i64 0,.int .i64 arg] 78)).cell? ⟨B,3,none⟩=some (.int .i64 r.task):=⟨(HP.out.keep HN2.out).row.cell_ (i:=19) rfl,(HP.out.keep HN2.out).row.cell_ (i:=3) rfl⟩;refine hK.out _ _ (.inr hHeld2) ?_;clear hK K hHeld HN;have H12:=zh (H1.out.alloc (.cells #[.int .i64 r.task,.int .i64 what,.int .i64 0,.int .i64 arg] 78));clear H1;generalize w3.alloc (.cells #[.int .i64 r.task,.int .i64 what,.int .i64 0,.int .i64 arg] 78)=w4 at *;generalize w3.heap.size=g14 at *;have HN:=HN2;have hHeld:=hHeld2;clear HN2 hHeld2;have H1:=H12;clear H12;refine mpc 6 rfl kr br (fun K hK=> ?_);refine xx (.tmp 7) (.tmp 11) rfl g1 B0 nv r.ns _ br br (HP.out.keep HN.out).notes H1.out HG1.out HL.out (fun A6 n6 c6 w5 h6 hO=> ?_);have HN2:=zh (HN.out.trans hO);have H6:=zh h6;have hHeld2:w5.cell? ⟨B,19,none⟩=some nv/\w5.cell? ⟨B,3,none⟩=some (.int .i64 r.task):=⟨(HP.out.keep HN2.out).row.cell_ (i:=19) rfl,(HP.out.keep HN2.out).row.cell_ (i:=3) rfl⟩;refine hK.out _ _ (.inr hHeld2) ?_;clear hK K hHeld HN h6 H1;have H142:=zh (H14.out.only hO id);clear H14;have H14:=H142;clear H142;have HN:=HN2;have hHeld:=hHeld2;clear HN2 hHeld2;refine mpc 15 rfl kr br (fun K hK=> ?_);refine xt (.tmp 12) (.tmp 20) rfl B0 _ r.ns _ g14 ⟨r.task,what,0,arg⟩ br br H6.out H14.out (by rw[←HB0.out w2 rfl];exact HN.out.size) HL.out (fun A9 n9 c9 w6 hown hon=> ?_);have HN2:=zh (hon w2 HN.out (Nat.le_of_eq (HB0.out w2 rfl)));have HP2:=zh (HP.out.keep HN2.out);have HO2:=zh (HO.out.trans (HN2.out.mono (T:=qd B A) (fun _ _ h=>h.elim)));have HV:Hid (OwnN 0 w6 _ _):=zh (jg hown (Nat.zero_le _));refine hK.out _ _ (.inl kr) ?_;clear hK K hHeld hown hon HN HP HO HN2;refine za 16 rfl ?_;refine za 17 rfl ?_;have c19:w6.cell? ⟨B,19,none⟩=some nv:=HP2.out.row.cell_ (i:=19) rfl;have f19:w6.frozen? ⟨B,19,none⟩=false:=HP2.out.row.frozen 19;refine mpc 18 rfl kr br (fun K hK=> ?_);go_simp;refine hK.out _ _ (.inl kr) ?_;clear hK K c19 f19;refine qc kr ?_ _;go_wp2;go_returns;exact⟨rfl,HO2.out.setCell (p:=⟨B,19,none⟩) (.inr (.inl rfl)) _,_,HP2.out.setNotes HV.out⟩
 . go_simp;have HN2:=zh (HN.out.alloc (.cells #[.int .i64 r.task,.int .i64 what,.int .i64 0,.int .i64 arg] 78));have H14:=zh (Row.new w2 78 #[.int .i64 r.task,.int .i64 what,.int .i64 0,.int .i64 arg]);have hHeld2:(w2.alloc (.cells #[.int .i64 r.task,.int .i64 what,.int .i64 0,.int .i64 arg] 78)).cell? ⟨B,19,none⟩=some nv/\(w2.alloc (.cells #[.int .i64 r.task,.int .i64 what,.int .i64 0,.int .i64 arg] 78)).cell? ⟨B,3,none⟩=some (.int .i64 r.task):=⟨(HP.out.keep HN2.out).row.cell_ (i:=19) rfl,(HP.out.keep HN2.out).row.cell_ (i:=3) rfl⟩;refine hK.out _ _ (.inr hHeld2) ?_;clear hK K hHeld HN;generalize w2.alloc (.cells #[.int .i64 r.task,.int .i64 what,.int .i64 0,.int .i64 arg] 78)=w3 at *;generalize w2.heap.size=g14 at *;have HN:=HN2;have hHeld:=hHeld2;clear HN2 hHeld2;refine mpc 1 rfl kr br (fun K hK=> ?_);go_simp;have HN2:=zh (HN.out.alloc (.cells #[] 78));have H1:=zh (Row.new w3 78 #[]);have HG1:=zh (show B0<=w3.heap.size by rw[←HB0.out w2 rfl];exact HN.out.size);have hHeld2:(w3.alloc (.cells #[] 78)).cell? ⟨B,19,none⟩=some nv/\(w3.alloc (.cells #[] 78)).cell? ⟨B,3,none⟩=some (.int .i64 r.task):=⟨(HP.out.keep HN2.out).row.cell_ (i:=19) rfl,(HP.out.keep HN2.out).row.cell_ (i:=3) rfl⟩;refine hK.out _ _ (.inr hHeld2) ?_;clear hK K hHeld HN;have H142:=zh (H14.out.alloc (.cells #[] 78));clear H14;generalize w3.alloc (.cells #[] 78)=w4 at *;generalize w3.heap.size=g1 at *;have HN:=HN2;have hHeld:=hHeld2;clear HN2 hHeld2;have H14:=H142;clear H142;refine mpc 6 rfl kr br (fun K hK=> ?_);refine xx (.tmp 7) (.tmp 11) rfl g1 B0 nv r.ns _ br br (HP.out.keep HN.out).notes H1.out HG1.out HL.out (fun A6 n6 c6 w5 h6 hO=> ?_);have HN2:=zh (HN.out.trans hO);have H6:=zh h6;have hHeld2:w5.cell? ⟨B,19,none⟩=some nv/\w5.cell? ⟨B,3,none⟩=some (.int .i64 r.task):=⟨(HP.out.keep HN2.out).row.cell_ (i:=19) rfl,(HP.out.keep HN2.out).row.cell_ (i:=3) rfl⟩;refine hK.out _ _ (.inr hHeld2) ?_;clear hK K hHeld HN h6 H1;have H142:=zh (H14.out.only hO id);clear H14;have H14:=H142;clear H142;have HN:=HN2;have hHeld:=hHeld2;clear HN2 hHeld2;refine mpc 15 rfl kr br (fun K hK=> ?_);refine xt (.tmp 12) (.tmp 20) rfl B0 _ r.ns _ g14 ⟨r.task,what,0,arg⟩ br br H6.out H14.out (by rw[←HB0.out w2 rfl];exact HN.out.size) HL.out (fun A9 n9 c9 w6 hown hon=> ?_);have HN2:=zh (hon w2 HN.out (Nat.le_of_eq (HB0.out w2 rfl)));have HP2:=zh (HP.out.keep HN2.out);have HO2:=zh (HO.out.trans (HN2.out.mono (T:=qd B A) (fun _ _ h=>h.elim)));have HV:Hid (OwnN 0 w6 _ _):=zh (jg hown (Nat.zero_le _));refine hK.out _ _ (.inl kr) ?_;clear hK K hHeld hown hon HN HP HO HN2;refine za 16 rfl ?_;refine za 17 rfl ?_;have c19:w6.cell? ⟨B,19,none⟩=some nv:=HP2.out.row.cell_ (i:=19) rfl;have f19:w6.frozen? ⟨B,19,none⟩=false:=HP2.out.row.frozen 19;refine mpc 18 rfl kr br (fun K hK=> ?_);go_simp;refine hK.out _ _ (.inl kr) ?_;clear hK K c19 f19;refine qc kr ?_ _;go_wp2;go_returns;exact⟨rfl,HO2.out.setCell (p:=⟨B,19,none⟩) (.inr (.inl rfl)) _,_,HP2.out.setNotes HV.out⟩
theorem zq(n row i:Int)(w:World)(hr:row=0\/row=1\/row=2\/row=3):
 Calls prog 183 #[.int .i64 n,.int .i64 row,.int .i64 i] w fun e w'=>e= .returned (.int .i64 (yc n row i))/\w=w':=by
 by_cases h1:1<=n
 . by_cases h2:n<=64
   . by_cases h3:0<=i
     . by_cases h4:i<n
       . have hc:yc n row i=8+row*n+i:=if_pos ⟨h1,h2,h3,h4⟩;rw[hc];clear hc;rcases hr with rfl|rfl|rfl|rfl
         all_goals
          go_enter func183, ntmps183;go_wp2;go_ret;exact⟨yl om,rfl⟩
       . have hc:yc n row i= -1:=if_neg (fun h=>h4 h.2.2.2);rw[hc];clear hc hr;go_enter func183, ntmps183;go_wp2;go_ret;exact⟨rfl,rfl⟩
     . have hc:yc n row i= -1:=if_neg (fun h=>h3 h.2.2.1);rw[hc];clear hc hr;go_enter func183, ntmps183;go_wp2;go_ret;exact⟨rfl,rfl⟩
   . have hc:yc n row i= -1:=if_neg (fun h=>h2 h.2.1);rw[hc];clear hc hr;go_enter func183, ntmps183;go_wp2;go_ret;exact⟨rfl,rfl⟩
 . have hc:yc n row i= -1:=if_neg (fun h=>h1 h.1);rw[hc];clear hc hr;go_enter func183, ntmps183;go_wp2;go_ret;exact⟨rfl,rfl⟩
theorem qfz(k m x v:Int)(w:World)(h0:0<=v)(h1:v<4294967296):
 Calls prog 306 #[.agg #[.int .i64 k,.int .u32 m,.int .u32 x],.int .u32 v] w fun e w'=>e= .returned (.bool (uIs k m x v))/\Only Nil w w':=by
 by_cases k0:k=0
 . have hu:uIs k m x v=(bits .and .u32 v m==x):=if_pos k0;rw[hu];clear hu;subst k0;go_enter func306, ntmps306;go_wp2;go_ret;exact⟨rfl,(Only.refl _ _).alloc _⟩
 by_cases k1:k=1
 . have hu:uIs k m x v=(bits .and .u32 v m !=x):=(if_neg k0).trans (if_pos k1);rw[hu];clear hu k0;subst k1;go_enter func306, ntmps306;go_wp2;go_ret;exact⟨rfl,(Only.refl _ _).alloc _⟩
 by_cases k2:k=2
 . have hu:uIs k m x v=(v/256%256==v/65536%256):=((if_neg k0).trans (if_neg k1)).trans (if_pos k2);rw[hu];clear hu k0 k1;subst k2;go_enter func306, ntmps306;go_wp2;go_ret;exact⟨rfl,(Only.refl _ _).alloc _⟩
 by_cases k3:k=3
 . have hu:uIs k m x v=(decide (v/256%256=x) && (v%256==0)):=(((if_neg k0).trans (if_neg k1)).trans (if_neg k2)).trans (if_pos k3);have HU:=zh hu;clear hu k0 k1 k2;subst k3;go_enter func306, ntmps306;go_wp2
   . have hx:v/256%256=x:=by assumption
     go_ret;exact⟨yx (by rw[HU.out,decide_eq_true hx,Bool.true_and]),(Only.refl _ _).alloc _⟩
   . have hx:¬v/256%256=x:=by assumption
     go_ret;exact⟨yx (by rw[HU.out,decide_eq_false hx,Bool.false_and]),(Only.refl _ _).alloc _⟩
 . have hu:uIs k m x v=false:=(((if_neg k0).trans (if_neg k1)).trans (if_neg k2)).trans (if_neg k3);rw[hu];clear hu;go_enter func306, ntmps306;go_wp2;go_ret;exact⟨rfl,(Only.refl _ _).alloc _⟩
theorem qaj(A:Option Addr)(l cp:Nat)(xs:List Int)(n i:Int)(hn:xs.length=l)(w:World):
 Calls prog 182 #[.slice A l cp,.int .i64 n,.int .i64 i] w fun e w'=>e= .returned (.int .i64 (if qf xs (pc n i)then pc n i else -1))/\w=w':=by
 have HN:=zh hn;clear hn
 cases ht:qf xs (pc n i)
 all_goals
  simp only[Bool.false_eq_true,if_false,if_true];have HT:=zh ht;clear ht;go_enter func182, ntmps182;go_wp2_with fail;refine(zq n 3 i _ om).mono ?_;rintro e w1 ⟨rfl,rfl⟩;have hpc:yc n 3 i=pc n i:=rfl;rw[hpc];clear hpc;go_wp2_with fail;refine(kf A l cp xs (pc n i) HN.out _).mono ?_;rw[HT.out];rintro e w2 ⟨rfl,hw⟩;obtain rfl:=hw.symm;clear hw;go_wp2;go_ret;exact⟨rfl,rfl⟩
end Go.Proofs.YtgebffjejifidaaGreat
