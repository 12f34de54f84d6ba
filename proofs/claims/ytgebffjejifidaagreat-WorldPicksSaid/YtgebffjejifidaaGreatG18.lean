import Derived.Deep.Cut
import Derived.Test.YtgebffjejifidaaGreatChecked
import Derived.Laws.StructEq
import Derived.BigQuiet
import Derived.Test.YtgebffjejifidaaGreatG5
import Derived.Test.YtgebffjejifidaaGreatG10
import Derived.Test.YtgebffjejifidaaGreatG17
import Derived.Test.YtgebffjejifidaaGreatG6
import Derived.Test.YtgebffjejifidaaGreatG2
import Derived.Test.YtgebffjejifidaaGreatG1
set_option linter.unusedVariables false
set_option linter.unusedSimpArgs false
set_option maxHeartbeats 4000000
set_option maxRecDepth 100000
namespace Go.Proofs.YtgebffjejifidaaGreat
open Go.RowKit Tryz
structure TaskL(w:World)(g k:Nat)(h:Nat->Int)(f:Nat->LS):Prop where
 row:∃cs,Row w g 74 cs/\∀i,i<k->∀j v,(zl (h i) (f i))[j]? =some v->cs[i*11+j]? =some v
theorem TaskL.cell{w:World}{g k t:Nat}{h:Nat->Int}{f:Nat->LS}(T:TaskL w g k h f)(ht:t<k)(j:Nat){v:Value}(hj:(zl (h t) (f t))[j]? =some v):w.cell? ⟨g,t*11+j,none⟩=some v:=by
 obtain⟨cs,hr,hc⟩:=T.row;exact hr.cell_ (hc t ht j v hj)
theorem TaskL.only{w w':World}{g k:Nat}{h:Nat->Int}{f:Nat->LS}{S:Nat->Prop}(T:TaskL w g k h f)(ho:Only S w w')(hg:¬S g):TaskL w' g k h f:=by
 obtain⟨cs,hr,hc⟩:=T.row;exact⟨cs,hr.only ho hg,hc⟩
theorem qmi(h:Int)(r:LS):(zl h r).toList.all (fun v=>v.oneCell')=true:=rfl
theorem qjr(gt k:Nat)(h:Nat->Int)(f:Nat->LS)(w:World)(T:Tasks w gt k h f)(hk:1<=k/\k<=64):
 Calls prog 59 #[.slice (some ⟨gt,0,none⟩) k k] w fun e w'=>∃g' c',e= .returned (.slice (some ⟨g',0,none⟩) k c')/\w.heap.size<=g'/\TaskL w' g' k h f/\Only Nil w w':=by
 have hq:=fun(w:World) (a:Option Addr) (n c:Nat)=>Lib.run_eql_slice_nil (P:= prog) w 56 74 a n c 0 0 underlying56;obtain⟨i0,hi,hz0,hz1,hz2⟩:=info_parts qy7;obtain⟨cs,hr,hs,hc⟩:=T.row
 have hone:∀u∈cs.toList,u.oneCell'=true:=by
  intro u hu;obtain⟨p,hp,rfl⟩:=List.getElem_of_mem hu
  have hp':p<k*11:=by rw[Array.length_toList]at hp;omega
  have hj:p%11<(zl (h (p/11)) (f (p/11))).size:=by show p%11<11;omega
  have e:=hc (p/11) om (p%11) _ (Array.getElem?_eq_getElem hj);rw[show p/11*11+p%11=p by omega]at e
  have e2:cs.toList[p]=(zl (h (p/11)) (f (p/11)))[p%11]:=by
   rw[Array.getElem_toList];have:=Array.getElem?_eq_getElem (xs:=cs) (i:=p) om;rw[this]at e;exact Option.some.inj e
  rw[e2];exact List.all_eq_true.1 (qmi (h (p/11)) (f (p/11))) _ (by rw[←Array.getElem_toList];exact List.getElem_mem _)
 have hl:cs.toList.length=k*11:=by rw[Array.length_toList];exact hs
 have HC:=zh (And.intro hc (And.intro hl hs));have HR:=zh hr;clear hc hs hr T;go_enter func59, ntmps59;go_wp2_with (at_builtin;refine wpList_append_own _ rfl (.tmp 5) (.tmp 6) 56 rfl w.heap.size 74 i0 (.agg jb) 11 80 underlying56 hi hz0 hz1 hz2 rfl dc _ 0 [] rfl (World.ownsRow_made w #[] 0 (Nat.le_refl _) dc rfl) ⟨gt,0,none⟩ k k cs.toList rfl ?c0 ?c1 ?c2 ?c3 ?c4 ?c5 ?_)
 case c0=>exact HC.out.2.1
 case c1=>exact fun j u hj=>by rw[qe0,Nat.zero_add];exact(HR.out.alloc _).cell_ (by rw[←Array.getElem?_toList];exact hj)
 case c2=>exact hone
 case c3=>unfold maxLen;omega
 case c4=>omega
 case c5=>simp
 intro v' w1 hown hgrow _;have HO:=zh hown;have HG:=zh hgrow;clear hown hgrow;go_wp2;go_ret;have hO:=((Only.refl Nil w).alloc (.cells #[] 74)).grown HG.out (fun k hk=>by simp only[Value.ownBlock,Option.some.injEq]at hk;left;omega);rcases HO.out.2 with⟨_,hn⟩|⟨g',cap,cur,rfl,hb,hg,_,_,hsz,ht⟩
 . omega
 . refine⟨g',cap,rfl,hb,⟨cur,hg,fun i hi j v hv=> ?_⟩,hO⟩;have hj:j<11:=(Array.getElem?_eq_some_iff.1 hv).1;have e:=HC.out.1 i hi j v hv
   have e1:(cur.toList.take (k*11))[i*11+j]? =some v:=by
    have ht':cur.toList.take (k*11)=cs.toList:=by simpa using ht
    rw[ht',Array.getElem?_toList];exact e
   rw[List.getElem?_take,if_pos om,Array.getElem?_toList]at e1;exact e1
theorem qqh{w:World}{base base':Nat}{A:Option Addr}{c:Nat}{xs:List Int}(h:Own w base A c xs)(hb:base'<=base):Own w base' A c xs:=⟨jg h.own hb,h.nil,fun i hi=>Nat.le_trans hb (h.base i hi)⟩
def qiv(kind mode:Int)(k:Nat)(A:Option Addr)(n c g' ct:Nat):Array Value:= #[.int .i64 kind,.int .i64 mode,.int .i64 k,.slice A n c,.slice (some ⟨g',0,none⟩) k ct]
theorem held_n{w:World}{base n:Nat}{A:Option Addr}{c:Nat}{xs:List Int}(h:Own w base A c xs)(hn:xs.length=n):Held w A n c xs:=by
 subst hn;exact h.held
def qw8(W:World)(kind mode:Int)(k:Nat)(m:MV)(e:Ending)(w':World):Prop:=
 ∃A c g' ct,e= .returned (.agg (qiv kind mode k A m.xs.length c g' ct))/\Own w' W.heap.size A c m.xs/\TaskL w' g' k m.hold m.rs/\W.heap.size<=g'/\Only Nil W w'
theorem qjl(g gt b:Nat)(A:Option Addr)(cp:Nat)(kind mode:Int)(k:Nat)(m:MV)(W:World)(h:WdP W g gt b A cp kind mode k m)(hk:1<=k/\k<=64):
 Calls prog 29 #[.pointer (some ⟨g,0,none⟩)] W (qw8 W kind mode k m):=by
 have HW:=zh h;have HK:=zh hk;clear h hk;go_enter func29, ntmps29
 go_upto_region 3 with(fail)
 have e0:=(Only.refl Nil W).alloc (.cells #[.int .i64 0,.int .i64 0,.int .i64 0,.slice none 0 0,.slice none 0 0] 83);have HO1:=zh e0.drew;have HW1:=zh (HW.out.keep e0.drew);have HE1:=zh (Row.new W 83 #[.int .i64 0,.int .i64 0,.int .i64 0,.slice none 0 0,.slice none 0 0]).drew;have HB:=zh (show ∀V:World,V=W->V.heap.size<=W.heap.size from fun _ h=>h▸Nat.le_refl _)
 have hS:∀w,w=(W.alloc (.cells #[.int .i64 0,.int .i64 0,.int .i64 0,.slice none 0 0,.slice none 0 0] 83)).drew->(w.cell? ⟨g,0,none⟩=some (.int .i64 kind)/\w.cell? ⟨g,1,none⟩=some (.int .i64 mode)/\w.cell? ⟨g,3,none⟩=some (.pointer (some ⟨b,0,none⟩))/\w.cell? ⟨g,5,none⟩=some (.slice (some ⟨gt,0,none⟩) k k)):=fun w hw=>by
  have HW2:=zh (HW.out.keep e0.drew);rw[hw];exact⟨HW2.out.row.cell_ (i:=0) rfl,HW2.out.row.cell_ (i:=1) rfl,HW2.out.row.cell_ (i:=3) rfl,HW2.out.row.cell_ (i:=5) rfl⟩
 refine qb (n:=22) 21 (fun w=>w.cell? ⟨g,0,none⟩=some (.int .i64 kind)/\w.cell? ⟨g,1,none⟩=some (.int .i64 mode)/\w.cell? ⟨g,3,none⟩=some (.pointer (some ⟨b,0,none⟩))/\w.cell? ⟨g,5,none⟩=some (.slice (some ⟨gt,0,none⟩) k k)) rfl kr (hS _ rfl) (fun hHeld=> ?_);clear e0 hS HW;generalize (W.alloc _).drew=w1 at *;generalize W.heap.size=E at *;have HEL:=zh (HB.out W rfl);clear HB;refine za 0 rfl ?_;refine za 1 rfl ?_;refine za 2 rfl ?_;refine zt 3 rfl ?_;refine za 4 rfl ?_;refine za 5 rfl ?_;refine za 6 rfl ?_;refine zt 7 rfl ?_;refine za 8 rfl ?_;refine za 10 rfl ?_;refine za 11 rfl ?_;refine za 12 rfl ?_;refine zt 13 rfl ?_;refine za 15 rfl ?_;refine za 16 rfl ?_;refine za 17 rfl ?_;refine zt 18 rfl ?_;refine mpc 9 rfl kr br (fun K hK=> ?_);go_simp;refine(qih g gt b A cp kind mode k m _ HW1.out).mono ?_;rintro e w2 ⟨rfl,rfl⟩;refine hK.out _ _ (.inr hHeld) ?_;clear hK K;refine mpc 14 rfl kr br (fun K hK=> ?_);go_simp;refine(qy2 b A cp m.xs _ HW1.out.mem).mono ?_;rintro e w2 ⟨A2,c2,rfl,hO,hN⟩;have HQ:=zh (And.intro hO hN);have HW2:=zh (HW1.out.keep hN);refine hK.out _ _ (.inr ⟨HW2.out.row.cell_ (i:=0) rfl,HW2.out.row.cell_ (i:=1) rfl,HW2.out.row.cell_ (i:=3) rfl,HW2.out.row.cell_ (i:=5) rfl⟩) ?_;clear hK K hHeld hO hN;refine mpc 19 rfl kr br (fun K hK=> ?_);go_simp;refine(qjr gt k m.hold m.rs _ HW2.out.tasks HK.out).mono ?_;rintro e w3 ⟨g3,c3,rfl,hg,hT,hN⟩;have HQ3:=zh (And.intro hg (And.intro hT hN));have HW3:=zh (HW2.out.keep hN);have hH3:w3.cell? ⟨g,0,none⟩=some (.int .i64 kind)/\w3.cell? ⟨g,1,none⟩=some (.int .i64 mode)/\w3.cell? ⟨g,3,none⟩=some (.pointer (some ⟨b,0,none⟩))/\w3.cell? ⟨g,5,none⟩=some (.slice (some ⟨gt,0,none⟩) k k):=⟨HW3.out.row.cell_ (i:=0) rfl,HW3.out.row.cell_ (i:=1) rfl,HW3.out.row.cell_ (i:=3) rfl,HW3.out.row.cell_ (i:=5) rfl⟩;refine hK.out _ _ (.inr hH3) ?_;clear hK K hg hT hN;refine za 20 rfl ?_;have HE3:=zh ((HE1.out.only HQ.out.2 id).only HQ3.out.2.2 id);refine mpc 21 rfl kr br (fun K hK=> ?_);refine qct 83 (.tmp 2) (.tmp 26) rfl br br HE3.out kr (Nat.le_refl 5) kr ?_;rw[zb br];refine hK.out _ _ (.inl kr) ?_;clear hK K;refine qc kr ?_ _;go_wp2_with fail;have eE:=(Only.refl (· =E) w3).setRow (g:=E) (.inr rfl) (qiv kind mode k A2 m.xs.length c2 g3 c3);refine qv results29 br (HE3.out.setRow _) underlying83 rfl kr rfl ⟨A2,c2,g3,c3,rfl,?_,HQ3.out.2.1.only eE ?_,Nat.le_trans (Nat.le_trans HO1.out.size HQ.out.2.size) HQ3.out.1,((HO1.out.trans HQ.out.2).trans HQ3.out.2.2).setRow (.inl HEL.out) _⟩
 . exact((qqh HQ.out.1 HO1.out.size).only HQ3.out.2.2 (fun _ _=>id)).only eE (fun i hi e=>by
    obtain⟨cur,hc⟩:=zx (HQ.out.1.only HQ3.out.2.2 (fun _ _=>id)) hi
    exact qh hc HE3.out dc e)
 . obtain⟨cs,hr,_⟩:=HQ3.out.2.1.row;exact qh hr HE3.out dc
section
variable{mode kind:Int}{k:Nat}{m:MV}
theorem qpf(h:WdI mode k m){t:Nat}(ht:t<k)(h0:(m.rs t).op=0):(m.at t).stuck=false:=chk_stuck.free (m.at t) (h.idle t ht h0)
end
def qnb(k c x y k' c' x' y':Int):Bool:=k==k' && (c==c' && (x==x' && y==y'))
theorem qqe{k c x y k' c' x' y':Int}:qnb k c x y k' c' x' y'=true↔k=k'/\c=c'/\x=x'/\y=y':=by
 simp[qnb]
theorem qu0(k c x y k' c' x' y':Int)(W:World):(binOp .neq 78 (.agg #[.int .i64 k,.int .i64 c,.int .i64 x,.int .i64 y]) (.agg #[.int .i64 k',.int .i64 c',.int .i64 x',.int .i64 y'])).run prog W= .ok (.bool (!qnb k c x y k' c' x' y')) W:=by
 simp[go_sem,qnb]
 by_cases h1:k=k'<;>by_cases h2:c=c'<;>by_cases h3:x=x'<;>by_cases h4:y=y'<;>simp[h1,h2,h3,h4]
theorem qln(v1 v2:Value)(zs:List Nt)(w:World)(h1:ListN w v1 zs)(h2:ListN w v2 zs)(hm:zs.length<=1048576):
 Calls prog 28 #[v1,v2] w fun e w'=>e= .returned (.bool true)/\Only Nil w w':=by
 obtain⟨A1,c1,rfl,hn1⟩:=h1;obtain⟨A2,c2,rfl,hn2⟩:=h2;have H1:=zh hn1;have H2:=zh hn2;generalize hn:zs.length=n at *;have HN:=zh hn
 have q0:(n:Int)<=9223372036854775806:=by omega
 clear hn1 hn2 hn hm;go_enter func28, ntmps28;go_wp2
 go_loopw [5] (fun i wr=>∃k:Nat,k<=n/\i= .int .i64 k/\Hid (Drew w wr)) (fun i _=>n-(intOf i).toNat)
 case atStart=>exact⟨0,Nat.zero_le _,rfl,zh (Drew.refl _)⟩
 case round=>
  obtain⟨k,hk,rfl,HD⟩:=hrel
  by_cases hlt:k<n
  . have q1:(k:Int)<n:=by omega
    have HLT:=zh hlt;obtain⟨z,hzk⟩:∃z,zs[k]? =some z:=⟨_,List.getElem?_eq_getElem (by rw[HN.out];exact hlt)⟩;obtain⟨b,q,rfl,hb,hat⟩:=(H1.out.only HD.out.only) (by rw[HN.out];omega);obtain⟨b',q',rfl,hb',hat'⟩:=(H2.out.only HD.out.only) (by rw[HN.out];omega);obtain⟨f0,f1,f2,f3⟩:=hat k z hzk;obtain⟨g0,g1,g2,g3⟩:=hat' k z hzk;have hq:=fun W=>(qu0 z.t z.w z.o z.a z.t z.w z.o z.a W).trans (by rw[qqe.2 ⟨rfl,rfl,rfl,rfl⟩]);clear hat hat' hzk;go_wp2
    go_quiet (fail)
    go_wp2;exact⟨⟨k+1,by have:=HLT.out;omega,by go_num,zh (HD.out.trans (Drew.n _ _))⟩,by have:=HLT.out;simp[intOf];omega⟩
  . obtain rfl:k=n:=by omega
    clear hlt hk;go_wp2;go_ret;exact⟨rfl,HD.out.only⟩
end Go.Proofs.YtgebffjejifidaaGreat
