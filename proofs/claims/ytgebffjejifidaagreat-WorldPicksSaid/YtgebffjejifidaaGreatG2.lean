import Derived.WalkKit
import Derived.Test.YtgebffjejifidaaGreatChecked
import Derived.Test.YtgebffjejifidaaGreatG1
set_option linter.unusedVariables false
set_option linter.unusedSimpArgs false
namespace Go.Proofs.YtgebffjejifidaaGreat
open Go.RowKit Tryz
structure Chk(chk:LS->Bool):Prop where
 fresh:∀r:LS,chk r.fresh=chk r
 free:∀r:LS,r.s=0->chk r=false
theorem chk_stuck:Chk LS.stuck:=⟨fun _=>rfl,fun r h=>by
 unfold LS.stuck jq;rw[h]
 simp⟩
section
variable{chk:LS->Bool}{L:LS->LS}{r:LS}
theorem qfv:r.fresh.next L=r.next L:=by unfold LS.next;show(if r.k.on=true then _ else _)=_;split<;>rfl
end
def upd{α:Type}(f:Nat->α)(t:Nat)(v:α):Nat->α:=fun i=>if i=t then v else f i
theorem jm{α:Type}(f:Nat->α)(t:Nat)(v:α):upd f t v t=v:=if_pos rfl
theorem yp{α:Type}(f:Nat->α){t i:Nat}(v:α)(h:i≠t):upd f t v i=f i:=if_neg h
structure MV where
 rs:Nat->LS
 hold:Nat->Int
 xs:List Int
def MV.at(m:MV)(t:Nat):LS:={m.rs t with xs:=m.xs}
def MV.setR(m:MV)(t:Nat)(r:LS):MV:=⟨upd m.rs t r,m.hold,r.xs⟩
def MV.setH(m:MV)(t:Nat)(h:Int):MV:=⟨m.rs,upd m.hold t h,m.xs⟩
def jt(r:LS)(op:Int):LS:={r with op:=op,line:=0,a:=0,b:=0,s:=0,k:=wk0,ret:=0}
def qfu(op hold:Int):Bool:=if hold=0 then(op==1||op==3||op==5||op==6)else if hold=1 then(op==2||op==7)else(op==4||op==8)
def qdh(op hold:Int):Int:=if op=2\/op=4 then 0 else if op=8 then 1 else hold
def kj(op ret hold:Int):Int:=if ret≠2 then hold else if op=1\/op=5 then 1 else if op=3\/op=6\/op=7 then 2 else hold
def MV.start(m:MV)(t:Nat)(op:Int):MV:=(m.setH t (qdh op (m.hold t))).setR t (jt (m.at t) op)
def LS.keepA(r:LS)(v:Int):LS:={r with a:=v}
def LS.keepB(r:LS)(v:Int):LS:={r with b:=v}
def LS.mine(r:LS)(v:Int):Bool:=v==r.a
def LS.noteIf(r:LS)(b:Bool)(what:Int):LS:=if b then r.note what 0 else r
theorem jx{xs:List Int}(h:Words xs)(c:Int):0<=qa xs c/\qa xs c<4294967296:=qq h c
theorem qia{xs:List Int}(h:Words xs)(k c x y:Int)(hl:0<=yr k x y (qa xs c)/\yr k x y (qa xs c)<4294967296):Words (yk xs k c x y):=by
 unfold yk;split
 . intro n hn;rcases List.mem_or_eq_of_mem_set hn with hn|rfl
   . exact h n hn
   . exact qnj hl.1 hl.2
 . exact h
theorem qky{xs:List Int}(h:Words xs)(n:Int)(on:Bool)(c i:Int)(hit:Bool):Words (jn xs n on c i hit).xs:=by
 unfold jn xh xi qa9
 repeat' split
 all_goals first|exact h|exact h.st _ om om
theorem qqc(xs:List Int)(n:Int)(on:Bool)(c i:Int)(hit:Bool):(jn xs n on c i hit).xs.length=xs.length:=by
 unfold jn xh xi qa9
 repeat' split
 all_goals first|rfl|exact qdv _ _ _
def zv(a b:Int):Int:=(a-b+2147483648)%4294967296-2147483648
def vv(op line:Int):Nat:=
 if op=1/\line=0 then 1 else if op=1/\line=1 then 2 else if op=1/\line=2 then 3 else if op=2/\line=0 then 4 else if op=3/\line=0 then 5 else if op=3/\line=1 then 6
 else if op=4/\line=0 then 7 else if op=4/\line=1 then 8 else if op=5/\line=0 then 9 else if op=5/\line=1 then 10 else if op=5/\line=2 then 11 else if op=5/\line=3 then 12
 else if op=6/\line=0 then 13 else if op=6/\line=1 then 14 else if op=6/\line=2 then 15 else if op=7/\line=0 then 16 else if op=7/\line=1 then 17 else if op=7/\line=2 then 18 else if op=7/\line=3 then 19
 else if op=8/\line=0 then 20 else 0
def LS.draw(r:LS)(cl:Int):LS:=(((r.doA 3 0 1 0).keepA (qa r.xs 0)).note 2 cl).go 1
def LS.awaitR(r:LS):LS:=if(r.stepR 1 r.mine).done then(r.wait 1 r.mine).go 2 else r.wait 1 r.mine
def LS.awaitW(r:LS):LS:=if(r.stepR 2 r.mine).done then((r.wait 2 r.mine).noteIf (r.stepR 2 r.mine).seen 4).fin true else(r.wait 2 r.mine).noteIf (r.stepR 2 r.mine).seen 4
def LS.turn(r:LS)(c what:Int):LS:=(((r.doA 3 c 1 0).note what 0).wake c).fin true
def LS.leave(r:LS):LS:=(((r.doA 3 1 1 0).note 7 0).wake 1).go 1
def LS.look(r:LS):LS:=((r.doA 1 0 0 0).keepA (qa r.xs 0)).go 1
def LS.weigh(r:LS)(c own:Int):LS:=
 if own<zv r.a (qa r.xs c)then(((r.doA 1 c 0 0).keepB (qa r.xs c)).note 5 0).fin false
 else if zv r.a (qa r.xs c)<own then((r.doA 1 c 0 0).keepB (qa r.xs c)).go 0 else((r.doA 1 c 0 0).keepB (qa r.xs c)).go 2
def LS.claimed(r:LS):Bool:=qf r.xs 0 && (qa r.xs 0==r.a)
def LS.claim(r:LS):LS:=r.doA 5 0 r.a ((r.a+1)%4294967296)
def LS.giveBack(r:LS):LS:=(r.doA 3 2 1 0).fin true
def LS.tf(r:LS):LS:=
 match vv r.op r.line with
 |1=>r.draw 1
 |2=>r.awaitR
 |3=>r.turn 1 4
 |4=>r.turn 2 6
 |5=>r.draw 2
 |6=>r.awaitW
 |7=>r.leave
 |8=>r.turn 2 8
 |9=>r.look
 |10=>r.weigh 1 0
 |11=>if r.claimed then(r.claim.note 2 1).go 3 else r.claim.go 0
 |12=>r.turn 1 4
 |13=>r.look
 |14=>r.weigh 2 0
 |15=>if r.claimed then((r.claim.note 2 2).note 4 0).fin true else r.claim.go 0
 |16=>r.look
 |17=>r.weigh 2 1
 |18=>if r.claimed then(r.claim.note 9 0).go 3 else r.claim.go 0
 |19=>r.giveBack
 |20=>r.turn 1 10
 |_=>r
def vi(op line:Int):Nat:=
 if op=1/\line=0 then 1 else if op=1/\line=1 then 2 else if op=2/\line=0 then 3 else if op=3/\line=0 then 4 else if op=3/\line=1 then 5 else if op=3/\line=2 then 6
 else if op=3/\line=3 then 7 else if op=3/\line=4 then 8 else if op=4/\line=0 then 9 else if op=8/\line=0 then 9 else if op=4/\line=1 then 10 else if op=8/\line=1 then 11
 else if op=4/\line=2 then 12 else if op=8/\line=2 then 12 else if op=4/\line=3 then 13 else if op=8/\line=3 then 13 else if op=5/\line=0 then 14 else if op=5/\line=1 then 15
 else if op=6/\line=0 then 16 else if op=7/\line=0 then 16 else if op=6/\line=1 then 17 else if op=7/\line=1 then 17 else if op=6/\line=2 then 18 else if op=7/\line=2 then 18
 else if op=6/\line=3 then 19 else if op=7/\line=3 then 19 else if op=6/\line=4 then 20 else if op=7/\line=4 then 21 else if op=6/\line=5 then 22 else if op=7/\line=5 then 22
 else if op=6/\line=6 then 23 else if op=7/\line=6 then 23 else if op=6/\line=7 then 24 else if op=7/\line=7 then 25 else if op=7/\line=8 then 26 else if op=6/\line=9 then 27
 else if op=7/\line=9 then 27 else 0
def va(v:Int):Int:=v%4
def yw(b:Int):Int:=2+b%2
def LS.pCome(r:LS):LS:=if va (qa r.xs 0)=0 then((((r.doA 3 0 256 0).keepA (qa r.xs 0)).note 2 1).note 4 0).fin true else(((r.doA 3 0 256 0).keepA (qa r.xs 0)).note 2 1).go 1
def LS.left(r:LS)(v:Int):Bool:=va v !=va r.a
def LS.pAdmit(r:LS)(c:Int)(q:Int->Bool):LS:=if(r.stepR c q).done then((r.wait c q).noteIf (r.stepR c q).seen 4).fin true else(r.wait c q).noteIf (r.stepR c q).seen 4
def LS.pDepart(r:LS):LS:=(((r.doA 3 1 256 0).note 6 0).wake 1).fin true
def LS.pDraw(r:LS):LS:=(((r.doA 3 2 1 0).keepA (qa r.xs 2)).note 2 2).go 1
def LS.pTurn(r:LS):LS:=if(r.stepR 3 r.mine).done then(r.wait 3 r.mine).go 2 else r.wait 3 r.mine
def LS.pKeep(r:LS)(n:Int):LS:=((r.doA 1 4 0 0).keepB (qa r.xs 4)).go n
def LS.pAppear(r:LS)(n:Int):LS:=(((r.doA 3 0 (yw r.b) 0).keepA (qa r.xs 0)).note 3 0).go n
def LS.pVanish(r:LS)(inn what:Int):LS:=(((r.doA 3 0 ((inn-yw r.b)%4294967296) 0).note what 0).wake 0).go 2
def LS.pCount(r:LS):LS:=(r.doA 2 4 ((r.b+1)%4294967296) 0).go 3
def LS.pPass(r:LS)(ok:Bool):LS:=(((r.doA 3 3 1 0).note 8 0).wake 3).fin ok
def LS.pLookIn(r:LS):LS:=if va (qa r.xs 0)=0 then((r.doA 1 0 0 0).keepA (qa r.xs 0)).go 1 else(((r.doA 1 0 0 0).keepA (qa r.xs 0)).note 5 0).fin false
def LS.was(r:LS)(c:Int):Bool:=qf r.xs c && (qa r.xs c==r.a)
def LS.pSlip(r:LS):LS:=if r.was 0 then(((r.doA 5 0 r.a ((r.a+256)%4294967296)).note 2 1).note 4 0).fin true else(r.doA 5 0 r.a ((r.a+256)%4294967296)).go 0
def LS.pLook(r:LS)(c n:Int):LS:=((r.doA 1 c 0 0).keepA (qa r.xs c)).go n
def LS.pWeighT(r:LS):LS:=
 if 0<zv r.a (qa r.xs 3)then(((r.doA 1 3 0 0).keepB (qa r.xs 3)).note 5 0).fin false
 else if zv r.a (qa r.xs 3)<0 then((r.doA 1 3 0 0).keepB (qa r.xs 3)).go 0 else((r.doA 1 3 0 0).keepB (qa r.xs 3)).go 2
def LS.pClaim(r:LS):LS:=if r.was 2 then((r.doA 5 2 r.a ((r.a+1)%4294967296)).note 2 2).go 3 else(r.doA 5 2 r.a ((r.a+1)%4294967296)).go 0
def LS.pWeighR(r:LS)(own:Int):LS:=if zv r.a (qa r.xs 1)<=own then((r.doA 1 1 0 0).keepB (qa r.xs 1)).go 5 else(((r.doA 1 1 0 0).keepB (qa r.xs 1)).note 5 0).go 9
def LS.butMe(r:LS)(v:Int):Bool:=v==(r.a-256)%4294967296
def LS.pOthers(r:LS):LS:=if(r.stepR 1 r.butMe).done then((r.wait 1 r.butMe).noteIf (r.stepR 1 r.butMe).seen 9).go 8 else(r.wait 1 r.butMe).noteIf (r.stepR 1 r.butMe).seen 9
def LS.pStop(r:LS):LS:=(r.doA 3 1 256 0).fin true
def LS.pf(r:LS):LS:=
 match vi r.op r.line with
 |1=>r.pCome
 |2=>r.pAdmit 0 r.left
 |3=>r.pDepart
 |4=>r.pDraw
 |5=>r.pTurn
 |6=>r.pKeep 3
 |7=>r.pAppear 4
 |8=>r.pAdmit 1 r.mine
 |9=>r.pKeep 1
 |10=>r.pVanish 0 7
 |11=>r.pVanish 256 10
 |12=>r.pCount
 |13=>r.pPass true
 |14=>r.pLookIn
 |15=>r.pSlip
 |16=>r.pLook 2 1
 |17=>r.pWeighT
 |18=>r.pClaim
 |19=>r.pLook 0 4
 |20=>r.pWeighR 0
 |21=>r.pWeighR 256
 |22=>r.pKeep 6
 |23=>r.pAppear 7
 |24=>r.pAdmit 1 r.mine
 |25=>r.pOthers
 |26=>r.pStop
 |27=>r.pPass false
 |_=>r
def nc(n i:Int):Int:=yc n 0 i
def bc(n i:Int):Int:=yc n 1 i
def LS.me(r:LS):Int:=(r.task+1)%4294967296
def isZ(v:Int):Bool:=v==0
def isN(v:Int):Bool:=v !=0
def LS.notes(r:LS)(whats:List Int):LS:=whats.foldl (fun r w=>r.note w 0) r
def LS.link(r:LS):LS:=(((r.doA 2 (nc r.n (r.a-1)) r.me 0).wake (nc r.n (r.a-1))).go 4)
def LS.swapIn(r:LS)(tail cl:Int):LS:=((r.doA 4 tail r.me 0).keepA (qa r.xs tail)).note 2 cl
def LS.mxEnter(r:LS)(tail cl:Int):LS × Bool:=
 if r.line=0 then((r.doA 2 (nc r.n r.task) 0 0).go 1,false)
 else if r.line=1 then((r.doA 2 (bc r.n r.task) 1 0).go 2,false)
 else if r.line=2 then(if qa r.xs tail=0 then(r.swapIn tail cl,true)else((r.swapIn tail cl).go 3,false))
 else if r.line=3 then(r.link,false)
 else if r.line=4 then(r.wait (bc r.n r.task) isZ,(r.stepR (bc r.n r.task) isZ).done)
 else(r,false)
def LS.seeN(r:LS):LS:=if(r.stepR (nc r.n r.task) isN).seen then(r.wait (nc r.n r.task) isN).keepA (qa r.xs (nc r.n r.task))else r.wait (nc r.n r.task) isN
def LS.handOn(r:LS)(whats:List Int):LS:=((r.doA 2 (bc r.n (r.a-1)) 0 0).notes whats).wake (bc r.n (r.a-1))
def LS.peek(r:LS):LS:=(r.doA 1 (nc r.n r.task) 0 0).keepA (qa r.xs (nc r.n r.task))
def LS.casOut(r:LS)(tail:Int):Bool:=qf r.xs tail && (qa r.xs tail==r.me)
def LS.mxGive(r:LS)(tail a:Int)(whats:List Int):LS × Bool:=
 if r.line=a then(if qa r.xs (nc r.n r.task)=0 then r.peek.go (a+1)else r.peek.go (a+3),false)
 else if r.line=a+1 then(if r.casOut tail then((r.doA 5 tail r.me 0).notes whats,true)else((r.doA 5 tail r.me 0).go (a+2),false))
 else if r.line=a+2 then(if(r.stepR (nc r.n r.task) isN).done then r.seeN.go (a+3)else r.seeN,false)
 else if r.line=a+3 then(r.handOn whats,true)
 else(r,false)
def LS.mxTry(r:LS)(tail a:Int):LS × Bool × Bool:=
 if r.line=a then((r.doA 2 (nc r.n r.task) 0 0).go (a+1),false,false)
 else if r.line=a+1 then(r.doA 5 tail 0 r.me,true,qf r.xs tail && (qa r.xs tail==0))
 else(r,false,false)
def yt(op line:Int):Nat:=
 if op=1/\line=0 then 1 else if op=1/\line=1 then 2 else if op=2/\line=0 then 3 else if op=5/\line=0 then 4 else if op=5/\line=1 then 5
 else if op=3/\0<=line/\line<=4 then 6 else if op=3/\line=5 then 7 else if op=3/\line=6 then 8 else if op=3/\line=7 then 9
 else if(op=4\/op=8)/\line=0 then 10 else if op=4/\line=1 then 11 else if op=8/\line=1 then 12 else if(op=4\/op=8)/\line=2 then 13 else if op=4\/op=8 then 14
 else if(op=6\/op=7)/\0<=line/\line<=1 then 15 else if(op=6\/op=7)/\line=2 then 16 else if op=6/\line=3 then 17 else if op=7/\line=3 then 18
 else if(op=6\/op=7)/\line=4 then 19 else if(op=6\/op=7)/\line=5 then 20 else if op=6/\line=6 then 21 else if op=7/\line=6 then 22 else if op=7/\line=7 then 23
 else if op=6\/op=7 then 24 else 0
def LS.wEnter(r:LS):LS:=if(r.mxEnter 2 2).2 then(r.mxEnter 2 2).1.go 5 else(r.mxEnter 2 2).1
def LS.wKeep(r:LS)(n:Int):LS:=((r.doA 1 3 0 0).keepB (qa r.xs 3)).go n
def LS.wCount(r:LS):LS:=(r.doA 2 3 ((r.b+1)%4294967296) 0).go 3
def LS.wGive(r:LS)(a:Int)(ok:Bool):LS:=if(r.mxGive 2 a [8]).2 then(r.mxGive 2 a [8]).1.fin ok else(r.mxGive 2 a [8]).1
def LS.wTry(r:LS):LS:=
 if(r.mxTry 2 0).2.1 then(if(r.mxTry 2 0).2.2 then((r.mxTry 2 0).1.note 2 2).go 2 else((r.mxTry 2 0).1.note 5 0).fin false)else(r.mxTry 2 0).1
def LS.wWeigh(r:LS)(own:Int):LS:=if zv r.a (qa r.xs 1)<=own then((r.doA 1 1 0 0).keepB (qa r.xs 1)).go 4 else(((r.doA 1 1 0 0).keepB (qa r.xs 1)).note 5 0).go 8
def LS.wOthers(r:LS):LS:=if(r.stepR 1 r.butMe).done then((r.wait 1 r.butMe).noteIf (r.stepR 1 r.butMe).seen 9).go 7 else(r.wait 1 r.butMe).noteIf (r.stepR 1 r.butMe).seen 9
def LS.pq(r:LS):LS:=
 match yt r.op r.line with
 |1=>r.pCome
 |2=>r.pAdmit 0 r.left
 |3=>r.pDepart
 |4=>r.pLookIn
 |5=>r.pSlip
 |6=>r.wEnter
 |7=>r.wKeep 6
 |8=>r.pAppear 7
 |9=>r.pAdmit 1 r.mine
 |10=>r.wKeep 1
 |11=>r.pVanish 0 7
 |12=>r.pVanish 256 10
 |13=>r.wCount
 |14=>r.wGive 3 true
 |15=>r.wTry
 |16=>r.pLook 0 3
 |17=>r.wWeigh 0
 |18=>r.wWeigh 256
 |19=>r.wKeep 5
 |20=>r.pAppear 6
 |21=>r.pAdmit 1 r.mine
 |22=>r.wOthers
 |23=>r.pStop
 |24=>r.wGive 8 false
 |_=>r
def qy(op line:Int):Nat:=
 if(op=1\/op=3)/\0<=line/\line<=4 then 1 else if(op=5\/op=6\/op=7)/\0<=line/\line<=1 then 2 else if(op=1\/op=5)/\line=5 then 3 else if op=1\/op=5 then 4
 else if op=2/\line=0 then 5 else if op=3/\line=5 then 6 else if op=4 then 7 else if op=6/\line=2 then 8 else if op=7/\line=2 then 9 else if op=7/\line=3 then 10
 else if op=6\/op=7 then 11 else if op=8/\line=0 then 12 else if op=8 then 13 else 0
def LS.qEnter(r:LS)(cl:Int):LS:=if(r.mxEnter 0 cl).2 then(r.mxEnter 0 cl).1.go 5 else(r.mxEnter 0 cl).1
def LS.qGive(r:LS)(a:Int)(ok:Bool)(whats:List Int):LS:=if(r.mxGive 0 a whats).2 then(r.mxGive 0 a whats).1.fin ok else(r.mxGive 0 a whats).1
def LS.qTry(r:LS):LS:=
 if(r.mxTry 0 0).2.1 then(if(r.mxTry 0 0).2.2 then(if r.op=5 then((r.mxTry 0 0).1.note 2 1).go 5 else((r.mxTry 0 0).1.note 2 2).go 2)else((r.mxTry 0 0).1.note 5 0).fin false)
 else(r.mxTry 0 0).1
def LS.qCount(r:LS):LS:=(r.doA 1 1 0 0).keepA (qa r.xs 1)
def LS.fq(r:LS):LS:=
 match qy r.op r.line with
 |1=>r.qEnter (if r.op=1 then 1 else 2)
 |2=>r.qTry
 |3=>(r.doA 3 1 1 0).go 6
 |4=>r.qGive 6 true [4]
 |5=>(((r.doA 3 1 4294967295 0).note 6 0).wake 1).fin true
 |6=>if(r.stepR 1 isZ).done then((r.wait 1 isZ).noteIf (r.stepR 1 isZ).seen 4).fin true else(r.wait 1 isZ).noteIf (r.stepR 1 isZ).seen 4
 |7=>r.qGive 0 true [7,8]
 |8=>if qa r.xs 1=0 then(r.qCount.note 4 0).fin true else(r.qCount.note 5 0).go 6
 |9=>if qa r.xs 1=1 then r.qCount.go 3 else(r.qCount.note 5 0).go 6
 |10=>((r.doA 3 1 4294967295 0).note 9 0).fin true
 |11=>r.qGive 6 false [8]
 |12=>(r.doA 3 1 1 0).go 1
 |13=>r.qGive 1 true [10]
 |_=>r
def vu(op line:Int):Nat:=
 if op=1/\line=0 then 1 else if op=1/\line=1 then 2 else if op=2/\line=0 then 3 else if op=3/\line=0 then 4 else if op=3/\line=1 then 5 else if op=3/\line=2 then 6 else if op=4/\line=0 then 7
 else if op=5/\line=0 then 8 else if op=6/\line=0 then 9 else if op=7/\line=0 then 10 else if op=5/\line=1 then 11 else if op=6/\line=1 then 12 else if op=7/\line=1 then 13 else if op=8/\line=0 then 14 else 0
def ju(v:Int):Bool:=v/65536%2==0
def LS.at0(r:LS)(x:Int):Bool:=qf r.xs 0 && (qa r.xs 0==x)
def LS.fCome(r:LS):LS:=if ju (qa r.xs 0)then((((r.doA 3 0 1 0).keepA (qa r.xs 0)).note 2 1).note 4 0).fin true else(((r.doA 3 0 1 0).keepA (qa r.xs 0)).note 2 1).go 1
def LS.fGo(r:LS):LS:=(((r.doA 3 0 4294967295 0).note 6 0).wake 0).fin true
def LS.fReg(r:LS):LS:=if qa r.xs 0=0 then(((r.doA 1 0 0 0).keepA (qa r.xs 0)).note 2 2).go 1 else(((r.doA 1 0 0 0).keepA (qa r.xs 0)).note 2 2).go 2
def LS.fTake(r:LS):LS:=if r.at0 0 then((r.doA 5 0 0 65536).note 4 0).fin true else(r.doA 5 0 0 65536).go 2
def LS.fWait(r:LS):LS:=if(r.stepR 0 isZ).done then(r.wait 0 isZ).go 1 else r.wait 0 isZ
def LS.fLeave(r:LS):LS:=((((r.doA 3 0 4294901760 0).note 7 0).note 8 0).wake 0).fin true
def LS.fLook(r:LS)(ok:Bool):LS:=if ok then((r.doA 1 0 0 0).keepA (qa r.xs 0)).go 1 else(((r.doA 1 0 0 0).keepA (qa r.xs 0)).note 5 0).fin false
def LS.fSlip(r:LS):LS:=if r.at0 r.a then(((r.doA 5 0 r.a ((r.a+1)%4294967296)).note 2 1).note 4 0).fin true else(r.doA 5 0 r.a ((r.a+1)%4294967296)).go 0
def LS.fTry(r:LS):LS:=if r.at0 0 then(((r.doA 5 0 0 65536).note 2 2).note 4 0).fin true else(r.doA 5 0 0 65536).go 0
def LS.fUp(r:LS):LS:=if r.at0 1 then((r.doA 5 0 1 65536).note 9 0).fin true else(r.doA 5 0 1 65536).go 0
def LS.fDown(r:LS):LS:=(((r.doA 3 0 4294901761 0).note 10 0).wake 0).fin true
def LS.rf(r:LS):LS:=
 match vu r.op r.line with
 |1=>r.fCome
 |2=>r.pAdmit 0 ju
 |3=>r.fGo
 |4=>r.fReg
 |5=>r.fTake
 |6=>r.fWait
 |7=>r.fLeave
 |8=>r.fLook (ju (qa r.xs 0))
 |9=>r.fLook (qa r.xs 0==0)
 |10=>r.fLook (qa r.xs 0==1)
 |11=>r.fSlip
 |12=>r.fTry
 |13=>r.fUp
 |14=>r.fDown
 |_=>r
section
variable{r:LS}
theorem qsg(h1:r.op=1)(h2:r.line=0):r.rf=r.fCome:=by unfold LS.rf;rw[h1,h2];rfl
theorem qqt(h1:r.op=1)(h2:r.line=1):r.rf=r.pAdmit 0 ju:=by unfold LS.rf;rw[h1,h2];rfl
theorem qup(h1:r.op=2)(h2:r.line=0):r.rf=r.fGo:=by unfold LS.rf;rw[h1,h2];rfl
theorem quy(h1:r.op=3)(h2:r.line=0):r.rf=r.fReg:=by unfold LS.rf;rw[h1,h2];rfl
theorem que(h1:r.op=3)(h2:r.line=1):r.rf=r.fTake:=by unfold LS.rf;rw[h1,h2];rfl
theorem qun(h1:r.op=3)(h2:r.line=2):r.rf=r.fWait:=by unfold LS.rf;rw[h1,h2];rfl
theorem qs6(h1:r.op=4)(h2:r.line=0):r.rf=r.fLeave:=by unfold LS.rf;rw[h1,h2];rfl
theorem qua(h1:r.op=5)(h2:r.line=0):r.rf=r.fLook (ju (qa r.xs 0)):=by unfold LS.rf;rw[h1,h2];rfl
theorem qrn(h1:r.op=6)(h2:r.line=0):r.rf=r.fLook (qa r.xs 0==0):=by unfold LS.rf;rw[h1,h2];rfl
theorem qse(h1:r.op=7)(h2:r.line=0):r.rf=r.fLook (qa r.xs 0==1):=by unfold LS.rf;rw[h1,h2];rfl
theorem qtp(h1:r.op=5)(h2:r.line=1):r.rf=r.fSlip:=by unfold LS.rf;rw[h1,h2];rfl
theorem qqs(h1:r.op=6)(h2:r.line=1):r.rf=r.fTry:=by unfold LS.rf;rw[h1,h2];rfl
theorem qr4(h1:r.op=7)(h2:r.line=1):r.rf=r.fUp:=by unfold LS.rf;rw[h1,h2];rfl
theorem qsv(h1:r.op=8)(h2:r.line=0):r.rf=r.fDown:=by unfold LS.rf;rw[h1,h2];rfl
end
def rF(v:Int):Int:=v%256
def oF(v:Int):Int:=v/256%256
def iF(v:Int):Int:=v/65536%256
def zz(v:Int):Bool:=iF v==oF v
def qbn(v:Int):Int:=((oF v+1)%256-oF v)*256%4294967296
def qbp(x:Int)(v:Int):Bool:=oF v==x && rF v==0
def vm(op line:Int):Nat:=
 if op=1/\line=0 then 1 else if op=1/\line=1 then 2 else if op=1/\line=2 then 3 else if op=1/\line=3 then 4 else if op=2/\line=0 then 5 else if op=3/\line=0 then 6 else if op=3/\line=1 then 7
 else if op=4/\line=0 then 8 else if op=8/\line=0 then 8 else if op=4/\line=1 then 9 else if op=8/\line=1 then 10 else if op=5/\line=0 then 11 else if op=6/\line=0 then 12 else if op=7/\line=0 then 13
 else if op=5/\line=1 then 14 else if op=6/\line=1 then 15 else if op=7/\line=1 then 16 else 0
def LS.noteR(r:LS)(b:Bool):LS:=if b then r.note 2 1 else r
def LS.gSee(r:LS)(b:Bool):LS:=if zz (qa r.xs 0)then(((r.doA 1 0 0 0).keepA (qa r.xs 0)).noteR b).go 1 else(((r.doA 1 0 0 0).keepA (qa r.xs 0)).noteR b).go 2
def LS.gCas(r:LS)(d:Int):LS:=r.doA 5 0 r.a ((r.a+d)%4294967296)
def LS.gTake(r:LS):LS:=if r.at0 r.a then((r.gCas 1).note 4 0).fin true else(r.gCas 1).go 3
def LS.seeW(r:LS):LS:=if(r.stepR 0 zz).seen then(r.wait 0 zz).keepA (qa r.xs 0)else r.wait 0 zz
def LS.gWait(r:LS):LS:=if(r.stepR 0 zz).done then r.seeW.go 1 else r.seeW
def LS.gCome(r:LS):LS:=(((r.doA 3 0 65536 0).keepA (qa r.xs 0)).note 2 2).go 1
def LS.gLoad(r:LS):LS:=((r.doA 1 0 0 0).keepA (qa r.xs 0)).go 1
def LS.gLeave(r:LS):LS:=((((r.doA 3 0 (qbn r.a) 0).note 7 0).note 8 0).wake 0).fin true
def LS.gDown(r:LS):LS:=(((r.doA 3 0 ((qbn r.a+1)%4294967296) 0).note 10 0).wake 0).fin true
def LS.gSlip(r:LS):LS:=if r.at0 r.a then(((r.gCas 1).note 2 1).note 4 0).fin true else(r.gCas 1).go 0
def LS.gTry(r:LS):LS:=if r.at0 r.a then(((r.gCas 65536).note 2 2).note 4 0).fin true else(r.gCas 65536).go 0
def LS.gUp(r:LS):LS:=if r.at0 r.a then((r.gCas 65535).note 9 0).fin true else(r.gCas 65535).go 0
def LS.wf(r:LS):LS:=
 match vm r.op r.line with
 |1=>r.gSee true
 |2=>r.gTake
 |3=>r.gWait
 |4=>r.gSee false
 |5=>r.fGo
 |6=>r.gCome
 |7=>r.pAdmit 0 (qbp (iF r.a))
 |8=>r.gLoad
 |9=>r.gLeave
 |10=>r.gDown
 |11=>r.fLook (zz (qa r.xs 0))
 |12=>r.fLook (zz (qa r.xs 0) && rF (qa r.xs 0)==0)
 |13=>r.fLook (zz (qa r.xs 0) && rF (qa r.xs 0)==1)
 |14=>r.gSlip
 |15=>r.gTry
 |16=>r.gUp
 |_=>r
section
variable{r:LS}
theorem qsi(h1:r.op=1)(h2:r.line=0):r.wf=r.gSee true:=by unfold LS.wf;rw[h1,h2];rfl
theorem quu(h1:r.op=1)(h2:r.line=1):r.wf=r.gTake:=by unfold LS.wf;rw[h1,h2];rfl
theorem qi2(h1:r.op=1)(h2:r.line=2):r.wf=r.gWait:=by unfold LS.wf;rw[h1,h2];rfl
theorem qr9(h1:r.op=1)(h2:r.line=3):r.wf=r.gSee false:=by unfold LS.wf;rw[h1,h2];rfl
theorem qyi(h1:r.op=2)(h2:r.line=0):r.wf=r.fGo:=by unfold LS.wf;rw[h1,h2];rfl
theorem zan(h1:r.op=3)(h2:r.line=0):r.wf=r.gCome:=by unfold LS.wf;rw[h1,h2];rfl
theorem qiy(h1:r.op=3)(h2:r.line=1):r.wf=r.pAdmit 0 (qbp (iF r.a)):=by unfold LS.wf;rw[h1,h2];rfl
theorem zb6(h1:r.op=4)(h2:r.line=0):r.wf=r.gLoad:=by unfold LS.wf;rw[h1,h2];rfl
theorem za5(h1:r.op=8)(h2:r.line=0):r.wf=r.gLoad:=by unfold LS.wf;rw[h1,h2];rfl
theorem qyv(h1:r.op=4)(h2:r.line=1):r.wf=r.gLeave:=by unfold LS.wf;rw[h1,h2];rfl
theorem zay(h1:r.op=8)(h2:r.line=1):r.wf=r.gDown:=by unfold LS.wf;rw[h1,h2];rfl
theorem qqv(h1:r.op=5)(h2:r.line=0):r.wf=r.fLook (zz (qa r.xs 0)):=by unfold LS.wf;rw[h1,h2];rfl
theorem qn1(h1:r.op=6)(h2:r.line=0):r.wf=r.fLook (zz (qa r.xs 0) && rF (qa r.xs 0)==0):=by unfold LS.wf;rw[h1,h2];rfl
theorem qmt(h1:r.op=7)(h2:r.line=0):r.wf=r.fLook (zz (qa r.xs 0) && rF (qa r.xs 0)==1):=by unfold LS.wf;rw[h1,h2];rfl
theorem qr8(h1:r.op=5)(h2:r.line=1):r.wf=r.gSlip:=by unfold LS.wf;rw[h1,h2];rfl
theorem qur(h1:r.op=6)(h2:r.line=1):r.wf=r.gTry:=by unfold LS.wf;rw[h1,h2];rfl
theorem quz(h1:r.op=7)(h2:r.line=1):r.wf=r.gUp:=by unfold LS.wf;rw[h1,h2];rfl
end
def qk(kind:Int):LS->LS:=if kind=1 then LS.tf else if kind=2 then LS.pf else if kind=3 then LS.pq else if kind=4 then LS.fq else if kind=5 then LS.rf else LS.wf
def Wrd(v:Int):Prop:=0<=v/\v<4294967296
def qkt(xs:List Int)(a:Acc5)(xs':List Int):Prop:=∃k c x y:Int,yi k=true/\a=qeb xs k c x y/\xs'=yk xs k c x y
structure Ln(m:Nat)(b:Bool)(r r':LS):Prop where
 n:r'.n=r.n
 mode:r'.mode=r.mode
 task:r'.task=r.task
 op:r'.op=r.op
 len:r'.xs.length=r.xs.length
 words:Words r.xs->Words r'.xs
 a:Words r.xs->Wrd r.a->Wrd r'.a
 bb:Words r.xs->Wrd r.b->Wrd r'.b
 ret:r'.ret=r.ret\/r'.ret=1\/r'.ret=2
 notes:∃l:List Nt,r'.ns=r.ns++l/\l.length<=m/\∀x∈l,0<=x.a/\x.a<=2
 acc:(r'.acc=r.acc/\r'.xs=r.xs)\/(b=true/\qkt r.xs r'.acc r'.xs)
section
variable{r r':LS}{m:Nat}{b:Bool}
theorem jc:Ln m b r r:=⟨rfl,rfl,rfl,rfl,rfl,id,fun _ h=>h,fun _ h=>h,.inl rfl,⟨[],by simp,Nat.zero_le _,fun _ h=>by simp at h⟩,.inl ⟨rfl,rfl⟩⟩
theorem Ln.le{m':Nat}(h:Ln m b r r')(hm:m<=m'):Ln m' b r r':=⟨h.n,h.mode,h.task,h.op,h.len,h.words,h.a,h.bb,h.ret,h.notes.imp fun _ ⟨e,l,x⟩=>⟨e,Nat.le_trans l hm,x⟩,h.acc⟩
theorem qac{l:Int}(h:Ln m b r r'):Ln m b r (r'.go l):=⟨h.n,h.mode,h.task,h.op,h.len,h.words,h.a,h.bb,h.ret,h.notes,h.acc⟩
theorem vy{c:Int}(h:Ln m b r r'):Ln m b r (r'.wake c):=⟨h.n,h.mode,h.task,h.op,h.len,h.words,h.a,h.bb,h.ret,h.notes,h.acc⟩
theorem vt{ok:Bool}(h:Ln m b r r'):Ln m b r (r'.fin ok):=⟨h.n,h.mode,h.task,h.op,h.len,h.words,h.a,h.bb,by cases ok;exact .inr (.inl rfl);exact .inr (.inr rfl),h.notes,h.acc⟩
theorem vh{v:Int}(h:Ln m b r r')(hv:Words r.xs->Wrd v):Ln m b r (r'.keepA v):=⟨h.n,h.mode,h.task,h.op,h.len,h.words,fun x _=>hv x,h.bb,h.ret,h.notes,h.acc⟩
theorem vd{v:Int}(h:Ln m b r r')(hv:Words r.xs->Wrd v):Ln m b r (r'.keepB v):=⟨h.n,h.mode,h.task,h.op,h.len,h.words,h.a,fun x _=>hv x,h.ret,h.notes,h.acc⟩
theorem jh{what arg:Int}(h:Ln m b r r')(ha:0<=arg/\arg<=2):Ln (m+1) b r (r'.note what arg):=by
 obtain⟨l,e,hl,hx⟩:=h.notes;refine⟨h.n,h.mode,h.task,h.op,h.len,h.words,h.a,h.bb,h.ret,⟨l++[⟨r'.task,what,0,arg⟩],by rw[←List.append_assoc,←e];rfl,by simp;exact hl,fun x hx'=> ?_⟩,h.acc⟩;rcases List.mem_append.1 hx' with hx'|hx'
 . exact hx x hx'
 . rw[List.mem_singleton.1 hx'];exact ha
theorem kg{q:Bool}{what:Int}(h:Ln m b r r'):Ln (m+1) b r (r'.noteIf q what):=by
 cases q
 . exact h.le (Nat.le_succ _)
 . exact jh h dc
theorem vg{q:Bool}(h:Ln m b r r'):Ln (m+1) b r (r'.noteR q):=by
 cases q
 . exact h.le (Nat.le_succ _)
 . exact jh h dc
theorem qjw{k c x y:Int}(hk:yi k=true)(hl:Words r.xs->Wrd (yr k x y (qa r.xs c))):Ln m true r (r.doA k c x y):=
 ⟨rfl,rfl,rfl,rfl,qdz _ _ _ _ _,fun h=>qia h _ _ _ _ (hl h),fun _ h=>h,fun _ h=>h,.inl rfl,⟨[],by simp[LS.doA],Nat.zero_le _,fun _ h=>by simp at h⟩,.inr ⟨rfl,k,c,x,y,hk,rfl,rfl⟩⟩
theorem xl{c:Int}:Ln m true r (r.doA 1 c 0 0):=qjw rfl (fun h=>jx h c)
theorem qb9{c x:Int}:Ln m true r (r.doA 3 c x 0):=qjw rfl (fun h=>by show 0<=(x+qa r.xs c)%4294967296/\(x+qa r.xs c)%4294967296<4294967296;omega)
theorem zy{c x y:Int}(hy:Wrd y):Ln m true r (r.doA 5 c x y):=qjw rfl (fun h=>by
 show 0<=(if qa r.xs c=x then y else qa r.xs c)/\(if qa r.xs c=x then y else qa r.xs c)<4294967296;split
 . exact hy
 . exact jx h c)
theorem qt{c x:Int}(hx:Wrd x):Ln m true r (r.doA 2 c x 0):=qjw rfl (fun _=>hx)
theorem xn{c x:Int}(hx:Wrd x):Ln m true r (r.doA 4 c x 0):=qjw rfl (fun _=>hx)
theorem jl:Wrd r.me:=by unfold Wrd LS.me;omega
theorem jw{e:Int}:Wrd (e%4294967296):=by unfold Wrd;omega
theorem xk:Wrd 0:=⟨dc,dc⟩
theorem qic:Wrd 1:=⟨dc,dc⟩
theorem qil:Wrd 65536:=⟨dc,dc⟩
theorem vk{c:Int}(h:Words r.xs):Wrd (qa r.xs c):=jx h c
theorem qwg{xs xs':List Int}{v:Value}{ka ca xa ya oa:Int}(he:v= .agg #[.int .i64 ka,.int .i64 ca,.int .u32 xa,.int .u32 ya,.int .u32 oa])(hd:qr xs ka ca xa ya= .agg #[.int .i64 ka,.int .i64 ca,.int .u32 xa,.int .u32 ya,.int .u32 oa])(ho:zm xs ka ca=true)(hx:yk xs ka ca xa ya=xs'):qkt xs (ofV v) xs':=by
 refine⟨ka,ca,xa,ya,?_,?_,hx.symm⟩
 . unfold zm at ho;revert ho;cases yi ka<;>simp
 . rw[he,←hd,qai];rfl
theorem qdy(xs:List Int):qkt xs zn xs:=by
 refine⟨1, -1,0,0,rfl,?_,?_⟩
 . unfold qeb zm qf;rw[show(decide (0<=(-1:Int)/\(-1:Int)<xs.length))=false from decide_eq_false om];rfl
 . rw[zf]
theorem xm{c:Int}{q:Int->Bool}:Ln m true r (r.wait c q):=by
 refine⟨rfl,rfl,rfl,rfl,qku _ _ _ _ _ _ _,fun h=>Words.step h _ _ _ _ _ _,fun _ h=>h,fun _ h=>h,.inl rfl,⟨[],by simp[LS.wait],Nat.zero_le _,fun _ h=>by simp at h⟩,.inr ⟨rfl,?_⟩⟩;show qkt r.xs (ofV (je r.xs r.n r.mode r.task r.s c q).acc) (je r.xs r.n r.mode r.task r.s c q).xs;obtain⟨ka,ca,xa,ya,oa,he,⟨h1,h2,h3,h4,h5,h6⟩|⟨_,hd,ho,hn,_⟩⟩:=qek r.xs r.n r.mode r.task r.s c q
 . rw[he,h6];subst h1;subst h2;subst h3;subst h4;subst h5;exact qdy _
 . exact qwg he hd ho hn
theorem kd:∀(l:List Int) {m:Nat} {r':LS},Ln m b r r'->Ln (m+l.length) b r (r'.notes l)
 |[],_,_,h=>h
 |w::l,m,r',h=>by
  have:=kd l (jh (what:=w) (arg:=0) h dc);exact this.le (by simp only[List.length_cons];omega)
theorem qnl{xs:List Int}{k c x y:Int}(hk:yi k=true):qkt xs (ofV (qr xs k c x y)) (yk xs k c x y):=⟨k,c,x,y,hk,by rw[qai];rfl,rfl⟩
theorem qq5:Ln m true r.fresh r.waking:=by
 refine⟨rfl,rfl,rfl,rfl,qqc _ _ _ _ _ _,fun h=>qky h _ _ _ _ _,fun _ h=>h,fun _ h=>h,.inl rfl,⟨[],rfl,Nat.zero_le _,fun _ h=>by simp at h⟩,.inr ⟨rfl,?_⟩⟩;show qkt r.xs (ofV (jn r.xs r.n r.k.on r.k.c r.k.i r.k.hit).acc) (jn r.xs r.n r.k.on r.k.c r.k.i r.k.hit).xs;have hr:qkt r.xs (ofV (qa9 r.xs).acc) (qa9 r.xs).xs:=qdy _;unfold jn;split
 . split
   . unfold xh;split
     . have:=qnl (xs:=r.xs) (k:=2) (c:=pc r.n r.k.i) (x:=1) (y:=0) rfl;rw[xd _ 2 _ _ _ rfl]at this;exact this
     . exact hr
   . unfold xi;have h1:=qnl (xs:=r.xs) (k:=1) (c:=wc r.n r.k.i) (x:=0) (y:=0) rfl;rw[zf]at h1;split
     . split
       . exact h1
       . exact h1
     . exact hr
 . exact hr
theorem qaw(tail cl:Int)(h:0<=cl/\cl<=2):Ln 1 true r (r.mxEnter tail cl).1:=by
 unfold LS.mxEnter LS.link LS.swapIn
 all_goals (repeat (first|(with_reducible first|exact jc|exact xl|exact qb9|exact xm|exact zy jw|exact zy jl|exact zy xk|exact zy qil|exact qt jw|exact qt jl|exact qt xk|exact qt qic|exact xn jl|refine qac ?_|refine vt ?_|refine vy ?_|refine vh ?_ vk|refine vd ?_ vk|refine kg ?_|refine vg ?_|refine jh ?_ (by first|decide|assumption)|exact kd _ jc)|split|dsimp only))
theorem qce(tail a:Int)(l:List Int):Ln l.length true r (r.mxGive tail a l).1:=by
 have h:∀{c x y:Int} {k:Int},Ln 0 true r (r.doA k c x y)->Ln l.length true r ((r.doA k c x y).notes l):=fun h=>(kd l h).le om;unfold LS.mxGive LS.peek LS.seeN LS.handOn
 repeat' split
 all_goals (try dsimp only)
 all_goals (try refine vy ?_)
 all_goals (try refine h ?_)
 all_goals (repeat (first|(with_reducible first|exact jc|exact xl|exact qb9|exact xm|exact zy jw|exact zy jl|exact zy xk|exact zy qil|exact qt jw|exact qt jl|exact qt xk|exact qt qic|exact xn jl|refine qac ?_|refine vt ?_|refine vy ?_|refine vh ?_ vk|refine vd ?_ vk|refine kg ?_|refine vg ?_|refine jh ?_ (by first|decide|assumption)|exact kd _ jc)|split|dsimp only))
theorem qa1(tail a:Int):Ln m true r (r.mxTry tail a).1:=by
 unfold LS.mxTry
 all_goals (repeat (first|(with_reducible first|exact jc|exact xl|exact qb9|exact xm|exact zy jw|exact zy jl|exact zy xk|exact zy qil|exact qt jw|exact qt jl|exact qt xk|exact qt qic|exact xn jl|refine qac ?_|refine vt ?_|refine vy ?_|refine vh ?_ vk|refine vd ?_ vk|refine kg ?_|refine vg ?_|refine jh ?_ (by first|decide|assumption)|exact kd _ jc)|split|dsimp only))
theorem zbs:Ln 2 true r r.tf:=by
 unfold LS.tf LS.draw LS.awaitR LS.awaitW LS.turn LS.leave LS.look LS.weigh LS.claim LS.giveBack
 all_goals (repeat (first|(with_reducible first|exact jc|exact xl|exact qb9|exact xm|exact zy jw|exact zy jl|exact zy xk|exact zy qil|exact qt jw|exact qt jl|exact qt xk|exact qt qic|exact xn jl|refine qac ?_|refine vt ?_|refine vy ?_|refine vh ?_ vk|refine vd ?_ vk|refine kg ?_|refine vg ?_|refine jh ?_ (by first|decide|assumption)|exact kd _ jc)|split|dsimp only))
theorem zbw:Ln 2 true r r.pf:=by
 unfold LS.pf LS.pCome LS.pAdmit LS.pDepart LS.pDraw LS.pTurn LS.pKeep LS.pAppear LS.pVanish LS.pCount LS.pPass LS.pLookIn LS.pSlip LS.pLook LS.pWeighT LS.pClaim LS.pWeighR LS.pOthers LS.pStop
 all_goals (repeat (first|(with_reducible first|exact jc|exact xl|exact qb9|exact xm|exact zy jw|exact zy jl|exact zy xk|exact zy qil|exact qt jw|exact qt jl|exact qt xk|exact qt qic|exact xn jl|refine qac ?_|refine vt ?_|refine vy ?_|refine vh ?_ vk|refine vd ?_ vk|refine kg ?_|refine vg ?_|refine jh ?_ (by first|decide|assumption)|exact kd _ jc)|split|dsimp only))
theorem zbk:Ln 2 true r r.rf:=by
 unfold LS.rf LS.fCome LS.pAdmit LS.fGo LS.fReg LS.fTake LS.fWait LS.fLeave LS.fLook LS.fSlip LS.fTry LS.fUp LS.fDown
 all_goals (repeat (first|(with_reducible first|exact jc|exact xl|exact qb9|exact xm|exact zy jw|exact zy jl|exact zy xk|exact zy qil|exact qt jw|exact qt jl|exact qt xk|exact qt qic|exact xn jl|refine qac ?_|refine vt ?_|refine vy ?_|refine vh ?_ vk|refine vd ?_ vk|refine kg ?_|refine vg ?_|refine jh ?_ (by first|decide|assumption)|exact kd _ jc)|split|dsimp only))
theorem zbl:Ln 2 true r r.wf:=by
 unfold LS.wf LS.gSee LS.gTake LS.gCas LS.gWait LS.seeW LS.fGo LS.gCome LS.pAdmit LS.gLoad LS.gLeave LS.gDown LS.fLook LS.gSlip LS.gTry LS.gUp LS.gCas
 all_goals (repeat (first|(with_reducible first|exact jc|exact xl|exact qb9|exact xm|exact zy jw|exact zy jl|exact zy xk|exact zy qil|exact qt jw|exact qt jl|exact qt xk|exact qt qic|exact xn jl|refine qac ?_|refine vt ?_|refine vy ?_|refine vh ?_ vk|refine vd ?_ vk|refine kg ?_|refine vg ?_|refine jh ?_ (by first|decide|assumption)|exact kd _ jc)|split|dsimp only))
theorem qq2(cl:Int)(h:0<=cl/\cl<=2):Ln 2 true r (r.qEnter cl):=by
 unfold LS.qEnter;split
 . exact qac ((qaw _ _ h).le dc)
 . exact(qaw _ _ h).le dc
theorem qrk(a:Int)(ok:Bool)(l:List Int)(h:l.length<=2):Ln 2 true r (r.qGive a ok l):=by
 unfold LS.qGive;split
 . exact vt ((qce _ _ _).le h)
 . exact(qce _ _ _).le h
theorem qx2:Ln 2 true r r.qTry:=by
 unfold LS.qTry
 repeat' split
 . exact qac (jh (qa1 _ _) dc)
 . exact qac (jh (qa1 _ _) dc)
 . exact vt (jh (qa1 _ _) dc)
 . exact qa1 _ _
theorem zby:Ln 2 true r r.fq:=by
 unfold LS.fq LS.qCount;split
 . exact qq2 _ (by split<;>decide)
 . exact qx2
 all_goals (try exact qrk _ _ _ dc)
 all_goals (repeat (first|(with_reducible first|exact jc|exact xl|exact qb9|exact xm|exact zy jw|exact zy jl|exact zy xk|exact zy qil|exact qt jw|exact qt jl|exact qt xk|exact qt qic|exact xn jl|refine qac ?_|refine vt ?_|refine vy ?_|refine vh ?_ vk|refine vd ?_ vk|refine kg ?_|refine vg ?_|refine jh ?_ (by first|decide|assumption)|exact kd _ jc)|split|dsimp only))
theorem qpi:Ln 2 true r r.wEnter:=by
 unfold LS.wEnter;split
 . exact qac ((qaw _ _ dc).le dc)
 . exact(qaw _ _ dc).le dc
theorem qum(a:Int)(ok:Bool):Ln 2 true r (r.wGive a ok):=by
 unfold LS.wGive;split
 . exact vt ((qce 2 a [8]).le (show 1<=2 by decide))
 . exact(qce 2 a [8]).le (show 1<=2 by decide)
theorem qw6:Ln 2 true r r.wTry:=by
 unfold LS.wTry
 repeat' split
 . exact qac (jh (qa1 _ _) dc)
 . exact vt (jh (qa1 _ _) dc)
 . exact qa1 _ _
theorem zbv:Ln 2 true r r.pq:=by
 unfold LS.pq LS.pCome LS.pAdmit LS.pDepart LS.pLookIn LS.pSlip LS.wKeep LS.pAppear LS.pVanish LS.wCount LS.pLook LS.wWeigh LS.wOthers LS.pStop;split
 all_goals (try exact qpi)
 all_goals (try exact qum _ _)
 all_goals (try exact qw6)
 all_goals (repeat (first|(with_reducible first|exact jc|exact xl|exact qb9|exact xm|exact zy jw|exact zy jl|exact zy xk|exact zy qil|exact qt jw|exact qt jl|exact qt xk|exact qt qic|exact xn jl|refine qac ?_|refine vt ?_|refine vy ?_|refine vh ?_ vk|refine vd ?_ vk|refine kg ?_|refine vg ?_|refine jh ?_ (by first|decide|assumption)|exact kd _ jc)|split|dsimp only))
theorem qwk(kind:Int):Ln 2 true r (qk kind r):=by
 unfold qk
 repeat' split
 . exact zbs
 . exact zbw
 . exact zbv
 . exact zby
 . exact zbk
 . exact zbl
theorem qx1(kind:Int):Ln 2 true r.fresh (r.next (qk kind)):=by
 unfold LS.next;split
 . exact qq5
 . exact qwk kind
end
structure Ev where
 ran:Bool
 acc:Acc5
 ns:List Nt
def ev0:Ev:=⟨false,zn,[]⟩
def kn(t:Int)(r:LS)(told:List Nt):List Nt:=if r.over then told++r.ns++[⟨t,11,r.op,r.ret⟩]else told++r.ns
def MV.put(m:MV)(t:Nat)(r:LS):MV:=if r.over then((m.setR t r).setH t (kj r.op r.ret (m.hold t))).setR t (jt r 0)else m.setR t r
def qbj(L:LS->LS)(m:MV)(t:Nat)(told:List Nt):Ev:=⟨true,((m.at t).next L).acc,kn t ((m.at t).next L) told⟩
def MV.step(L:LS->LS)(m:MV)(t:Nat):MV:=m.put t ((m.at t).next L)
def qo5(L:LS->LS)(m:MV)(t:Nat)(op:Int):MV:=
 if(m.rs t).op=0 then(if 1<=op/\op<=8 then(if qfu op (m.hold t)then(m.start t op).step L t else m)else m)
 else if(m.at t).stuck then m else m.step L t
def qni(L:LS->LS)(m:MV)(t:Nat)(op:Int):Ev:=
 if(m.rs t).op=0 then(if 1<=op/\op<=8 then(if qfu op (m.hold t)then qbj L (m.start t op) t [⟨t,1,op,0⟩]else⟨true,zn,[⟨t,1,op,0⟩,⟨t,11,op,3⟩]⟩)else ev0)
 else if(m.at t).stuck then ev0 else qbj L m t []
def qeg(L:LS->LS)(k:Nat)(m:MV)(t op:Int):MV:=if 0<=t/\t<k then qo5 L m t.toNat op else m
def qbh(L:LS->LS)(k:Nat)(m:MV)(t op:Int):Ev:=if 0<=t/\t<k then qni L m t.toNat op else ev0
structure WdI(mode:Int)(k:Nat)(m:MV):Prop where
 len:m.xs.length=8+4*k
 words:Words m.xs
 rs:∀t,t<k->(m.rs t).n=k/\(m.rs t).mode=mode/\(m.rs t).task=t/\Wrd (m.rs t).a/\Wrd (m.rs t).b/\(0<=(m.rs t).ret/\(m.rs t).ret<=2)/\0<=(m.rs t).op/\(m.rs t).op<=8
 hold:∀t,t<k->m.hold t=0\/m.hold t=1\/m.hold t=2
 idle:∀t,t<k->(m.rs t).op=0->(m.rs t).s=0
section
variable{mode kind:Int}{k t:Nat}{m:MV}
theorem qr1{op ret h:Int}(hh:h=0\/h=1\/h=2):kj op ret h=0\/kj op ret h=1\/kj op ret h=2:=by
 unfold kj
 repeat' split
 all_goals first|exact hh|exact .inr (.inl rfl)|exact .inr (.inr rfl)
theorem qpx{op h:Int}(hh:h=0\/h=1\/h=2):qdh op h=0\/qdh op h=1\/qdh op h=2:=by
 unfold qdh
 repeat' split
 all_goals first|exact hh|exact .inl rfl|exact .inr (.inl rfl)
theorem WdI.start(h:WdI mode k m)(ht:t<k){op:Int}(ho:1<=op/\op<=8):WdI mode k (m.start t op):=by
 refine⟨h.len,h.words,fun i hi=> ?_,fun i hi=> ?_,fun i hi=> ?_⟩
 . show(upd m.rs t (jt (m.at t) op) i).n=k/\_
   by_cases e:i=t
   . subst e;have:=h.rs i hi;rw[show(m.start i op).rs i=jt (m.at i) op from jm _ _ _,jm];exact⟨this.1,this.2.1,this.2.2.1,xk,xk,⟨show(0:Int)<=0 by decide,show(0:Int)<=2 by decide⟩,by show 0<=op;omega,by show op<=8;omega⟩
   . rw[show(m.start t op).rs i=m.rs i from yp _ _ e,yp _ _ e];exact h.rs i hi
 . show upd m.hold t _ i=0\/upd m.hold t _ i=1\/upd m.hold t _ i=2
   by_cases e:i=t
   . subst e;rw[jm];exact qpx (h.hold i hi)
   . rw[yp _ _ e];exact h.hold i hi
 . by_cases e:i=t
   . subst e;rw[show(m.start i op).rs i=jt (m.at i) op from jm _ _ _];intro _;rfl
   . rw[show(m.start t op).rs i=m.rs i from yp _ _ e];exact h.idle i hi
theorem WdI.setR(h:WdI mode k m)(ht:t<k){r:LS}(hl:r.xs.length=m.xs.length)(hw:Words r.xs)(hr:r.n=k/\r.mode=mode/\r.task=t/\Wrd r.a/\Wrd r.b/\(0<=r.ret/\r.ret<=2)/\0<=r.op/\r.op<=8)(hz:r.op=0->r.s=0):WdI mode k (m.setR t r):=by
 refine⟨hl.trans h.len,hw,fun i hi=> ?_,h.hold,fun i hi=> ?_⟩
 rotate_left
 . by_cases e:i=t
   . subst e;rw[show(m.setR i r).rs i=r from jm _ _ _];exact hz
   . rw[show(m.setR t r).rs i=m.rs i from yp _ _ e];exact h.idle i hi
 by_cases e:i=t
 . subst e;rw[show(m.setR i r).rs i=r from jm _ _ _];exact hr
 . rw[show(m.setR t r).rs i=m.rs i from yp _ _ e];exact h.rs i hi
theorem WdI.setH(h:WdI mode k m){x:Int}(hx:x=0\/x=1\/x=2):WdI mode k (m.setH t x):=by
 refine⟨h.len,h.words,h.rs,fun i hi=> ?_,h.idle⟩;show upd m.hold t x i=0\/upd m.hold t x i=1\/upd m.hold t x i=2
 by_cases e:i=t
 . subst e;rw[jm];exact hx
 . rw[yp _ _ e];exact h.hold i hi
theorem WdI.next(h:WdI mode k m)(ht:t<k):(((m.at t).next (qk kind)).n=k/\((m.at t).next (qk kind)).mode=mode/\((m.at t).next (qk kind)).task=t/\Wrd ((m.at t).next (qk kind)).a/\Wrd ((m.at t).next (qk kind)).b/\(0<=((m.at t).next (qk kind)).ret/\((m.at t).next (qk kind)).ret<=2)/\0<=((m.at t).next (qk kind)).op/\((m.at t).next (qk kind)).op<=8)/\((m.at t).next (qk kind)).op=(m.rs t).op/\((m.at t).next (qk kind)).xs.length=m.xs.length/\Words ((m.at t).next (qk kind)).xs/\((m.at t).next (qk kind)).ns.length<=2/\(∀x∈((m.at t).next (qk kind)).ns,0<=x.a/\x.a<=2)/\qkt m.xs ((m.at t).next (qk kind)).acc ((m.at t).next (qk kind)).xs:=by
 obtain⟨h1,h2,h3,h4,h5,h6,h7,h8⟩:=h.rs t ht;have H:=qx1 (r:=m.at t) kind;generalize (m.at t).next (qk kind)=r' at *;obtain⟨l,hl,hl2,hl3⟩:=H.notes;have hns:r'.ns=l:=hl;have hop:r'.op=(m.rs t).op:=H.op;refine⟨⟨H.n.trans h1,H.mode.trans h2,H.task.trans h3,H.a h.words h4,H.bb h.words h5,?_,om,om⟩,hop,H.len,H.words h.words,by rw[hns];exact hl2,by rw[hns];exact hl3,?_⟩
 . have hr:(m.at t).fresh.ret=(m.rs t).ret:=rfl;rcases H.ret with e|e|e<;>omega
 . rcases H.acc with⟨e1,e2⟩|⟨_,e⟩
   . have e1':r'.acc=zn:=e1;have e2':r'.xs=m.xs:=e2;rw[e1',e2'];exact qdy _
   . exact e
theorem WdI.put(h:WdI mode k m)(ht:t<k){r:LS}(hl:r.xs.length=m.xs.length)(hw:Words r.xs)(hr:r.n=k/\r.mode=mode/\r.task=t/\Wrd r.a/\Wrd r.b/\(0<=r.ret/\r.ret<=2)/\0<=r.op/\r.op<=8)(hz:r.op≠0):WdI mode k (m.put t r):=by
 unfold MV.put;split
 . refine WdI.setR (WdI.setH (h.setR ht hl hw hr (fun e=>absurd e hz)) (qr1 (h.hold t ht))) ht rfl hw ⟨hr.1,hr.2.1,hr.2.2.1,xk,xk,⟨show(0:Int)<=0 by decide,show(0:Int)<=2 by decide⟩,by show(0:Int)<=0;decide,by show(0:Int)<=8;decide⟩ (fun _=>rfl)
 . exact h.setR ht hl hw hr (fun e=>absurd e hz)
theorem WdI.step(h:WdI mode k m)(ht:t<k)(h0:(m.rs t).op≠0):WdI mode k (m.step (qk kind) t):=by
 have H:=h.next (kind:=kind) ht;exact h.put ht H.2.2.1 H.2.2.2.1 H.1 (by rw[H.2.1];exact h0)
theorem WdI.pick(h:WdI mode k m)(t op:Int):WdI mode k (qeg (qk kind) k m t op):=by
 unfold qeg;split
 case isFalse=>exact h
 case isTrue ht=>
  have ht':t.toNat<k:=by omega
  unfold qo5
  repeat' split
  . rename_i _ ho _;exact(h.start ht' ho).step ht' (by rw[show(m.start t.toNat op).rs t.toNat=jt (m.at t.toNat) op from jm _ _ _];show op≠0;omega)
  . exact h
  . exact h
  . exact h
  . rename_i h0 _;exact h.step ht' h0
end
def zl(h:Int)(r:LS):Array Value:= #[.int .i64 h,.int .i64 r.op,.int .i64 r.line,.int .u32 r.a,.int .u32 r.b,.int .i64 r.s,.bool r.k.on,.int .i64 r.k.c,.int .i64 r.k.i,.bool r.k.hit,.int .i64 r.ret]
structure Tasks(w:World)(g k:Nat)(h:Nat->Int)(f:Nat->LS):Prop where
 row:∃cs,Row w g 74 cs/\cs.size=k*11/\∀i,i<k->∀j v,(zl (h i) (f i))[j]? =some v->cs[i*11+j]? =some v
section
variable{w w':World}{g k t:Nat}{h:Nat->Int}{f:Nat->LS}{S:Nat->Prop}
theorem Tasks.cell(T:Tasks w g k h f)(ht:t<k)(j:Nat){v:Value}(hj:(zl (h t) (f t))[j]? =some v):w.cell? ⟨g,t*11+j,none⟩=some v:=by
 obtain⟨cs,hr,_,hc⟩:=T.row;exact hr.cell_ (hc t ht j v hj)
theorem Tasks.only(T:Tasks w g k h f)(ho:Only S w w')(hg:¬S g):Tasks w' g k h f:=by
 obtain⟨cs,hr,hs,hc⟩:=T.row;exact⟨cs,hr.only ho hg,hs,hc⟩
end
section
variable{w w':World}{g k t:Nat}{h:Nat->Int}{f:Nat->LS}{S:Nat->Prop}
theorem qok(w:World)(k:Nat)(h:Nat->Int)(f:Nat->LS)(cs:Array Value)(hs:cs.size=k*11)(hz:∀i,i<k->∀j v,(zl (h i) (f i))[j]? =some v->cs[i*11+j]? =some v)(hr:Row w g 74 cs):Tasks w g k h f:=⟨cs,hr,hs,hz⟩
end
def qbi(k:Int):Value:=if k=1 then .func (.func 34) #[] #[]else if k=2 then .func (.func 35) #[] #[]else if k=3 then .func (.func 36) #[] #[]else if k=4 then .func (.func 37) #[] #[]else if k=5 then .func (.func 38) #[] #[]else if k=6 then .func (.func 39) #[] #[]else .nilFunc
theorem qcd(k:Int)(w:World):Calls prog 11 #[.int .i64 k] w fun e w'=>e= .returned (.tuple #[qbi k,.bool (decide (1<=k/\k<=6))])/\w=w':=by
 by_cases hk:1<=k/\k<=6
 . rw[decide_eq_true hk]
   have hc:k=1\/k=2\/k=3\/k=4\/k=5\/k=6:=by omega
   rcases hc with rfl|rfl|rfl|rfl|rfl|rfl
   all_goals
    go_enter func11, ntmps11;go_wp2;go_returns;exact⟨rfl,rfl⟩
 . rw[decide_eq_false hk]
   have h1:¬k=1:=by omega
   have h2:¬k=2:=by omega
   have h3:¬k=3:=by omega
   have h4:¬k=4:=by omega
   have h5:¬k=5:=by omega
   have h6:¬k=6:=by omega
   rw[show qbi k= .nilFunc by unfold qbi;rw[if_neg h1,if_neg h2,if_neg h3,if_neg h4,if_neg h5,if_neg h6]];clear hk;go_enter func11, ntmps11;go_wp2;go_returns;exact⟨rfl,rfl⟩
end Go.Proofs.YtgebffjejifidaaGreat
