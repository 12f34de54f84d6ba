import Derived.Test.YtlepokgagickmaaGreatChecked
import Derived.Test.YtlepokgagickmaaGreatG2
import Derived.Test.YtlepokgagickmaaGreatG1
set_option linter.unusedVariables false
set_option linter.unusedSimpArgs false
namespace Go.Proofs.YtlepokgagickmaaGreat
open Go.RowKit
def pfCase (op line : Int) : Nat :=
  if op = 1 ∧ line = 0 then 1 else if op = 1 ∧ line = 1 then 2 else if op = 2 ∧ line = 0 then 3 else if op = 3 ∧ line = 0 then 4 else if op = 3 ∧ line = 1 then 5 else if op = 3 ∧ line = 2 then 6
  else if op = 3 ∧ line = 3 then 7 else if op = 3 ∧ line = 4 then 8 else if op = 4 ∧ line = 0 then 9 else if op = 8 ∧ line = 0 then 9 else if op = 4 ∧ line = 1 then 10 else if op = 8 ∧ line = 1 then 11
  else if op = 4 ∧ line = 2 then 12 else if op = 8 ∧ line = 2 then 12 else if op = 4 ∧ line = 3 then 13 else if op = 8 ∧ line = 3 then 13 else if op = 5 ∧ line = 0 then 14 else if op = 5 ∧ line = 1 then 15
  else if op = 6 ∧ line = 0 then 16 else if op = 7 ∧ line = 0 then 16 else if op = 6 ∧ line = 1 then 17 else if op = 7 ∧ line = 1 then 17 else if op = 6 ∧ line = 2 then 18 else if op = 7 ∧ line = 2 then 18
  else if op = 6 ∧ line = 3 then 19 else if op = 7 ∧ line = 3 then 19 else if op = 6 ∧ line = 4 then 20 else if op = 7 ∧ line = 4 then 21 else if op = 6 ∧ line = 5 then 22 else if op = 7 ∧ line = 5 then 22
  else if op = 6 ∧ line = 6 then 23 else if op = 7 ∧ line = 6 then 23 else if op = 6 ∧ line = 7 then 24 else if op = 7 ∧ line = 7 then 25 else if op = 7 ∧ line = 8 then 26 else if op = 6 ∧ line = 9 then 27
  else if op = 7 ∧ line = 9 then 27 else 0
def bitsI (v : Int) : Int := v % 4
def presI (b : Int) : Int := 2 + b % 2
def LS.pCome (r : LS) : LS := if bitsI (wordAt r.xs 0) = 0 then ((((r.doA 3 0 256 0).keepA (wordAt r.xs 0)).note 2 1).note 4 0).fin true else (((r.doA 3 0 256 0).keepA (wordAt r.xs 0)).note 2 1).go 1
def LS.left (r : LS) (v : Int) : Bool := bitsI v != bitsI r.a
def LS.pAdmit (r : LS) (c : Int) (q : Int → Bool) : LS := if (r.stepR c q).done then ((r.wait c q).noteIf (r.stepR c q).seen 4).fin true else (r.wait c q).noteIf (r.stepR c q).seen 4
def LS.pDepart (r : LS) : LS := (((r.doA 3 1 256 0).note 6 0).wake 1).fin true
def LS.pDraw (r : LS) : LS := (((r.doA 3 2 1 0).keepA (wordAt r.xs 2)).note 2 2).go 1
def LS.pTurn (r : LS) : LS := if (r.stepR 3 r.mine).done then (r.wait 3 r.mine).go 2 else r.wait 3 r.mine
def LS.pKeep (r : LS) (n : Int) : LS := ((r.doA 1 4 0 0).keepB (wordAt r.xs 4)).go n
def LS.pAppear (r : LS) (n : Int) : LS := (((r.doA 3 0 (presI r.b) 0).keepA (wordAt r.xs 0)).note 3 0).go n
def LS.pVanish (r : LS) (inn what : Int) : LS := (((r.doA 3 0 ((inn - presI r.b) % 4294967296) 0).note what 0).wake 0).go 2
def LS.pCount (r : LS) : LS := (r.doA 2 4 ((r.b + 1) % 4294967296) 0).go 3
def LS.pPass (r : LS) (ok : Bool) : LS := (((r.doA 3 3 1 0).note 8 0).wake 3).fin ok
def LS.pLookIn (r : LS) : LS := if bitsI (wordAt r.xs 0) = 0 then ((r.doA 1 0 0 0).keepA (wordAt r.xs 0)).go 1 else (((r.doA 1 0 0 0).keepA (wordAt r.xs 0)).note 5 0).fin false
def LS.was (r : LS) (c : Int) : Bool := there r.xs c && (wordAt r.xs c == r.a)
def LS.pSlip (r : LS) : LS := if r.was 0 then (((r.doA 5 0 r.a ((r.a + 256) % 4294967296)).note 2 1).note 4 0).fin true else (r.doA 5 0 r.a ((r.a + 256) % 4294967296)).go 0
def LS.pLook (r : LS) (c n : Int) : LS := ((r.doA 1 c 0 0).keepA (wordAt r.xs c)).go n
def LS.pWeighT (r : LS) : LS :=
  if 0 < aheadI r.a (wordAt r.xs 3) then (((r.doA 1 3 0 0).keepB (wordAt r.xs 3)).note 5 0).fin false
  else if aheadI r.a (wordAt r.xs 3) < 0 then ((r.doA 1 3 0 0).keepB (wordAt r.xs 3)).go 0 else ((r.doA 1 3 0 0).keepB (wordAt r.xs 3)).go 2
def LS.pClaim (r : LS) : LS := if r.was 2 then ((r.doA 5 2 r.a ((r.a + 1) % 4294967296)).note 2 2).go 3 else (r.doA 5 2 r.a ((r.a + 1) % 4294967296)).go 0
def LS.pWeighR (r : LS) (own : Int) : LS := if aheadI r.a (wordAt r.xs 1) ≤ own then ((r.doA 1 1 0 0).keepB (wordAt r.xs 1)).go 5 else (((r.doA 1 1 0 0).keepB (wordAt r.xs 1)).note 5 0).go 9
def LS.butMe (r : LS) (v : Int) : Bool := v == (r.a - 256) % 4294967296
def LS.pOthers (r : LS) : LS := if (r.stepR 1 r.butMe).done then ((r.wait 1 r.butMe).noteIf (r.stepR 1 r.butMe).seen 9).go 8 else (r.wait 1 r.butMe).noteIf (r.stepR 1 r.butMe).seen 9
def LS.pStop (r : LS) : LS := (r.doA 3 1 256 0).fin true
def LS.pf (r : LS) : LS :=
  match pfCase r.op r.line with
  | 1 => r.pCome
  | 2 => r.pAdmit 0 r.left
  | 3 => r.pDepart
  | 4 => r.pDraw
  | 5 => r.pTurn
  | 6 => r.pKeep 3
  | 7 => r.pAppear 4
  | 8 => r.pAdmit 1 r.mine
  | 9 => r.pKeep 1
  | 10 => r.pVanish 0 7
  | 11 => r.pVanish 256 10
  | 12 => r.pCount
  | 13 => r.pPass true
  | 14 => r.pLookIn
  | 15 => r.pSlip
  | 16 => r.pLook 2 1
  | 17 => r.pWeighT
  | 18 => r.pClaim
  | 19 => r.pLook 0 4
  | 20 => r.pWeighR 0
  | 21 => r.pWeighR 256
  | 22 => r.pKeep 6
  | 23 => r.pAppear 7
  | 24 => r.pAdmit 1 r.mine
  | 25 => r.pOthers
  | 26 => r.pStop
  | 27 => r.pPass false
  | _ => r
end Go.Proofs.YtlepokgagickmaaGreat
set_option linter.unusedVariables false
set_option linter.unusedSimpArgs false
namespace Go.Proofs.YtlepokgagickmaaGreat
open Go.RowKit
def nc (n i : Int) : Int := cellI n 0 i
def bc (n i : Int) : Int := cellI n 1 i
def LS.me (r : LS) : Int := (r.task + 1) % 4294967296
def isZ (v : Int) : Bool := v == 0
def isN (v : Int) : Bool := v != 0
def LS.notes (r : LS) (whats : List Int) : LS := whats.foldl (fun r w => r.note w 0) r
def LS.link (r : LS) : LS := (((r.doA 2 (nc r.n (r.a - 1)) r.me 0).wake (nc r.n (r.a - 1))).go 4)
def LS.swapIn (r : LS) (tail cl : Int) : LS := ((r.doA 4 tail r.me 0).keepA (wordAt r.xs tail)).note 2 cl
def LS.mxEnter (r : LS) (tail cl : Int) : LS × Bool :=
  if r.line = 0 then ((r.doA 2 (nc r.n r.task) 0 0).go 1, false)
  else if r.line = 1 then ((r.doA 2 (bc r.n r.task) 1 0).go 2, false)
  else if r.line = 2 then (if wordAt r.xs tail = 0 then (r.swapIn tail cl, true) else ((r.swapIn tail cl).go 3, false))
  else if r.line = 3 then (r.link, false)
  else if r.line = 4 then (r.wait (bc r.n r.task) isZ, (r.stepR (bc r.n r.task) isZ).done)
  else (r, false)
def LS.seeN (r : LS) : LS := if (r.stepR (nc r.n r.task) isN).seen then (r.wait (nc r.n r.task) isN).keepA (wordAt r.xs (nc r.n r.task)) else r.wait (nc r.n r.task) isN
def LS.handOn (r : LS) (whats : List Int) : LS := ((r.doA 2 (bc r.n (r.a - 1)) 0 0).notes whats).wake (bc r.n (r.a - 1))
def LS.peek (r : LS) : LS := (r.doA 1 (nc r.n r.task) 0 0).keepA (wordAt r.xs (nc r.n r.task))
def LS.casOut (r : LS) (tail : Int) : Bool := there r.xs tail && (wordAt r.xs tail == r.me)
def LS.mxGive (r : LS) (tail a : Int) (whats : List Int) : LS × Bool :=
  if r.line = a then (if wordAt r.xs (nc r.n r.task) = 0 then r.peek.go (a + 1) else r.peek.go (a + 3), false)
  else if r.line = a + 1 then (if r.casOut tail then ((r.doA 5 tail r.me 0).notes whats, true) else ((r.doA 5 tail r.me 0).go (a + 2), false))
  else if r.line = a + 2 then (if (r.stepR (nc r.n r.task) isN).done then r.seeN.go (a + 3) else r.seeN, false)
  else if r.line = a + 3 then (r.handOn whats, true)
  else (r, false)
def LS.mxTry (r : LS) (tail a : Int) : LS × Bool × Bool :=
  if r.line = a then ((r.doA 2 (nc r.n r.task) 0 0).go (a + 1), false, false)
  else if r.line = a + 1 then (r.doA 5 tail 0 r.me, true, there r.xs tail && (wordAt r.xs tail == 0))
  else (r, false, false)
end Go.Proofs.YtlepokgagickmaaGreat
set_option linter.unusedVariables false
set_option linter.unusedSimpArgs false
namespace Go.Proofs.YtlepokgagickmaaGreat
open Go.RowKit
def pqCase (op line : Int) : Nat :=
  if op = 1 ∧ line = 0 then 1 else if op = 1 ∧ line = 1 then 2 else if op = 2 ∧ line = 0 then 3 else if op = 5 ∧ line = 0 then 4 else if op = 5 ∧ line = 1 then 5
  else if op = 3 ∧ 0 ≤ line ∧ line ≤ 4 then 6 else if op = 3 ∧ line = 5 then 7 else if op = 3 ∧ line = 6 then 8 else if op = 3 ∧ line = 7 then 9
  else if (op = 4 ∨ op = 8) ∧ line = 0 then 10 else if op = 4 ∧ line = 1 then 11 else if op = 8 ∧ line = 1 then 12 else if (op = 4 ∨ op = 8) ∧ line = 2 then 13 else if op = 4 ∨ op = 8 then 14
  else if (op = 6 ∨ op = 7) ∧ 0 ≤ line ∧ line ≤ 1 then 15 else if (op = 6 ∨ op = 7) ∧ line = 2 then 16 else if op = 6 ∧ line = 3 then 17 else if op = 7 ∧ line = 3 then 18
  else if (op = 6 ∨ op = 7) ∧ line = 4 then 19 else if (op = 6 ∨ op = 7) ∧ line = 5 then 20 else if op = 6 ∧ line = 6 then 21 else if op = 7 ∧ line = 6 then 22 else if op = 7 ∧ line = 7 then 23
  else if op = 6 ∨ op = 7 then 24 else 0
def LS.wEnter (r : LS) : LS := if (r.mxEnter 2 2).2 then (r.mxEnter 2 2).1.go 5 else (r.mxEnter 2 2).1
def LS.wKeep (r : LS) (n : Int) : LS := ((r.doA 1 3 0 0).keepB (wordAt r.xs 3)).go n
def LS.wCount (r : LS) : LS := (r.doA 2 3 ((r.b + 1) % 4294967296) 0).go 3
def LS.wGive (r : LS) (a : Int) (ok : Bool) : LS := if (r.mxGive 2 a [8]).2 then (r.mxGive 2 a [8]).1.fin ok else (r.mxGive 2 a [8]).1
def LS.wTry (r : LS) : LS :=
  if (r.mxTry 2 0).2.1 then (if (r.mxTry 2 0).2.2 then ((r.mxTry 2 0).1.note 2 2).go 2 else ((r.mxTry 2 0).1.note 5 0).fin false) else (r.mxTry 2 0).1
def LS.wWeigh (r : LS) (own : Int) : LS := if aheadI r.a (wordAt r.xs 1) ≤ own then ((r.doA 1 1 0 0).keepB (wordAt r.xs 1)).go 4 else (((r.doA 1 1 0 0).keepB (wordAt r.xs 1)).note 5 0).go 8
def LS.wOthers (r : LS) : LS := if (r.stepR 1 r.butMe).done then ((r.wait 1 r.butMe).noteIf (r.stepR 1 r.butMe).seen 9).go 7 else (r.wait 1 r.butMe).noteIf (r.stepR 1 r.butMe).seen 9
def LS.pq (r : LS) : LS :=
  match pqCase r.op r.line with
  | 1 => r.pCome
  | 2 => r.pAdmit 0 r.left
  | 3 => r.pDepart
  | 4 => r.pLookIn
  | 5 => r.pSlip
  | 6 => r.wEnter
  | 7 => r.wKeep 6
  | 8 => r.pAppear 7
  | 9 => r.pAdmit 1 r.mine
  | 10 => r.wKeep 1
  | 11 => r.pVanish 0 7
  | 12 => r.pVanish 256 10
  | 13 => r.wCount
  | 14 => r.wGive 3 true
  | 15 => r.wTry
  | 16 => r.pLook 0 3
  | 17 => r.wWeigh 0
  | 18 => r.wWeigh 256
  | 19 => r.wKeep 5
  | 20 => r.pAppear 6
  | 21 => r.pAdmit 1 r.mine
  | 22 => r.wOthers
  | 23 => r.pStop
  | 24 => r.wGive 8 false
  | _ => r
end Go.Proofs.YtlepokgagickmaaGreat
set_option linter.unusedVariables false
set_option linter.unusedSimpArgs false
namespace Go.Proofs.YtlepokgagickmaaGreat
open Go.RowKit
def fqCase (op line : Int) : Nat :=
  if (op = 1 ∨ op = 3) ∧ 0 ≤ line ∧ line ≤ 4 then 1 else if (op = 5 ∨ op = 6 ∨ op = 7) ∧ 0 ≤ line ∧ line ≤ 1 then 2 else if (op = 1 ∨ op = 5) ∧ line = 5 then 3 else if op = 1 ∨ op = 5 then 4
  else if op = 2 ∧ line = 0 then 5 else if op = 3 ∧ line = 5 then 6 else if op = 4 then 7 else if op = 6 ∧ line = 2 then 8 else if op = 7 ∧ line = 2 then 9 else if op = 7 ∧ line = 3 then 10
  else if op = 6 ∨ op = 7 then 11 else if op = 8 ∧ line = 0 then 12 else if op = 8 then 13 else 0
def LS.qEnter (r : LS) (cl : Int) : LS := if (r.mxEnter 0 cl).2 then (r.mxEnter 0 cl).1.go 5 else (r.mxEnter 0 cl).1
def LS.qGive (r : LS) (a : Int) (ok : Bool) (whats : List Int) : LS := if (r.mxGive 0 a whats).2 then (r.mxGive 0 a whats).1.fin ok else (r.mxGive 0 a whats).1
def LS.qTry (r : LS) : LS :=
  if (r.mxTry 0 0).2.1 then (if (r.mxTry 0 0).2.2 then (if r.op = 5 then ((r.mxTry 0 0).1.note 2 1).go 5 else ((r.mxTry 0 0).1.note 2 2).go 2) else ((r.mxTry 0 0).1.note 5 0).fin false)
  else (r.mxTry 0 0).1
def LS.qCount (r : LS) : LS := (r.doA 1 1 0 0).keepA (wordAt r.xs 1)
def LS.fq (r : LS) : LS :=
  match fqCase r.op r.line with
  | 1 => r.qEnter (if r.op = 1 then 1 else 2)
  | 2 => r.qTry
  | 3 => (r.doA 3 1 1 0).go 6
  | 4 => r.qGive 6 true [4]
  | 5 => (((r.doA 3 1 4294967295 0).note 6 0).wake 1).fin true
  | 6 => if (r.stepR 1 isZ).done then ((r.wait 1 isZ).noteIf (r.stepR 1 isZ).seen 4).fin true else (r.wait 1 isZ).noteIf (r.stepR 1 isZ).seen 4
  | 7 => r.qGive 0 true [7, 8]
  | 8 => if wordAt r.xs 1 = 0 then (r.qCount.note 4 0).fin true else (r.qCount.note 5 0).go 6
  | 9 => if wordAt r.xs 1 = 1 then r.qCount.go 3 else (r.qCount.note 5 0).go 6
  | 10 => ((r.doA 3 1 4294967295 0).note 9 0).fin true
  | 11 => r.qGive 6 false [8]
  | 12 => (r.doA 3 1 1 0).go 1
  | 13 => r.qGive 1 true [10]
  | _ => r
end Go.Proofs.YtlepokgagickmaaGreat
set_option linter.unusedVariables false
set_option linter.unusedSimpArgs false
namespace Go.Proofs.YtlepokgagickmaaGreat
open Go.RowKit
def rfCase (op line : Int) : Nat :=
  if op = 1 ∧ line = 0 then 1 else if op = 1 ∧ line = 1 then 2 else if op = 2 ∧ line = 0 then 3 else if op = 3 ∧ line = 0 then 4 else if op = 3 ∧ line = 1 then 5 else if op = 3 ∧ line = 2 then 6 else if op = 4 ∧ line = 0 then 7
  else if op = 5 ∧ line = 0 then 8 else if op = 6 ∧ line = 0 then 9 else if op = 7 ∧ line = 0 then 10 else if op = 5 ∧ line = 1 then 11 else if op = 6 ∧ line = 1 then 12 else if op = 7 ∧ line = 1 then 13 else if op = 8 ∧ line = 0 then 14 else 0
def outW (v : Int) : Bool := v / 65536 % 2 == 0
def LS.at0 (r : LS) (x : Int) : Bool := there r.xs 0 && (wordAt r.xs 0 == x)
def LS.fCome (r : LS) : LS := if outW (wordAt r.xs 0) then ((((r.doA 3 0 1 0).keepA (wordAt r.xs 0)).note 2 1).note 4 0).fin true else (((r.doA 3 0 1 0).keepA (wordAt r.xs 0)).note 2 1).go 1
def LS.fGo (r : LS) : LS := (((r.doA 3 0 4294967295 0).note 6 0).wake 0).fin true
def LS.fReg (r : LS) : LS := if wordAt r.xs 0 = 0 then (((r.doA 1 0 0 0).keepA (wordAt r.xs 0)).note 2 2).go 1 else (((r.doA 1 0 0 0).keepA (wordAt r.xs 0)).note 2 2).go 2
def LS.fTake (r : LS) : LS := if r.at0 0 then ((r.doA 5 0 0 65536).note 4 0).fin true else (r.doA 5 0 0 65536).go 2
def LS.fWait (r : LS) : LS := if (r.stepR 0 isZ).done then (r.wait 0 isZ).go 1 else r.wait 0 isZ
def LS.fLeave (r : LS) : LS := ((((r.doA 3 0 4294901760 0).note 7 0).note 8 0).wake 0).fin true
def LS.fLook (r : LS) (ok : Bool) : LS := if ok then ((r.doA 1 0 0 0).keepA (wordAt r.xs 0)).go 1 else (((r.doA 1 0 0 0).keepA (wordAt r.xs 0)).note 5 0).fin false
def LS.fSlip (r : LS) : LS := if r.at0 r.a then (((r.doA 5 0 r.a ((r.a + 1) % 4294967296)).note 2 1).note 4 0).fin true else (r.doA 5 0 r.a ((r.a + 1) % 4294967296)).go 0
def LS.fTry (r : LS) : LS := if r.at0 0 then (((r.doA 5 0 0 65536).note 2 2).note 4 0).fin true else (r.doA 5 0 0 65536).go 0
def LS.fUp (r : LS) : LS := if r.at0 1 then ((r.doA 5 0 1 65536).note 9 0).fin true else (r.doA 5 0 1 65536).go 0
def LS.fDown (r : LS) : LS := (((r.doA 3 0 4294901761 0).note 10 0).wake 0).fin true
def LS.rf (r : LS) : LS :=
  match rfCase r.op r.line with
  | 1 => r.fCome
  | 2 => r.pAdmit 0 outW
  | 3 => r.fGo
  | 4 => r.fReg
  | 5 => r.fTake
  | 6 => r.fWait
  | 7 => r.fLeave
  | 8 => r.fLook (outW (wordAt r.xs 0))
  | 9 => r.fLook (wordAt r.xs 0 == 0)
  | 10 => r.fLook (wordAt r.xs 0 == 1)
  | 11 => r.fSlip
  | 12 => r.fTry
  | 13 => r.fUp
  | 14 => r.fDown
  | _ => r
section
variable {r : LS}
theorem rf_1_0 (h1 : r.op = 1) (h2 : r.line = 0) : r.rf = r.fCome := by unfold LS.rf; rw [h1, h2]; rfl
theorem rf_1_1 (h1 : r.op = 1) (h2 : r.line = 1) : r.rf = r.pAdmit 0 outW := by unfold LS.rf; rw [h1, h2]; rfl
theorem rf_2_0 (h1 : r.op = 2) (h2 : r.line = 0) : r.rf = r.fGo := by unfold LS.rf; rw [h1, h2]; rfl
theorem rf_3_0 (h1 : r.op = 3) (h2 : r.line = 0) : r.rf = r.fReg := by unfold LS.rf; rw [h1, h2]; rfl
theorem rf_3_1 (h1 : r.op = 3) (h2 : r.line = 1) : r.rf = r.fTake := by unfold LS.rf; rw [h1, h2]; rfl
theorem rf_3_2 (h1 : r.op = 3) (h2 : r.line = 2) : r.rf = r.fWait := by unfold LS.rf; rw [h1, h2]; rfl
theorem rf_4_0 (h1 : r.op = 4) (h2 : r.line = 0) : r.rf = r.fLeave := by unfold LS.rf; rw [h1, h2]; rfl
theorem rf_5_0 (h1 : r.op = 5) (h2 : r.line = 0) : r.rf = r.fLook (outW (wordAt r.xs 0)) := by unfold LS.rf; rw [h1, h2]; rfl
theorem rf_6_0 (h1 : r.op = 6) (h2 : r.line = 0) : r.rf = r.fLook (wordAt r.xs 0 == 0) := by unfold LS.rf; rw [h1, h2]; rfl
theorem rf_7_0 (h1 : r.op = 7) (h2 : r.line = 0) : r.rf = r.fLook (wordAt r.xs 0 == 1) := by unfold LS.rf; rw [h1, h2]; rfl
theorem rf_5_1 (h1 : r.op = 5) (h2 : r.line = 1) : r.rf = r.fSlip := by unfold LS.rf; rw [h1, h2]; rfl
theorem rf_6_1 (h1 : r.op = 6) (h2 : r.line = 1) : r.rf = r.fTry := by unfold LS.rf; rw [h1, h2]; rfl
theorem rf_7_1 (h1 : r.op = 7) (h2 : r.line = 1) : r.rf = r.fUp := by unfold LS.rf; rw [h1, h2]; rfl
theorem rf_8_0 (h1 : r.op = 8) (h2 : r.line = 0) : r.rf = r.fDown := by unfold LS.rf; rw [h1, h2]; rfl
end
end Go.Proofs.YtlepokgagickmaaGreat
set_option linter.unusedVariables false
set_option linter.unusedSimpArgs false
namespace Go.Proofs.YtlepokgagickmaaGreat
open Go.RowKit
def rF (v : Int) : Int := v % 256
def oF (v : Int) : Int := v / 256 % 256
def iF (v : Int) : Int := v / 65536 % 256
def freeW (v : Int) : Bool := iF v == oF v
def nextO (v : Int) : Int := ((oF v + 1) % 256 - oF v) * 256 % 4294967296
def turnW (x : Int) (v : Int) : Bool := oF v == x && rF v == 0
def wfCase (op line : Int) : Nat :=
  if op = 1 ∧ line = 0 then 1 else if op = 1 ∧ line = 1 then 2 else if op = 1 ∧ line = 2 then 3 else if op = 1 ∧ line = 3 then 4 else if op = 2 ∧ line = 0 then 5 else if op = 3 ∧ line = 0 then 6 else if op = 3 ∧ line = 1 then 7
  else if op = 4 ∧ line = 0 then 8 else if op = 8 ∧ line = 0 then 8 else if op = 4 ∧ line = 1 then 9 else if op = 8 ∧ line = 1 then 10 else if op = 5 ∧ line = 0 then 11 else if op = 6 ∧ line = 0 then 12 else if op = 7 ∧ line = 0 then 13
  else if op = 5 ∧ line = 1 then 14 else if op = 6 ∧ line = 1 then 15 else if op = 7 ∧ line = 1 then 16 else 0
def LS.noteR (r : LS) (b : Bool) : LS := if b then r.note 2 1 else r
def LS.gSee (r : LS) (b : Bool) : LS := if freeW (wordAt r.xs 0) then (((r.doA 1 0 0 0).keepA (wordAt r.xs 0)).noteR b).go 1 else (((r.doA 1 0 0 0).keepA (wordAt r.xs 0)).noteR b).go 2
def LS.gCas (r : LS) (d : Int) : LS := r.doA 5 0 r.a ((r.a + d) % 4294967296)
def LS.gTake (r : LS) : LS := if r.at0 r.a then ((r.gCas 1).note 4 0).fin true else (r.gCas 1).go 3
def LS.seeW (r : LS) : LS := if (r.stepR 0 freeW).seen then (r.wait 0 freeW).keepA (wordAt r.xs 0) else r.wait 0 freeW
def LS.gWait (r : LS) : LS := if (r.stepR 0 freeW).done then r.seeW.go 1 else r.seeW
def LS.gCome (r : LS) : LS := (((r.doA 3 0 65536 0).keepA (wordAt r.xs 0)).note 2 2).go 1
def LS.gLoad (r : LS) : LS := ((r.doA 1 0 0 0).keepA (wordAt r.xs 0)).go 1
def LS.gLeave (r : LS) : LS := ((((r.doA 3 0 (nextO r.a) 0).note 7 0).note 8 0).wake 0).fin true
def LS.gDown (r : LS) : LS := (((r.doA 3 0 ((nextO r.a + 1) % 4294967296) 0).note 10 0).wake 0).fin true
def LS.gSlip (r : LS) : LS := if r.at0 r.a then (((r.gCas 1).note 2 1).note 4 0).fin true else (r.gCas 1).go 0
def LS.gTry (r : LS) : LS := if r.at0 r.a then (((r.gCas 65536).note 2 2).note 4 0).fin true else (r.gCas 65536).go 0
def LS.gUp (r : LS) : LS := if r.at0 r.a then ((r.gCas 65535).note 9 0).fin true else (r.gCas 65535).go 0
def LS.wf (r : LS) : LS :=
  match wfCase r.op r.line with
  | 1 => r.gSee true
  | 2 => r.gTake
  | 3 => r.gWait
  | 4 => r.gSee false
  | 5 => r.fGo
  | 6 => r.gCome
  | 7 => r.pAdmit 0 (turnW (iF r.a))
  | 8 => r.gLoad
  | 9 => r.gLeave
  | 10 => r.gDown
  | 11 => r.fLook (freeW (wordAt r.xs 0))
  | 12 => r.fLook (freeW (wordAt r.xs 0) && rF (wordAt r.xs 0) == 0)
  | 13 => r.fLook (freeW (wordAt r.xs 0) && rF (wordAt r.xs 0) == 1)
  | 14 => r.gSlip
  | 15 => r.gTry
  | 16 => r.gUp
  | _ => r
end Go.Proofs.YtlepokgagickmaaGreat
namespace Go.Proofs.YtlepokgagickmaaGreat
def linesI (kind : Int) : LS → LS := if kind = 1 then LS.tf else if kind = 2 then LS.pf else if kind = 3 then LS.pq else if kind = 4 then LS.fq else if kind = 5 then LS.rf else LS.wf
end Go.Proofs.YtlepokgagickmaaGreat
set_option linter.unusedVariables false
set_option linter.unusedSimpArgs false
namespace Go.Proofs.YtlepokgagickmaaGreat
open Go.RowKit
def Wrd (v : Int) : Prop := 0 ≤ v ∧ v < 4294967296
def Acc1 (xs : List Int) (a : Acc5) (xs' : List Int) : Prop := ∃ k c x y : Int, isKind k = true ∧ a = accI xs k c x y ∧ xs' = doNew xs k c x y
structure Ln (m : Nat) (b : Bool) (r r' : LS) : Prop where
  n : r'.n = r.n
  mode : r'.mode = r.mode
  task : r'.task = r.task
  op : r'.op = r.op
  len : r'.xs.length = r.xs.length
  words : Words r.xs → Words r'.xs
  a : Words r.xs → Wrd r.a → Wrd r'.a
  bb : Words r.xs → Wrd r.b → Wrd r'.b
  ret : r'.ret = r.ret ∨ r'.ret = 1 ∨ r'.ret = 2
  notes : ∃ l : List Nt, r'.ns = r.ns ++ l ∧ l.length ≤ m ∧ ∀ x ∈ l, 0 ≤ x.a ∧ x.a ≤ 2
  acc : (r'.acc = r.acc ∧ r'.xs = r.xs) ∨ (b = true ∧ Acc1 r.xs r'.acc r'.xs)
section
variable {r r' : LS} {m : Nat} {b : Bool}
theorem ln_refl : Ln m b r r := ⟨rfl, rfl, rfl, rfl, rfl, id, fun _ h => h, fun _ h => h, .inl rfl, ⟨[], by simp, Nat.zero_le _, fun _ h => by simp at h⟩, .inl ⟨rfl, rfl⟩⟩
theorem Ln.le {m' : Nat} (h : Ln m b r r') (hm : m ≤ m') : Ln m' b r r' := ⟨h.n, h.mode, h.task, h.op, h.len, h.words, h.a, h.bb, h.ret, h.notes.imp fun _ ⟨e, l, x⟩ => ⟨e, Nat.le_trans l hm, x⟩, h.acc⟩
theorem ln_go {l : Int} (h : Ln m b r r') : Ln m b r (r'.go l) := ⟨h.n, h.mode, h.task, h.op, h.len, h.words, h.a, h.bb, h.ret, h.notes, h.acc⟩
theorem ln_wake {c : Int} (h : Ln m b r r') : Ln m b r (r'.wake c) := ⟨h.n, h.mode, h.task, h.op, h.len, h.words, h.a, h.bb, h.ret, h.notes, h.acc⟩
theorem ln_fin {ok : Bool} (h : Ln m b r r') : Ln m b r (r'.fin ok) := ⟨h.n, h.mode, h.task, h.op, h.len, h.words, h.a, h.bb, by cases ok; exact .inr (.inl rfl); exact .inr (.inr rfl), h.notes, h.acc⟩
theorem ln_keepA {v : Int} (h : Ln m b r r') (hv : Words r.xs → Wrd v) : Ln m b r (r'.keepA v) := ⟨h.n, h.mode, h.task, h.op, h.len, h.words, fun x _ => hv x, h.bb, h.ret, h.notes, h.acc⟩
theorem ln_keepB {v : Int} (h : Ln m b r r') (hv : Words r.xs → Wrd v) : Ln m b r (r'.keepB v) := ⟨h.n, h.mode, h.task, h.op, h.len, h.words, h.a, fun x _ => hv x, h.ret, h.notes, h.acc⟩
theorem ln_note {what arg : Int} (h : Ln m b r r') (ha : 0 ≤ arg ∧ arg ≤ 2) : Ln (m + 1) b r (r'.note what arg) := by
  obtain ⟨l, e, hl, hx⟩ := h.notes
  refine ⟨h.n, h.mode, h.task, h.op, h.len, h.words, h.a, h.bb, h.ret, ⟨l ++ [⟨r'.task, what, 0, arg⟩], by rw [← List.append_assoc, ← e]; rfl, by simp; exact hl, fun x hx' => ?_⟩, h.acc⟩
  rcases List.mem_append.1 hx' with hx' | hx'
  · exact hx x hx'
  · rw [List.mem_singleton.1 hx']; exact ha
theorem ln_noteIf {q : Bool} {what : Int} (h : Ln m b r r') : Ln (m + 1) b r (r'.noteIf q what) := by
  cases q
  · exact h.le (Nat.le_succ _)
  · exact ln_note h (by decide)
theorem ln_noteR {q : Bool} (h : Ln m b r r') : Ln (m + 1) b r (r'.noteR q) := by
  cases q
  · exact h.le (Nat.le_succ _)
  · exact ln_note h (by decide)
theorem ln_do {k c x y : Int} (hk : isKind k = true) (hl : Words r.xs → Wrd (leftOf k x y (wordAt r.xs c))) : Ln m true r (r.doA k c x y) :=
  ⟨rfl, rfl, rfl, rfl, doNew_len _ _ _ _ _, fun h => doNew_wordsK h _ _ _ _ (hl h), fun _ h => h, fun _ h => h, .inl rfl, ⟨[], by simp [LS.doA], Nat.zero_le _, fun _ h => by simp at h⟩, .inr ⟨rfl, k, c, x, y, hk, rfl, rfl⟩⟩
theorem ln_load {c : Int} : Ln m true r (r.doA 1 c 0 0) := ln_do rfl (fun h => word_bd h c)
theorem ln_add {c x : Int} : Ln m true r (r.doA 3 c x 0) := ln_do rfl (fun h => by show 0 ≤ (x + wordAt r.xs c) % 4294967296 ∧ (x + wordAt r.xs c) % 4294967296 < 4294967296; omega)
theorem ln_cas {c x y : Int} (hy : Wrd y) : Ln m true r (r.doA 5 c x y) := ln_do rfl (fun h => by
  show 0 ≤ (if wordAt r.xs c = x then y else wordAt r.xs c) ∧ (if wordAt r.xs c = x then y else wordAt r.xs c) < 4294967296
  split
  · exact hy
  · exact word_bd h c)
theorem ln_store {c x : Int} (hx : Wrd x) : Ln m true r (r.doA 2 c x 0) := ln_do rfl (fun _ => hx)
theorem ln_swap {c x : Int} (hx : Wrd x) : Ln m true r (r.doA 4 c x 0) := ln_do rfl (fun _ => hx)
theorem wd_me : Wrd r.me := by unfold Wrd LS.me; omega
theorem wd_mod {e : Int} : Wrd (e % 4294967296) := by unfold Wrd; omega
theorem wd_0 : Wrd 0 := ⟨by decide, by decide⟩
theorem wd_1 : Wrd 1 := ⟨by decide, by decide⟩
theorem wd_w : Wrd 65536 := ⟨by decide, by decide⟩
theorem wd_at {c : Int} (h : Words r.xs) : Wrd (wordAt r.xs c) := word_bd h c
theorem acc1_of {xs xs' : List Int} {v : Value} {ka ca xa ya oa : Int} (he : v = .agg #[.int .i64 ka, .int .i64 ca, .int .u32 xa, .int .u32 ya, .int .u32 oa]) (hd : doVal xs ka ca xa ya = .agg #[.int .i64 ka, .int .i64 ca, .int .u32 xa, .int .u32 ya, .int .u32 oa]) (ho : doOk xs ka ca = true) (hx : doNew xs ka ca xa ya = xs') : Acc1 xs (ofV v) xs' := by
  refine ⟨ka, ca, xa, ya, ?_, ?_, hx.symm⟩
  · unfold doOk at ho; revert ho; cases isKind ka <;> simp
  · rw [he, ← hd, doVal_acc]; rfl
theorem acc1_none (xs : List Int) : Acc1 xs acc0 xs := by
  refine ⟨1, -1, 0, 0, rfl, ?_, ?_⟩
  · unfold accI doOk there
    rw [show (decide (0 ≤ (-1 : Int) ∧ (-1 : Int) < xs.length)) = false from decide_eq_false (by omega)]
    rfl
  · rw [doNew_load]
theorem ln_wait {c : Int} {q : Int → Bool} : Ln m true r (r.wait c q) := by
  refine ⟨rfl, rfl, rfl, rfl, step_len _ _ _ _ _ _ _, fun h => Words.step h _ _ _ _ _ _, fun _ h => h, fun _ h => h, .inl rfl, ⟨[], by simp [LS.wait], Nat.zero_le _, fun _ h => by simp at h⟩, .inr ⟨rfl, ?_⟩⟩
  show Acc1 r.xs (ofV (stepI r.xs r.n r.mode r.task r.s c q).acc) (stepI r.xs r.n r.mode r.task r.s c q).xs
  obtain ⟨ka, ca, xa, ya, oa, he, ⟨h1, h2, h3, h4, h5, h6⟩ | ⟨_, hd, ho, hn, _⟩⟩ := step_access r.xs r.n r.mode r.task r.s c q
  · rw [he, h6]; subst h1; subst h2; subst h3; subst h4; subst h5; exact acc1_none _
  · exact acc1_of he hd ho hn
theorem ln_notes : ∀ (l : List Int) {m : Nat} {r' : LS}, Ln m b r r' → Ln (m + l.length) b r (r'.notes l)
  | [], _, _, h => h
  | w :: l, m, r', h => by
    have := ln_notes l (ln_note (what := w) (arg := 0) h (by decide))
    exact this.le (by simp only [List.length_cons]; omega)
theorem acc1_do {xs : List Int} {k c x y : Int} (hk : isKind k = true) : Acc1 xs (ofV (doVal xs k c x y)) (doNew xs k c x y) := ⟨k, c, x, y, hk, by rw [doVal_acc]; rfl, rfl⟩
theorem ln_waking : Ln m true r.fresh r.waking := by
  refine ⟨rfl, rfl, rfl, rfl, wake_lenK _ _ _ _ _ _, fun h => wake_wordsK h _ _ _ _ _, fun _ h => h, fun _ h => h, .inl rfl, ⟨[], rfl, Nat.zero_le _, fun _ h => by simp at h⟩, .inr ⟨rfl, ?_⟩⟩
  show Acc1 r.xs (ofV (wakeI r.xs r.n r.k.on r.k.c r.k.i r.k.hit).acc) (wakeI r.xs r.n r.k.on r.k.c r.k.i r.k.hit).xs
  have hr : Acc1 r.xs (ofV (restI r.xs).acc) (restI r.xs).xs := acc1_none _
  unfold wakeI
  split
  · split
    · unfold giveI
      split
      · have := acc1_do (xs := r.xs) (k := 2) (c := pc r.n r.k.i) (x := 1) (y := 0) rfl
        rw [doNew_st _ 2 _ _ _ rfl] at this
        exact this
      · exact hr
    · unfold lookI
      have h1 := acc1_do (xs := r.xs) (k := 1) (c := wc r.n r.k.i) (x := 0) (y := 0) rfl
      rw [doNew_load] at h1
      split
      · split
        · exact h1
        · exact h1
      · exact hr
  · exact hr
theorem ln_mxEnter (tail cl : Int) (h : 0 ≤ cl ∧ cl ≤ 2) : Ln 1 true r (r.mxEnter tail cl).1 := by
  unfold LS.mxEnter LS.link LS.swapIn
  all_goals (repeat (first | (with_reducible first | exact ln_refl | exact ln_load | exact ln_add | exact ln_wait | exact ln_cas wd_mod | exact ln_cas wd_me | exact ln_cas wd_0 | exact ln_cas wd_w | exact ln_store wd_mod | exact ln_store wd_me | exact ln_store wd_0 | exact ln_store wd_1 | exact ln_swap wd_me | refine ln_go ?_ | refine ln_fin ?_ | refine ln_wake ?_ | refine ln_keepA ?_ wd_at | refine ln_keepB ?_ wd_at | refine ln_noteIf ?_ | refine ln_noteR ?_ | refine ln_note ?_ (by first | decide | assumption) | exact ln_notes _ ln_refl) | split | dsimp only))
theorem ln_mxGive (tail a : Int) (l : List Int) : Ln l.length true r (r.mxGive tail a l).1 := by
  have h : ∀ {c x y : Int} {k : Int}, Ln 0 true r (r.doA k c x y) → Ln l.length true r ((r.doA k c x y).notes l) := fun h => (ln_notes l h).le (by omega)
  unfold LS.mxGive LS.peek LS.seeN LS.handOn
  repeat' split
  all_goals (try dsimp only)
  all_goals (try refine ln_wake ?_)
  all_goals (try refine h ?_)
  all_goals (repeat (first | (with_reducible first | exact ln_refl | exact ln_load | exact ln_add | exact ln_wait | exact ln_cas wd_mod | exact ln_cas wd_me | exact ln_cas wd_0 | exact ln_cas wd_w | exact ln_store wd_mod | exact ln_store wd_me | exact ln_store wd_0 | exact ln_store wd_1 | exact ln_swap wd_me | refine ln_go ?_ | refine ln_fin ?_ | refine ln_wake ?_ | refine ln_keepA ?_ wd_at | refine ln_keepB ?_ wd_at | refine ln_noteIf ?_ | refine ln_noteR ?_ | refine ln_note ?_ (by first | decide | assumption) | exact ln_notes _ ln_refl) | split | dsimp only))
theorem ln_mxTry (tail a : Int) : Ln m true r (r.mxTry tail a).1 := by
  unfold LS.mxTry
  all_goals (repeat (first | (with_reducible first | exact ln_refl | exact ln_load | exact ln_add | exact ln_wait | exact ln_cas wd_mod | exact ln_cas wd_me | exact ln_cas wd_0 | exact ln_cas wd_w | exact ln_store wd_mod | exact ln_store wd_me | exact ln_store wd_0 | exact ln_store wd_1 | exact ln_swap wd_me | refine ln_go ?_ | refine ln_fin ?_ | refine ln_wake ?_ | refine ln_keepA ?_ wd_at | refine ln_keepB ?_ wd_at | refine ln_noteIf ?_ | refine ln_noteR ?_ | refine ln_note ?_ (by first | decide | assumption) | exact ln_notes _ ln_refl) | split | dsimp only))
theorem ln_tf : Ln 2 true r r.tf := by
  unfold LS.tf LS.draw LS.awaitR LS.awaitW LS.turn LS.leave LS.look LS.weigh LS.claim LS.giveBack
  all_goals (repeat (first | (with_reducible first | exact ln_refl | exact ln_load | exact ln_add | exact ln_wait | exact ln_cas wd_mod | exact ln_cas wd_me | exact ln_cas wd_0 | exact ln_cas wd_w | exact ln_store wd_mod | exact ln_store wd_me | exact ln_store wd_0 | exact ln_store wd_1 | exact ln_swap wd_me | refine ln_go ?_ | refine ln_fin ?_ | refine ln_wake ?_ | refine ln_keepA ?_ wd_at | refine ln_keepB ?_ wd_at | refine ln_noteIf ?_ | refine ln_noteR ?_ | refine ln_note ?_ (by first | decide | assumption) | exact ln_notes _ ln_refl) | split | dsimp only))
theorem ln_pf : Ln 2 true r r.pf := by
  unfold LS.pf LS.pCome LS.pAdmit LS.pDepart LS.pDraw LS.pTurn LS.pKeep LS.pAppear LS.pVanish LS.pCount LS.pPass LS.pLookIn LS.pSlip LS.pLook LS.pWeighT LS.pClaim LS.pWeighR LS.pOthers LS.pStop
  all_goals (repeat (first | (with_reducible first | exact ln_refl | exact ln_load | exact ln_add | exact ln_wait | exact ln_cas wd_mod | exact ln_cas wd_me | exact ln_cas wd_0 | exact ln_cas wd_w | exact ln_store wd_mod | exact ln_store wd_me | exact ln_store wd_0 | exact ln_store wd_1 | exact ln_swap wd_me | refine ln_go ?_ | refine ln_fin ?_ | refine ln_wake ?_ | refine ln_keepA ?_ wd_at | refine ln_keepB ?_ wd_at | refine ln_noteIf ?_ | refine ln_noteR ?_ | refine ln_note ?_ (by first | decide | assumption) | exact ln_notes _ ln_refl) | split | dsimp only))
theorem ln_rf : Ln 2 true r r.rf := by
  unfold LS.rf LS.fCome LS.pAdmit LS.fGo LS.fReg LS.fTake LS.fWait LS.fLeave LS.fLook LS.fSlip LS.fTry LS.fUp LS.fDown
  all_goals (repeat (first | (with_reducible first | exact ln_refl | exact ln_load | exact ln_add | exact ln_wait | exact ln_cas wd_mod | exact ln_cas wd_me | exact ln_cas wd_0 | exact ln_cas wd_w | exact ln_store wd_mod | exact ln_store wd_me | exact ln_store wd_0 | exact ln_store wd_1 | exact ln_swap wd_me | refine ln_go ?_ | refine ln_fin ?_ | refine ln_wake ?_ | refine ln_keepA ?_ wd_at | refine ln_keepB ?_ wd_at | refine ln_noteIf ?_ | refine ln_noteR ?_ | refine ln_note ?_ (by first | decide | assumption) | exact ln_notes _ ln_refl) | split | dsimp only))
theorem ln_wf : Ln 2 true r r.wf := by
  unfold LS.wf LS.gSee LS.gTake LS.gCas LS.gWait LS.seeW LS.fGo LS.gCome LS.pAdmit LS.gLoad LS.gLeave LS.gDown LS.fLook LS.gSlip LS.gTry LS.gUp LS.gCas
  all_goals (repeat (first | (with_reducible first | exact ln_refl | exact ln_load | exact ln_add | exact ln_wait | exact ln_cas wd_mod | exact ln_cas wd_me | exact ln_cas wd_0 | exact ln_cas wd_w | exact ln_store wd_mod | exact ln_store wd_me | exact ln_store wd_0 | exact ln_store wd_1 | exact ln_swap wd_me | refine ln_go ?_ | refine ln_fin ?_ | refine ln_wake ?_ | refine ln_keepA ?_ wd_at | refine ln_keepB ?_ wd_at | refine ln_noteIf ?_ | refine ln_noteR ?_ | refine ln_note ?_ (by first | decide | assumption) | exact ln_notes _ ln_refl) | split | dsimp only))
theorem ln_qEnter (cl : Int) (h : 0 ≤ cl ∧ cl ≤ 2) : Ln 2 true r (r.qEnter cl) := by
  unfold LS.qEnter
  split
  · exact ln_go ((ln_mxEnter _ _ h).le (by decide))
  · exact (ln_mxEnter _ _ h).le (by decide)
theorem ln_qGive (a : Int) (ok : Bool) (l : List Int) (h : l.length ≤ 2) : Ln 2 true r (r.qGive a ok l) := by
  unfold LS.qGive
  split
  · exact ln_fin ((ln_mxGive _ _ _).le h)
  · exact (ln_mxGive _ _ _).le h
theorem ln_qTry : Ln 2 true r r.qTry := by
  unfold LS.qTry
  repeat' split
  · exact ln_go (ln_note (ln_mxTry _ _) (by decide))
  · exact ln_go (ln_note (ln_mxTry _ _) (by decide))
  · exact ln_fin (ln_note (ln_mxTry _ _) (by decide))
  · exact ln_mxTry _ _
theorem ln_fq : Ln 2 true r r.fq := by
  unfold LS.fq LS.qCount
  split
  · exact ln_qEnter _ (by split <;> decide)
  · exact ln_qTry
  all_goals (try exact ln_qGive _ _ _ (by decide))
  all_goals (repeat (first | (with_reducible first | exact ln_refl | exact ln_load | exact ln_add | exact ln_wait | exact ln_cas wd_mod | exact ln_cas wd_me | exact ln_cas wd_0 | exact ln_cas wd_w | exact ln_store wd_mod | exact ln_store wd_me | exact ln_store wd_0 | exact ln_store wd_1 | exact ln_swap wd_me | refine ln_go ?_ | refine ln_fin ?_ | refine ln_wake ?_ | refine ln_keepA ?_ wd_at | refine ln_keepB ?_ wd_at | refine ln_noteIf ?_ | refine ln_noteR ?_ | refine ln_note ?_ (by first | decide | assumption) | exact ln_notes _ ln_refl) | split | dsimp only))
theorem ln_wEnter : Ln 2 true r r.wEnter := by
  unfold LS.wEnter
  split
  · exact ln_go ((ln_mxEnter _ _ (by decide)).le (by decide))
  · exact (ln_mxEnter _ _ (by decide)).le (by decide)
theorem ln_wGive (a : Int) (ok : Bool) : Ln 2 true r (r.wGive a ok) := by
  unfold LS.wGive
  split
  · exact ln_fin ((ln_mxGive 2 a [8]).le (show 1 ≤ 2 by decide))
  · exact (ln_mxGive 2 a [8]).le (show 1 ≤ 2 by decide)
theorem ln_wTry : Ln 2 true r r.wTry := by
  unfold LS.wTry
  repeat' split
  · exact ln_go (ln_note (ln_mxTry _ _) (by decide))
  · exact ln_fin (ln_note (ln_mxTry _ _) (by decide))
  · exact ln_mxTry _ _
theorem ln_pq : Ln 2 true r r.pq := by
  unfold LS.pq LS.pCome LS.pAdmit LS.pDepart LS.pLookIn LS.pSlip LS.wKeep LS.pAppear LS.pVanish LS.wCount LS.pLook LS.wWeigh LS.wOthers LS.pStop
  split
  all_goals (try exact ln_wEnter)
  all_goals (try exact ln_wGive _ _)
  all_goals (try exact ln_wTry)
  all_goals (repeat (first | (with_reducible first | exact ln_refl | exact ln_load | exact ln_add | exact ln_wait | exact ln_cas wd_mod | exact ln_cas wd_me | exact ln_cas wd_0 | exact ln_cas wd_w | exact ln_store wd_mod | exact ln_store wd_me | exact ln_store wd_0 | exact ln_store wd_1 | exact ln_swap wd_me | refine ln_go ?_ | refine ln_fin ?_ | refine ln_wake ?_ | refine ln_keepA ?_ wd_at | refine ln_keepB ?_ wd_at | refine ln_noteIf ?_ | refine ln_noteR ?_ | refine ln_note ?_ (by first | decide | assumption) | exact ln_notes _ ln_refl) | split | dsimp only))
theorem ln_kind (kind : Int) : Ln 2 true r (linesI kind r) := by
  unfold linesI
  repeat' split
  · exact ln_tf
  · exact ln_pf
  · exact ln_pq
  · exact ln_fq
  · exact ln_rf
  · exact ln_wf
theorem ln_next (kind : Int) : Ln 2 true r.fresh (r.next (linesI kind)) := by
  unfold LS.next
  split
  · exact ln_waking
  · exact ln_kind kind
end
end Go.Proofs.YtlepokgagickmaaGreat
set_option linter.unusedVariables false
set_option linter.unusedSimpArgs false
namespace Go.Proofs.YtlepokgagickmaaGreat
open Go.RowKit
structure Ev where
  ran : Bool
  acc : Acc5
  ns : List Nt
def ev0 : Ev := ⟨false, acc0, []⟩
def stepNs (t : Int) (r : LS) (told : List Nt) : List Nt := if r.over then told ++ r.ns ++ [⟨t, 11, r.op, r.ret⟩] else told ++ r.ns
def MV.put (m : MV) (t : Nat) (r : LS) : MV := if r.over then ((m.setR t r).setH t (behindI r.op r.ret (m.hold t))).setR t (zeroF r 0) else m.setR t r
def stepE (L : LS → LS) (m : MV) (t : Nat) (told : List Nt) : Ev := ⟨true, ((m.at t).next L).acc, stepNs t ((m.at t).next L) told⟩
def MV.step (L : LS → LS) (m : MV) (t : Nat) : MV := m.put t ((m.at t).next L)
def pickI (L : LS → LS) (m : MV) (t : Nat) (op : Int) : MV :=
  if (m.rs t).op = 0 then (if 1 ≤ op ∧ op ≤ 8 then (if mayI op (m.hold t) then (m.start t op).step L t else m) else m)
  else if (m.at t).stuck then m else m.step L t
def pickE (L : LS → LS) (m : MV) (t : Nat) (op : Int) : Ev :=
  if (m.rs t).op = 0 then (if 1 ≤ op ∧ op ≤ 8 then (if mayI op (m.hold t) then stepE L (m.start t op) t [⟨t, 1, op, 0⟩] else ⟨true, acc0, [⟨t, 1, op, 0⟩, ⟨t, 11, op, 3⟩]⟩) else ev0)
  else if (m.at t).stuck then ev0 else stepE L m t []
def pickW (L : LS → LS) (k : Nat) (m : MV) (t op : Int) : MV := if 0 ≤ t ∧ t < k then pickI L m t.toNat op else m
def eventW (L : LS → LS) (k : Nat) (m : MV) (t op : Int) : Ev := if 0 ≤ t ∧ t < k then pickE L m t.toNat op else ev0
structure WdI (mode : Int) (k : Nat) (m : MV) : Prop where
  len : m.xs.length = 8 + 4 * k
  words : Words m.xs
  rs : ∀ t, t < k → (m.rs t).n = k ∧ (m.rs t).mode = mode ∧ (m.rs t).task = t ∧ Wrd (m.rs t).a ∧ Wrd (m.rs t).b ∧ (0 ≤ (m.rs t).ret ∧ (m.rs t).ret ≤ 2) ∧ 0 ≤ (m.rs t).op ∧ (m.rs t).op ≤ 8
  hold : ∀ t, t < k → m.hold t = 0 ∨ m.hold t = 1 ∨ m.hold t = 2
  idle : ∀ t, t < k → (m.rs t).op = 0 → (m.rs t).s = 0
section
variable {mode kind : Int} {k t : Nat} {m : MV}
theorem hold_beh {op ret h : Int} (hh : h = 0 ∨ h = 1 ∨ h = 2) : behindI op ret h = 0 ∨ behindI op ret h = 1 ∨ behindI op ret h = 2 := by
  unfold behindI
  repeat' split
  all_goals first | exact hh | exact .inr (.inl rfl) | exact .inr (.inr rfl)
theorem hold_from {op h : Int} (hh : h = 0 ∨ h = 1 ∨ h = 2) : fromI op h = 0 ∨ fromI op h = 1 ∨ fromI op h = 2 := by
  unfold fromI
  repeat' split
  all_goals first | exact hh | exact .inl rfl | exact .inr (.inl rfl)
theorem WdI.start (h : WdI mode k m) (ht : t < k) {op : Int} (ho : 1 ≤ op ∧ op ≤ 8) : WdI mode k (m.start t op) := by
  refine ⟨h.len, h.words, fun i hi => ?_, fun i hi => ?_, fun i hi => ?_⟩
  · show (upd m.rs t (zeroF (m.at t) op) i).n = k ∧ _
    by_cases e : i = t
    · subst e
      have := h.rs i hi
      rw [show (m.start i op).rs i = zeroF (m.at i) op from upd_same _ _ _, upd_same]
      exact ⟨this.1, this.2.1, this.2.2.1, wd_0, wd_0, ⟨show (0 : Int) ≤ 0 by decide, show (0 : Int) ≤ 2 by decide⟩, by show 0 ≤ op; omega, by show op ≤ 8; omega⟩
    · rw [show (m.start t op).rs i = m.rs i from upd_other _ _ e, upd_other _ _ e]
      exact h.rs i hi
  · show upd m.hold t _ i = 0 ∨ upd m.hold t _ i = 1 ∨ upd m.hold t _ i = 2
    by_cases e : i = t
    · subst e; rw [upd_same]; exact hold_from (h.hold i hi)
    · rw [upd_other _ _ e]; exact h.hold i hi
  · by_cases e : i = t
    · subst e
      rw [show (m.start i op).rs i = zeroF (m.at i) op from upd_same _ _ _]
      intro _; rfl
    · rw [show (m.start t op).rs i = m.rs i from upd_other _ _ e]
      exact h.idle i hi
theorem WdI.setR (h : WdI mode k m) (ht : t < k) {r : LS} (hl : r.xs.length = m.xs.length) (hw : Words r.xs) (hr : r.n = k ∧ r.mode = mode ∧ r.task = t ∧ Wrd r.a ∧ Wrd r.b ∧ (0 ≤ r.ret ∧ r.ret ≤ 2) ∧ 0 ≤ r.op ∧ r.op ≤ 8) (hz : r.op = 0 → r.s = 0) : WdI mode k (m.setR t r) := by
  refine ⟨hl.trans h.len, hw, fun i hi => ?_, h.hold, fun i hi => ?_⟩
  rotate_left
  · by_cases e : i = t
    · subst e
      rw [show (m.setR i r).rs i = r from upd_same _ _ _]; exact hz
    · rw [show (m.setR t r).rs i = m.rs i from upd_other _ _ e]; exact h.idle i hi
  by_cases e : i = t
  · subst e
    rw [show (m.setR i r).rs i = r from upd_same _ _ _]; exact hr
  · rw [show (m.setR t r).rs i = m.rs i from upd_other _ _ e]; exact h.rs i hi
theorem WdI.setH (h : WdI mode k m) {x : Int} (hx : x = 0 ∨ x = 1 ∨ x = 2) : WdI mode k (m.setH t x) := by
  refine ⟨h.len, h.words, h.rs, fun i hi => ?_, h.idle⟩
  show upd m.hold t x i = 0 ∨ upd m.hold t x i = 1 ∨ upd m.hold t x i = 2
  by_cases e : i = t
  · subst e; rw [upd_same]; exact hx
  · rw [upd_other _ _ e]; exact h.hold i hi
theorem WdI.next (h : WdI mode k m) (ht : t < k) : (((m.at t).next (linesI kind)).n = k ∧ ((m.at t).next (linesI kind)).mode = mode ∧ ((m.at t).next (linesI kind)).task = t ∧ Wrd ((m.at t).next (linesI kind)).a ∧ Wrd ((m.at t).next (linesI kind)).b ∧ (0 ≤ ((m.at t).next (linesI kind)).ret ∧ ((m.at t).next (linesI kind)).ret ≤ 2) ∧ 0 ≤ ((m.at t).next (linesI kind)).op ∧ ((m.at t).next (linesI kind)).op ≤ 8) ∧ ((m.at t).next (linesI kind)).op = (m.rs t).op ∧ ((m.at t).next (linesI kind)).xs.length = m.xs.length ∧ Words ((m.at t).next (linesI kind)).xs ∧ ((m.at t).next (linesI kind)).ns.length ≤ 2 ∧ (∀ x ∈ ((m.at t).next (linesI kind)).ns, 0 ≤ x.a ∧ x.a ≤ 2) ∧ Acc1 m.xs ((m.at t).next (linesI kind)).acc ((m.at t).next (linesI kind)).xs := by
  obtain ⟨h1, h2, h3, h4, h5, h6, h7, h8⟩ := h.rs t ht
  have H := ln_next (r := m.at t) kind
  generalize (m.at t).next (linesI kind) = r' at *
  obtain ⟨l, hl, hl2, hl3⟩ := H.notes
  have hns : r'.ns = l := hl
  have hop : r'.op = (m.rs t).op := H.op
  refine ⟨⟨H.n.trans h1, H.mode.trans h2, H.task.trans h3, H.a h.words h4, H.bb h.words h5, ?_, by omega, by omega⟩, hop, H.len, H.words h.words, by rw [hns]; exact hl2, by rw [hns]; exact hl3, ?_⟩
  · have hr : (m.at t).fresh.ret = (m.rs t).ret := rfl
    rcases H.ret with e | e | e <;> omega
  · rcases H.acc with ⟨e1, e2⟩ | ⟨_, e⟩
    · have e1' : r'.acc = acc0 := e1
      have e2' : r'.xs = m.xs := e2
      rw [e1', e2']; exact acc1_none _
    · exact e
theorem WdI.put (h : WdI mode k m) (ht : t < k) {r : LS} (hl : r.xs.length = m.xs.length) (hw : Words r.xs) (hr : r.n = k ∧ r.mode = mode ∧ r.task = t ∧ Wrd r.a ∧ Wrd r.b ∧ (0 ≤ r.ret ∧ r.ret ≤ 2) ∧ 0 ≤ r.op ∧ r.op ≤ 8) (hz : r.op ≠ 0) : WdI mode k (m.put t r) := by
  unfold MV.put
  split
  · refine WdI.setR (WdI.setH (h.setR ht hl hw hr (fun e => absurd e hz)) (hold_beh (h.hold t ht))) ht rfl hw ⟨hr.1, hr.2.1, hr.2.2.1, wd_0, wd_0, ⟨show (0 : Int) ≤ 0 by decide, show (0 : Int) ≤ 2 by decide⟩, by show (0 : Int) ≤ 0; decide, by show (0 : Int) ≤ 8; decide⟩ (fun _ => rfl)
  · exact h.setR ht hl hw hr (fun e => absurd e hz)
theorem WdI.step (h : WdI mode k m) (ht : t < k) (h0 : (m.rs t).op ≠ 0) : WdI mode k (m.step (linesI kind) t) := by
  have H := h.next (kind := kind) ht
  exact h.put ht H.2.2.1 H.2.2.2.1 H.1 (by rw [H.2.1]; exact h0)
theorem WdI.pick (h : WdI mode k m) (t op : Int) : WdI mode k (pickW (linesI kind) k m t op) := by
  unfold pickW
  split
  case isFalse => exact h
  case isTrue ht =>
    have ht' : t.toNat < k := by omega
    unfold pickI
    repeat' split
    · rename_i _ ho _; exact (h.start ht' ho).step ht' (by rw [show (m.start t.toNat op).rs t.toNat = zeroF (m.at t.toNat) op from upd_same _ _ _]; show op ≠ 0; omega)
    · exact h
    · exact h
    · exact h
    · rename_i h0 _; exact h.step ht' h0
end
end Go.Proofs.YtlepokgagickmaaGreat
set_option linter.unusedVariables false
set_option linter.unusedSimpArgs false
namespace Go.Proofs.YtlepokgagickmaaGreat
open Go.RowKit
def taskCs (h : Int) (r : LS) : Array Value := #[.int .i64 h, .int .i64 r.op, .int .i64 r.line, .int .u32 r.a, .int .u32 r.b, .int .i64 r.s, .bool r.k.on, .int .i64 r.k.c, .int .i64 r.k.i, .bool r.k.hit, .int .i64 r.ret]
structure Tasks (w : World) (g k : Nat) (h : Nat → Int) (f : Nat → LS) : Prop where
  row : ∃ cs, Row w g 59 cs ∧ cs.size = k * 11 ∧ ∀ i, i < k → ∀ j v, (taskCs (h i) (f i))[j]? = some v → cs[i * 11 + j]? = some v
section
variable {w w' : World} {g k t : Nat} {h : Nat → Int} {f : Nat → LS} {S : Nat → Prop}
theorem Tasks.cell (T : Tasks w g k h f) (ht : t < k) (j : Nat) {v : Value} (hj : (taskCs (h t) (f t))[j]? = some v) : w.cell? ⟨g, t * 11 + j, none⟩ = some v := by
  obtain ⟨cs, hr, _, hc⟩ := T.row
  exact hr.cell_ (hc t ht j v hj)
theorem Tasks.only (T : Tasks w g k h f) (ho : Only S w w') (hg : ¬ S g) : Tasks w' g k h f := by
  obtain ⟨cs, hr, hs, hc⟩ := T.row
  exact ⟨cs, hr.only ho hg, hs, hc⟩
end
section
variable {w w' : World} {g k t : Nat} {h : Nat → Int} {f : Nat → LS} {S : Nat → Prop}
theorem tasks_new (w : World) (k : Nat) (h : Nat → Int) (f : Nat → LS) (cs : Array Value) (hs : cs.size = k * 11) (hz : ∀ i, i < k → ∀ j v, (taskCs (h i) (f i))[j]? = some v → cs[i * 11 + j]? = some v) (hr : Row w g 59 cs) : Tasks w g k h f := ⟨cs, hr, hs, hz⟩
end
end Go.Proofs.YtlepokgagickmaaGreat
set_option linter.unusedVariables false
set_option linter.unusedSimpArgs false
namespace Go.Proofs.YtlepokgagickmaaGreat
open Go.RowKit
def linesF (k : Int) : Value := if k = 1 then .func (.func 43) #[] #[] else if k = 2 then .func (.func 44) #[] #[] else if k = 3 then .func (.func 45) #[] #[] else if k = 4 then .func (.func 46) #[] #[] else if k = 5 then .func (.func 47) #[] #[] else if k = 6 then .func (.func 48) #[] #[] else .nilFunc
theorem lines_any (k : Int) (w : World) : Calls Tryz.prog 23 #[.int .i64 k] w fun e w' => e = .returned (.tuple #[linesF k, .bool (decide (1 ≤ k ∧ k ≤ 6))]) ∧ w = w' := by
  by_cases hk : 1 ≤ k ∧ k ≤ 6
  · rw [decide_eq_true hk]
    have hc : k = 1 ∨ k = 2 ∨ k = 3 ∨ k = 4 ∨ k = 5 ∨ k = 6 := by omega
    rcases hc with rfl | rfl | rfl | rfl | rfl | rfl
    all_goals
      go_enter Tryz.func23, Tryz.ntmps23
      go_wp2
      go_returns
      exact ⟨rfl, rfl⟩
  · rw [decide_eq_false hk]
    have h1 : ¬ k = 1 := by omega
    have h2 : ¬ k = 2 := by omega
    have h3 : ¬ k = 3 := by omega
    have h4 : ¬ k = 4 := by omega
    have h5 : ¬ k = 5 := by omega
    have h6 : ¬ k = 6 := by omega
    rw [show linesF k = .nilFunc by unfold linesF; rw [if_neg h1, if_neg h2, if_neg h3, if_neg h4, if_neg h5, if_neg h6]]
    clear hk
    go_enter Tryz.func23, Tryz.ntmps23
    go_wp2
    go_returns
    exact ⟨rfl, rfl⟩
end Go.Proofs.YtlepokgagickmaaGreat
