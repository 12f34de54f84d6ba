/- FqM, RfM, WfM, Kinds, LnM, WdM, RecW, RecQ, Tasks, SuiteL, Take. -/
import Derived.Test.YtigdbokfapedcaaGreatChecked
import Derived.Deep.RegionHeld3
import Derived.Test.YtigdbokfapedcaaGreatB3
import Derived.Test.YtigdbokfapedcaaGreatB1
import Derived.Test.YtigdbokfapedcaaGreatB2
/- The fair queue lock's lines, in plain words. -/
set_option linter.unusedVariables false
set_option linter.unusedSimpArgs false
namespace Go.Proofs.YtigdbokfapedcaaGreat
open Go.RowKit

/-- Which line it is: 0: none. -/
def fqCase (op line : Int) : Nat :=
  if (op = 1 ∨ op = 3) ∧ 0 ≤ line ∧ line ≤ 4 then 1 else if (op = 5 ∨ op = 6 ∨ op = 7) ∧ 0 ≤ line ∧ line ≤ 1 then 2 else if (op = 1 ∨ op = 5) ∧ line = 5 then 3 else if op = 1 ∨ op = 5 then 4
  else if op = 2 ∧ line = 0 then 5 else if op = 3 ∧ line = 5 then 6 else if op = 4 then 7 else if op = 6 ∧ line = 2 then 8 else if op = 7 ∧ line = 2 then 9 else if op = 7 ∧ line = 3 then 10
  else if op = 6 ∨ op = 7 then 11 else if op = 8 ∧ line = 0 then 12 else if op = 8 then 13 else 0

def LS.qEnter (r : LS) (cl : Int) : LS := if (r.mxEnter 0 cl).2 then (r.mxEnter 0 cl).1.go 5 else (r.mxEnter 0 cl).1
def LS.qGive (r : LS) (a : Int) (ok : Bool) (whats : List Int) : LS := if (r.mxGive 0 a whats).2 then (r.mxGive 0 a whats).1.fin ok else (r.mxGive 0 a whats).1
def LS.qTry (r : LS) : LS :=
  if (r.mxTry 0 0).2.1 then (if (r.mxTry 0 0).2.2 then (if r.op = 5 then ((r.mxTry 0 0).1.note 2 1).go 5 else ((r.mxTry 0 0).1.note 2 2).go 2) else ((r.mxTry 0 0).1.note 5 0).fin false)
  else (r.mxTry 0 0).1
def LS.qCount (r : LS) : LS := (r.doA 1 1 0 0).keepA (wordAt r.xs 1)

/-- What the line of r's frame leaves. -/
def LS.fq (r : LS) : LS :=
  match fqCase r.op r.line with
  | 1 => r.qEnter (if r.op = 1 then 1 else 2)
  | 2 => r.qTry
  | 3 => (r.doA 3 1 1 0).go 6
  | 4 => r.qGive 6 true [4]
  | 5 => (((r.doA 3 1 4294967295 0).note 6 0).wake 1).fin true
  | 6 => if (r.stepR 1 isZ).done then ((r.wait 1 isZ).noteIf (r.stepR 1 isZ).seen 4).fin true else (r.wait 1 isZ).noteIf (r.stepR 1 isZ).seen 4
  | 7 => r.qGive 0 true [7, 8]
  | 8 => if wordAt r.xs 1 = 0 then (r.qCount.note 4 0).fin true else (r.qCount.note 5 0).go 6
  | 9 => if wordAt r.xs 1 = 1 then r.qCount.go 3 else (r.qCount.note 5 0).go 6
  | 10 => ((r.doA 3 1 4294967295 0).note 9 0).fin true
  | 11 => r.qGive 6 false [8]
  | 12 => (r.doA 3 1 1 0).go 1
  | 13 => r.qGive 1 true [10]
  | _ => r
end Go.Proofs.YtigdbokfapedcaaGreat
/- The lock in which readers go first: its lines, in plain words. -/
set_option linter.unusedVariables false
set_option linter.unusedSimpArgs false
namespace Go.Proofs.YtigdbokfapedcaaGreat
open Go.RowKit

/-- Which line it is: 0: none. -/
def rfCase (op line : Int) : Nat :=
  if op = 1 ∧ line = 0 then 1 else if op = 1 ∧ line = 1 then 2 else if op = 2 ∧ line = 0 then 3 else if op = 3 ∧ line = 0 then 4 else if op = 3 ∧ line = 1 then 5 else if op = 3 ∧ line = 2 then 6 else if op = 4 ∧ line = 0 then 7
  else if op = 5 ∧ line = 0 then 8 else if op = 6 ∧ line = 0 then 9 else if op = 7 ∧ line = 0 then 10 else if op = 5 ∧ line = 1 then 11 else if op = 6 ∧ line = 1 then 12 else if op = 7 ∧ line = 1 then 13 else if op = 8 ∧ line = 0 then 14 else 0
/-- A writer isn't in (bit 16). -/
def outW (v : Int) : Bool := v / 65536 % 2 == 0
def LS.at0 (r : LS) (x : Int) : Bool := there r.xs 0 && (wordAt r.xs 0 == x)

def LS.fCome (r : LS) : LS := if outW (wordAt r.xs 0) then ((((r.doA 3 0 1 0).keepA (wordAt r.xs 0)).note 2 1).note 4 0).fin true else (((r.doA 3 0 1 0).keepA (wordAt r.xs 0)).note 2 1).go 1
def LS.fGo (r : LS) : LS := (((r.doA 3 0 4294967295 0).note 6 0).wake 0).fin true
def LS.fReg (r : LS) : LS := if wordAt r.xs 0 = 0 then (((r.doA 1 0 0 0).keepA (wordAt r.xs 0)).note 2 2).go 1 else (((r.doA 1 0 0 0).keepA (wordAt r.xs 0)).note 2 2).go 2
def LS.fTake (r : LS) : LS := if r.at0 0 then ((r.doA 5 0 0 65536).note 4 0).fin true else (r.doA 5 0 0 65536).go 2
def LS.fWait (r : LS) : LS := if (r.stepR 0 isZ).done then (r.wait 0 isZ).go 1 else r.wait 0 isZ
def LS.fLeave (r : LS) : LS := ((((r.doA 3 0 4294901760 0).note 7 0).note 8 0).wake 0).fin true
def LS.fLook (r : LS) (ok : Bool) : LS := if ok then ((r.doA 1 0 0 0).keepA (wordAt r.xs 0)).go 1 else (((r.doA 1 0 0 0).keepA (wordAt r.xs 0)).note 5 0).fin false
def LS.fSlip (r : LS) : LS := if r.at0 r.a then (((r.doA 5 0 r.a ((r.a + 1) % 4294967296)).note 2 1).note 4 0).fin true else (r.doA 5 0 r.a ((r.a + 1) % 4294967296)).go 0
def LS.fTry (r : LS) : LS := if r.at0 0 then (((r.doA 5 0 0 65536).note 2 2).note 4 0).fin true else (r.doA 5 0 0 65536).go 0
def LS.fUp (r : LS) : LS := if r.at0 1 then ((r.doA 5 0 1 65536).note 9 0).fin true else (r.doA 5 0 1 65536).go 0
def LS.fDown (r : LS) : LS := (((r.doA 3 0 4294901761 0).note 10 0).wake 0).fin true

/-- What the line of r's frame leaves. -/
def LS.rf (r : LS) : LS :=
  match rfCase r.op r.line with
  | 1 => r.fCome
  | 2 => r.pAdmit 0 outW
  | 3 => r.fGo
  | 4 => r.fReg
  | 5 => r.fTake
  | 6 => r.fWait
  | 7 => r.fLeave
  | 8 => r.fLook (outW (wordAt r.xs 0))
  | 9 => r.fLook (wordAt r.xs 0 == 0)
  | 10 => r.fLook (wordAt r.xs 0 == 1)
  | 11 => r.fSlip
  | 12 => r.fTry
  | 13 => r.fUp
  | 14 => r.fDown
  | _ => r
section
variable {r : LS}
theorem rf_1_0 (h1 : r.op = 1) (h2 : r.line = 0) : r.rf = r.fCome := by unfold LS.rf; rw [h1, h2]; rfl
theorem rf_1_1 (h1 : r.op = 1) (h2 : r.line = 1) : r.rf = r.pAdmit 0 outW := by unfold LS.rf; rw [h1, h2]; rfl
theorem rf_2_0 (h1 : r.op = 2) (h2 : r.line = 0) : r.rf = r.fGo := by unfold LS.rf; rw [h1, h2]; rfl
theorem rf_3_0 (h1 : r.op = 3) (h2 : r.line = 0) : r.rf = r.fReg := by unfold LS.rf; rw [h1, h2]; rfl
theorem rf_3_1 (h1 : r.op = 3) (h2 : r.line = 1) : r.rf = r.fTake := by unfold LS.rf; rw [h1, h2]; rfl
theorem rf_3_2 (h1 : r.op = 3) (h2 : r.line = 2) : r.rf = r.fWait := by unfold LS.rf; rw [h1, h2]; rfl
theorem rf_4_0 (h1 : r.op = 4) (h2 : r.line = 0) : r.rf = r.fLeave := by unfold LS.rf; rw [h1, h2]; rfl
theorem rf_5_0 (h1 : r.op = 5) (h2 : r.line = 0) : r.rf = r.fLook (outW (wordAt r.xs 0)) := by unfold LS.rf; rw [h1, h2]; rfl
theorem rf_6_0 (h1 : r.op = 6) (h2 : r.line = 0) : r.rf = r.fLook (wordAt r.xs 0 == 0) := by unfold LS.rf; rw [h1, h2]; rfl
theorem rf_7_0 (h1 : r.op = 7) (h2 : r.line = 0) : r.rf = r.fLook (wordAt r.xs 0 == 1) := by unfold LS.rf; rw [h1, h2]; rfl
theorem rf_5_1 (h1 : r.op = 5) (h2 : r.line = 1) : r.rf = r.fSlip := by unfold LS.rf; rw [h1, h2]; rfl
theorem rf_6_1 (h1 : r.op = 6) (h2 : r.line = 1) : r.rf = r.fTry := by unfold LS.rf; rw [h1, h2]; rfl
theorem rf_7_1 (h1 : r.op = 7) (h2 : r.line = 1) : r.rf = r.fUp := by unfold LS.rf; rw [h1, h2]; rfl
theorem rf_8_0 (h1 : r.op = 8) (h2 : r.line = 0) : r.rf = r.fDown := by unfold LS.rf; rw [h1, h2]; rfl
end
end Go.Proofs.YtigdbokfapedcaaGreat
/- The lock in which writers go first: its lines, in plain words. -/
set_option linter.unusedVariables false
set_option linter.unusedSimpArgs false
namespace Go.Proofs.YtigdbokfapedcaaGreat
open Go.RowKit

/-- The fields: how many readers are inside; whose turn it is; which ticket comes next. -/
def rF (v : Int) : Int := v % 256
def oF (v : Int) : Int := v / 256 % 256
def iF (v : Int) : Int := v / 65536 % 256
/-- No writer has a ticket. -/
def freeW (v : Int) : Bool := iF v == oF v
/-- What makes O one more, round its field. -/
def nextO (v : Int) : Int := ((oF v + 1) % 256 - oF v) * 256 % 4294967296
/-- It is the turn of the ticket x, and nobody reads. -/
def turnW (x : Int) (v : Int) : Bool := oF v == x && rF v == 0

/-- Which line it is: 0: none. -/
def wfCase (op line : Int) : Nat :=
  if op = 1 ∧ line = 0 then 1 else if op = 1 ∧ line = 1 then 2 else if op = 1 ∧ line = 2 then 3 else if op = 1 ∧ line = 3 then 4 else if op = 2 ∧ line = 0 then 5 else if op = 3 ∧ line = 0 then 6 else if op = 3 ∧ line = 1 then 7
  else if op = 4 ∧ line = 0 then 8 else if op = 8 ∧ line = 0 then 8 else if op = 4 ∧ line = 1 then 9 else if op = 8 ∧ line = 1 then 10 else if op = 5 ∧ line = 0 then 11 else if op = 6 ∧ line = 0 then 12 else if op = 7 ∧ line = 0 then 13
  else if op = 5 ∧ line = 1 then 14 else if op = 6 ∧ line = 1 then 15 else if op = 7 ∧ line = 1 then 16 else 0

/-- A reader's note. -/
def LS.noteR (r : LS) (b : Bool) : LS := if b then r.note 2 1 else r
/-- A look at the word, that is kept, with a note or without; it goes on where it says. -/
def LS.gSee (r : LS) (b : Bool) : LS := if freeW (wordAt r.xs 0) then (((r.doA 1 0 0 0).keepA (wordAt r.xs 0)).noteR b).go 1 else (((r.doA 1 0 0 0).keepA (wordAt r.xs 0)).noteR b).go 2

def LS.gCas (r : LS) (d : Int) : LS := r.doA 5 0 r.a ((r.a + d) % 4294967296)
def LS.gTake (r : LS) : LS := if r.at0 r.a then ((r.gCas 1).note 4 0).fin true else (r.gCas 1).go 3
/-- A wait for no writer's ticket, by which what is seen is kept. -/
def LS.seeW (r : LS) : LS := if (r.stepR 0 freeW).seen then (r.wait 0 freeW).keepA (wordAt r.xs 0) else r.wait 0 freeW
def LS.gWait (r : LS) : LS := if (r.stepR 0 freeW).done then r.seeW.go 1 else r.seeW
def LS.gCome (r : LS) : LS := (((r.doA 3 0 65536 0).keepA (wordAt r.xs 0)).note 2 2).go 1
def LS.gLoad (r : LS) : LS := ((r.doA 1 0 0 0).keepA (wordAt r.xs 0)).go 1
def LS.gLeave (r : LS) : LS := ((((r.doA 3 0 (nextO r.a) 0).note 7 0).note 8 0).wake 0).fin true
def LS.gDown (r : LS) : LS := (((r.doA 3 0 ((nextO r.a + 1) % 4294967296) 0).note 10 0).wake 0).fin true
def LS.gSlip (r : LS) : LS := if r.at0 r.a then (((r.gCas 1).note 2 1).note 4 0).fin true else (r.gCas 1).go 0
def LS.gTry (r : LS) : LS := if r.at0 r.a then (((r.gCas 65536).note 2 2).note 4 0).fin true else (r.gCas 65536).go 0
def LS.gUp (r : LS) : LS := if r.at0 r.a then ((r.gCas 65535).note 9 0).fin true else (r.gCas 65535).go 0

/-- What the line of r's frame leaves. -/
def LS.wf (r : LS) : LS :=
  match wfCase r.op r.line with
  | 1 => r.gSee true
  | 2 => r.gTake
  | 3 => r.gWait
  | 4 => r.gSee false
  | 5 => r.fGo
  | 6 => r.gCome
  | 7 => r.pAdmit 0 (turnW (iF r.a))
  | 8 => r.gLoad
  | 9 => r.gLeave
  | 10 => r.gDown
  | 11 => r.fLook (freeW (wordAt r.xs 0))
  | 12 => r.fLook (freeW (wordAt r.xs 0) && rF (wordAt r.xs 0) == 0)
  | 13 => r.fLook (freeW (wordAt r.xs 0) && rF (wordAt r.xs 0) == 1)
  | 14 => r.gSlip
  | 15 => r.gTry
  | 16 => r.gUp
  | _ => r
section
variable {r : LS}
theorem wf_1_0 (h1 : r.op = 1) (h2 : r.line = 0) : r.wf = r.gSee true := by unfold LS.wf; rw [h1, h2]; rfl
theorem wf_1_1 (h1 : r.op = 1) (h2 : r.line = 1) : r.wf = r.gTake := by unfold LS.wf; rw [h1, h2]; rfl
theorem wf_1_2 (h1 : r.op = 1) (h2 : r.line = 2) : r.wf = r.gWait := by unfold LS.wf; rw [h1, h2]; rfl
theorem wf_1_3 (h1 : r.op = 1) (h2 : r.line = 3) : r.wf = r.gSee false := by unfold LS.wf; rw [h1, h2]; rfl
theorem wf_2_0 (h1 : r.op = 2) (h2 : r.line = 0) : r.wf = r.fGo := by unfold LS.wf; rw [h1, h2]; rfl
theorem wf_3_0 (h1 : r.op = 3) (h2 : r.line = 0) : r.wf = r.gCome := by unfold LS.wf; rw [h1, h2]; rfl
theorem wf_3_1 (h1 : r.op = 3) (h2 : r.line = 1) : r.wf = r.pAdmit 0 (turnW (iF r.a)) := by unfold LS.wf; rw [h1, h2]; rfl
theorem wf_4_0 (h1 : r.op = 4) (h2 : r.line = 0) : r.wf = r.gLoad := by unfold LS.wf; rw [h1, h2]; rfl
theorem wf_8_0 (h1 : r.op = 8) (h2 : r.line = 0) : r.wf = r.gLoad := by unfold LS.wf; rw [h1, h2]; rfl
theorem wf_4_1 (h1 : r.op = 4) (h2 : r.line = 1) : r.wf = r.gLeave := by unfold LS.wf; rw [h1, h2]; rfl
theorem wf_8_1 (h1 : r.op = 8) (h2 : r.line = 1) : r.wf = r.gDown := by unfold LS.wf; rw [h1, h2]; rfl
theorem wf_5_0 (h1 : r.op = 5) (h2 : r.line = 0) : r.wf = r.fLook (freeW (wordAt r.xs 0)) := by unfold LS.wf; rw [h1, h2]; rfl
theorem wf_6_0 (h1 : r.op = 6) (h2 : r.line = 0) : r.wf = r.fLook (freeW (wordAt r.xs 0) && rF (wordAt r.xs 0) == 0) := by unfold LS.wf; rw [h1, h2]; rfl
theorem wf_7_0 (h1 : r.op = 7) (h2 : r.line = 0) : r.wf = r.fLook (freeW (wordAt r.xs 0) && rF (wordAt r.xs 0) == 1) := by unfold LS.wf; rw [h1, h2]; rfl
theorem wf_5_1 (h1 : r.op = 5) (h2 : r.line = 1) : r.wf = r.gSlip := by unfold LS.wf; rw [h1, h2]; rfl
theorem wf_6_1 (h1 : r.op = 6) (h2 : r.line = 1) : r.wf = r.gTry := by unfold LS.wf; rw [h1, h2]; rfl
theorem wf_7_1 (h1 : r.op = 7) (h2 : r.line = 1) : r.wf = r.gUp := by unfold LS.wf; rw [h1, h2]; rfl
end
end Go.Proofs.YtigdbokfapedcaaGreat
/- The six kinds' lines, in plain words. -/
namespace Go.Proofs.YtigdbokfapedcaaGreat
def linesI (kind : Int) : LS → LS := if kind = 1 then LS.tf else if kind = 2 then LS.pf else if kind = 3 then LS.pq else if kind = 4 then LS.fq else if kind = 5 then LS.rf else LS.wf
end Go.Proofs.YtigdbokfapedcaaGreat
/- What a step leaves of a run, of every kind: one access at most, two notes at most, with arguments from 0 to 2; what it keeps are words; its result. -/
set_option linter.unusedVariables false
set_option linter.unusedSimpArgs false
namespace Go.Proofs.YtigdbokfapedcaaGreat
open Go.RowKit
def Wrd (v : Int) : Prop := 0 ≤ v ∧ v < 4294967296
/-- An access, and what it leaves. -/
def Acc1 (xs : List Int) (a : Acc5) (xs' : List Int) : Prop := ∃ k c x y : Int, isKind k = true ∧ a = accI xs k c x y ∧ xs' = doNew xs k c x y
/-- A what and an argument that a line may note. -/
def okWA (w a : Int) : Bool := (w == 2 && (a == 1 || a == 2)) || (decide (3 ≤ w ∧ w ≤ 10) && a == 0)
/-- A note of a line: task t's, of the run itself (not a call, not a return). -/
structure NtG (t : Int) (x : Nt) : Prop where
  t : x.t = t
  o : x.o = 0
  ok : okWA x.w x.a = true
theorem NtG.arg {t : Int} {x : Nt} (h : NtG t x) : 0 ≤ x.a ∧ x.a ≤ 2 := by
  have := h.ok
  unfold okWA at this
  simp only [Bool.or_eq_true, Bool.and_eq_true, beq_iff_eq, decide_eq_true_eq] at this
  omega
structure Ln (m : Nat) (b : Bool) (r r' : LS) : Prop where
  n : r'.n = r.n
  mode : r'.mode = r.mode
  task : r'.task = r.task
  op : r'.op = r.op
  len : r'.xs.length = r.xs.length
  words : Words r.xs → Words r'.xs
  a : Words r.xs → Wrd r.a → Wrd r'.a
  bb : Words r.xs → Wrd r.b → Wrd r'.b
  ret : r'.ret = r.ret ∨ r'.ret = 1 ∨ r'.ret = 2
  notes : ∃ l : List Nt, r'.ns = r.ns ++ l ∧ l.length ≤ m ∧ ∀ x ∈ l, NtG r.task x
  acc : (r'.acc = r.acc ∧ r'.xs = r.xs) ∨ (b = true ∧ Acc1 r.xs r'.acc r'.xs)
section
variable {r r' : LS} {m : Nat} {b : Bool}
theorem ln_refl : Ln m b r r := ⟨rfl, rfl, rfl, rfl, rfl, id, fun _ h => h, fun _ h => h, .inl rfl, ⟨[], by simp, Nat.zero_le _, fun _ h => by simp at h⟩, .inl ⟨rfl, rfl⟩⟩
theorem Ln.le {m' : Nat} (h : Ln m b r r') (hm : m ≤ m') : Ln m' b r r' := ⟨h.n, h.mode, h.task, h.op, h.len, h.words, h.a, h.bb, h.ret, h.notes.imp fun _ ⟨e, l, x⟩ => ⟨e, Nat.le_trans l hm, x⟩, h.acc⟩
theorem ln_go {l : Int} (h : Ln m b r r') : Ln m b r (r'.go l) := ⟨h.n, h.mode, h.task, h.op, h.len, h.words, h.a, h.bb, h.ret, h.notes, h.acc⟩
theorem ln_wake {c : Int} (h : Ln m b r r') : Ln m b r (r'.wake c) := ⟨h.n, h.mode, h.task, h.op, h.len, h.words, h.a, h.bb, h.ret, h.notes, h.acc⟩
theorem ln_fin {ok : Bool} (h : Ln m b r r') : Ln m b r (r'.fin ok) := ⟨h.n, h.mode, h.task, h.op, h.len, h.words, h.a, h.bb, by cases ok; exact .inr (.inl rfl); exact .inr (.inr rfl), h.notes, h.acc⟩
theorem ln_keepA {v : Int} (h : Ln m b r r') (hv : Words r.xs → Wrd v) : Ln m b r (r'.keepA v) := ⟨h.n, h.mode, h.task, h.op, h.len, h.words, fun x _ => hv x, h.bb, h.ret, h.notes, h.acc⟩
theorem ln_keepB {v : Int} (h : Ln m b r r') (hv : Words r.xs → Wrd v) : Ln m b r (r'.keepB v) := ⟨h.n, h.mode, h.task, h.op, h.len, h.words, h.a, fun x _ => hv x, h.ret, h.notes, h.acc⟩
theorem ln_note {what arg : Int} (h : Ln m b r r') (ha : okWA what arg = true) : Ln (m + 1) b r (r'.note what arg) := by
  obtain ⟨l, e, hl, hx⟩ := h.notes
  refine ⟨h.n, h.mode, h.task, h.op, h.len, h.words, h.a, h.bb, h.ret, ⟨l ++ [⟨r'.task, what, 0, arg⟩], by rw [← List.append_assoc, ← e]; rfl, by simp; exact hl, fun x hx' => ?_⟩, h.acc⟩
  rcases List.mem_append.1 hx' with hx' | hx'
  · exact hx x hx'
  · rw [List.mem_singleton.1 hx']; exact ⟨h.task, rfl, ha⟩
theorem ln_noteIf {q : Bool} {what : Int} (h : Ln m b r r') (hw : okWA what 0 = true) : Ln (m + 1) b r (r'.noteIf q what) := by
  cases q
  · exact h.le (Nat.le_succ _)
  · exact ln_note h hw
theorem ln_noteR {q : Bool} (h : Ln m b r r') : Ln (m + 1) b r (r'.noteR q) := by
  cases q
  · exact h.le (Nat.le_succ _)
  · exact ln_note h (by decide)
theorem ln_do {k c x y : Int} (hk : isKind k = true) (hl : Words r.xs → Wrd (leftOf k x y (wordAt r.xs c))) : Ln m true r (r.doA k c x y) :=
  ⟨rfl, rfl, rfl, rfl, doNew_len _ _ _ _ _, fun h => doNew_wordsK h _ _ _ _ (hl h), fun _ h => h, fun _ h => h, .inl rfl, ⟨[], by simp [LS.doA], Nat.zero_le _, fun _ h => by simp at h⟩, .inr ⟨rfl, k, c, x, y, hk, rfl, rfl⟩⟩
theorem ln_load {c : Int} : Ln m true r (r.doA 1 c 0 0) := ln_do rfl (fun h => word_bd h c)
theorem ln_add {c x : Int} : Ln m true r (r.doA 3 c x 0) := ln_do rfl (fun h => by show 0 ≤ (x + wordAt r.xs c) % 4294967296 ∧ (x + wordAt r.xs c) % 4294967296 < 4294967296; omega)
theorem ln_cas {c x y : Int} (hy : Wrd y) : Ln m true r (r.doA 5 c x y) := ln_do rfl (fun h => by
  show 0 ≤ (if wordAt r.xs c = x then y else wordAt r.xs c) ∧ (if wordAt r.xs c = x then y else wordAt r.xs c) < 4294967296
  split
  · exact hy
  · exact word_bd h c)
theorem ln_store {c x : Int} (hx : Wrd x) : Ln m true r (r.doA 2 c x 0) := ln_do rfl (fun _ => hx)
theorem ln_swap {c x : Int} (hx : Wrd x) : Ln m true r (r.doA 4 c x 0) := ln_do rfl (fun _ => hx)
theorem wd_me : Wrd r.me := by unfold Wrd LS.me; omega
theorem wd_mod {e : Int} : Wrd (e % 4294967296) := by unfold Wrd; omega
theorem wd_0 : Wrd 0 := ⟨by decide, by decide⟩
theorem wd_1 : Wrd 1 := ⟨by decide, by decide⟩
theorem wd_w : Wrd 65536 := ⟨by decide, by decide⟩
theorem wd_at {c : Int} (h : Words r.xs) : Wrd (wordAt r.xs c) := word_bd h c
theorem acc1_of {xs xs' : List Int} {v : Value} {ka ca xa ya oa : Int} (he : v = .agg #[.int .i64 ka, .int .i64 ca, .int .u32 xa, .int .u32 ya, .int .u32 oa]) (hd : doVal xs ka ca xa ya = .agg #[.int .i64 ka, .int .i64 ca, .int .u32 xa, .int .u32 ya, .int .u32 oa]) (ho : doOk xs ka ca = true) (hx : doNew xs ka ca xa ya = xs') : Acc1 xs (ofV v) xs' := by
  refine ⟨ka, ca, xa, ya, ?_, ?_, hx.symm⟩
  · unfold doOk at ho; revert ho; cases isKind ka <;> simp
  · rw [he, ← hd, doVal_acc]; rfl
theorem ofV_0 : ofV (accOf 0 0 0 0 0) = acc0 := rfl
theorem acc1_none (xs : List Int) : Acc1 xs acc0 xs := by
  refine ⟨1, -1, 0, 0, rfl, ?_, ?_⟩
  · unfold accI doOk there
    rw [show (decide (0 ≤ (-1 : Int) ∧ (-1 : Int) < xs.length)) = false from decide_eq_false (by omega)]
    rfl
  · rw [doNew_load]
theorem ln_wait {c : Int} {q : Int → Bool} : Ln m true r (r.wait c q) := by
  refine ⟨rfl, rfl, rfl, rfl, step_len _ _ _ _ _ _ _, fun h => Words.step h _ _ _ _ _ _, fun _ h => h, fun _ h => h, .inl rfl, ⟨[], by simp [LS.wait], Nat.zero_le _, fun _ h => by simp at h⟩, .inr ⟨rfl, ?_⟩⟩
  show Acc1 r.xs (ofV (stepI r.xs r.n r.mode r.task r.s c q).acc) (stepI r.xs r.n r.mode r.task r.s c q).xs
  obtain ⟨ka, ca, xa, ya, oa, he, ⟨h1, h2, h3, h4, h5, h6⟩ | ⟨_, hd, ho, hn, _⟩⟩ := step_access r.xs r.n r.mode r.task r.s c q
  · rw [he, h6]; subst h1; subst h2; subst h3; subst h4; subst h5; exact acc1_none _
  · exact acc1_of he hd ho hn
theorem ln_notes : ∀ (l : List Int) {m : Nat} {r' : LS}, Ln m b r r' → (∀ w ∈ l, okWA w 0 = true) → Ln (m + l.length) b r (r'.notes l)
  | [], _, _, h, _ => h
  | w :: l, m, r', h, hl => by
    have := ln_notes l (ln_note (what := w) (arg := 0) h (hl w List.mem_cons_self)) (fun x hx => hl x (List.mem_cons_of_mem _ hx))
    exact this.le (by simp only [List.length_cons]; omega)
theorem acc1_do {xs : List Int} {k c x y : Int} (hk : isKind k = true) : Acc1 xs (ofV (doVal xs k c x y)) (doNew xs k c x y) := ⟨k, c, x, y, hk, by rw [doVal_acc]; rfl, rfl⟩
theorem ln_waking : Ln m true r.fresh r.waking := by
  refine ⟨rfl, rfl, rfl, rfl, wake_lenK _ _ _ _ _ _, fun h => wake_wordsK h _ _ _ _ _, fun _ h => h, fun _ h => h, .inl rfl, ⟨[], rfl, Nat.zero_le _, fun _ h => by simp at h⟩, .inr ⟨rfl, ?_⟩⟩
  show Acc1 r.xs (ofV (wakeI r.xs r.n r.k.on r.k.c r.k.i r.k.hit).acc) (wakeI r.xs r.n r.k.on r.k.c r.k.i r.k.hit).xs
  have hr : Acc1 r.xs (ofV (restI r.xs).acc) (restI r.xs).xs := acc1_none _
  unfold wakeI
  split
  · split
    · unfold giveI
      split
      · have := acc1_do (xs := r.xs) (k := 2) (c := pc r.n r.k.i) (x := 1) (y := 0) rfl
        rw [doNew_st _ 2 _ _ _ rfl] at this
        exact this
      · exact hr
    · unfold lookI
      have h1 := acc1_do (xs := r.xs) (k := 1) (c := wc r.n r.k.i) (x := 0) (y := 0) rfl
      rw [doNew_load] at h1
      split
      · split
        · exact h1
        · exact h1
      · exact hr
  · exact hr

theorem ln_mxEnter (tail cl : Int) (h : okWA 2 cl = true) : Ln 1 true r (r.mxEnter tail cl).1 := by
  unfold LS.mxEnter LS.link LS.swapIn
  all_goals (repeat (first | (with_reducible first | exact ln_refl | exact ln_load | exact ln_add | exact ln_wait | exact ln_cas wd_mod | exact ln_cas wd_me | exact ln_cas wd_0 | exact ln_cas wd_w | exact ln_store wd_mod | exact ln_store wd_me | exact ln_store wd_0 | exact ln_store wd_1 | exact ln_swap wd_me | refine ln_go ?_ | refine ln_fin ?_ | refine ln_wake ?_ | refine ln_keepA ?_ wd_at | refine ln_keepB ?_ wd_at | refine ln_noteIf ?_ (by decide) | refine ln_noteR ?_ | refine ln_note ?_ (by first | decide | assumption) | exact ln_notes _ ln_refl (by assumption)) | split | dsimp only))
theorem ln_mxGive (tail a : Int) (l : List Int) (hl : ∀ w ∈ l, okWA w 0 = true) : Ln l.length true r (r.mxGive tail a l).1 := by
  have h : ∀ {c x y : Int} {k : Int}, Ln 0 true r (r.doA k c x y) → Ln l.length true r ((r.doA k c x y).notes l) := fun h => (ln_notes l h hl).le (by omega)
  unfold LS.mxGive LS.peek LS.seeN LS.handOn
  repeat' split
  all_goals (try dsimp only)
  all_goals (try refine ln_wake ?_)
  all_goals (try refine h ?_)
  all_goals (repeat (first | (with_reducible first | exact ln_refl | exact ln_load | exact ln_add | exact ln_wait | exact ln_cas wd_mod | exact ln_cas wd_me | exact ln_cas wd_0 | exact ln_cas wd_w | exact ln_store wd_mod | exact ln_store wd_me | exact ln_store wd_0 | exact ln_store wd_1 | exact ln_swap wd_me | refine ln_go ?_ | refine ln_fin ?_ | refine ln_wake ?_ | refine ln_keepA ?_ wd_at | refine ln_keepB ?_ wd_at | refine ln_noteIf ?_ (by decide) | refine ln_noteR ?_ | refine ln_note ?_ (by first | decide | assumption) | exact ln_notes _ ln_refl (by assumption)) | split | dsimp only))
theorem ln_mxTry (tail a : Int) : Ln m true r (r.mxTry tail a).1 := by
  unfold LS.mxTry
  all_goals (repeat (first | (with_reducible first | exact ln_refl | exact ln_load | exact ln_add | exact ln_wait | exact ln_cas wd_mod | exact ln_cas wd_me | exact ln_cas wd_0 | exact ln_cas wd_w | exact ln_store wd_mod | exact ln_store wd_me | exact ln_store wd_0 | exact ln_store wd_1 | exact ln_swap wd_me | refine ln_go ?_ | refine ln_fin ?_ | refine ln_wake ?_ | refine ln_keepA ?_ wd_at | refine ln_keepB ?_ wd_at | refine ln_noteIf ?_ (by decide) | refine ln_noteR ?_ | refine ln_note ?_ (by first | decide | assumption) | exact ln_notes _ ln_refl (by assumption)) | split | dsimp only))
theorem ln_tf : Ln 2 true r r.tf := by
  unfold LS.tf LS.draw LS.awaitR LS.awaitW LS.turn LS.leave LS.look LS.weigh LS.claim LS.giveBack
  all_goals (repeat (first | (with_reducible first | exact ln_refl | exact ln_load | exact ln_add | exact ln_wait | exact ln_cas wd_mod | exact ln_cas wd_me | exact ln_cas wd_0 | exact ln_cas wd_w | exact ln_store wd_mod | exact ln_store wd_me | exact ln_store wd_0 | exact ln_store wd_1 | exact ln_swap wd_me | refine ln_go ?_ | refine ln_fin ?_ | refine ln_wake ?_ | refine ln_keepA ?_ wd_at | refine ln_keepB ?_ wd_at | refine ln_noteIf ?_ (by decide) | refine ln_noteR ?_ | refine ln_note ?_ (by first | decide | assumption) | exact ln_notes _ ln_refl (by assumption)) | split | dsimp only))
theorem ln_pf : Ln 2 true r r.pf := by
  unfold LS.pf LS.pCome LS.pAdmit LS.pDepart LS.pDraw LS.pTurn LS.pKeep LS.pAppear LS.pVanish LS.pCount LS.pPass LS.pLookIn LS.pSlip LS.pLook LS.pWeighT LS.pClaim LS.pWeighR LS.pOthers LS.pStop
  all_goals (repeat (first | (with_reducible first | exact ln_refl | exact ln_load | exact ln_add | exact ln_wait | exact ln_cas wd_mod | exact ln_cas wd_me | exact ln_cas wd_0 | exact ln_cas wd_w | exact ln_store wd_mod | exact ln_store wd_me | exact ln_store wd_0 | exact ln_store wd_1 | exact ln_swap wd_me | refine ln_go ?_ | refine ln_fin ?_ | refine ln_wake ?_ | refine ln_keepA ?_ wd_at | refine ln_keepB ?_ wd_at | refine ln_noteIf ?_ (by decide) | refine ln_noteR ?_ | refine ln_note ?_ (by first | decide | assumption) | exact ln_notes _ ln_refl (by assumption)) | split | dsimp only))
theorem ln_rf : Ln 2 true r r.rf := by
  unfold LS.rf LS.fCome LS.pAdmit LS.fGo LS.fReg LS.fTake LS.fWait LS.fLeave LS.fLook LS.fSlip LS.fTry LS.fUp LS.fDown
  all_goals (repeat (first | (with_reducible first | exact ln_refl | exact ln_load | exact ln_add | exact ln_wait | exact ln_cas wd_mod | exact ln_cas wd_me | exact ln_cas wd_0 | exact ln_cas wd_w | exact ln_store wd_mod | exact ln_store wd_me | exact ln_store wd_0 | exact ln_store wd_1 | exact ln_swap wd_me | refine ln_go ?_ | refine ln_fin ?_ | refine ln_wake ?_ | refine ln_keepA ?_ wd_at | refine ln_keepB ?_ wd_at | refine ln_noteIf ?_ (by decide) | refine ln_noteR ?_ | refine ln_note ?_ (by first | decide | assumption) | exact ln_notes _ ln_refl (by assumption)) | split | dsimp only))
theorem ln_wf : Ln 2 true r r.wf := by
  unfold LS.wf LS.gSee LS.gTake LS.gCas LS.gWait LS.seeW LS.fGo LS.gCome LS.pAdmit LS.gLoad LS.gLeave LS.gDown LS.fLook LS.gSlip LS.gTry LS.gUp LS.gCas
  all_goals (repeat (first | (with_reducible first | exact ln_refl | exact ln_load | exact ln_add | exact ln_wait | exact ln_cas wd_mod | exact ln_cas wd_me | exact ln_cas wd_0 | exact ln_cas wd_w | exact ln_store wd_mod | exact ln_store wd_me | exact ln_store wd_0 | exact ln_store wd_1 | exact ln_swap wd_me | refine ln_go ?_ | refine ln_fin ?_ | refine ln_wake ?_ | refine ln_keepA ?_ wd_at | refine ln_keepB ?_ wd_at | refine ln_noteIf ?_ (by decide) | refine ln_noteR ?_ | refine ln_note ?_ (by first | decide | assumption) | exact ln_notes _ ln_refl (by assumption)) | split | dsimp only))
theorem ln_qEnter (cl : Int) (h : okWA 2 cl = true) : Ln 2 true r (r.qEnter cl) := by
  unfold LS.qEnter
  split
  · exact ln_go ((ln_mxEnter _ _ h).le (by decide))
  · exact (ln_mxEnter _ _ h).le (by decide)
theorem ln_qGive (a : Int) (ok : Bool) (l : List Int) (h : l.length ≤ 2) (hl : ∀ w ∈ l, okWA w 0 = true) : Ln 2 true r (r.qGive a ok l) := by
  unfold LS.qGive
  split
  · exact ln_fin ((ln_mxGive _ _ _ hl).le h)
  · exact (ln_mxGive _ _ _ hl).le h
theorem ln_qTry : Ln 2 true r r.qTry := by
  unfold LS.qTry
  repeat' split
  · exact ln_go (ln_note (ln_mxTry _ _) (by decide))
  · exact ln_go (ln_note (ln_mxTry _ _) (by decide))
  · exact ln_fin (ln_note (ln_mxTry _ _) (by decide))
  · exact ln_mxTry _ _
theorem ln_fq : Ln 2 true r r.fq := by
  unfold LS.fq LS.qCount
  split
  · exact ln_qEnter _ (by split <;> decide)
  · exact ln_qTry
  all_goals (try exact ln_qGive _ _ _ (by decide) (by decide))
  all_goals (repeat (first | (with_reducible first | exact ln_refl | exact ln_load | exact ln_add | exact ln_wait | exact ln_cas wd_mod | exact ln_cas wd_me | exact ln_cas wd_0 | exact ln_cas wd_w | exact ln_store wd_mod | exact ln_store wd_me | exact ln_store wd_0 | exact ln_store wd_1 | exact ln_swap wd_me | refine ln_go ?_ | refine ln_fin ?_ | refine ln_wake ?_ | refine ln_keepA ?_ wd_at | refine ln_keepB ?_ wd_at | refine ln_noteIf ?_ (by decide) | refine ln_noteR ?_ | refine ln_note ?_ (by first | decide | assumption) | exact ln_notes _ ln_refl (by assumption)) | split | dsimp only))
theorem ln_wEnter : Ln 2 true r r.wEnter := by
  unfold LS.wEnter
  split
  · exact ln_go ((ln_mxEnter _ _ (by decide)).le (by decide))
  · exact (ln_mxEnter _ _ (by decide)).le (by decide)
theorem ln_wGive (a : Int) (ok : Bool) : Ln 2 true r (r.wGive a ok) := by
  unfold LS.wGive
  split
  · exact ln_fin ((ln_mxGive 2 a [8] (by decide)).le (show 1 ≤ 2 by decide))
  · exact (ln_mxGive 2 a [8] (by decide)).le (show 1 ≤ 2 by decide)
theorem ln_wTry : Ln 2 true r r.wTry := by
  unfold LS.wTry
  repeat' split
  · exact ln_go (ln_note (ln_mxTry _ _) (by decide))
  · exact ln_fin (ln_note (ln_mxTry _ _) (by decide))
  · exact ln_mxTry _ _
theorem ln_pq : Ln 2 true r r.pq := by
  unfold LS.pq LS.pCome LS.pAdmit LS.pDepart LS.pLookIn LS.pSlip LS.wKeep LS.pAppear LS.pVanish LS.wCount LS.pLook LS.wWeigh LS.wOthers LS.pStop
  split
  all_goals (try exact ln_wEnter)
  all_goals (try exact ln_wGive _ _)
  all_goals (try exact ln_wTry)
  all_goals (repeat (first | (with_reducible first | exact ln_refl | exact ln_load | exact ln_add | exact ln_wait | exact ln_cas wd_mod | exact ln_cas wd_me | exact ln_cas wd_0 | exact ln_cas wd_w | exact ln_store wd_mod | exact ln_store wd_me | exact ln_store wd_0 | exact ln_store wd_1 | exact ln_swap wd_me | refine ln_go ?_ | refine ln_fin ?_ | refine ln_wake ?_ | refine ln_keepA ?_ wd_at | refine ln_keepB ?_ wd_at | refine ln_noteIf ?_ (by decide) | refine ln_noteR ?_ | refine ln_note ?_ (by first | decide | assumption) | exact ln_notes _ ln_refl (by assumption)) | split | dsimp only))
theorem ln_kind (kind : Int) : Ln 2 true r (linesI kind r) := by
  unfold linesI
  repeat' split
  · exact ln_tf
  · exact ln_pf
  · exact ln_pq
  · exact ln_fq
  · exact ln_rf
  · exact ln_wf
/-- What a step leaves. -/
theorem ln_next (kind : Int) : Ln 2 true r.fresh (r.next (linesI kind)) := by
  unfold LS.next
  split
  · exact ln_waking
  · exact ln_kind kind
end
end Go.Proofs.YtigdbokfapedcaaGreat
/- A world in plain words: what a pick does. -/
set_option linter.unusedVariables false
set_option linter.unusedSimpArgs false
namespace Go.Proofs.YtigdbokfapedcaaGreat
open Go.RowKit
/-- What a pick tells. -/
structure Ev where
  ran : Bool
  acc : Acc5
  ns : List Nt
def ev0 : Ev := ⟨false, acc0, []⟩
/-- The notes of a step, behind those told. -/
def stepNs (t : Int) (r : LS) (told : List Nt) : List Nt := if r.over then told ++ r.ns ++ [⟨t, 11, r.op, r.ret⟩] else told ++ r.ns
/-- A step: what it leaves. -/
def MV.put (m : MV) (t : Nat) (r : LS) : MV := if r.over then ((m.setR t r).setH t (behindI r.op r.ret (m.hold t))).setR t (zeroF r 0) else m.setR t r
def stepE (L : LS → LS) (m : MV) (t : Nat) (told : List Nt) : Ev := ⟨true, ((m.at t).next L).acc, stepNs t ((m.at t).next L) told⟩
def MV.step (L : LS → LS) (m : MV) (t : Nat) : MV := m.put t ((m.at t).next L)
/-- What a pick of a task that is there leaves, and tells. -/
def pickI (L : LS → LS) (m : MV) (t : Nat) (op : Int) : MV :=
  if (m.rs t).op = 0 then (if 1 ≤ op ∧ op ≤ 8 then (if mayI op (m.hold t) then (m.start t op).step L t else m) else m)
  else if (m.at t).stuck then m else m.step L t
def pickE (L : LS → LS) (m : MV) (t : Nat) (op : Int) : Ev :=
  if (m.rs t).op = 0 then (if 1 ≤ op ∧ op ≤ 8 then (if mayI op (m.hold t) then stepE L (m.start t op) t [⟨t, 1, op, 0⟩] else ⟨true, acc0, [⟨t, 1, op, 0⟩, ⟨t, 11, op, 3⟩]⟩) else ev0)
  else if (m.at t).stuck then ev0 else stepE L m t []
/-- What a pick leaves, and tells. -/
def pickW (L : LS → LS) (k : Nat) (m : MV) (t op : Int) : MV := if 0 ≤ t ∧ t < k then pickI L m t.toNat op else m
def eventW (L : LS → LS) (k : Nat) (m : MV) (t op : Int) : Ev := if 0 ≤ t ∧ t < k then pickE L m t.toNat op else ev0

/-- What always holds of a world of k tasks. -/
structure WdI (mode : Int) (k : Nat) (m : MV) : Prop where
  len : m.xs.length = 8 + 4 * k
  words : Words m.xs
  rs : ∀ t, t < k → (m.rs t).n = k ∧ (m.rs t).mode = mode ∧ (m.rs t).task = t ∧ Wrd (m.rs t).a ∧ Wrd (m.rs t).b ∧ (0 ≤ (m.rs t).ret ∧ (m.rs t).ret ≤ 2) ∧ 0 ≤ (m.rs t).op ∧ (m.rs t).op ≤ 8
  hold : ∀ t, t < k → m.hold t = 0 ∨ m.hold t = 1 ∨ m.hold t = 2
  idle : ∀ t, t < k → (m.rs t).op = 0 → (m.rs t).s = 0
section
variable {mode kind : Int} {k t : Nat} {m : MV}
theorem hold_beh {op ret h : Int} (hh : h = 0 ∨ h = 1 ∨ h = 2) : behindI op ret h = 0 ∨ behindI op ret h = 1 ∨ behindI op ret h = 2 := by
  unfold behindI
  repeat' split
  all_goals first | exact hh | exact .inr (.inl rfl) | exact .inr (.inr rfl)
theorem hold_from {op h : Int} (hh : h = 0 ∨ h = 1 ∨ h = 2) : fromI op h = 0 ∨ fromI op h = 1 ∨ fromI op h = 2 := by
  unfold fromI
  repeat' split
  all_goals first | exact hh | exact .inl rfl | exact .inr (.inl rfl)
theorem WdI.start (h : WdI mode k m) (ht : t < k) {op : Int} (ho : 1 ≤ op ∧ op ≤ 8) : WdI mode k (m.start t op) := by
  refine ⟨h.len, h.words, fun i hi => ?_, fun i hi => ?_, fun i hi => ?_⟩
  · show (upd m.rs t (zeroF (m.at t) op) i).n = k ∧ _
    by_cases e : i = t
    · subst e
      have := h.rs i hi
      rw [show (m.start i op).rs i = zeroF (m.at i) op from upd_same _ _ _, upd_same]
      exact ⟨this.1, this.2.1, this.2.2.1, wd_0, wd_0, ⟨show (0 : Int) ≤ 0 by decide, show (0 : Int) ≤ 2 by decide⟩, by show 0 ≤ op; omega, by show op ≤ 8; omega⟩
    · rw [show (m.start t op).rs i = m.rs i from upd_other _ _ e, upd_other _ _ e]
      exact h.rs i hi
  · show upd m.hold t _ i = 0 ∨ upd m.hold t _ i = 1 ∨ upd m.hold t _ i = 2
    by_cases e : i = t
    · subst e; rw [upd_same]; exact hold_from (h.hold i hi)
    · rw [upd_other _ _ e]; exact h.hold i hi
  · by_cases e : i = t
    · subst e
      rw [show (m.start i op).rs i = zeroF (m.at i) op from upd_same _ _ _]
      intro _; rfl
    · rw [show (m.start t op).rs i = m.rs i from upd_other _ _ e]
      exact h.idle i hi
theorem WdI.setR (h : WdI mode k m) (ht : t < k) {r : LS} (hl : r.xs.length = m.xs.length) (hw : Words r.xs) (hr : r.n = k ∧ r.mode = mode ∧ r.task = t ∧ Wrd r.a ∧ Wrd r.b ∧ (0 ≤ r.ret ∧ r.ret ≤ 2) ∧ 0 ≤ r.op ∧ r.op ≤ 8) (hz : r.op = 0 → r.s = 0) : WdI mode k (m.setR t r) := by
  refine ⟨hl.trans h.len, hw, fun i hi => ?_, h.hold, fun i hi => ?_⟩
  rotate_left
  · by_cases e : i = t
    · subst e
      rw [show (m.setR i r).rs i = r from upd_same _ _ _]; exact hz
    · rw [show (m.setR t r).rs i = m.rs i from upd_other _ _ e]; exact h.idle i hi
  by_cases e : i = t
  · subst e
    rw [show (m.setR i r).rs i = r from upd_same _ _ _]; exact hr
  · rw [show (m.setR t r).rs i = m.rs i from upd_other _ _ e]; exact h.rs i hi
theorem WdI.setH (h : WdI mode k m) {x : Int} (hx : x = 0 ∨ x = 1 ∨ x = 2) : WdI mode k (m.setH t x) := by
  refine ⟨h.len, h.words, h.rs, fun i hi => ?_, h.idle⟩
  show upd m.hold t x i = 0 ∨ upd m.hold t x i = 1 ∨ upd m.hold t x i = 2
  by_cases e : i = t
  · subst e; rw [upd_same]; exact hx
  · rw [upd_other _ _ e]; exact h.hold i hi
/-- What a step's run is. -/
theorem WdI.next (h : WdI mode k m) (ht : t < k) : (((m.at t).next (linesI kind)).n = k ∧ ((m.at t).next (linesI kind)).mode = mode ∧ ((m.at t).next (linesI kind)).task = t ∧ Wrd ((m.at t).next (linesI kind)).a ∧ Wrd ((m.at t).next (linesI kind)).b ∧ (0 ≤ ((m.at t).next (linesI kind)).ret ∧ ((m.at t).next (linesI kind)).ret ≤ 2) ∧ 0 ≤ ((m.at t).next (linesI kind)).op ∧ ((m.at t).next (linesI kind)).op ≤ 8) ∧ ((m.at t).next (linesI kind)).op = (m.rs t).op ∧ ((m.at t).next (linesI kind)).xs.length = m.xs.length ∧ Words ((m.at t).next (linesI kind)).xs ∧ ((m.at t).next (linesI kind)).ns.length ≤ 2 ∧ (∀ x ∈ ((m.at t).next (linesI kind)).ns, 0 ≤ x.a ∧ x.a ≤ 2) ∧ Acc1 m.xs ((m.at t).next (linesI kind)).acc ((m.at t).next (linesI kind)).xs := by
  obtain ⟨h1, h2, h3, h4, h5, h6, h7, h8⟩ := h.rs t ht
  have H := ln_next (r := m.at t) kind
  generalize (m.at t).next (linesI kind) = r' at *
  obtain ⟨l, hl, hl2, hl3⟩ := H.notes
  have hns : r'.ns = l := hl
  have hop : r'.op = (m.rs t).op := H.op
  refine ⟨⟨H.n.trans h1, H.mode.trans h2, H.task.trans h3, H.a h.words h4, H.bb h.words h5, ?_, by omega, by omega⟩, hop, H.len, H.words h.words, by rw [hns]; exact hl2, by rw [hns]; exact fun x hx => (hl3 x hx).arg, ?_⟩
  · have hr : (m.at t).fresh.ret = (m.rs t).ret := rfl
    rcases H.ret with e | e | e <;> omega
  · rcases H.acc with ⟨e1, e2⟩ | ⟨_, e⟩
    · have e1' : r'.acc = acc0 := e1
      have e2' : r'.xs = m.xs := e2
      rw [e1', e2']; exact acc1_none _
    · exact e
/-- The notes of a step are the task's. -/
theorem WdI.told (h : WdI mode k m) (ht : t < k) : ∀ x ∈ ((m.at t).next (linesI kind)).ns, NtG t x := by
  obtain ⟨l, hl, _, hl3⟩ := (ln_next (r := m.at t) kind).notes
  have e : ((m.at t).next (linesI kind)).ns = l := hl
  have ht : (m.at t).fresh.task = t := (h.rs t ht).2.2.1
  rw [e]; rw [ht] at hl3; exact hl3
theorem WdI.put (h : WdI mode k m) (ht : t < k) {r : LS} (hl : r.xs.length = m.xs.length) (hw : Words r.xs) (hr : r.n = k ∧ r.mode = mode ∧ r.task = t ∧ Wrd r.a ∧ Wrd r.b ∧ (0 ≤ r.ret ∧ r.ret ≤ 2) ∧ 0 ≤ r.op ∧ r.op ≤ 8) (hz : r.op ≠ 0) : WdI mode k (m.put t r) := by
  unfold MV.put
  split
  · refine WdI.setR (WdI.setH (h.setR ht hl hw hr (fun e => absurd e hz)) (hold_beh (h.hold t ht))) ht rfl hw ⟨hr.1, hr.2.1, hr.2.2.1, wd_0, wd_0, ⟨show (0 : Int) ≤ 0 by decide, show (0 : Int) ≤ 2 by decide⟩, by show (0 : Int) ≤ 0; decide, by show (0 : Int) ≤ 8; decide⟩ (fun _ => rfl)
  · exact h.setR ht hl hw hr (fun e => absurd e hz)
theorem WdI.step (h : WdI mode k m) (ht : t < k) (h0 : (m.rs t).op ≠ 0) : WdI mode k (m.step (linesI kind) t) := by
  have H := h.next (kind := kind) ht
  exact h.put ht H.2.2.1 H.2.2.2.1 H.1 (by rw [H.2.1]; exact h0)
theorem WdI.pick (h : WdI mode k m) (t op : Int) : WdI mode k (pickW (linesI kind) k m t op) := by
  unfold pickW
  split
  case isFalse => exact h
  case isTrue ht =>
    have ht' : t.toNat < k := by omega
    unfold pickI
    repeat' split
    · rename_i _ ho _; exact (h.start ht' ho).step ht' (by rw [show (m.start t.toNat op).rs t.toNat = zeroF (m.at t.toNat) op from upd_same _ _ _]; show op ≠ 0; omega)
    · exact h
    · exact h
    · exact h
    · rename_i h0 _; exact h.step ht' h0
end
end Go.Proofs.YtigdbokfapedcaaGreat
/- What a world notes is a history: each task's notes stand within its calls. In plain words; nothing here speaks of a program. -/
set_option linter.unusedVariables false
set_option linter.unusedSimpArgs false
namespace Go.Proofs.YtigdbokfapedcaaGreat
open Go.RowKit
theorem ok_trip {w a : Int} (h : okWA w a = true) : tripB w 0 a = true ∧ w ≠ 1 ∧ w ≠ 11 := by
  unfold okWA at h
  simp only [Bool.or_eq_true, Bool.and_eq_true, beq_iff_eq, decide_eq_true_eq] at h
  rcases h with ⟨rfl, rfl | rfl⟩ | ⟨hw, rfl⟩
  · exact ⟨by decide, by decide, by decide⟩
  · exact ⟨by decide, by decide, by decide⟩
  · rcases (show w = 3 ∨ w = 4 ∨ w = 5 ∨ w = 6 ∨ w = 7 ∨ w = 8 ∨ w = 9 ∨ w = 10 by omega) with rfl | rfl | rfl | rfl | rfl | rfl | rfl | rfl <;> exact ⟨by decide, by decide, by decide⟩
theorem wrong_zero {n o : Int} {x : Nt} (h0 : 0 ≤ x.t ∧ x.t < 64) (hn : x.t < n) (ht : tripB x.w x.o x.a = true) (h1 : x.w = 1 → o = 0) (h2 : x.w ≠ 1 → o ≠ 0) (h3 : x.w = 11 → x.o = o) : wrongN n o x = 0 := by
  have hr : rightN x.t x.w x.o x.a = true := by
    unfold rightN
    rw [ht, decide_eq_true h0.1, decide_eq_true h0.2]; rfl
  unfold wrongN
  rw [hr, if_neg (by decide), if_neg (by omega), if_neg]
  rintro (⟨a, b⟩ | ⟨a, b⟩ | ⟨a, b⟩)
  · exact b (h1 a)
  · exact h2 a b
  · exact b (h3 a)
theorem call_trip {op : Int} (h : 1 ≤ op ∧ op ≤ 8) : tripB 1 op 0 = true := by
  rcases (show op = 1 ∨ op = 2 ∨ op = 3 ∨ op = 4 ∨ op = 5 ∨ op = 6 ∨ op = 7 ∨ op = 8 by omega) with rfl | rfl | rfl | rfl | rfl | rfl | rfl | rfl <;> decide
theorem return_trip {op ret : Int} (h : 1 ≤ op ∧ op ≤ 8) (hr : 1 ≤ ret ∧ ret ≤ 3) : tripB 11 op ret = true := by
  rcases (show op = 1 ∨ op = 2 ∨ op = 3 ∨ op = 4 ∨ op = 5 ∨ op = 6 ∨ op = 7 ∨ op = 8 by omega) with rfl | rfl | rfl | rfl | rfl | rfl | rfl | rfl <;> rcases (show ret = 1 ∨ ret = 2 ∨ ret = 3 by omega) with rfl | rfl | rfl <;> decide
section
variable {mode kind : Int} {k t : Nat} {m : MV} {H : List Nt}
theorem told_hist (ht : t < k) (hk : k ≤ 64) : ∀ (ns H : List Nt), (∀ x ∈ ns, NtG t x) → Hist k H → inOp H t ≠ 0 → Hist k (H ++ ns) ∧ ∀ u, inOp (H ++ ns) u = inOp H u
  | [], H, _, h, _ => by rw [List.append_nil]; exact ⟨h, fun _ => rfl⟩
  | x :: ns, H, hx, h, ho => by
    have hX := hx x List.mem_cons_self
    obtain ⟨o1, o2, o3⟩ := ok_trip hX.ok
    have hs : ∀ u, inOp (H ++ [x]) u = inOp H u := fun u => by
      rw [inOp_snoc]; unfold inN
      rw [if_neg o2, if_neg o3]; exact ite_self _
    have hH : Hist k (H ++ [x]) := h.snoc (by
      rw [hX.t]
      exact wrong_zero (by rw [hX.t]; omega) (by rw [hX.t]; omega) (by rw [hX.o]; exact o1) (fun e => absurd e o2) (fun _ => ho) (fun e => absurd e o3))
    obtain ⟨h1, h2⟩ := told_hist ht hk ns (H ++ [x]) (fun y hy => hx y (List.mem_cons_of_mem _ hy)) hH (by rw [hs]; exact ho)
    rw [List.append_assoc] at h1 h2
    exact ⟨h1, fun u => (h2 u).trans (hs u)⟩
/-- A world, and all that it has told. -/
structure HW (mode : Int) (k : Nat) (m : MV) (H : List Nt) : Prop where
  w : WdI mode k m
  h : Hist k H
  op : ∀ t, t < k → inOp H t = (m.rs t).op
theorem inN_other {t u o : Int} {x : Nt} (h : x.t ≠ t) : inN t o x = o := if_neg h
theorem HW.start (h : HW mode k m H) (ht : t < k) (hk : k ≤ 64) (h0 : (m.rs t).op = 0) {op : Int} (ho : 1 ≤ op ∧ op ≤ 8) : HW mode k (m.start t op) (H ++ [⟨t, 1, op, 0⟩]) := by
  refine ⟨h.w.start ht ho, h.h.snoc (wrong_zero (show 0 ≤ (t : Int) ∧ (t : Int) < 64 by omega) (show (t : Int) < k by omega) (call_trip ho) (fun _ => (h.op t ht).trans h0) (fun e => absurd rfl e) (fun e => absurd e (show (1 : Int) ≠ 11 by decide))), fun u hu => ?_⟩
  rw [inOp_snoc]
  by_cases e : u = t
  · subst e
    rw [show (m.start u op).rs u = zeroF (m.at u) op from upd_same _ _ _]
    unfold inN
    rw [if_pos rfl, if_pos rfl]; rfl
  · rw [show (m.start t op).rs u = m.rs u from upd_other _ _ e, inN_other (t := (u : Int)) (u := u) (show (t : Int) ≠ u by omega)]
    exact h.op u hu
theorem HW.step (h : HW mode k m H) (ht : t < k) (hk : k ≤ 64) (h0 : (m.rs t).op ≠ 0) : HW mode k (m.step (linesI kind) t) (H ++ stepNs t ((m.at t).next (linesI kind)) []) := by
  obtain ⟨⟨_, _, htk, _, _, hret, _, hop8⟩, hop, _⟩ := h.w.next (kind := kind) ht
  obtain ⟨h1, h2⟩ := told_hist ht hk _ H (h.w.told (kind := kind) ht) h.h (by rw [h.op t ht]; exact h0)
  have hW := h.w.step (kind := kind) ht h0
  have hge : 0 ≤ (m.rs t).op := (h.w.rs t ht).2.2.2.2.2.2.1
  unfold MV.step MV.put at *
  unfold stepNs
  generalize (m.at t).next (linesI kind) = r at *
  rw [List.nil_append]
  by_cases hv : r.over = true
  · rw [if_pos hv] at hW ⊢
    rw [if_pos hv]
    have hr0 : r.ret ≠ 0 := by
      unfold LS.over at hv
      simp only [Bool.and_eq_true, bne_iff_ne, ne_eq] at hv
      exact hv.1
    have hin : inOp (H ++ r.ns) t = r.op := (h2 t).trans ((h.op t ht).trans hop.symm)
    rw [← List.append_assoc]
    refine ⟨hW, h1.snoc (wrong_zero (show 0 ≤ (t : Int) ∧ (t : Int) < 64 by omega) (show (t : Int) < k by omega) (return_trip (show 1 ≤ r.op ∧ r.op ≤ 8 by omega) (show 1 ≤ r.ret ∧ r.ret ≤ 3 by omega)) (fun e => absurd e (show (11 : Int) ≠ 1 by decide)) (fun _ => by rw [hin, hop]; exact h0) (fun _ => hin.symm)), fun u hu => ?_⟩
    rw [inOp_snoc]
    by_cases e : u = t
    · subst e
      rw [show (((m.setR u r).setH u (behindI r.op r.ret (m.hold u))).setR u (zeroF r 0)).rs u = zeroF r 0 from upd_same _ _ _]
      unfold inN
      rw [if_pos rfl, if_neg (show ¬ (11 : Int) = 1 by decide), if_pos rfl]; rfl
    · rw [show (((m.setR t r).setH t (behindI r.op r.ret (m.hold t))).setR t (zeroF r 0)).rs u = m.rs u from (upd_other _ _ e).trans (upd_other _ _ e), inN_other (t := (u : Int)) (u := u) (show (t : Int) ≠ u by omega)]
      exact (h2 u).trans (h.op u hu)
  · rw [if_neg hv] at hW ⊢
    rw [if_neg hv]
    refine ⟨hW, h1, fun u hu => ?_⟩
    rw [h2 u, h.op u hu]
    by_cases e : u = t
    · subst e
      rw [show (m.setR u r).rs u = r from upd_same _ _ _]; exact hop.symm
    · rw [show (m.setR t r).rs u = m.rs u from upd_other _ _ e]
/-- A pick keeps it. -/
theorem HW.pick (h : HW mode k m H) (hk : k ≤ 64) (t op : Int) : HW mode k (pickW (linesI kind) k m t op) (H ++ (eventW (linesI kind) k m t op).ns) := by
  unfold pickW eventW
  by_cases hb : 0 ≤ t ∧ t < k
  · rw [if_pos hb, if_pos hb]
    obtain ⟨u, rfl⟩ : ∃ u : Nat, t = u := ⟨t.toNat, by omega⟩
    rw [Int.toNat_natCast]
    have hu : u < k := by omega
    unfold pickI pickE
    by_cases h0 : (m.rs u).op = 0
    · rw [if_pos h0, if_pos h0]
      by_cases ho : 1 ≤ op ∧ op ≤ 8
      · rw [if_pos ho, if_pos ho]
        have hS := h.start hu hk h0 ho
        by_cases hm : mayI op (m.hold u) = true
        · rw [if_pos hm, if_pos hm]
          have hT := hS.step (kind := kind) hu hk (by rw [show (m.start u op).rs u = zeroF (m.at u) op from upd_same _ _ _]; show op ≠ 0; omega)
          have e : (stepE (linesI kind) (m.start u op) u [⟨u, 1, op, 0⟩]).ns = [⟨u, 1, op, 0⟩] ++ stepNs u (((m.start u op).at u).next (linesI kind)) [] := by
            unfold stepE stepNs
            dsimp only
            split <;> simp
          rw [e, ← List.append_assoc]
          exact hT
        · rw [if_neg hm, if_neg hm]
          show HW mode k m (H ++ ([⟨(u : Int), 1, op, 0⟩] ++ [⟨u, 11, op, 3⟩]))
          have hin : inOp (H ++ [⟨(u : Int), 1, op, 0⟩]) u = op := by
            rw [inOp_snoc]; unfold inN
            rw [if_pos rfl, if_pos rfl]
          rw [← List.append_assoc]
          refine ⟨h.w, hS.h.snoc (wrong_zero (show 0 ≤ (u : Int) ∧ (u : Int) < 64 by omega) (show (u : Int) < k by omega) (return_trip ho (show (1 : Int) ≤ 3 ∧ (3 : Int) ≤ 3 by decide)) (fun e => absurd e (show (11 : Int) ≠ 1 by decide)) (fun _ => by rw [hin]; omega) (fun _ => hin.symm)), fun v hv => ?_⟩
          rw [inOp_snoc]
          by_cases e : v = u
          · subst e
            unfold inN
            rw [if_pos rfl, if_neg (show ¬ (11 : Int) = 1 by decide), if_pos rfl, h0]
          · rw [inN_other (t := (v : Int)) (u := v) (show (u : Int) ≠ v by omega), inOp_snoc, inN_other (t := (v : Int)) (u := v) (show (u : Int) ≠ v by omega)]
            exact h.op v hv
      · rw [if_neg ho, if_neg ho, show ev0.ns = [] from rfl, List.append_nil]; exact h
    · rw [if_neg h0, if_neg h0]
      by_cases hs : (m.at u).stuck = true
      · rw [if_pos hs, if_pos hs, show ev0.ns = [] from rfl, List.append_nil]; exact h
      · rw [if_neg hs, if_neg hs]
        exact h.step hu hk h0
  · rw [if_neg hb, if_neg hb, show ev0.ns = [] from rfl, List.append_nil]; exact h
end
end Go.Proofs.YtigdbokfapedcaaGreat
/- Of a world's notes, who is within a call at the end: the tasks that are with an operation. In plain words. -/
set_option linter.unusedVariables false
set_option linter.unusedSimpArgs false
namespace Go.Proofs.YtigdbokfapedcaaGreat
open Go.RowKit
/-- Those of the first i tasks that are with an operation. -/
def busyL (m : MV) (i : Nat) : List Int := ((List.range i).filter fun t => decide ((m.rs t).op ≠ 0)).map fun t : Nat => (t : Int)
theorem busyL_succ (m : MV) (i : Nat) : busyL m (i + 1) = busyL m i ++ (if (m.rs i).op ≠ 0 then [(i : Int)] else []) := by
  unfold busyL
  rw [List.range_succ, List.filter_append, List.map_append]
  by_cases h : (m.rs i).op = 0
  · simp [h]
  · simp [h]
theorem mem_busyL {m : MV} {z : Int} : ∀ {i : Nat}, z ∈ busyL m i ↔ ∃ t : Nat, t < i ∧ (m.rs t).op ≠ 0 ∧ z = t := fun {i} => by
  unfold busyL
  simp only [List.mem_map, List.mem_filter, List.mem_range, decide_eq_true_eq]
  constructor
  · rintro ⟨t, ⟨h1, h2⟩, rfl⟩; exact ⟨t, h1, h2, rfl⟩
  · rintro ⟨t, h1, h2, rfl⟩; exact ⟨t, ⟨h1, h2⟩, rfl⟩
theorem busyL_rise (m : MV) : ∀ i, Rise (busyL m i)
  | 0 => List.Pairwise.nil
  | i + 1 => by
    rw [busyL_succ]
    refine List.pairwise_append.2 ⟨busyL_rise m i, ?_, fun a ha b hb => ?_⟩
    · split
      · exact List.pairwise_singleton _ _
      · exact List.Pairwise.nil
    · obtain ⟨t, ht, _, rfl⟩ := mem_busyL.1 ha
      split at hb
      · rw [List.mem_singleton.1 hb]; omega
      · simp at hb
/-- Ahead of the i-th task stand those below it. -/
theorem busyL_split (m : MV) {i : Nat} : ∀ {n : Nat}, i ≤ n → ∃ r, busyL m n = busyL m i ++ r ∧ ((m.rs i).op ≠ 0 → i < n → ∃ q, r = (i : Int) :: q)
  | 0, h => by
    obtain rfl : i = 0 := by omega
    exact ⟨[], by simp, fun _ h => by omega⟩
  | n + 1, h => by
    by_cases e : i = n + 1
    · subst e; exact ⟨[], by simp, fun _ h => by omega⟩
    · obtain ⟨r, h1, h2⟩ := busyL_split m (i := i) (n := n) (by omega)
      rw [busyL_succ, h1, List.append_assoc]
      refine ⟨_, rfl, fun h0 _ => ?_⟩
      by_cases e' : i = n
      · subst e'
        have : r = [] := by
          have := congrArg List.length h1
          rw [List.length_append] at this
          exact List.eq_nil_of_length_eq_zero (by omega)
        rw [this, if_pos h0]; exact ⟨[], rfl⟩
      · obtain ⟨q, hq⟩ := h2 h0 (by omega)
        rw [hq]; exact ⟨_, rfl⟩
theorem HW.pend {mode : Int} {k : Nat} {m : MV} {H : List Nt} (h : HW mode k m H) : busyL m k = pendL H := by
  refine pend_of (busyL_rise m k) fun z => ?_
  rw [mem_busyL, h.h.last]
  constructor
  · rintro ⟨t, ht, h0, rfl⟩
    rw [h.op t ht]; exact h0
  · intro hz
    rcases last_there H false (h.h.last.2 hz) with h' | ⟨x, hx, e⟩
    · exact absurd h' (by decide)
    · obtain ⟨pre, post, e'⟩ := List.append_of_mem hx
      obtain ⟨_, _, _, hn, hr⟩ := wrong_call (h.h pre x post e')
      have h0 := (right_in hr).1
      refine ⟨z.toNat, by omega, ?_, by omega⟩
      have := h.op z.toNat (by omega)
      rw [show ((z.toNat : Nat) : Int) = z by omega] at this
      rw [← this]; exact hz
end Go.Proofs.YtigdbokfapedcaaGreat
/- A list of tasks: each one's holding and frame. -/
set_option linter.unusedVariables false
set_option linter.unusedSimpArgs false
namespace Go.Proofs.YtigdbokfapedcaaGreat
open Go.RowKit

/-- A task's cells. -/
def taskCs (h : Int) (r : LS) : Array Value := #[.int .i64 h, .int .i64 r.op, .int .i64 r.line, .int .u32 r.a, .int .u32 r.b, .int .i64 r.s, .bool r.k.on, .int .i64 r.k.c, .int .i64 r.k.i, .bool r.k.hit, .int .i64 r.ret]
structure Tasks (w : World) (g k : Nat) (h : Nat → Int) (f : Nat → LS) : Prop where
  row : ∃ cs, Row w g 86 cs ∧ cs.size = k * 11 ∧ ∀ i, i < k → ∀ j v, (taskCs (h i) (f i))[j]? = some v → cs[i * 11 + j]? = some v
section
variable {w w' : World} {g k t : Nat} {h : Nat → Int} {f : Nat → LS} {S : Nat → Prop}
theorem Tasks.cell (T : Tasks w g k h f) (ht : t < k) (j : Nat) {v : Value} (hj : (taskCs (h t) (f t))[j]? = some v) : w.cell? ⟨g, t * 11 + j, none⟩ = some v := by
  obtain ⟨cs, hr, _, hc⟩ := T.row
  exact hr.cell_ (hc t ht j v hj)
theorem Tasks.only (T : Tasks w g k h f) (ho : Only S w w') (hg : ¬ S g) : Tasks w' g k h f := by
  obtain ⟨cs, hr, hs, hc⟩ := T.row
  exact ⟨cs, hr.only ho hg, hs, hc⟩
end
/-- Some cells, one behind the other, are set. -/
def putAll (cs : Array Value) (o : Nat) : List Value → Array Value
  | [] => cs
  | v :: l => putAll (cs.setIfInBounds o v) (o + 1) l
def stAll (w : World) (g o : Nat) : List Value → World
  | [] => w
  | v :: l => stAll (w.setCell ⟨g, o, none⟩ v) g (o + 1) l
theorem putAll_size : ∀ (l : List Value) (cs : Array Value) (o : Nat), (putAll cs o l).size = cs.size
  | [], _, _ => rfl
  | v :: l, cs, o => by unfold putAll; rw [putAll_size l]; exact Array.size_setIfInBounds
theorem putAll_far : ∀ (l : List Value) (cs : Array Value) (o i : Nat), (i < o ∨ o + l.length ≤ i) → (putAll cs o l)[i]? = cs[i]?
  | [], _, _, _, _ => rfl
  | v :: l, cs, o, i, h => by
    unfold putAll
    rw [List.length_cons] at h
    rw [putAll_far l _ _ _ (by omega), Array.getElem?_setIfInBounds, if_neg (by omega)]
theorem putAll_at : ∀ (l : List Value) (cs : Array Value) (o j : Nat) (v : Value), l[j]? = some v → o + j < cs.size → (putAll cs o l)[o + j]? = some v
  | [], _, _, _, _, h, _ => by cases h
  | x :: l, cs, o, 0, v, h, hs => by
    unfold putAll
    rw [putAll_far l _ _ _ (by omega), Array.getElem?_setIfInBounds, if_pos (by omega), if_pos (by omega)]
    exact h
  | x :: l, cs, o, j + 1, v, h, hs => by
    unfold putAll
    rw [show o + (j + 1) = o + 1 + j by omega]
    exact putAll_at l _ _ j v h (by rw [Array.size_setIfInBounds]; omega)
theorem Row.stAll {g : Nat} {t : TypeId} : ∀ (l : List Value) {w : World} {cs : Array Value} (o : Nat), Row w g t cs → Row (Proofs.YtigdbokfapedcaaGreat.stAll w g o l) g t (putAll cs o l)
  | [], _, _, _, h => h
  | v :: l, _, _, o, h => Row.stAll l (o + 1) (h.set o v)
theorem Only.stAll {S : Nat → Prop} {g : Nat} : ∀ (l : List Value) {w0 w : World} (o : Nat), Only S w0 w → (w0.heap.size ≤ g ∨ S g) → Only S w0 (Proofs.YtigdbokfapedcaaGreat.stAll w g o l)
  | [], _, _, _, h, _ => h
  | v :: l, _, _, o, h, hg => Only.stAll l (o + 1) (h.setCell (p := ⟨g, o, none⟩) hg v) hg
section
variable {w w' : World} {g k t : Nat} {h : Nat → Int} {f : Nat → LS} {S : Nat → Prop}
/-- A task's frame is set. -/
theorem Tasks.setF (T : Tasks w g k h f) (ht : t < k) (r : LS) : Tasks (stAll w g (t * 11 + 1) (taskCs 0 r).toList.tail) g k h (upd f t r) := by
  obtain ⟨cs, hr, hs, hc⟩ := T.row
  refine ⟨_, hr.stAll _ _, by rw [putAll_size]; exact hs, fun i hi j v hv => ?_⟩
  have hj : j < 11 := by
    have := (Array.getElem?_eq_some_iff.1 hv).1
    exact this
  by_cases e : i = t
  · subst e
    rw [upd_same] at hv
    cases j with
    | zero =>
      rw [putAll_far _ _ _ _ (by omega)]
      exact hc i hi 0 v hv
    | succ j =>
      rw [show i * 11 + (j + 1) = i * 11 + 1 + j by omega]
      refine putAll_at _ _ _ _ _ ?_ (by omega)
      have hv' : (taskCs (h i) r).toList[j + 1]? = some v := by rw [Array.getElem?_toList]; exact hv
      exact hv'
  · rw [upd_other _ _ e] at hv
    rw [putAll_far]
    · exact hc i hi j v hv
    · show i * 11 + j < t * 11 + 1 ∨ t * 11 + 1 + 10 ≤ i * 11 + j
      omega
/-- A task is set. -/
theorem Tasks.setT (T : Tasks w g k h f) (ht : t < k) (x : Int) (r : LS) : Tasks (stAll w g (t * 11) (taskCs x r).toList) g k (upd h t x) (upd f t r) := by
  obtain ⟨cs, hr, hs, hc⟩ := T.row
  refine ⟨_, hr.stAll _ _, by rw [putAll_size]; exact hs, fun i hi j v hv => ?_⟩
  have hj : j < 11 := by
    have := (Array.getElem?_eq_some_iff.1 hv).1
    exact this
  by_cases e : i = t
  · subst e
    rw [upd_same, upd_same] at hv
    refine putAll_at _ _ _ _ _ ?_ (by omega)
    rw [Array.getElem?_toList]; exact hv
  · rw [upd_other _ _ e, upd_other _ _ e] at hv
    rw [putAll_far]
    · exact hc i hi j v hv
    · show i * 11 + j < t * 11 ∨ t * 11 + 11 ≤ i * 11 + j
      omega
/-- Tasks at first. -/
theorem tasks_new (w : World) (k : Nat) (h : Nat → Int) (f : Nat → LS) (cs : Array Value) (hs : cs.size = k * 11) (hz : ∀ i, i < k → ∀ j v, (taskCs (h i) (f i))[j]? = some v → cs[i * 11 + j]? = some v) (hr : Row w g 86 cs) : Tasks w g k h f := ⟨cs, hr, hs, hz⟩
end
end Go.Proofs.YtigdbokfapedcaaGreat
/- The suite's lines of a kind: a function. -/
set_option linter.unusedVariables false
set_option linter.unusedSimpArgs false
namespace Go.Proofs.YtigdbokfapedcaaGreat
open Go.RowKit
/-- A kind's lines. -/
def linesF (k : Int) : Value := if k = 1 then .func (.func 25) #[] #[] else if k = 2 then .func (.func 26) #[] #[] else if k = 3 then .func (.func 27) #[] #[] else if k = 4 then .func (.func 28) #[] #[] else if k = 5 then .func (.func 29) #[] #[] else if k = 6 then .func (.func 30) #[] #[] else .nilFunc
theorem lines_any (k : Int) (w : World) : Calls Tryz.prog 12 #[.int .i64 k] w fun e w' => e = .returned (.tuple #[linesF k, .bool (decide (1 ≤ k ∧ k ≤ 6))]) ∧ w = w' := by
  by_cases hk : 1 ≤ k ∧ k ≤ 6
  · rw [decide_eq_true hk]
    have hc : k = 1 ∨ k = 2 ∨ k = 3 ∨ k = 4 ∨ k = 5 ∨ k = 6 := by omega
    rcases hc with rfl | rfl | rfl | rfl | rfl | rfl
    all_goals
      go_enter Tryz.func12, Tryz.ntmps12
      go_wp2
      go_returns
      exact ⟨rfl, rfl⟩
  · rw [decide_eq_false hk]
    have h1 : ¬ k = 1 := by omega
    have h2 : ¬ k = 2 := by omega
    have h3 : ¬ k = 3 := by omega
    have h4 : ¬ k = 4 := by omega
    have h5 : ¬ k = 5 := by omega
    have h6 : ¬ k = 6 := by omega
    rw [show linesF k = .nilFunc by unfold linesF; rw [if_neg h1, if_neg h2, if_neg h3, if_neg h4, if_neg h5, if_neg h6]]
    clear hk
    go_enter Tryz.func12, Tryz.ntmps12
    go_wp2
    go_returns
    exact ⟨rfl, rfl⟩
end Go.Proofs.YtigdbokfapedcaaGreat
/- A region that draws its order: one operation is taken first, by its place. (go_region_held3 has no word for an operation whose guard says no.) -/
namespace Go.Proofs.YtigdbokfapedcaaGreat
section
variable {P : Program} {md : Region.Mode} {Q : Exit → Act → World → Prop} {S : World → Prop} {fuel : Nat} {listed : Array Bool} {a : Act} {w : World} {oi : Oper} {rest : List Oper}
end
end Go.Proofs.YtigdbokfapedcaaGreat
