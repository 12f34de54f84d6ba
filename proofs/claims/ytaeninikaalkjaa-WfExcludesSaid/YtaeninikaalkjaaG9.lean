import Derived.Test.YtaeninikaalkjaaG8
import Derived.Test.YtaeninikaalkjaaG2
import Derived.Test.YtaeninikaalkjaaG7
import Derived.Test.YtaeninikaalkjaaG5
set_option linter.unusedVariables false
set_option linter.unusedSimpArgs false
namespace Go.Proofs.Ytaeninikaalkjaa
open Go.RowKit
def bitsI (v : Int) : Int := v % 4
def LS.left (r : LS) (v : Int) : Bool := bitsI v != bitsI r.a
def LS.pAdmit (r : LS) (c : Int) (q : Int → Bool) : LS := if (r.stepR c q).done then ((r.wait c q).noteIf (r.stepR c q).seen 4).fin true else (r.wait c q).noteIf (r.stepR c q).seen 4
end Go.Proofs.Ytaeninikaalkjaa
set_option linter.unusedVariables false
set_option linter.unusedSimpArgs false
namespace Go.Proofs.Ytaeninikaalkjaa
open Go.RowKit
def rfCase (op line : Int) : Nat :=
  if op = 1 ∧ line = 0 then 1 else if op = 1 ∧ line = 1 then 2 else if op = 2 ∧ line = 0 then 3 else if op = 3 ∧ line = 0 then 4 else if op = 3 ∧ line = 1 then 5 else if op = 3 ∧ line = 2 then 6 else if op = 4 ∧ line = 0 then 7
  else if op = 5 ∧ line = 0 then 8 else if op = 6 ∧ line = 0 then 9 else if op = 7 ∧ line = 0 then 10 else if op = 5 ∧ line = 1 then 11 else if op = 6 ∧ line = 1 then 12 else if op = 7 ∧ line = 1 then 13 else if op = 8 ∧ line = 0 then 14 else 0
def outW (v : Int) : Bool := v / 65536 % 2 == 0
def LS.at0 (r : LS) (x : Int) : Bool := there r.xs 0 && (wordAt r.xs 0 == x)
def LS.fCome (r : LS) : LS := if outW (wordAt r.xs 0) then ((((r.doA 3 0 1 0).keepA (wordAt r.xs 0)).note 2 1).note 4 0).fin true else (((r.doA 3 0 1 0).keepA (wordAt r.xs 0)).note 2 1).go 1
def LS.fGo (r : LS) : LS := (((r.doA 3 0 4294967295 0).note 6 0).wake 0).fin true
def LS.fReg (r : LS) : LS := if wordAt r.xs 0 = 0 then (((r.doA 1 0 0 0).keepA (wordAt r.xs 0)).note 2 2).go 1 else (((r.doA 1 0 0 0).keepA (wordAt r.xs 0)).note 2 2).go 2
def LS.fTake (r : LS) : LS := if r.at0 0 then ((r.doA 5 0 0 65536).note 4 0).fin true else (r.doA 5 0 0 65536).go 2
def LS.fWait (r : LS) : LS := if (r.stepR 0 isZ).done then (r.wait 0 isZ).go 1 else r.wait 0 isZ
def LS.fLeave (r : LS) : LS := ((((r.doA 3 0 4294901760 0).note 7 0).note 8 0).wake 0).fin true
def LS.fLook (r : LS) (ok : Bool) : LS := if ok then ((r.doA 1 0 0 0).keepA (wordAt r.xs 0)).go 1 else (((r.doA 1 0 0 0).keepA (wordAt r.xs 0)).note 5 0).fin false
def LS.fSlip (r : LS) : LS := if r.at0 r.a then (((r.doA 5 0 r.a ((r.a + 1) % 4294967296)).note 2 1).note 4 0).fin true else (r.doA 5 0 r.a ((r.a + 1) % 4294967296)).go 0
def LS.fTry (r : LS) : LS := if r.at0 0 then (((r.doA 5 0 0 65536).note 2 2).note 4 0).fin true else (r.doA 5 0 0 65536).go 0
def LS.fUp (r : LS) : LS := if r.at0 1 then ((r.doA 5 0 1 65536).note 9 0).fin true else (r.doA 5 0 1 65536).go 0
def LS.fDown (r : LS) : LS := (((r.doA 3 0 4294901761 0).note 10 0).wake 0).fin true
def LS.rf (r : LS) : LS :=
  match rfCase r.op r.line with
  | 1 => r.fCome
  | 2 => r.pAdmit 0 outW
  | 3 => r.fGo
  | 4 => r.fReg
  | 5 => r.fTake
  | 6 => r.fWait
  | 7 => r.fLeave
  | 8 => r.fLook (outW (wordAt r.xs 0))
  | 9 => r.fLook (wordAt r.xs 0 == 0)
  | 10 => r.fLook (wordAt r.xs 0 == 1)
  | 11 => r.fSlip
  | 12 => r.fTry
  | 13 => r.fUp
  | 14 => r.fDown
  | _ => r
section
variable {r : LS}
end
end Go.Proofs.Ytaeninikaalkjaa
set_option linter.unusedVariables false
set_option linter.unusedSimpArgs false
namespace Go.Proofs.Ytaeninikaalkjaa
open Go.RowKit
def rF (v : Int) : Int := v % 256
def oF (v : Int) : Int := v / 256 % 256
def iF (v : Int) : Int := v / 65536 % 256
def freeW (v : Int) : Bool := iF v == oF v
def nextO (v : Int) : Int := ((oF v + 1) % 256 - oF v) * 256 % 4294967296
def turnW (x : Int) (v : Int) : Bool := oF v == x && rF v == 0
def wfCase (op line : Int) : Nat :=
  if op = 1 ∧ line = 0 then 1 else if op = 1 ∧ line = 1 then 2 else if op = 1 ∧ line = 2 then 3 else if op = 1 ∧ line = 3 then 4 else if op = 2 ∧ line = 0 then 5 else if op = 3 ∧ line = 0 then 6 else if op = 3 ∧ line = 1 then 7
  else if op = 4 ∧ line = 0 then 8 else if op = 8 ∧ line = 0 then 8 else if op = 4 ∧ line = 1 then 9 else if op = 8 ∧ line = 1 then 10 else if op = 5 ∧ line = 0 then 11 else if op = 6 ∧ line = 0 then 12 else if op = 7 ∧ line = 0 then 13
  else if op = 5 ∧ line = 1 then 14 else if op = 6 ∧ line = 1 then 15 else if op = 7 ∧ line = 1 then 16 else 0
def LS.noteR (r : LS) (b : Bool) : LS := if b then r.note 2 1 else r
def LS.gSee (r : LS) (b : Bool) : LS := if freeW (wordAt r.xs 0) then (((r.doA 1 0 0 0).keepA (wordAt r.xs 0)).noteR b).go 1 else (((r.doA 1 0 0 0).keepA (wordAt r.xs 0)).noteR b).go 2
def LS.gCas (r : LS) (d : Int) : LS := r.doA 5 0 r.a ((r.a + d) % 4294967296)
def LS.gTake (r : LS) : LS := if r.at0 r.a then ((r.gCas 1).note 4 0).fin true else (r.gCas 1).go 3
def LS.seeW (r : LS) : LS := if (r.stepR 0 freeW).seen then (r.wait 0 freeW).keepA (wordAt r.xs 0) else r.wait 0 freeW
def LS.gWait (r : LS) : LS := if (r.stepR 0 freeW).done then r.seeW.go 1 else r.seeW
def LS.gCome (r : LS) : LS := (((r.doA 3 0 65536 0).keepA (wordAt r.xs 0)).note 2 2).go 1
def LS.gLoad (r : LS) : LS := ((r.doA 1 0 0 0).keepA (wordAt r.xs 0)).go 1
def LS.gLeave (r : LS) : LS := ((((r.doA 3 0 (nextO r.a) 0).note 7 0).note 8 0).wake 0).fin true
def LS.gDown (r : LS) : LS := (((r.doA 3 0 ((nextO r.a + 1) % 4294967296) 0).note 10 0).wake 0).fin true
def LS.gSlip (r : LS) : LS := if r.at0 r.a then (((r.gCas 1).note 2 1).note 4 0).fin true else (r.gCas 1).go 0
def LS.gTry (r : LS) : LS := if r.at0 r.a then (((r.gCas 65536).note 2 2).note 4 0).fin true else (r.gCas 65536).go 0
def LS.gUp (r : LS) : LS := if r.at0 r.a then ((r.gCas 65535).note 9 0).fin true else (r.gCas 65535).go 0
def LS.wf (r : LS) : LS :=
  match wfCase r.op r.line with
  | 1 => r.gSee true
  | 2 => r.gTake
  | 3 => r.gWait
  | 4 => r.gSee false
  | 5 => r.fGo
  | 6 => r.gCome
  | 7 => r.pAdmit 0 (turnW (iF r.a))
  | 8 => r.gLoad
  | 9 => r.gLeave
  | 10 => r.gDown
  | 11 => r.fLook (freeW (wordAt r.xs 0))
  | 12 => r.fLook (freeW (wordAt r.xs 0) && rF (wordAt r.xs 0) == 0)
  | 13 => r.fLook (freeW (wordAt r.xs 0) && rF (wordAt r.xs 0) == 1)
  | 14 => r.gSlip
  | 15 => r.gTry
  | 16 => r.gUp
  | _ => r
section
variable {r : LS}
theorem wf_1_0 (h1 : r.op = 1) (h2 : r.line = 0) : r.wf = r.gSee true := by unfold LS.wf; rw [h1, h2]; rfl
theorem wf_1_1 (h1 : r.op = 1) (h2 : r.line = 1) : r.wf = r.gTake := by unfold LS.wf; rw [h1, h2]; rfl
theorem wf_1_2 (h1 : r.op = 1) (h2 : r.line = 2) : r.wf = r.gWait := by unfold LS.wf; rw [h1, h2]; rfl
theorem wf_1_3 (h1 : r.op = 1) (h2 : r.line = 3) : r.wf = r.gSee false := by unfold LS.wf; rw [h1, h2]; rfl
theorem wf_2_0 (h1 : r.op = 2) (h2 : r.line = 0) : r.wf = r.fGo := by unfold LS.wf; rw [h1, h2]; rfl
theorem wf_3_0 (h1 : r.op = 3) (h2 : r.line = 0) : r.wf = r.gCome := by unfold LS.wf; rw [h1, h2]; rfl
theorem wf_3_1 (h1 : r.op = 3) (h2 : r.line = 1) : r.wf = r.pAdmit 0 (turnW (iF r.a)) := by unfold LS.wf; rw [h1, h2]; rfl
theorem wf_4_0 (h1 : r.op = 4) (h2 : r.line = 0) : r.wf = r.gLoad := by unfold LS.wf; rw [h1, h2]; rfl
theorem wf_8_0 (h1 : r.op = 8) (h2 : r.line = 0) : r.wf = r.gLoad := by unfold LS.wf; rw [h1, h2]; rfl
theorem wf_4_1 (h1 : r.op = 4) (h2 : r.line = 1) : r.wf = r.gLeave := by unfold LS.wf; rw [h1, h2]; rfl
theorem wf_8_1 (h1 : r.op = 8) (h2 : r.line = 1) : r.wf = r.gDown := by unfold LS.wf; rw [h1, h2]; rfl
theorem wf_5_0 (h1 : r.op = 5) (h2 : r.line = 0) : r.wf = r.fLook (freeW (wordAt r.xs 0)) := by unfold LS.wf; rw [h1, h2]; rfl
theorem wf_6_0 (h1 : r.op = 6) (h2 : r.line = 0) : r.wf = r.fLook (freeW (wordAt r.xs 0) && rF (wordAt r.xs 0) == 0) := by unfold LS.wf; rw [h1, h2]; rfl
theorem wf_7_0 (h1 : r.op = 7) (h2 : r.line = 0) : r.wf = r.fLook (freeW (wordAt r.xs 0) && rF (wordAt r.xs 0) == 1) := by unfold LS.wf; rw [h1, h2]; rfl
theorem wf_5_1 (h1 : r.op = 5) (h2 : r.line = 1) : r.wf = r.gSlip := by unfold LS.wf; rw [h1, h2]; rfl
theorem wf_6_1 (h1 : r.op = 6) (h2 : r.line = 1) : r.wf = r.gTry := by unfold LS.wf; rw [h1, h2]; rfl
theorem wf_7_1 (h1 : r.op = 7) (h2 : r.line = 1) : r.wf = r.gUp := by unfold LS.wf; rw [h1, h2]; rfl
end
end Go.Proofs.Ytaeninikaalkjaa
set_option linter.unusedVariables false
set_option linter.unusedSimpArgs false
namespace Go.Proofs.Ytaeninikaalkjaa
open Go.RowKit
theorem word_bd {xs : List Int} (h : Words xs) (c : Int) : 0 ≤ wordAt xs c ∧ wordAt xs c < 4294967296 := word_wf h c
theorem doNew_wordsK {xs : List Int} (h : Words xs) (k c x y : Int) (hl : 0 ≤ leftOf k x y (wordAt xs c) ∧ leftOf k x y (wordAt xs c) < 4294967296) : Words (doNew xs k c x y) := by
  unfold doNew
  split
  · intro n hn
    rcases List.mem_or_eq_of_mem_set hn with hn | rfl
    · exact h n hn
    · exact wf_mk hl.1 hl.2
  · exact h
theorem wake_wordsK {xs : List Int} (h : Words xs) (n : Int) (on : Bool) (c i : Int) (hit : Bool) : Words (wakeI xs n on c i hit).xs := by
  unfold wakeI giveI lookI restI
  repeat' split
  all_goals first | exact h | exact h.st _ (by omega) (by omega)
theorem wake_lenK (xs : List Int) (n : Int) (on : Bool) (c i : Int) (hit : Bool) : (wakeI xs n on c i hit).xs.length = xs.length := by
  unfold wakeI giveI lookI restI
  repeat' split
  all_goals first | rfl | exact st_len _ _ _
structure LS.Good (r r' : LS) (m : Nat) : Prop where
  n : r'.n = r.n
  mode : r'.mode = r.mode
  task : r'.task = r.task
  op : r'.op = r.op
  len : r'.xs.length = r.xs.length
  words : Words r.xs → Words r'.xs
  notes : r'.ns.length ≤ r.ns.length + m
section
variable {r : LS}
theorem good_refl (r : LS) : r.Good r 0 := ⟨rfl, rfl, rfl, rfl, rfl, id, Nat.le_refl _⟩
theorem LS.Good.trans {r r' r'' : LS} {m m' : Nat} (h : r.Good r' m) (k : r'.Good r'' m') : r.Good r'' (m + m') :=
  ⟨k.n.trans h.n, k.mode.trans h.mode, k.task.trans h.task, k.op.trans h.op, k.len.trans h.len, k.words ∘ h.words, by have := h.notes; have := k.notes; omega⟩
theorem LS.Good.le {r r' : LS} {m m' : Nat} (h : r.Good r' m) (hm : m ≤ m') : r.Good r' m' := ⟨h.n, h.mode, h.task, h.op, h.len, h.words, by have := h.notes; omega⟩
theorem good_do {k c x y : Int} (hl : Words r.xs → 0 ≤ leftOf k x y (wordAt r.xs c) ∧ leftOf k x y (wordAt r.xs c) < 4294967296) : r.Good (r.doA k c x y) 0 := ⟨rfl, rfl, rfl, rfl, doNew_len _ _ _ _ _, fun h => doNew_wordsK h _ _ _ _ (hl h), Nat.le_refl _⟩
theorem good_load (c : Int) : r.Good (r.doA 1 c 0 0) 0 := good_do (fun h => word_bd h c)
theorem good_add (c x : Int) : r.Good (r.doA 3 c x 0) 0 := good_do (fun h => by show 0 ≤ (x + wordAt r.xs c) % 4294967296 ∧ (x + wordAt r.xs c) % 4294967296 < 4294967296; omega)
theorem good_cas (c x y : Int) (hy : 0 ≤ y ∧ y < 4294967296) : r.Good (r.doA 5 c x y) 0 := good_do (fun h => by
  show 0 ≤ (if wordAt r.xs c = x then y else wordAt r.xs c) ∧ (if wordAt r.xs c = x then y else wordAt r.xs c) < 4294967296
  split
  · exact hy
  · exact word_bd h c)
theorem good_note (what arg : Int) : r.Good (r.note what arg) 1 := ⟨rfl, rfl, rfl, rfl, rfl, id, by simp [LS.note]⟩
theorem good_go (l : Int) : r.Good (r.go l) 0 := ⟨rfl, rfl, rfl, rfl, rfl, id, Nat.le_refl _⟩
theorem good_fin (b : Bool) : r.Good (r.fin b) 0 := ⟨rfl, rfl, rfl, rfl, rfl, id, Nat.le_refl _⟩
theorem good_wake (c : Int) : r.Good (r.wake c) 0 := ⟨rfl, rfl, rfl, rfl, rfl, id, Nat.le_refl _⟩
theorem good_keepA (v : Int) : r.Good (r.keepA v) 0 := ⟨rfl, rfl, rfl, rfl, rfl, id, Nat.le_refl _⟩
theorem good_wait (c : Int) (q : Int → Bool) : r.Good (r.wait c q) 0 := ⟨rfl, rfl, rfl, rfl, step_len _ _ _ _ _ _ _, fun h => Words.step h _ _ _ _ _ _, Nat.le_refl _⟩
theorem good_fresh : r.Good r.fresh 0 := ⟨rfl, rfl, rfl, rfl, rfl, id, Nat.zero_le _⟩
theorem good_waking : r.Good r.waking 0 := ⟨rfl, rfl, rfl, rfl, wake_lenK _ _ _ _ _ _, fun h => wake_wordsK h _ _ _ _ _, Nat.zero_le _⟩
theorem good_noteIf (b : Bool) (what : Int) : r.Good (r.noteIf b what) 1 := by
  cases b
  · exact (good_refl r).le (by decide)
  · exact good_note _ _
theorem good_next {L : LS → LS} (hL : ∀ r : LS, r.Good (L r) 2) (r : LS) : r.Good (r.next L) 2 ∧ (r.next L).ns.length ≤ 2 := by
  unfold LS.next
  split
  · exact ⟨good_waking.le (by decide), Nat.zero_le _⟩
  · exact ⟨(good_fresh.trans (hL r.fresh)).le (by decide), Nat.le_trans (hL r.fresh).notes (by simp [LS.fresh])⟩
end
end Go.Proofs.Ytaeninikaalkjaa
set_option linter.unusedVariables false
set_option linter.unusedSimpArgs false
namespace Go.Proofs.Ytaeninikaalkjaa
open Go.RowKit
def newR (k mode task op : Int) (xs : List Int) : LS := ⟨k, mode, task, op, 0, 0, 0, 0, wk0, 0, acc0, [], xs⟩
def newCells (p : Option Addr) (k mode task op : Int) : Array Value := #[.pointer p, .int .i64 k, .int .i64 mode, .int .i64 task, .int .i64 op, .int .i64 0, .int .u32 0, .int .u32 0, .int .i64 0, .bool false, .int .i64 0, .int .i64 0, .bool false, .int .i64 0, .int .i64 0, .int .i64 0, .int .u32 0, .int .u32 0, .int .u32 0, .slice none 0 0]
end Go.Proofs.Ytaeninikaalkjaa
set_option linter.unusedVariables false
set_option linter.unusedSimpArgs false
namespace Go.Proofs.Ytaeninikaalkjaa
open Go.RowKit
structure LS.WB (r : LS) : Prop where
  words : Words r.xs
  a : 0 ≤ r.a ∧ r.a < 4294967296
  b : 0 ≤ r.b ∧ r.b < 4294967296
end Go.Proofs.Ytaeninikaalkjaa
set_option linter.unusedVariables false
set_option linter.unusedSimpArgs false
namespace Go.Proofs.Ytaeninikaalkjaa
open Go.RowKit
section
variable {r : LS}
def LS.Keep (r r' : LS) (m : Nat) : Prop := r.Good r' m ∧ (r'.a = r.a ∨ ∃ c, r'.a = wordAt r.xs c)
theorem LS.Keep.ab {r r' : LS} {m : Nat} (h : r.Keep r' m) (hx : Words r.xs) (ha : 0 ≤ r.a ∧ r.a < 4294967296) : Words r'.xs ∧ 0 ≤ r'.a ∧ r'.a < 4294967296 := by
  refine ⟨h.1.words hx, ?_⟩
  rcases h.2 with e | ⟨c, e⟩
  · rw [e]; exact ha
  · rw [e]; exact word_bd hx c
end
end Go.Proofs.Ytaeninikaalkjaa
set_option linter.unusedVariables false
set_option linter.unusedSimpArgs false
namespace Go.Proofs.Ytaeninikaalkjaa
open Go.RowKit
section
variable {r : LS}
theorem LS.Keep.le {r' : LS} {m m' : Nat} (h : r.Keep r' m) (hm : m ≤ m') : r.Keep r' m' := ⟨h.1.le hm, h.2⟩
theorem LS.Keep.next {r' r'' : LS} {m m' : Nat} (h : r.Keep r' m) (g : r'.Good r'' m') (ha : r''.a = r'.a) : r.Keep r'' (m + m') := ⟨h.1.trans g, by rw [ha]; exact h.2⟩
theorem keep_self {r' : LS} {m : Nat} (g : r.Good r' m) (ha : r'.a = r.a) : r.Keep r' m := ⟨g, .inl ha⟩
end
end Go.Proofs.Ytaeninikaalkjaa
set_option linter.unusedVariables false
set_option linter.unusedSimpArgs false
namespace Go.Proofs.Ytaeninikaalkjaa
open Go.RowKit
section
variable {r : LS}
theorem keep_at {r' : LS} {m : Nat} (g : r.Good r' m) (c : Int) (ha : r'.a = wordAt r.xs c) : r.Keep r' m := ⟨g, .inr ⟨c, ha⟩⟩
theorem keep_look (ok : Bool) : r.Keep (r.fLook ok) 2 := by
  unfold LS.fLook
  split
  · exact keep_at (((good_load _).trans (good_keepA _)).trans (good_go _) |>.le (by decide)) 0 rfl
  · exact keep_at ((((good_load _).trans (good_keepA _)).trans (good_note _ _)).trans (good_fin false) |>.le (by decide)) 0 rfl
theorem keep_cas (x y : Int) (hy : 0 ≤ y ∧ y < 4294967296) : r.Keep (r.doA 5 0 x y) 0 := ⟨good_cas 0 x y hy, .inl rfl⟩
end
end Go.Proofs.Ytaeninikaalkjaa
set_option linter.unusedVariables false
set_option linter.unusedSimpArgs false
namespace Go.Proofs.Ytaeninikaalkjaa
open Go.RowKit
section
variable {r : LS}
theorem keep_gcas (d : Int) : r.Keep (r.gCas d) 0 := by unfold LS.gCas; exact keep_cas _ _ (by omega)
theorem good_noteR (b : Bool) : r.Good (r.noteR b) 1 := by
  cases b
  · exact (good_refl r).le (by decide)
  · exact good_note 2 1
theorem noteR_a (R : LS) (b : Bool) : (R.noteR b).a = R.a := by cases b <;> rfl
theorem keep_gsee (b : Bool) : r.Keep (r.gSee b) 2 := by
  unfold LS.gSee
  have h : r.Keep (((r.doA 1 0 0 0).keepA (wordAt r.xs 0)).noteR b) 1 := keep_at (((good_load _).trans (good_keepA _)).trans (good_noteR b) |>.le (by decide)) 0 ((noteR_a _ _).trans rfl)
  split
  · exact (h.next (good_go 1) rfl).le (by decide)
  · exact (h.next (good_go 2) rfl).le (by decide)
theorem keep_seeW : r.Keep r.seeW 0 := by
  unfold LS.seeW
  split
  · exact keep_at ((good_wait 0 freeW).trans (good_keepA _)) 0 rfl
  · exact keep_self (good_wait 0 freeW) rfl
theorem keep_padm (q : Int → Bool) : r.Keep (r.pAdmit 0 q) 2 := by
  unfold LS.pAdmit
  have hN : ∀ (R : LS) (b : Bool), (R.noteIf b 4).a = R.a := fun R b => by cases b <;> rfl
  have h : r.Keep ((r.wait 0 q).noteIf (r.stepR 0 q).seen 4) 1 := keep_self (((good_wait 0 q).trans (good_noteIf _ _)).le (by decide)) ((hN _ _).trans rfl)
  split
  · exact (h.next (good_fin true) rfl).le (by decide)
  · exact h.le (by decide)
theorem keep_wf : r.Keep r.wf 2 := by
  unfold LS.wf
  split
  · exact keep_gsee true
  · unfold LS.gTake
    have h := keep_gcas (r := r) 1
    generalize r.gCas 1 = R at h ⊢
    split
    · exact ((h.next (good_note 4 0) rfl).next (good_fin true) rfl).le (by decide)
    · exact (h.next (good_go 3) rfl).le (by decide)
  · unfold LS.gWait
    have h := keep_seeW (r := r)
    generalize r.seeW = R at h ⊢
    split
    · exact (h.next (good_go 1) rfl).le (by decide)
    · exact h.le (by decide)
  · exact keep_gsee false
  · exact (keep_self ((((good_add 0 4294967295).trans (good_note 6 0)).trans (good_wake 0)).trans (good_fin true)) rfl).le (by decide)
  · exact keep_at ((((good_add 0 65536).trans (good_keepA _)).trans (good_note 2 2)).trans (good_go 1) |>.le (by decide)) 0 rfl
  · exact keep_padm _
  · exact keep_at (((good_load 0).trans (good_keepA _)).trans (good_go 1) |>.le (by decide)) 0 rfl
  · unfold LS.gLeave
    generalize nextO r.a = x
    exact (keep_self (((((good_add 0 x).trans (good_note 7 0)).trans (good_note 8 0)).trans (good_wake 0)).trans (good_fin true)) rfl).le (by decide)
  · unfold LS.gDown
    generalize (nextO r.a + 1) % 4294967296 = x
    exact (keep_self ((((good_add 0 x).trans (good_note 10 0)).trans (good_wake 0)).trans (good_fin true)) rfl).le (by decide)
  · exact keep_look _
  · exact keep_look _
  · exact keep_look _
  · unfold LS.gSlip
    have h := keep_gcas (r := r) 1
    generalize r.gCas 1 = R at h ⊢
    split
    · exact (((h.next (good_note 2 1) rfl).next (good_note 4 0) rfl).next (good_fin true) rfl).le (by decide)
    · exact (h.next (good_go 0) rfl).le (by decide)
  · unfold LS.gTry
    have h := keep_gcas (r := r) 65536
    generalize r.gCas 65536 = R at h ⊢
    split
    · exact (((h.next (good_note 2 2) rfl).next (good_note 4 0) rfl).next (good_fin true) rfl).le (by decide)
    · exact (h.next (good_go 0) rfl).le (by decide)
  · unfold LS.gUp
    have h := keep_gcas (r := r) 65535
    generalize r.gCas 65535 = R at h ⊢
    split
    · exact ((h.next (good_note 9 0) rfl).next (good_fin true) rfl).le (by decide)
    · exact (h.next (good_go 0) rfl).le (by decide)
  · exact (keep_self (good_refl r) rfl).le (by decide)
theorem good_wf : r.Good r.wf 2 := keep_wf.1
end
end Go.Proofs.Ytaeninikaalkjaa
set_option linter.unusedVariables false
set_option linter.unusedSimpArgs false
namespace Go.Proofs.Ytaeninikaalkjaa
open Go.RowKit
structure LS.WA (r : LS) : Prop where
  words : Words r.xs
  a : 0 ≤ r.a ∧ r.a < 4294967296
theorem wa_new {k mode task op : Int} {xs : List Int} (h : Words xs) : (newR k mode task op xs).WA := ⟨h, ⟨Int.le_refl _, by show (0 : Int) < _; decide⟩⟩
theorem wa_next {r : LS} (h : r.WA) : (r.next LS.wf).WA := by
  unfold LS.next
  split
  · exact ⟨good_waking.words h.words, h.a⟩
  · obtain ⟨h1, h2⟩ := (keep_wf (r := r.fresh)).ab h.words h.a
    exact ⟨h1, h2⟩
end Go.Proofs.Ytaeninikaalkjaa
set_option linter.unusedVariables false
set_option linter.unusedSimpArgs false
namespace Go.Proofs.Ytaeninikaalkjaa
open Go.RowKit
def LS.AB (r : LS) : Prop := 0 ≤ r.a ∧ r.a < 4294967296
structure MatchP (L : List (Nat × TypeId × Array Value)) (w0 : World) (X GL GH : Nat) (B : Nat → Nat) (p A : Option Addr) (cp k : Nat) (m : MV) (W : World) : Prop where
  x : ∃ cl, Row W X 49 #[.slice (some ⟨GL, 0, none⟩) k cl, .slice (some ⟨GH, 0, none⟩) k k]
  l : ∃ cs, Row W GL 62 cs ∧ ∀ i, i < k → cs[i]? = some (.pointer (some ⟨B i, 0, none⟩))
  h : ∃ cs, Row W GH 3 cs ∧ ∀ i, i < k → cs[i]? = some (.int .i64 (m.hold i))
  run : ∀ i, i < k → ∃ nv, RunQ W (B i) p A cp nv (m.at i)
  inj : ∀ i j, i < k → j < k → B i = B j → i = j
  memo : Memo W p A cp m.xs
  words : Words m.xs
  only : Only Nil w0 W
  new : ∀ j, (j = GH ∨ At A j ∨ ∃ i, i < k ∧ j = B i) → w0.heap.size ≤ j
  side : RowsL W L
  sideT : ∀ x ∈ L, Aside x.2.1 ∧ x.2.1 ≠ 3
  ab : ∀ i, i < k → (m.rs i).AB
section
variable {L : List (Nat × TypeId × Array Value)} {w0 W W' : World} {X GL GH : Nat} {B : Nat → Nat} {p A : Option Addr} {cp k : Nat} {m : MV} {t : Nat} {r' : LS} {nv : Value} {v : Int}
theorem RunQ.aside {w w' : World} {b : Nat} {p A : Option Addr} {cp : Nat} {nv : Value} {r : LS} {g : Nat} {t : TypeId} {cs : Array Value} (h : RunQ w b p A cp nv r) (hg : Row w g t cs) (ho : Only (TurnB b A) w w') (ht : Aside t) : Row w' g t cs :=
  hg.only ho (fun e => by
    rcases e with e | e
    · exact row_ne hg h.row ht.1 e
    · exact memo_not h.memo hg ht.2.1 ht.2.2 (.inr e))
theorem aside_m : Aside 49 := ⟨by decide, by decide, by decide⟩
theorem aside_pp : Aside 62 := ⟨by decide, by decide, by decide⟩
theorem aside_ii : Aside 3 := ⟨by decide, by decide, by decide⟩
theorem MatchP.ran (h : MatchP L w0 X GL GH B p A cp k m W) (ht : t < k) (ho : Only (TurnB (B t) A) W W') (hq : RunQ W' (B t) p A cp nv r') (hw : Words r'.xs) (hab : r'.AB) : MatchP L w0 X GL GH B p A cp k (m.setR t r') W' := by
  obtain ⟨nv0, q0⟩ := h.run t ht
  refine ⟨?_, ?_, ?_, fun i hi => ?_, h.inj, hq.memo, hw, h.only.step ho (fun j hj e => ?_), h.new, fun x hx => q0.aside (h.side x hx) ho (h.sideT x hx).1, h.sideT, fun i hi => by
    show (upd m.rs t r' i).AB
    by_cases e : i = t
    · subst e; rw [upd_same]; exact hab
    · rw [upd_other _ _ e]; exact h.ab i hi⟩
  · obtain ⟨cl, e⟩ := h.x
    exact ⟨cl, q0.aside e ho aside_m⟩
  · obtain ⟨cs, e, e2⟩ := h.l
    exact ⟨cs, q0.aside e ho aside_pp, e2⟩
  · obtain ⟨cs, e, e2⟩ := h.h
    exact ⟨cs, q0.aside e ho aside_ii, e2⟩
  · by_cases e : i = t
    · subst e
      rw [at_setR]
      exact ⟨nv, hq⟩
    · obtain ⟨nvi, qi⟩ := h.run i hi
      rw [at_setR_other e]
      refine ⟨nvi, qi.row.only ho (fun e2 => ?_), hq.memo⟩
      rcases e2 with e2 | e2
      · exact e (h.inj i t hi ht e2)
      · exact qi.far (.inr e2) rfl
  · have := h.new j (by rcases e with e | e; exact .inr (.inr ⟨t, ht, e⟩); exact .inr (.inl e))
    omega
theorem MatchP.same (h : MatchP L w0 X GL GH B p A cp k m W) (ho : Only (At A) W W') (hm : Memo W' p A cp m.xs) : MatchP L w0 X GL GH B p A cp k m W' := by
  refine ⟨?_, ?_, ?_, fun i hi => ?_, h.inj, hm, h.words, h.only.step ho (fun j hj e => ?_), h.new, fun x hx => (h.side x hx).only ho (fun e2 => memo_not h.memo (h.side x hx) (h.sideT x hx).1.2.1 (h.sideT x hx).1.2.2 (.inr e2)), h.sideT, h.ab⟩
  · obtain ⟨cl, e⟩ := h.x
    exact ⟨cl, e.only ho (fun e2 => memo_not h.memo e aside_m.2.1 aside_m.2.2 (.inr e2))⟩
  · obtain ⟨cs, e, e2⟩ := h.l
    exact ⟨cs, e.only ho (fun e2 => memo_not h.memo e aside_pp.2.1 aside_pp.2.2 (.inr e2)), e2⟩
  · obtain ⟨cs, e, e2⟩ := h.h
    exact ⟨cs, e.only ho (fun e2 => memo_not h.memo e aside_ii.2.1 aside_ii.2.2 (.inr e2)), e2⟩
  · obtain ⟨nvi, qi⟩ := h.run i hi
    exact ⟨nvi, qi.row.only ho (fun e2 => qi.far (.inr e2) rfl), hm⟩
  · have := h.new j (.inr (.inl e))
    omega
theorem MatchP.keep (h : MatchP L w0 X GL GH B p A cp k m W) (ho : Only Nil W W') : MatchP L w0 X GL GH B p A cp k m W' := h.same (ho.mono (fun _ _ h => h.elim)) (h.memo.keep ho)
theorem MatchP.held (h : MatchP L w0 X GL GH B p A cp k m W) (ht : t < k) (v : Int) : MatchP L w0 X GL GH B p A cp k (m.setH t v) (W.setCell ⟨GH, t, none⟩ (.int .i64 v)) := by
  obtain ⟨cs, hh, hc⟩ := h.h
  have ho := (Only.refl (· = GH) W).setCell (p := ⟨GH, t, none⟩) (.inr rfl) (.int .i64 v)
  have hsz : t < cs.size := by have := hc t ht; exact (Array.getElem?_eq_some_iff.1 this).1
  refine ⟨?_, ?_, ⟨_, hh.set t (.int .i64 v), fun i hi => ?_⟩, fun i hi => ?_, h.inj, h.memo.far ho (fun j hj e => ?_), h.words, h.only.setCell (.inl (h.new GH (.inl rfl))) _, h.new, fun x hx => (h.side x hx).only ho (fun e2 => row_ne (h.side x hx) hh (h.sideT x hx).2 e2), h.sideT, h.ab⟩
  · obtain ⟨cl, e⟩ := h.x
    exact ⟨cl, e.only ho (fun e2 => row_ne e hh (by decide) e2)⟩
  · obtain ⟨cs', e, e2⟩ := h.l
    exact ⟨cs', e.only ho (fun e2 => row_ne e hh (by decide) e2), e2⟩
  · show (cs.setIfInBounds t _)[i]? = some (.int .i64 (upd m.hold t v i))
    by_cases e : i = t
    · subst e
      rw [upd_same, Array.getElem?_setIfInBounds_self]
      simp [hsz]
    · rw [upd_other _ _ e, Array.getElem?_setIfInBounds_ne (Ne.symm e)]
      exact hc i hi
  · obtain ⟨nvi, qi⟩ := h.run i hi
    exact ⟨nvi, qi.row.only ho (fun e2 => row_ne qi.row hh (by decide) e2), h.memo.far ho (fun j hj e => memo_not h.memo hh (by decide) (by decide) (by subst e; exact hj))⟩
  · exact memo_not h.memo hh (by decide) (by decide) (by subst e; exact hj)
theorem MatchP.beside {g : Nat} {ty : TypeId} {cs : Array Value} (h : MatchP L w0 X GL GH B p A cp k m W) (hr : Row W g ty cs) (h1 : Aside ty) (h2 : ty ≠ 3) : MatchP ((g, ty, cs) :: L) w0 X GL GH B p A cp k m W :=
  ⟨h.x, h.l, h.h, h.run, h.inj, h.memo, h.words, h.only, h.new, h.side.cons hr, fun x hx => by
    rcases List.mem_cons.1 hx with rfl | hx
    · exact ⟨h1, h2⟩
    · exact h.sideT x hx, h.ab⟩
def frameW (W : World) (b : Nat) (op : Int) : World :=
  (((((((((W.setCell ⟨b, 4, none⟩ (.int .i64 op)).setCell ⟨b, 5, none⟩ (.int .i64 0)).setCell ⟨b, 6, none⟩ (.int .u32 0)).setCell ⟨b, 7, none⟩ (.int .u32 0)).setCell ⟨b, 8, none⟩ (.int .i64 0)).setCell ⟨b, 9, none⟩ (.bool false)).setCell ⟨b, 10, none⟩ (.int .i64 0)).setCell ⟨b, 11, none⟩ (.int .i64 0)).setCell ⟨b, 12, none⟩ (.bool false)).setCell ⟨b, 13, none⟩ (.int .i64 0)
theorem frame_only (W : World) (b : Nat) (op : Int) : Only (· = b) W (frameW W b op) :=
  (((((((((((Only.refl (· = b) W).setCell (p := ⟨b, 4, none⟩) (.inr rfl) _).setCell (p := ⟨b, 5, none⟩) (.inr rfl) _).setCell (p := ⟨b, 6, none⟩) (.inr rfl) _).setCell (p := ⟨b, 7, none⟩) (.inr rfl) _).setCell (p := ⟨b, 8, none⟩) (.inr rfl) _).setCell (p := ⟨b, 9, none⟩) (.inr rfl) _).setCell (p := ⟨b, 10, none⟩) (.inr rfl) _).setCell (p := ⟨b, 11, none⟩) (.inr rfl) _).setCell (p := ⟨b, 12, none⟩) (.inr rfl) _).setCell (p := ⟨b, 13, none⟩) (.inr rfl) _)
theorem frame_row {b : Nat} {r : LS} {hv nv : Value} {ty : TypeId} (h : Row W b ty (r.cells hv nv)) (op : Int) : Row (frameW W b op) b ty ((zeroF r op).cells hv nv) := by
  have e1 : Row (((((W.setCell ⟨b, 4, none⟩ (.int .i64 op)).setCell ⟨b, 5, none⟩ (.int .i64 0)).setCell ⟨b, 6, none⟩ (.int .u32 0)).setCell ⟨b, 7, none⟩ (.int .u32 0)).setCell ⟨b, 8, none⟩ (.int .i64 0)) b ty (({ r with op := op, line := 0, a := 0, b := 0, s := 0 } : LS).cells hv nv) :=
    ((((h.set 4 (.int .i64 op)).set 5 (.int .i64 0)).set 6 (.int .u32 0)).set 7 (.int .u32 0)).set 8 (.int .i64 0)
  have e2 := (set_wake_row e1 wk0).set 13 (.int .i64 0)
  exact e2
theorem MatchP.framed (h : MatchP L w0 X GL GH B p A cp k m W) (ht : t < k) (op : Int) : MatchP L w0 X GL GH B p A cp k (m.setR t (zeroF (m.at t) op)) (frameW W (B t) op) := by
  obtain ⟨nv, q⟩ := h.run t ht
  exact h.ran ht ((frame_only W (B t) op).mono (fun _ _ e => .inl e)) ⟨frame_row q.row op, h.memo.far (frame_only W (B t) op) (fun j hj => q.far hj)⟩ h.words ⟨Int.le_refl _, by show (0 : Int) < _; decide⟩
end
end Go.Proofs.Ytaeninikaalkjaa
set_option linter.unusedVariables false
set_option linter.unusedSimpArgs false
namespace Go.Proofs.Ytaeninikaalkjaa
open Go.RowKit
section
variable (B : Nat) (p A : Option Addr) (cp : Nat) (nv : Value) (r : LS) (c x y : Int) (w : World)
theorem RunP.setRet {w : World} {B : Nat} {p A : Option Addr} {cp : Nat} {nv : Value} {r : LS} (h : RunP w B p A cp nv r) (v : Int) : RunP (w.setCell ⟨B, 13, none⟩ (.int .i64 v)) B p A cp nv { r with ret := v } :=
  h.turn ((Only.refl (· = B) w).setCell (p := ⟨B, 13, none⟩) (.inr rfl) _) (h.row.set 13 (.int .i64 v)) rfl rfl
theorem end_run (ok : Bool) (h : RunP w B p A cp nv r) : Calls Try.prog 52 #[.pointer (some ⟨B, 0, none⟩), .bool ok] w (Done B p A cp w (.tuple #[]) (r.fin ok)) := by
  have c13 : w.cell? ⟨B, 13, none⟩ = some (.int .i64 r.ret) := h.row.cell_ (i := 13) rfl
  have f13 : w.frozen? ⟨B, 13, none⟩ = false := h.row.frozen 13
  have HP := Lib.hid h
  clear h
  cases ok
  · go_enter Try.func52, Try.ntmps52
    go_wp2
    go_returns
    exact ⟨rfl, (Only.refl (TurnB B A) w).setCell (p := ⟨B, 13, none⟩) (.inr (.inl rfl)) _, nv, HP.out.setRet 1⟩
  · go_enter Try.func52, Try.ntmps52
    go_wp2
    go_returns
    exact ⟨rfl, ((Only.refl (TurnB B A) w).setCell (p := ⟨B, 13, none⟩) (.inr (.inl rfl)) _).setCell (p := ⟨B, 13, none⟩) (.inr (.inl rfl)) _, nv, (HP.out.setRet 1).setRet 2⟩
end
end Go.Proofs.Ytaeninikaalkjaa
set_option linter.unusedVariables false
set_option linter.unusedSimpArgs false
namespace Go.Proofs.Ytaeninikaalkjaa
open Go.RowKit
section
variable (B : Nat) (p A : Option Addr) (cp : Nat) (nv : Value) (r : LS) (c x y : Int) (w : World)
theorem add_run (h : RunP w B p A cp nv r) : Calls Try.prog 55 #[.pointer (some ⟨B, 0, none⟩), .int .i64 c, .int .u32 x] w (Done B p A cp w (.int .u32 (wordAt r.xs c)) (r.doA 3 c x 0)) := by
  go_enter Try.func55, Try.ntmps55
  go_wp2_with fail
  refine (access_run B p A cp nv r 3 c x 0 0 _ h rfl).mono ?_
  rintro e w1 ⟨rfl, hO, hP⟩
  have HO := Lib.hid hO
  have HP := Lib.hid hP
  clear hO hP h
  go_wp2
  go_ret
  exact ⟨rfl, HO.out, nv, HP.out⟩
end
end Go.Proofs.Ytaeninikaalkjaa
set_option linter.unusedVariables false
set_option linter.unusedSimpArgs false
namespace Go.Proofs.Ytaeninikaalkjaa
open Go.RowKit
def kpt (b : Bool) (c1 c0 : Array Value) : Array Value := if b then c1 else c0
def HoldsK (A : Option Addr) (R : Nat) (w0 : World) (fv : Value) (q : Int → Bool) (cs : Array Value) (cs1 : Int → Array Value) : Prop := ∀ (v : Int) (w : World), Only (At A) w0 w → Row w R 61 cs → 0 ≤ v → v < 4294967296 →
  Calls Try.prog 87 #[fv, .int .u32 v] w fun e w' => e = .returned (.bool (q v)) ∧ Only (· = R) w w' ∧ Row w' R 61 (kpt (q v) (cs1 v) cs)
theorem HoldsK.move {A : Option Addr} {R : Nat} {w0 w1 : World} {fv : Value} {q : Int → Bool} {cs : Array Value} {cs1 : Int → Array Value} (h : HoldsK A R w0 fv q cs cs1) (ho : Only (At A) w0 w1) : HoldsK A R w1 fv q cs cs1 := by
  intro v w hw
  exact h v w (Only.trans ho hw)
theorem HoldsK.move0 {A : Option Addr} {R : Nat} {w0 w1 : World} {fv : Value} {q : Int → Bool} {cs : Array Value} {cs1 : Int → Array Value} (h : HoldsK A R w0 fv q cs cs1) (ho : Only Nil w0 w1) : HoldsK A R w1 fv q cs cs1 := h.move (ho.mono (fun _ _ h => h.elim))
theorem lookK_any (p A : Option Addr) (cp R : Nat) (cs : Array Value) (cs1 : Int → Array Value) (xs : List Int) (c : Int) (fv : Value) (q : Int → Bool) (w : World) (h : Memo w p A cp xs) (hr : Row w R 61 cs) (hRA : ∀ j, At p j ∨ At A j → j ≠ R) (hf : HoldsK A R w fv q cs cs1) (hx : Words xs) :
    Calls Try.prog 79 #[.pointer p, .int .i64 c, fv] w fun e w' =>
      e = .returned (.tuple #[doVal xs 1 c 0 0, .bool (q (wordAt xs c))]) ∧ Only (TurnB R A) w w' ∧ Memo w' p A cp xs ∧ Row w' R 61 (kpt (q (wordAt xs c)) (cs1 (wordAt xs c)) cs) := by
  have hb := word_wf hx c
  have HB := Lib.hid hb
  have hst : doNew xs 1 c 0 0 = xs := doNew_load xs _ _ _
  have HH := Lib.hid h
  have HF := Lib.hid hf
  have ha : ∀ j, At p j ∨ At A j → j < w.heap.size := HH.out.lt
  have HRR := Lib.hid hr
  have HRA := Lib.hid hRA
  have HRL := Lib.hid hr.lt
  clear hr hRA
  have HA := Lib.hid ha
  clear h ha hf hb hx
  go_enter Try.func79, Try.ntmps79
  go_wp2_with fail
  have e0 := (Only.refl Nil w).alloc (Obj.cells #[Value.int IntKind.i64 0, Value.int IntKind.i64 0, Value.int IntKind.u32 0, Value.int IntKind.u32 0, Value.int IntKind.u32 0] 59)
  refine (do_memo p A cp xs 1 c 0 0 0 _ (HH.out.keep e0)).mono ?_
  obtain ⟨k', c', x', y', hv⟩ := doVal_form xs 1 c 0 0
  rw [oldAt xs 1 c rfl] at hv
  rw [hv, hst]
  rintro e w2 ⟨rfl, hO, hM⟩
  have hS : Only (At A) w w2 := (e0.mono (fun _ _ h => h.elim)).trans hO
  have HR2 := Lib.hid (((HRR.out.alloc (Obj.cells #[Value.int IntKind.i64 0, Value.int IntKind.i64 0, Value.int IntKind.u32 0, Value.int IntKind.u32 0, Value.int IntKind.u32 0] 59)).only hO (fun e => HRA.out _ (.inr e) rfl)).alloc (Obj.cells #[Value.int IntKind.i64 k', Value.int IntKind.i64 c', Value.int IntKind.u32 x', Value.int IntKind.u32 y', Value.int IntKind.u32 (wordAt xs c)] 59))
  have R8 : Row w2 w.heap.size 59 #[.int .i64 0, .int .i64 0, .int .u32 0, .int .u32 0, .int .u32 0] := (Row.new w _ _).only hO (fun h => by have := HA.out _ (.inr h); omega)
  have HR := Lib.hid (R8.alloc (Obj.cells #[Value.int IntKind.i64 k', Value.int IntKind.i64 c', Value.int IntKind.u32 x', Value.int IntKind.u32 y', Value.int IntKind.u32 (wordAt xs c)] 59))
  have HN := Lib.hid (Row.new w2 59 #[Value.int IntKind.i64 k', Value.int IntKind.i64 c', Value.int IntKind.u32 x', Value.int IntKind.u32 y', Value.int IntKind.u32 (wordAt xs c)])
  have HS := Lib.hid (hS.alloc (Obj.cells #[Value.int IntKind.i64 k', Value.int IntKind.i64 c', Value.int IntKind.u32 x', Value.int IntKind.u32 y', Value.int IntKind.u32 (wordAt xs c)] 59))
  have HM := Lib.hid (hM.keep ((Only.refl Nil w2).alloc (Obj.cells #[Value.int IntKind.i64 k', Value.int IntKind.i64 c', Value.int IntKind.u32 x', Value.int IntKind.u32 y', Value.int IntKind.u32 (wordAt xs c)] 59)))
  have HZ := Lib.hid R8.lt
  clear hO R8 hS hM e0 hst
  have HV := Lib.hid hv
  clear hv
  go_wp2_with fail
  generalize w2.alloc (.cells #[.int .i64 k', .int .i64 c', .int .u32 x', .int .u32 y', .int .u32 (wordAt xs c)] 59) = w3 at *
  generalize hg : w2.heap.size = g at *
  have HG := Lib.hid hg
  clear hg
  generalize hwd : wordAt xs c = v at *
  have HWD := Lib.hid hwd
  clear hwd
  have c0 : w3.cell? ⟨g, 0, none⟩ = some (.int .i64 k') := HN.out.cell_ (i := 0) rfl
  have c1 : w3.cell? ⟨g, 1, none⟩ = some (.int .i64 c') := HN.out.cell_ (i := 1) rfl
  have c2 : w3.cell? ⟨g, 2, none⟩ = some (.int .u32 x') := HN.out.cell_ (i := 2) rfl
  have c3 : w3.cell? ⟨g, 3, none⟩ = some (.int .u32 y') := HN.out.cell_ (i := 3) rfl
  have c4 : w3.cell? ⟨g, 4, none⟩ = some (.int .u32 v) := HN.out.cell_ (i := 4) rfl
  have hgg : ¬ g = w.heap.size := by have := HZ.out; omega
  have HGG := Lib.hid hgg
  clear hgg
  refine wp_region_held_drew (S := fun w' => w'.cell? ⟨g, 0, none⟩ = some (.int .i64 k') ∧ w'.cell? ⟨g, 1, none⟩ = some (.int .i64 c') ∧ w'.cell? ⟨g, 2, none⟩ = some (.int .u32 x') ∧ w'.cell? ⟨g, 3, none⟩ = some (.int .u32 y') ∧ w'.cell? ⟨g, 4, none⟩ = some (.int .u32 v)) (by kernel_rfl) ⟨c0, c1, c2, c3, c4⟩ (fun hHeld => ?_)
  refine zk 0 rfl ?_
  refine zk 1 rfl ?_
  refine zk 2 rfl ?_
  refine zk 3 rfl ?_
  refine mcl 4 rfl (by kernel_rfl) (by rfl) (fun K hK => ?_)
  go_simp
  have hgR : ¬ g = R := by have := HRL.out; have := HZ.out; omega
  refine (HF.out v _ HS.out.drew HR2.out.drew HB.out.1 HB.out.2).mono ?_
  rintro e w4 ⟨rfl, hO, hrow⟩
  have hO4 : Only (· = R) w3 w4 := (Only.refl (· = R) w3).drew.trans hO
  have HRW := Lib.hid (hrow.only (five_only (Only.refl (· = w.heap.size) w4) (.inr rfl) (.int .i64 k') (.int .i64 c') (.int .u32 x') (.int .u32 y') (.int .u32 v)) (by have := HRL.out; omega))
  have HMM := Lib.hid ((HM.out.far hO4 (fun j hj => HRA.out j hj)))
  clear hrow
  have HN4 := Lib.hid (HN.out.only hO4 hgR)
  have HR4 := Lib.hid (HR.out.only hO4 (by have := HRL.out; omega))
  have HO4 := Lib.hid hO4
  refine hK.out _ _ ⟨HN4.out.cell_ (i := 0) rfl, HN4.out.cell_ (i := 1) rfl, HN4.out.cell_ (i := 2) rfl, HN4.out.cell_ (i := 3) rfl, HN4.out.cell_ (i := 4) rfl⟩ (fun hHeld2 => ?_)
  clear hK K hHeld hO hO4 hgR c0 c1 c2 c3 c4
  have d0 : w4.cell? ⟨w.heap.size, 0, none⟩ = some (.int .i64 0) := HR4.out.cell_ (i := 0) rfl
  have d1 : w4.cell? ⟨w.heap.size, 1, none⟩ = some (.int .i64 0) := HR4.out.cell_ (i := 1) rfl
  have d2 : w4.cell? ⟨w.heap.size, 2, none⟩ = some (.int .u32 0) := HR4.out.cell_ (i := 2) rfl
  have d3 : w4.cell? ⟨w.heap.size, 3, none⟩ = some (.int .u32 0) := HR4.out.cell_ (i := 3) rfl
  have d4 : w4.cell? ⟨w.heap.size, 4, none⟩ = some (.int .u32 0) := HR4.out.cell_ (i := 4) rfl
  have f0 : w4.frozen? ⟨w.heap.size, 0, none⟩ = false := HR4.out.frozen 0
  have f1 : w4.frozen? ⟨w.heap.size, 1, none⟩ = false := HR4.out.frozen 1
  have f2 : w4.frozen? ⟨w.heap.size, 2, none⟩ = false := HR4.out.frozen 2
  have f3 : w4.frozen? ⟨w.heap.size, 3, none⟩ = false := HR4.out.frozen 3
  have f4 : w4.frozen? ⟨w.heap.size, 4, none⟩ = false := HR4.out.frozen 4
  refine mcl 5 rfl (by kernel_rfl) (by rfl) (fun K hK => ?_)
  go_simp
  have HN5 := Lib.hid (HN4.out.only (five_only (Only.refl (· = w.heap.size) w4) (.inr rfl) (.int .i64 k') (.int .i64 c') (.int .u32 x') (.int .u32 y') (.int .u32 v)) HGG.out)
  refine hK.out _ _ ⟨HN5.out.cell_ (i := 0) rfl, HN5.out.cell_ (i := 1) rfl, HN5.out.cell_ (i := 2) rfl, HN5.out.cell_ (i := 3) rfl, HN5.out.cell_ (i := 4) rfl⟩ (fun hHeld3 => ?_)
  clear hK K hHeld2 d0 d1 d2 d3 d4 f0 f1 f2 f3 f4
  refine zk 6 rfl ?_
  refine wpAnyH_done (by kernel_rfl) ?_ _
  go_wp2
  have ho9 := five_only ((HS.out.mono (T := TurnB R A) (fun _ _ e => .inr e)).trans (HO4.out.mono (T := TurnB R A) (fun _ _ e => .inl e))) (.inl (Nat.le_refl _)) (.int .i64 k') (.int .i64 c') (.int .u32 x') (.int .u32 y') (.int .u32 v)
  have hm9 := HMM.out.far (five_only (Only.refl (· = w.heap.size) w4) (.inr rfl) (.int .i64 k') (.int .i64 c') (.int .u32 x') (.int .u32 y') (.int .u32 v)) (fun j hj h => by have := HA.out j hj; omega)
  exact post_row_tmp (P := Try.prog) Try.results79 (t := 59) (g := w.heap.size) (cs := #[.int .i64 k', .int .i64 c', .int .u32 x', .int .u32 y', .int .u32 v]) rfl (five HR4.out _ _ _ _ _) Try.underlying59 rfl (by kernel_rfl) rfl ⟨by rw [HV.out, HWD.out]; rfl, ho9, hm9, by rw [HWD.out]; exact HRW.out⟩
end Go.Proofs.Ytaeninikaalkjaa
