import Derived.Test.YtaeninikaalkjaaGreatH19
import Derived.Test.YtaeninikaalkjaaGreatH18
set_option linter.unusedVariables false
set_option linter.unusedSimpArgs false
namespace Go.Proofs.YtaeninikaalkjaaGreat
open Go.RowKit
section
variable {r : LS} {a : Int} {ok : Bool} {j : Nat}
structure LS.Fr (r r' : LS) : Prop where
  n : r'.n = r.n
  mode : r'.mode = r.mode
  task : r'.task = r.task
  op : r'.op = r.op
  s : r'.s = r.s
theorem LS.Fr.refl (r : LS) : r.Fr r := ⟨rfl, rfl, rfl, rfl, rfl⟩
end
end Go.Proofs.YtaeninikaalkjaaGreat
set_option linter.unusedVariables false
set_option linter.unusedSimpArgs false
namespace Go.Proofs.YtaeninikaalkjaaGreat
open Go.RowKit
def rF (v : Int) : Int := v % 256
def oF (v : Int) : Int := v / 256 % 256
def iF (v : Int) : Int := v / 65536 % 256
def freeW (v : Int) : Bool := iF v == oF v
def nextO (v : Int) : Int := ((oF v + 1) % 256 - oF v) * 256 % 4294967296
def turnW (x : Int) (v : Int) : Bool := oF v == x && rF v == 0
def wfCase (op line : Int) : Nat :=
  if op = 1 ∧ line = 0 then 1 else if op = 1 ∧ line = 1 then 2 else if op = 1 ∧ line = 2 then 3 else if op = 1 ∧ line = 3 then 4 else if op = 2 ∧ line = 0 then 5 else if op = 3 ∧ line = 0 then 6 else if op = 3 ∧ line = 1 then 7
  else if op = 4 ∧ line = 0 then 8 else if op = 8 ∧ line = 0 then 8 else if op = 4 ∧ line = 1 then 9 else if op = 8 ∧ line = 1 then 10 else if op = 5 ∧ line = 0 then 11 else if op = 6 ∧ line = 0 then 12 else if op = 7 ∧ line = 0 then 13
  else if op = 5 ∧ line = 1 then 14 else if op = 6 ∧ line = 1 then 15 else if op = 7 ∧ line = 1 then 16 else 0
def LS.noteR (r : LS) (b : Bool) : LS := if b then r.note 2 1 else r
def LS.gSee (r : LS) (b : Bool) : LS := if freeW (wordAt r.xs 0) then (((r.doA 1 0 0 0).keepA (wordAt r.xs 0)).noteR b).go 1 else (((r.doA 1 0 0 0).keepA (wordAt r.xs 0)).noteR b).go 2
def LS.gCas (r : LS) (d : Int) : LS := r.doA 5 0 r.a ((r.a + d) % 4294967296)
def LS.gTake (r : LS) : LS := if r.at0 r.a then ((r.gCas 1).note 4 0).fin true else (r.gCas 1).go 3
def LS.seeW (r : LS) : LS := if (r.stepR 0 freeW).seen then (r.wait 0 freeW).keepA (wordAt r.xs 0) else r.wait 0 freeW
def LS.gWait (r : LS) : LS := if (r.stepR 0 freeW).done then r.seeW.go 1 else r.seeW
def LS.gCome (r : LS) : LS := (((r.doA 3 0 65536 0).keepA (wordAt r.xs 0)).note 2 2).go 1
def LS.gLoad (r : LS) : LS := ((r.doA 1 0 0 0).keepA (wordAt r.xs 0)).go 1
def LS.gLeave (r : LS) : LS := ((((r.doA 3 0 (nextO r.a) 0).note 7 0).note 8 0).wake 0).fin true
def LS.gDown (r : LS) : LS := (((r.doA 3 0 ((nextO r.a + 1) % 4294967296) 0).note 10 0).wake 0).fin true
def LS.gSlip (r : LS) : LS := if r.at0 r.a then (((r.gCas 1).note 2 1).note 4 0).fin true else (r.gCas 1).go 0
def LS.gTry (r : LS) : LS := if r.at0 r.a then (((r.gCas 65536).note 2 2).note 4 0).fin true else (r.gCas 65536).go 0
def LS.gUp (r : LS) : LS := if r.at0 r.a then ((r.gCas 65535).note 9 0).fin true else (r.gCas 65535).go 0
def LS.wf (r : LS) : LS :=
  match wfCase r.op r.line with
  | 1 => r.gSee true
  | 2 => r.gTake
  | 3 => r.gWait
  | 4 => r.gSee false
  | 5 => r.fGo
  | 6 => r.gCome
  | 7 => r.pAdmit 0 (turnW (iF r.a))
  | 8 => r.gLoad
  | 9 => r.gLeave
  | 10 => r.gDown
  | 11 => r.fLook (freeW (wordAt r.xs 0))
  | 12 => r.fLook (freeW (wordAt r.xs 0) && rF (wordAt r.xs 0) == 0)
  | 13 => r.fLook (freeW (wordAt r.xs 0) && rF (wordAt r.xs 0) == 1)
  | 14 => r.gSlip
  | 15 => r.gTry
  | 16 => r.gUp
  | _ => r
section
variable {r : LS}
theorem wf_1_0 (h1 : r.op = 1) (h2 : r.line = 0) : r.wf = r.gSee true := by unfold LS.wf; rw [h1, h2]; rfl
theorem wf_1_1 (h1 : r.op = 1) (h2 : r.line = 1) : r.wf = r.gTake := by unfold LS.wf; rw [h1, h2]; rfl
theorem wf_1_2 (h1 : r.op = 1) (h2 : r.line = 2) : r.wf = r.gWait := by unfold LS.wf; rw [h1, h2]; rfl
theorem wf_1_3 (h1 : r.op = 1) (h2 : r.line = 3) : r.wf = r.gSee false := by unfold LS.wf; rw [h1, h2]; rfl
theorem wf_2_0 (h1 : r.op = 2) (h2 : r.line = 0) : r.wf = r.fGo := by unfold LS.wf; rw [h1, h2]; rfl
theorem wf_3_0 (h1 : r.op = 3) (h2 : r.line = 0) : r.wf = r.gCome := by unfold LS.wf; rw [h1, h2]; rfl
theorem wf_3_1 (h1 : r.op = 3) (h2 : r.line = 1) : r.wf = r.pAdmit 0 (turnW (iF r.a)) := by unfold LS.wf; rw [h1, h2]; rfl
theorem wf_4_0 (h1 : r.op = 4) (h2 : r.line = 0) : r.wf = r.gLoad := by unfold LS.wf; rw [h1, h2]; rfl
theorem wf_8_0 (h1 : r.op = 8) (h2 : r.line = 0) : r.wf = r.gLoad := by unfold LS.wf; rw [h1, h2]; rfl
theorem wf_4_1 (h1 : r.op = 4) (h2 : r.line = 1) : r.wf = r.gLeave := by unfold LS.wf; rw [h1, h2]; rfl
theorem wf_8_1 (h1 : r.op = 8) (h2 : r.line = 1) : r.wf = r.gDown := by unfold LS.wf; rw [h1, h2]; rfl
theorem wf_5_0 (h1 : r.op = 5) (h2 : r.line = 0) : r.wf = r.fLook (freeW (wordAt r.xs 0)) := by unfold LS.wf; rw [h1, h2]; rfl
theorem wf_6_0 (h1 : r.op = 6) (h2 : r.line = 0) : r.wf = r.fLook (freeW (wordAt r.xs 0) && rF (wordAt r.xs 0) == 0) := by unfold LS.wf; rw [h1, h2]; rfl
theorem wf_7_0 (h1 : r.op = 7) (h2 : r.line = 0) : r.wf = r.fLook (freeW (wordAt r.xs 0) && rF (wordAt r.xs 0) == 1) := by unfold LS.wf; rw [h1, h2]; rfl
theorem wf_5_1 (h1 : r.op = 5) (h2 : r.line = 1) : r.wf = r.gSlip := by unfold LS.wf; rw [h1, h2]; rfl
theorem wf_6_1 (h1 : r.op = 6) (h2 : r.line = 1) : r.wf = r.gTry := by unfold LS.wf; rw [h1, h2]; rfl
theorem wf_7_1 (h1 : r.op = 7) (h2 : r.line = 1) : r.wf = r.gUp := by unfold LS.wf; rw [h1, h2]; rfl
end
end Go.Proofs.YtaeninikaalkjaaGreat
set_option linter.unusedVariables false
set_option linter.unusedSimpArgs false
namespace Go.Proofs.YtaeninikaalkjaaGreat
open Go.RowKit
section
variable {r : LS}
theorem keep_gcas (d : Int) : r.Keep (r.gCas d) 0 := by unfold LS.gCas; exact keep_cas _ _ (by omega)
theorem good_noteR (b : Bool) : r.Good (r.noteR b) 1 := by
  cases b
  · exact (good_refl r).le (by decide)
  · exact good_note 2 1
theorem noteR_a (R : LS) (b : Bool) : (R.noteR b).a = R.a := by cases b <;> rfl
theorem keep_gsee (b : Bool) : r.Keep (r.gSee b) 2 := by
  unfold LS.gSee
  have h : r.Keep (((r.doA 1 0 0 0).keepA (wordAt r.xs 0)).noteR b) 1 := keep_at (((good_load _).trans (good_keepA _)).trans (good_noteR b) |>.le (by decide)) 0 ((noteR_a _ _).trans rfl)
  split
  · exact (h.next (good_go 1) rfl).le (by decide)
  · exact (h.next (good_go 2) rfl).le (by decide)
theorem keep_seeW : r.Keep r.seeW 0 := by
  unfold LS.seeW
  split
  · exact keep_at ((good_wait 0 freeW).trans (good_keepA _)) 0 rfl
  · exact keep_self (good_wait 0 freeW) rfl
theorem keep_padm (q : Int → Bool) : r.Keep (r.pAdmit 0 q) 2 := by
  unfold LS.pAdmit
  have hN : ∀ (R : LS) (b : Bool), (R.noteIf b 4).a = R.a := fun R b => by cases b <;> rfl
  have h : r.Keep ((r.wait 0 q).noteIf (r.stepR 0 q).seen 4) 1 := keep_self (((good_wait 0 q).trans (good_noteIf _ _)).le (by decide)) ((hN _ _).trans rfl)
  split
  · exact (h.next (good_fin true) rfl).le (by decide)
  · exact h.le (by decide)
theorem keep_wf : r.Keep r.wf 2 := by
  unfold LS.wf
  split
  · exact keep_gsee true
  · unfold LS.gTake
    have h := keep_gcas (r := r) 1
    generalize r.gCas 1 = R at h ⊢
    split
    · exact ((h.next (good_note 4 0) rfl).next (good_fin true) rfl).le (by decide)
    · exact (h.next (good_go 3) rfl).le (by decide)
  · unfold LS.gWait
    have h := keep_seeW (r := r)
    generalize r.seeW = R at h ⊢
    split
    · exact (h.next (good_go 1) rfl).le (by decide)
    · exact h.le (by decide)
  · exact keep_gsee false
  · exact (keep_self ((((good_add 0 4294967295).trans (good_note 6 0)).trans (good_wake 0)).trans (good_fin true)) rfl).le (by decide)
  · exact keep_at ((((good_add 0 65536).trans (good_keepA _)).trans (good_note 2 2)).trans (good_go 1) |>.le (by decide)) 0 rfl
  · exact keep_padm _
  · exact keep_at (((good_load 0).trans (good_keepA _)).trans (good_go 1) |>.le (by decide)) 0 rfl
  · unfold LS.gLeave
    generalize nextO r.a = x
    exact (keep_self (((((good_add 0 x).trans (good_note 7 0)).trans (good_note 8 0)).trans (good_wake 0)).trans (good_fin true)) rfl).le (by decide)
  · unfold LS.gDown
    generalize (nextO r.a + 1) % 4294967296 = x
    exact (keep_self ((((good_add 0 x).trans (good_note 10 0)).trans (good_wake 0)).trans (good_fin true)) rfl).le (by decide)
  · exact keep_look _
  · exact keep_look _
  · exact keep_look _
  · unfold LS.gSlip
    have h := keep_gcas (r := r) 1
    generalize r.gCas 1 = R at h ⊢
    split
    · exact (((h.next (good_note 2 1) rfl).next (good_note 4 0) rfl).next (good_fin true) rfl).le (by decide)
    · exact (h.next (good_go 0) rfl).le (by decide)
  · unfold LS.gTry
    have h := keep_gcas (r := r) 65536
    generalize r.gCas 65536 = R at h ⊢
    split
    · exact (((h.next (good_note 2 2) rfl).next (good_note 4 0) rfl).next (good_fin true) rfl).le (by decide)
    · exact (h.next (good_go 0) rfl).le (by decide)
  · unfold LS.gUp
    have h := keep_gcas (r := r) 65535
    generalize r.gCas 65535 = R at h ⊢
    split
    · exact ((h.next (good_note 9 0) rfl).next (good_fin true) rfl).le (by decide)
    · exact (h.next (good_go 0) rfl).le (by decide)
  · exact (keep_self (good_refl r) rfl).le (by decide)
theorem good_wf : r.Good r.wf 2 := keep_wf.1
end
end Go.Proofs.YtaeninikaalkjaaGreat
