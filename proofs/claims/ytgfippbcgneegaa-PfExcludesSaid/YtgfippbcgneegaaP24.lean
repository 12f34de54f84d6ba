import Derived.Test.YtgfippbcgneegaaP22
import Derived.Test.YtgfippbcgneegaaP18
import Derived.Test.YtgfippbcgneegaaP23
set_option linter.unusedVariables false
set_option linter.unusedSimpArgs false
namespace Go.Proofs.Ytgfippbcgneegaa
def rdOf (h : Int) (r : LS) : Rd :=
  if r.op = 0 then (if h = 1 then .reads else .no)
  else if r.op = 1 then (if r.line = 0 then .no else if r.s = 4 then .reads else .waits (bitsI r.a))
  else if r.op = 2 then (if r.k.on then .no else .reads)
  else if r.op = 7 then .reads
  else if r.op = 8 then (if r.line = 0 ∨ r.line = 1 then .no else .reads)
  else .no
def wrOf (h : Int) (r : LS) : Wr :=
  if r.op = 0 then (if h = 2 then .writes else .no)
  else if r.op = 3 then (if r.line = 0 then .no else if r.line = 1 then (if r.s = 4 then .turn else .waits) else if r.line = 4 then (if r.s = 4 then .writes else .comes) else .turn)
  else if r.op = 4 ∨ r.op = 8 then (if r.line = 0 ∨ r.line = 1 then .writes else if r.line = 2 then .left else if r.ret = 0 then .last else .no)
  else if r.op = 6 ∨ r.op = 7 then (if r.line = 0 ∨ r.line = 1 ∨ r.line = 2 then .no else if r.line = 7 then (if r.s = 4 then .writes else .comes) else if r.line = 8 then .writes else if r.line = 9 then (if r.ret = 0 then .last else .no) else .turn)
  else .no
def lineP (h : Int) (r : LS) : Prop :=
  (r.op = 0 ∧ (h = 0 ∨ h = 1 ∨ h = 2)) ∨ (r.op = 1 ∧ h = 0 ∧ (r.line = 0 ∨ r.line = 1)) ∨ (r.op = 2 ∧ h = 0 ∧ r.line = 0) ∨ (r.op = 3 ∧ h = 0 ∧ (r.line = 0 ∨ r.line = 1 ∨ r.line = 2 ∨ r.line = 3 ∨ r.line = 4)) ∨ (r.op = 4 ∧ h = 0 ∧ (r.line = 0 ∨ r.line = 1 ∨ r.line = 2 ∨ r.line = 3))
  ∨ (r.op = 5 ∧ h = 0 ∧ (r.line = 0 ∨ r.line = 1)) ∨ (r.op = 6 ∧ h = 0 ∧ (r.line = 0 ∨ r.line = 1 ∨ r.line = 2 ∨ r.line = 3 ∨ r.line = 4 ∨ r.line = 5 ∨ r.line = 6 ∨ r.line = 7 ∨ r.line = 9))
  ∨ (r.op = 7 ∧ h = 1 ∧ (r.line = 0 ∨ r.line = 1 ∨ r.line = 2 ∨ r.line = 3 ∨ r.line = 4 ∨ r.line = 5 ∨ r.line = 6 ∨ r.line = 7 ∨ r.line = 8 ∨ r.line = 9)) ∨ (r.op = 8 ∧ h = 1 ∧ (r.line = 0 ∨ r.line = 1 ∨ r.line = 2 ∨ r.line = 3))
def wakeP (r : LS) : Prop := r.k.on = true → (r.op = 2 ∧ r.ret = 2) ∨ ((r.op = 4 ∨ r.op = 8) ∧ r.line = 2 ∧ r.ret = 0) ∨ ((r.op = 4 ∨ r.op = 8) ∧ r.line = 3 ∧ r.ret = 2) ∨ ((r.op = 6 ∨ r.op = 7) ∧ r.line = 9 ∧ r.ret = 1)
def wtP : WtF := fun op line a =>
  if op = 1 ∧ line = 1 then some (0, fun v => bitsI v != bitsI a) else if op = 3 ∧ line = 1 then some (3, fun v => v == a)
  else if (op = 3 ∧ line = 4) ∨ (op = 6 ∧ line = 7) then some (1, fun v => v == a) else if op = 7 ∧ line = 7 then some (1, fun v => v == (a - 256) % 4294967296) else none
theorem pf_1_0 {r : LS} (h1 : r.op = 1) (h2 : r.line = 0) : r.pf = r.pCome := by unfold LS.pf; rw [h1, h2]; rfl
theorem pf_1_1 {r : LS} (h1 : r.op = 1) (h2 : r.line = 1) : r.pf = r.pAdmit 0 r.left := by unfold LS.pf; rw [h1, h2]; rfl
theorem pf_2_0 {r : LS} (h1 : r.op = 2) (h2 : r.line = 0) : r.pf = r.pDepart := by unfold LS.pf; rw [h1, h2]; rfl
theorem pf_3_0 {r : LS} (h1 : r.op = 3) (h2 : r.line = 0) : r.pf = r.pDraw := by unfold LS.pf; rw [h1, h2]; rfl
theorem pf_3_1 {r : LS} (h1 : r.op = 3) (h2 : r.line = 1) : r.pf = r.pTurn := by unfold LS.pf; rw [h1, h2]; rfl
theorem pf_3_2 {r : LS} (h1 : r.op = 3) (h2 : r.line = 2) : r.pf = r.pKeep 3 := by unfold LS.pf; rw [h1, h2]; rfl
theorem pf_3_3 {r : LS} (h1 : r.op = 3) (h2 : r.line = 3) : r.pf = r.pAppear 4 := by unfold LS.pf; rw [h1, h2]; rfl
theorem pf_3_4 {r : LS} (h1 : r.op = 3) (h2 : r.line = 4) : r.pf = r.pAdmit 1 r.mine := by unfold LS.pf; rw [h1, h2]; rfl
theorem pf_4_0 {r : LS} (h1 : r.op = 4) (h2 : r.line = 0) : r.pf = r.pKeep 1 := by unfold LS.pf; rw [h1, h2]; rfl
theorem pf_8_0 {r : LS} (h1 : r.op = 8) (h2 : r.line = 0) : r.pf = r.pKeep 1 := by unfold LS.pf; rw [h1, h2]; rfl
theorem pf_4_1 {r : LS} (h1 : r.op = 4) (h2 : r.line = 1) : r.pf = r.pVanish 0 7 := by unfold LS.pf; rw [h1, h2]; rfl
theorem pf_8_1 {r : LS} (h1 : r.op = 8) (h2 : r.line = 1) : r.pf = r.pVanish 256 10 := by unfold LS.pf; rw [h1, h2]; rfl
theorem pf_4_2 {r : LS} (h1 : r.op = 4) (h2 : r.line = 2) : r.pf = r.pCount := by unfold LS.pf; rw [h1, h2]; rfl
theorem pf_8_2 {r : LS} (h1 : r.op = 8) (h2 : r.line = 2) : r.pf = r.pCount := by unfold LS.pf; rw [h1, h2]; rfl
theorem pf_4_3 {r : LS} (h1 : r.op = 4) (h2 : r.line = 3) : r.pf = r.pPass true := by unfold LS.pf; rw [h1, h2]; rfl
theorem pf_8_3 {r : LS} (h1 : r.op = 8) (h2 : r.line = 3) : r.pf = r.pPass true := by unfold LS.pf; rw [h1, h2]; rfl
theorem pf_5_0 {r : LS} (h1 : r.op = 5) (h2 : r.line = 0) : r.pf = r.pLookIn := by unfold LS.pf; rw [h1, h2]; rfl
theorem pf_5_1 {r : LS} (h1 : r.op = 5) (h2 : r.line = 1) : r.pf = r.pSlip := by unfold LS.pf; rw [h1, h2]; rfl
theorem pf_6_0 {r : LS} (h1 : r.op = 6) (h2 : r.line = 0) : r.pf = r.pLook 2 1 := by unfold LS.pf; rw [h1, h2]; rfl
theorem pf_7_0 {r : LS} (h1 : r.op = 7) (h2 : r.line = 0) : r.pf = r.pLook 2 1 := by unfold LS.pf; rw [h1, h2]; rfl
theorem pf_6_1 {r : LS} (h1 : r.op = 6) (h2 : r.line = 1) : r.pf = r.pWeighT := by unfold LS.pf; rw [h1, h2]; rfl
theorem pf_7_1 {r : LS} (h1 : r.op = 7) (h2 : r.line = 1) : r.pf = r.pWeighT := by unfold LS.pf; rw [h1, h2]; rfl
theorem pf_6_2 {r : LS} (h1 : r.op = 6) (h2 : r.line = 2) : r.pf = r.pClaim := by unfold LS.pf; rw [h1, h2]; rfl
theorem pf_7_2 {r : LS} (h1 : r.op = 7) (h2 : r.line = 2) : r.pf = r.pClaim := by unfold LS.pf; rw [h1, h2]; rfl
theorem pf_6_3 {r : LS} (h1 : r.op = 6) (h2 : r.line = 3) : r.pf = r.pLook 0 4 := by unfold LS.pf; rw [h1, h2]; rfl
theorem pf_7_3 {r : LS} (h1 : r.op = 7) (h2 : r.line = 3) : r.pf = r.pLook 0 4 := by unfold LS.pf; rw [h1, h2]; rfl
theorem pf_6_4 {r : LS} (h1 : r.op = 6) (h2 : r.line = 4) : r.pf = r.pWeighR 0 := by unfold LS.pf; rw [h1, h2]; rfl
theorem pf_7_4 {r : LS} (h1 : r.op = 7) (h2 : r.line = 4) : r.pf = r.pWeighR 256 := by unfold LS.pf; rw [h1, h2]; rfl
theorem pf_6_5 {r : LS} (h1 : r.op = 6) (h2 : r.line = 5) : r.pf = r.pKeep 6 := by unfold LS.pf; rw [h1, h2]; rfl
theorem pf_7_5 {r : LS} (h1 : r.op = 7) (h2 : r.line = 5) : r.pf = r.pKeep 6 := by unfold LS.pf; rw [h1, h2]; rfl
theorem pf_6_6 {r : LS} (h1 : r.op = 6) (h2 : r.line = 6) : r.pf = r.pAppear 7 := by unfold LS.pf; rw [h1, h2]; rfl
theorem pf_7_6 {r : LS} (h1 : r.op = 7) (h2 : r.line = 6) : r.pf = r.pAppear 7 := by unfold LS.pf; rw [h1, h2]; rfl
theorem pf_6_7 {r : LS} (h1 : r.op = 6) (h2 : r.line = 7) : r.pf = r.pAdmit 1 r.mine := by unfold LS.pf; rw [h1, h2]; rfl
theorem pf_7_7 {r : LS} (h1 : r.op = 7) (h2 : r.line = 7) : r.pf = r.pOthers := by unfold LS.pf; rw [h1, h2]; rfl
theorem pf_7_8 {r : LS} (h1 : r.op = 7) (h2 : r.line = 8) : r.pf = r.pStop := by unfold LS.pf; rw [h1, h2]; rfl
theorem pf_6_9 {r : LS} (h1 : r.op = 6) (h2 : r.line = 9) : r.pf = r.pPass false := by unfold LS.pf; rw [h1, h2]; rfl
theorem pf_7_9 {r : LS} (h1 : r.op = 7) (h2 : r.line = 9) : r.pf = r.pPass false := by unfold LS.pf; rw [h1, h2]; rfl
theorem pc_ite {p : Prop} [Decidable p] {P : Nat → Prop} {a b : Nat} (h1 : p → P a) (h2 : ¬ p → P b) : P (if p then a else b) := by
  by_cases h : p
  · rw [if_pos h]; exact h1 h
  · rw [if_neg h]; exact h2 h
def PW (op line : Int) (n : Nat) : Prop := (n = 2 → op = 1 ∧ line = 1) ∧ (n = 5 → op = 3 ∧ line = 1) ∧ (n = 8 → op = 3 ∧ line = 4) ∧ (n = 24 → op = 6 ∧ line = 7) ∧ (n = 25 → op = 7 ∧ line = 7)
theorem pfCase_w (op line : Int) : PW op line (pfCase op line) := by
  have z : ∀ n : Nat, n ≠ 2 → n ≠ 5 → n ≠ 8 → n ≠ 24 → n ≠ 25 → PW op line n := fun n a b c d e => ⟨fun h => absurd h a, fun h => absurd h b, fun h => absurd h c, fun h => absurd h d, fun h => absurd h e⟩
  unfold pfCase
  refine pc_ite (P := PW op line) (fun h => z 1 (by decide) (by decide) (by decide) (by decide) (by decide)) (fun _ => ?_)
  refine pc_ite (P := PW op line) (fun h => ⟨fun _ => h, fun e => (by cases e), fun e => (by cases e), fun e => (by cases e), fun e => (by cases e)⟩) (fun _ => ?_)
  refine pc_ite (P := PW op line) (fun h => z 3 (by decide) (by decide) (by decide) (by decide) (by decide)) (fun _ => ?_)
  refine pc_ite (P := PW op line) (fun h => z 4 (by decide) (by decide) (by decide) (by decide) (by decide)) (fun _ => ?_)
  refine pc_ite (P := PW op line) (fun h => ⟨fun e => (by cases e), fun _ => h, fun e => (by cases e), fun e => (by cases e), fun e => (by cases e)⟩) (fun _ => ?_)
  refine pc_ite (P := PW op line) (fun h => z 6 (by decide) (by decide) (by decide) (by decide) (by decide)) (fun _ => ?_)
  refine pc_ite (P := PW op line) (fun h => z 7 (by decide) (by decide) (by decide) (by decide) (by decide)) (fun _ => ?_)
  refine pc_ite (P := PW op line) (fun h => ⟨fun e => (by cases e), fun e => (by cases e), fun _ => h, fun e => (by cases e), fun e => (by cases e)⟩) (fun _ => ?_)
  refine pc_ite (P := PW op line) (fun h => z 9 (by decide) (by decide) (by decide) (by decide) (by decide)) (fun _ => ?_)
  refine pc_ite (P := PW op line) (fun h => z 9 (by decide) (by decide) (by decide) (by decide) (by decide)) (fun _ => ?_)
  refine pc_ite (P := PW op line) (fun h => z 10 (by decide) (by decide) (by decide) (by decide) (by decide)) (fun _ => ?_)
  refine pc_ite (P := PW op line) (fun h => z 11 (by decide) (by decide) (by decide) (by decide) (by decide)) (fun _ => ?_)
  refine pc_ite (P := PW op line) (fun h => z 12 (by decide) (by decide) (by decide) (by decide) (by decide)) (fun _ => ?_)
  refine pc_ite (P := PW op line) (fun h => z 12 (by decide) (by decide) (by decide) (by decide) (by decide)) (fun _ => ?_)
  refine pc_ite (P := PW op line) (fun h => z 13 (by decide) (by decide) (by decide) (by decide) (by decide)) (fun _ => ?_)
  refine pc_ite (P := PW op line) (fun h => z 13 (by decide) (by decide) (by decide) (by decide) (by decide)) (fun _ => ?_)
  refine pc_ite (P := PW op line) (fun h => z 14 (by decide) (by decide) (by decide) (by decide) (by decide)) (fun _ => ?_)
  refine pc_ite (P := PW op line) (fun h => z 15 (by decide) (by decide) (by decide) (by decide) (by decide)) (fun _ => ?_)
  refine pc_ite (P := PW op line) (fun h => z 16 (by decide) (by decide) (by decide) (by decide) (by decide)) (fun _ => ?_)
  refine pc_ite (P := PW op line) (fun h => z 16 (by decide) (by decide) (by decide) (by decide) (by decide)) (fun _ => ?_)
  refine pc_ite (P := PW op line) (fun h => z 17 (by decide) (by decide) (by decide) (by decide) (by decide)) (fun _ => ?_)
  refine pc_ite (P := PW op line) (fun h => z 17 (by decide) (by decide) (by decide) (by decide) (by decide)) (fun _ => ?_)
  refine pc_ite (P := PW op line) (fun h => z 18 (by decide) (by decide) (by decide) (by decide) (by decide)) (fun _ => ?_)
  refine pc_ite (P := PW op line) (fun h => z 18 (by decide) (by decide) (by decide) (by decide) (by decide)) (fun _ => ?_)
  refine pc_ite (P := PW op line) (fun h => z 19 (by decide) (by decide) (by decide) (by decide) (by decide)) (fun _ => ?_)
  refine pc_ite (P := PW op line) (fun h => z 19 (by decide) (by decide) (by decide) (by decide) (by decide)) (fun _ => ?_)
  refine pc_ite (P := PW op line) (fun h => z 20 (by decide) (by decide) (by decide) (by decide) (by decide)) (fun _ => ?_)
  refine pc_ite (P := PW op line) (fun h => z 21 (by decide) (by decide) (by decide) (by decide) (by decide)) (fun _ => ?_)
  refine pc_ite (P := PW op line) (fun h => z 22 (by decide) (by decide) (by decide) (by decide) (by decide)) (fun _ => ?_)
  refine pc_ite (P := PW op line) (fun h => z 22 (by decide) (by decide) (by decide) (by decide) (by decide)) (fun _ => ?_)
  refine pc_ite (P := PW op line) (fun h => z 23 (by decide) (by decide) (by decide) (by decide) (by decide)) (fun _ => ?_)
  refine pc_ite (P := PW op line) (fun h => z 23 (by decide) (by decide) (by decide) (by decide) (by decide)) (fun _ => ?_)
  refine pc_ite (P := PW op line) (fun h => ⟨fun e => (by cases e), fun e => (by cases e), fun e => (by cases e), fun _ => h, fun e => (by cases e)⟩) (fun _ => ?_)
  refine pc_ite (P := PW op line) (fun h => ⟨fun e => (by cases e), fun e => (by cases e), fun e => (by cases e), fun e => (by cases e), fun _ => h⟩) (fun _ => ?_)
  refine pc_ite (P := PW op line) (fun h => z 26 (by decide) (by decide) (by decide) (by decide) (by decide)) (fun _ => ?_)
  refine pc_ite (P := PW op line) (fun h => z 27 (by decide) (by decide) (by decide) (by decide) (by decide)) (fun _ => ?_)
  refine pc_ite (P := PW op line) (fun h => z 27 (by decide) (by decide) (by decide) (by decide) (by decide)) (fun _ => ?_)
  exact z 0 (by decide) (by decide) (by decide) (by decide) (by decide)
section
variable {r : LS}
theorem addp {xs : List Int} {c x d : Int} (hc : c < 8) (hd : 8 ≤ d) : wordAt (doNew xs 3 c x 0) d = wordAt xs d := own_add_far (by omega)
theorem casp {xs : List Int} {c x y d : Int} (hc : c < 8) (hd : 8 ≤ d) : wordAt (doNew xs 5 c x y) d = wordAt xs d := own_cas_far (by omega)
theorem stop4 {xs : List Int} {x d : Int} (h : (4 : Int) ≠ d) : wordAt (doNew xs 2 4 x 0) d = wordAt xs d := by rw [doNew_st _ _ _ _ _ rfl, word_far _ h]
theorem app_p (n : Int) : (r.pAppear n).op = r.op ∧ (r.pAppear n).line = n ∧ (r.pAppear n).k = r.k ∧ (r.pAppear n).ret = r.ret ∧ (r.pAppear n).s = r.s ∧ (r.pAppear n).xs = doNew r.xs 3 0 (presI r.b) 0 ∧ (r.pAppear n).a = wordAt r.xs 0 ∧ (r.pAppear n).b = r.b := by simp only [LS.pAppear, LS.doA, LS.keepA, LS.keepB, LS.note, LS.go, LS.fin, LS.wake, and_self]
theorem van_p (i w : Int) : (r.pVanish i w).op = r.op ∧ (r.pVanish i w).line = 2 ∧ (r.pVanish i w).k = beginI r.mode 0 ∧ (r.pVanish i w).ret = r.ret ∧ (r.pVanish i w).s = r.s ∧ (r.pVanish i w).xs = doNew r.xs 3 0 ((i - presI r.b) % 4294967296) 0 ∧ (r.pVanish i w).b = r.b := by simp only [LS.pVanish, LS.doA, LS.keepA, LS.keepB, LS.note, LS.go, LS.fin, LS.wake, and_self]
theorem cnt_p : r.pCount.op = r.op ∧ r.pCount.line = 3 ∧ r.pCount.k = r.k ∧ r.pCount.ret = r.ret ∧ r.pCount.s = r.s ∧ r.pCount.xs = doNew r.xs 2 4 ((r.b + 1) % 4294967296) 0 := by simp only [LS.pCount, LS.doA, LS.keepA, LS.keepB, LS.note, LS.go, LS.fin, LS.wake, and_self]
theorem pass_p (ok : Bool) : (r.pPass ok).op = r.op ∧ (r.pPass ok).line = r.line ∧ (r.pPass ok).k = beginI r.mode 3 ∧ (r.pPass ok).ret = (if ok then 2 else 1) ∧ (r.pPass ok).s = r.s ∧ (r.pPass ok).xs = doNew r.xs 3 3 1 0 := by simp only [LS.pPass, LS.doA, LS.keepA, LS.keepB, LS.note, LS.go, LS.fin, LS.wake, and_self]
theorem dep_p : r.pDepart.op = r.op ∧ r.pDepart.line = r.line ∧ r.pDepart.k = beginI r.mode 1 ∧ r.pDepart.ret = 2 ∧ r.pDepart.s = r.s ∧ r.pDepart.xs = doNew r.xs 3 1 256 0 := by simp [LS.pDepart, LS.doA, LS.keepA, LS.keepB, LS.note, LS.go, LS.fin, LS.wake]
theorem lines_pf : LinesOK LS.pf wtP := by
  refine ⟨fun op line a c q h => ?_, fun line a => ?_, fun op a => ?_, fun r => ?_, fun r c q hon hw => ?_, fun r hon hw => ?_⟩
  · unfold wtP at h
    by_cases e1 : op = 1 ∧ line = 1
    · rw [if_pos e1] at h; obtain ⟨rfl, _⟩ := Prod.mk.inj (Option.some.inj h); decide
    rw [if_neg e1] at h
    by_cases e2 : op = 3 ∧ line = 1
    · rw [if_pos e2] at h; obtain ⟨rfl, _⟩ := Prod.mk.inj (Option.some.inj h); decide
    rw [if_neg e2] at h
    by_cases e3 : (op = 3 ∧ line = 4) ∨ (op = 6 ∧ line = 7)
    · rw [if_pos e3] at h; obtain ⟨rfl, _⟩ := Prod.mk.inj (Option.some.inj h); decide
    rw [if_neg e3] at h
    by_cases e4 : op = 7 ∧ line = 7
    · rw [if_pos e4] at h; obtain ⟨rfl, _⟩ := Prod.mk.inj (Option.some.inj h); decide
    rw [if_neg e4] at h; cases h
  · unfold wtP; rw [if_neg (by omega), if_neg (by omega), if_neg (by omega), if_neg (by omega)]
  · unfold wtP; rw [if_neg (by omega), if_neg (by omega), if_neg (by omega), if_neg (by omega)]
  · have g := good_pf (r := r)
    exact ⟨g.n, g.mode, g.task, g.op, g.len⟩
  · have adm : ∀ (c : Int) (q : Int → Bool), WaitLine r (r.pAdmit c q) c q := fun c q => by
      unfold LS.pAdmit LS.noteIf
      split
      · rename_i hd
        split <;> exact ⟨rfl, rfl, rfl, rfl, fun e2 => absurd e2 (by rw [hd]; decide)⟩
      · split <;> exact ⟨rfl, rfl, rfl, rfl, fun _ => ⟨rfl, rfl⟩⟩
    unfold wtP at hw
    by_cases e1 : r.op = 1 ∧ r.line = 1
    · rw [if_pos e1] at hw; obtain ⟨rfl, rfl⟩ := Prod.mk.inj (Option.some.inj hw)
      rw [pf_1_1 e1.1 e1.2]; exact adm 0 r.left
    rw [if_neg e1] at hw
    by_cases e2 : r.op = 3 ∧ r.line = 1
    · rw [if_pos e2] at hw; obtain ⟨rfl, rfl⟩ := Prod.mk.inj (Option.some.inj hw)
      rw [pf_3_1 e2.1 e2.2]
      unfold LS.pTurn
      split
      · rename_i hd
        exact ⟨rfl, rfl, rfl, rfl, fun e2 => absurd (show (r.stepR 3 r.mine).done = false from e2) (by rw [hd]; decide)⟩
      · exact ⟨rfl, rfl, rfl, rfl, fun _ => ⟨rfl, rfl⟩⟩
    rw [if_neg e2] at hw
    by_cases e3 : (r.op = 3 ∧ r.line = 4) ∨ (r.op = 6 ∧ r.line = 7)
    · rw [if_pos e3] at hw; obtain ⟨rfl, rfl⟩ := Prod.mk.inj (Option.some.inj hw)
      rcases e3 with e3 | e3
      · rw [pf_3_4 e3.1 e3.2]; exact adm 1 r.mine
      · rw [pf_6_7 e3.1 e3.2]; exact adm 1 r.mine
    rw [if_neg e3] at hw
    by_cases e4 : r.op = 7 ∧ r.line = 7
    · rw [if_pos e4] at hw; obtain ⟨rfl, rfl⟩ := Prod.mk.inj (Option.some.inj hw)
      rw [pf_7_7 e4.1 e4.2]
      unfold LS.pOthers LS.noteIf
      split
      · rename_i hd
        split <;> exact ⟨rfl, rfl, rfl, rfl, fun e2 => absurd (show (r.stepR 1 r.butMe).done = false from e2) (by rw [hd]; decide)⟩
      · split <;> exact ⟨rfl, rfl, rfl, rfl, fun _ => ⟨rfl, rfl⟩⟩
    rw [if_neg e4] at hw; cases hw
  · have nw : ¬ (r.op = 1 ∧ r.line = 1) ∧ ¬ (r.op = 3 ∧ r.line = 1) ∧ ¬ ((r.op = 3 ∧ r.line = 4) ∨ (r.op = 6 ∧ r.line = 7)) ∧ ¬ (r.op = 7 ∧ r.line = 7) := by
      unfold wtP at hw
      by_cases e1 : r.op = 1 ∧ r.line = 1
      · rw [if_pos e1] at hw; cases hw
      rw [if_neg e1] at hw
      by_cases e2 : r.op = 3 ∧ r.line = 1
      · rw [if_pos e2] at hw; cases hw
      rw [if_neg e2] at hw
      by_cases e3 : (r.op = 3 ∧ r.line = 4) ∨ (r.op = 6 ∧ r.line = 7)
      · rw [if_pos e3] at hw; cases hw
      rw [if_neg e3] at hw
      by_cases e4 : r.op = 7 ∧ r.line = 7
      · rw [if_pos e4] at hw; cases hw
      exact ⟨e1, e2, e3, e4⟩
    obtain ⟨n1, n2, n3, n4⟩ := nw
    have ld : ∀ c d : Int, wordAt (doNew r.xs 1 c 0 0) d = wordAt r.xs d := fun c d => by rw [own_load]
    obtain ⟨p1, p2, p3, p4, p5⟩ := pfCase_w r.op r.line
    unfold LS.pf
    generalize pfCase r.op r.line = n at p1 p2 p3 p4 p5
    split
    · unfold LS.pCome; split <;> exact ⟨fun d hd => addp (c := 0) (by decide) hd, rfl, .inl rfl⟩
    · exact absurd (p1 rfl) n1
    · exact ⟨fun d hd => addp (c := 1) (by decide) hd, rfl, .inr ⟨1, by decide, by decide, rfl⟩⟩
    · exact ⟨fun d hd => addp (c := 2) (by decide) hd, rfl, .inl rfl⟩
    · exact absurd (p2 rfl) n2
    · have e1 : (r.pKeep 3).xs = doNew r.xs 1 4 0 0 ∧ (r.pKeep 3).s = r.s ∧ (r.pKeep 3).k = r.k := by
        unfold LS.pKeep; (repeat' split) <;> simp only [LS.doA, LS.keepA, LS.keepB, LS.note, LS.go, LS.fin, LS.wake, and_self]
      exact ⟨fun d hd => by rw [e1.1, own_load], e1.2.1, .inl e1.2.2⟩
    · obtain ⟨q1, q2, q3, q4, q5, q6, q7, q8⟩ := app_p (r := r) 4
      exact ⟨fun d hd => by rw [q6]; exact addp (by decide) hd, q5, .inl q3⟩
    · exact absurd (.inl (p3 rfl)) n3
    · have e1 : (r.pKeep 1).xs = doNew r.xs 1 4 0 0 ∧ (r.pKeep 1).s = r.s ∧ (r.pKeep 1).k = r.k := by
        unfold LS.pKeep; (repeat' split) <;> simp only [LS.doA, LS.keepA, LS.keepB, LS.note, LS.go, LS.fin, LS.wake, and_self]
      exact ⟨fun d hd => by rw [e1.1, own_load], e1.2.1, .inl e1.2.2⟩
    · obtain ⟨q1, q2, q3, q4, q5, q6, q7⟩ := van_p (r := r) 0 7
      exact ⟨fun d hd => by rw [q6]; exact addp (by decide) hd, q5, .inr ⟨0, by decide, by decide, q3⟩⟩
    · obtain ⟨q1, q2, q3, q4, q5, q6, q7⟩ := van_p (r := r) 256 10
      exact ⟨fun d hd => by rw [q6]; exact addp (by decide) hd, q5, .inr ⟨0, by decide, by decide, q3⟩⟩
    · obtain ⟨q1, q2, q3, q4, q5, q6⟩ := cnt_p (r := r)
      exact ⟨fun d hd => by rw [q6]; exact stop4 (by omega), q5, .inl q3⟩
    · obtain ⟨q1, q2, q3, q4, q5, q6⟩ := pass_p (r := r) true
      exact ⟨fun d hd => by rw [q6]; exact addp (by decide) hd, q5, .inr ⟨3, by decide, by decide, q3⟩⟩
    · have e1 : (r.pLookIn).xs = doNew r.xs 1 0 0 0 ∧ (r.pLookIn).s = r.s ∧ (r.pLookIn).k = r.k := by
        unfold LS.pLookIn; (repeat' split) <;> simp only [LS.doA, LS.keepA, LS.keepB, LS.note, LS.go, LS.fin, LS.wake, and_self]
      exact ⟨fun d hd => by rw [e1.1, own_load], e1.2.1, .inl e1.2.2⟩
    · have e1 : r.pSlip.xs = doNew r.xs 5 0 r.a ((r.a + 256) % 4294967296) ∧ r.pSlip.s = r.s ∧ r.pSlip.k = r.k := by
        unfold LS.pSlip; split <;> simp only [LS.doA, LS.keepA, LS.keepB, LS.note, LS.go, LS.fin, LS.wake, and_self]
      exact ⟨fun d hd => by rw [e1.1]; exact casp (by decide) hd, e1.2.1, .inl e1.2.2⟩
    · have e1 : (r.pLook 2 1).xs = doNew r.xs 1 2 0 0 ∧ (r.pLook 2 1).s = r.s ∧ (r.pLook 2 1).k = r.k := by
        unfold LS.pLook; (repeat' split) <;> simp only [LS.doA, LS.keepA, LS.keepB, LS.note, LS.go, LS.fin, LS.wake, and_self]
      exact ⟨fun d hd => by rw [e1.1, own_load], e1.2.1, .inl e1.2.2⟩
    · have e1 : (r.pWeighT).xs = doNew r.xs 1 3 0 0 ∧ (r.pWeighT).s = r.s ∧ (r.pWeighT).k = r.k := by
        unfold LS.pWeighT; (repeat' split) <;> simp only [LS.doA, LS.keepA, LS.keepB, LS.note, LS.go, LS.fin, LS.wake, and_self]
      exact ⟨fun d hd => by rw [e1.1, own_load], e1.2.1, .inl e1.2.2⟩
    · have e1 : r.pClaim.xs = doNew r.xs 5 2 r.a ((r.a + 1) % 4294967296) ∧ r.pClaim.s = r.s ∧ r.pClaim.k = r.k := by
        unfold LS.pClaim; split <;> simp only [LS.doA, LS.keepA, LS.keepB, LS.note, LS.go, LS.fin, LS.wake, and_self]
      exact ⟨fun d hd => by rw [e1.1]; exact casp (by decide) hd, e1.2.1, .inl e1.2.2⟩
    · have e1 : (r.pLook 0 4).xs = doNew r.xs 1 0 0 0 ∧ (r.pLook 0 4).s = r.s ∧ (r.pLook 0 4).k = r.k := by
        unfold LS.pLook; (repeat' split) <;> simp only [LS.doA, LS.keepA, LS.keepB, LS.note, LS.go, LS.fin, LS.wake, and_self]
      exact ⟨fun d hd => by rw [e1.1, own_load], e1.2.1, .inl e1.2.2⟩
    · have e1 : (r.pWeighR 0).xs = doNew r.xs 1 1 0 0 ∧ (r.pWeighR 0).s = r.s ∧ (r.pWeighR 0).k = r.k := by
        unfold LS.pWeighR; (repeat' split) <;> simp only [LS.doA, LS.keepA, LS.keepB, LS.note, LS.go, LS.fin, LS.wake, and_self]
      exact ⟨fun d hd => by rw [e1.1, own_load], e1.2.1, .inl e1.2.2⟩
    · have e1 : (r.pWeighR 256).xs = doNew r.xs 1 1 0 0 ∧ (r.pWeighR 256).s = r.s ∧ (r.pWeighR 256).k = r.k := by
        unfold LS.pWeighR; (repeat' split) <;> simp only [LS.doA, LS.keepA, LS.keepB, LS.note, LS.go, LS.fin, LS.wake, and_self]
      exact ⟨fun d hd => by rw [e1.1, own_load], e1.2.1, .inl e1.2.2⟩
    · have e1 : (r.pKeep 6).xs = doNew r.xs 1 4 0 0 ∧ (r.pKeep 6).s = r.s ∧ (r.pKeep 6).k = r.k := by
        unfold LS.pKeep; (repeat' split) <;> simp only [LS.doA, LS.keepA, LS.keepB, LS.note, LS.go, LS.fin, LS.wake, and_self]
      exact ⟨fun d hd => by rw [e1.1, own_load], e1.2.1, .inl e1.2.2⟩
    · obtain ⟨q1, q2, q3, q4, q5, q6, q7, q8⟩ := app_p (r := r) 7
      exact ⟨fun d hd => by rw [q6]; exact addp (by decide) hd, q5, .inl q3⟩
    · exact absurd (.inr (p4 rfl)) n3
    · exact absurd (p5 rfl) n4
    · exact ⟨fun d hd => addp (c := 1) (by decide) hd, rfl, .inl rfl⟩
    · obtain ⟨q1, q2, q3, q4, q5, q6⟩ := pass_p (r := r) false
      exact ⟨fun d hd => by rw [q6]; exact addp (by decide) hd, q5, .inr ⟨3, by decide, by decide, q3⟩⟩
    · exact ⟨fun _ _ => rfl, rfl, .inl rfl⟩
end
end Go.Proofs.Ytgfippbcgneegaa
set_option linter.unusedVariables false
set_option linter.unusedSimpArgs false
namespace Go.Proofs.Ytgfippbcgneegaa
theorem fin_no {R : LS} (h : Int) (e : R.ret = 0) : R.finR = R ∧ R.finH h = h := by
  have ho : R.over = false := by unfold LS.over; rw [e]; rfl
  unfold LS.finR LS.finH; rw [ho]; exact ⟨rfl, rfl⟩
theorem fin_on {R : LS} (h : Int) (e : R.k.on = true) : R.finR = R ∧ R.finH h = h := by
  have ho : R.over = false := by unfold LS.over; rw [e]; simp
  unfold LS.finR LS.finH; rw [ho]; exact ⟨rfl, rfl⟩
theorem fin_yes {R : LS} (h : Int) (e : R.ret ≠ 0) (e2 : R.k.on = false) : R.finR = zeroF R 0 ∧ R.finH h = behindI R.op R.ret h := by
  have ho : R.over = true := by unfold LS.over; rw [e2]; simpa using e
  unfold LS.finR LS.finH; rw [ho]; exact ⟨rfl, rfl⟩
def wd (b : Int) (n : Nat) : Int := (b + n) % 4294967296
def wi (b : Int) (n : Nat) (β : Int) : Int := (256 * (b + n) + β) % 4294967296
theorem wd_up (b : Int) (n : Nat) : (1 + wd b n) % 4294967296 = wd b (n + 1) := by unfold wd; push_cast; omega
theorem wd_up' (b : Int) (n : Nat) : (wd b n + 1) % 4294967296 = wd b (n + 1) := by unfold wd; push_cast; omega
theorem wd_inj {b : Int} {n n' : Nat} (h : wd b n = wd b n') (h1 : n < 100000) (h2 : n' < 100000) : n = n' := by unfold wd at h; omega
theorem wd_ahead {b : Int} {n n' : Nat} (h1 : n < 100000) (h2 : n' < 100000) : aheadI (wd b n) (wd b n') = (n : Int) - n' := by unfold aheadI wd; omega
theorem wi_up (b : Int) (n : Nat) (β : Int) : (256 + wi b n β) % 4294967296 = wi b (n + 1) β := by unfold wi; push_cast; omega
theorem wi_up' (b : Int) (n : Nat) (β : Int) : (wi b n β + 256) % 4294967296 = wi b (n + 1) β := by unfold wi; push_cast; omega
theorem wi_add (b : Int) (n : Nat) (β x : Int) : (x + wi b n β) % 4294967296 = wi b n (x + β) := by unfold wi; omega
theorem wi_bits (b : Int) (n : Nat) {β : Int} (h : 0 ≤ β ∧ β < 4) : bitsI (wi b n β) = β := by unfold bitsI wi; omega
theorem wi_inj {b : Int} {n n' : Nat} {β : Int} (h : wi b n β = wi b n' β) (h1 : n < 100000) (h2 : n' < 100000) : n = n' := by unfold wi at h; omega
theorem wi_less (b : Int) (n : Nat) (β : Int) : (wi b (n + 1) β - 256) % 4294967296 = wi b n β := by unfold wi; push_cast; omega
theorem wi_van (b : Int) (n : Nat) (P : Int) : (((0 - P) % 4294967296) + wi b n P) % 4294967296 = wi b n 0 := by unfold wi; omega
theorem wi_van' (b : Int) (n : Nat) (P : Int) : (((256 - P) % 4294967296) + wi b n P) % 4294967296 = wi b (n + 1) 0 := by unfold wi; push_cast; omega
structure WordsP (b : Int) (s : PS) (xs : List Int) : Prop where
  w0 : wordAt xs 0 = wi b s.I s.β
  w1 : wordAt xs 1 = wi b s.O 0
  w2 : wordAt xs 2 = wd b s.N
  w3 : wordAt xs 3 = wd b s.T
  w4 : wordAt xs 4 % 2 = s.φ
def phL (r : LS) : Prop := (r.op = 3 ∧ r.line = 3) ∨ ((r.op = 4 ∨ r.op = 8) ∧ (r.line = 1 ∨ r.line = 2)) ∨ ((r.op = 6 ∨ r.op = 7) ∧ r.line = 6)
def ahL (r : LS) : Prop := (r.op = 3 ∧ r.line = 4) ∨ ((r.op = 6 ∨ r.op = 7) ∧ r.line = 7)
structure TaskP (b : Int) (N T tk : Nat) (P ia : Int) (h : Int) (r : LS) : Prop where
  line : lineP h r
  wake : wakeP r
  tick : r.op = 3 → r.line = 1 → r.a = wd b tk
  ph : phL r → r.b = P
  ah : ahL r → r.a = ia
  try5 : r.op = 5 → r.line = 1 → bitsI r.a = 0
  tryw : (r.op = 6 ∨ r.op = 7) → (r.line = 1 ∨ r.line = 2) → ∃ A : Nat, A ≤ N ∧ r.a = wd b A ∧ (r.line = 2 → A ≤ T)
theorem ph_act {h : Int} {r : LS} (hl : lineP h r) (e : phL r ∨ ahL r) : (wrOf h r).act = true := by
  unfold wrOf
  rcases e with (⟨e1, e2⟩ | ⟨e1, e2⟩ | ⟨e1, e2⟩) | (⟨e1, e2⟩ | ⟨e1, e2⟩)
  · simp [e1, e2]; rfl
  · rcases e1 with e1 | e1 <;> rcases e2 with e2 | e2 <;> simp [e1, e2] <;> rfl
  · rcases e1 with e1 | e1 <;> simp [e1, e2] <;> rfl
  · simp [e1, e2]; split <;> rfl
  · rcases e1 with e1 | e1 <;> simp [e1, e2] <;> split <;> rfl
theorem TaskP.mono {b : Int} {N T tk N' T' : Nat} {P ia P' ia' : Int} {h : Int} {r : LS} (g : TaskP b N T tk P ia h r) (hN : N ≤ N') (hT : T ≤ T') (hq : (P' = P ∧ ia' = ia) ∨ (wrOf h r).act = false) : TaskP b N' T' tk P' ia' h r := by
  refine ⟨g.line, g.wake, g.tick, fun e => ?_, fun e => ?_, g.try5, fun h1 h2 => ?_⟩
  · rcases hq with ⟨q, _⟩ | q
    · rw [q]; exact g.ph e
    · rw [ph_act g.line (.inl e)] at q; cases q
  · rcases hq with ⟨_, q⟩ | q
    · rw [q]; exact g.ah e
    · rw [ph_act g.line (.inr e)] at q; cases q
  · obtain ⟨A, a1, a2, a3⟩ := g.tryw h1 h2
    exact ⟨A, by omega, a2, fun e => by have := a3 e; omega⟩
theorem taskp_idle {b : Int} {N T tk : Nat} {P ia h : Int} (r : LS) (hh : h = 0 ∨ h = 1 ∨ h = 2) : TaskP b N T tk P ia h (zeroF r 0) :=
  ⟨.inl ⟨rfl, hh⟩, fun e => (by cases e), fun e => (by cases e), fun e => (by rcases e with ⟨e, _⟩ | ⟨e, _⟩ | ⟨e, _⟩; cases e; rcases e with e | e <;> cases e; rcases e with e | e <;> cases e), fun e => (by rcases e with ⟨e, _⟩ | ⟨e, _⟩; cases e; rcases e with e | e <;> cases e), fun e => (by cases e), fun e => (by rcases e with e | e <;> cases e)⟩
theorem linep_like {h : Int} {r r' : LS} (e1 : r'.op = r.op) (e2 : r'.line = r.line) (g : lineP h r) : lineP h r' := by unfold lineP at *; rw [e1, e2]; exact g
theorem linep_hold {h : Int} {r : LS} (g : lineP h r) : h = 0 ∨ h = 1 ∨ h = 2 := by
  unfold lineP at g
  rcases g with ⟨_, e⟩ | ⟨_, e, _⟩ | ⟨_, e, _⟩ | ⟨_, e, _⟩ | ⟨_, e, _⟩ | ⟨_, e, _⟩ | ⟨_, e, _⟩ | ⟨_, e, _⟩ | ⟨_, e, _⟩ <;> omega
def idleP (k : Nat) (h : Int) : Nat := if h = 1 then 5 * k + 1 else if h = 2 then 13 * k + 4 else 0
def lineW (op line : Int) (k : Nat) : Nat :=
  if op = 1 then (if line = 0 then 8 * k + 7 else 5 * k + 6)
  else if op = 2 then 5 * k + 1
  else if op = 3 then (if line = 0 then 19 * k + 16 else if line = 1 then 16 * k + 15 else if line = 2 then 16 * k + 11 else if line = 3 then 16 * k + 10 else 13 * k + 9)
  else if op = 4 then (if line = 0 then 13 * k + 4 else if line = 1 then 13 * k + 3 else if line = 2 then 5 * k + 2 else 5 * k + 1)
  else if op = 8 then (if line = 0 then 18 * k + 6 else if line = 1 then 18 * k + 5 else if line = 2 then 10 * k + 3 else 10 * k + 2)
  else if line = 9 then 10 * k + 3 else if line = 8 then 13 * k + 5 else if line = 7 then 13 * k + 10 else if line = 6 then 16 * k + 11 else if line = 5 then 16 * k + 12 else if line = 4 then 16 * k + 13 else 16 * k + 14
def worthP (k : Nat) : VF := fun w h r =>
  if r.op = 0 then idleP k h else if r.ret ≠ 0 then idleP k (behindI r.op r.ret h)
  else if r.op = 5 ∨ ((r.op = 6 ∨ r.op = 7) ∧ (r.line = 0 ∨ r.line = 1 ∨ r.line = 2)) then
    (if r.line = 0 then 19 * k + 18 else if r.line = 2 then (if r.a = w 2 then 19 * k + 16 else 19 * k + 19) else if r.a = w (if r.op = 5 then 0 else 2) then 19 * k + 17 else 19 * k + 20)
  else lineW r.op r.line k
theorem worth_pf (k : Nat) : WorthOK (worthP k) := by
  refine ⟨fun w h r r' e1 e2 e3 e4 => ?_, fun w h r hr => ?_⟩
  · unfold worthP; rw [e1, e2, e3, e4]
  · have e : worthP k w (behindI r.op r.ret h) (zeroF r 0) = idleP k (behindI r.op r.ret h) := rfl
    rw [e]
    unfold worthP
    by_cases e0 : r.op = 0
    · rw [if_pos e0, e0]
      have : behindI 0 r.ret h = h := by unfold behindI; by_cases e1 : r.ret = 2 <;> simp [e1]
      rw [this]
      exact Nat.le_refl _
    · rw [if_neg e0, if_pos hr]; exact Nat.le_refl _
theorem ite_rise {p : Prop} [Decidable p] {a b a' b' : Nat} (h1 : a' ≤ a + 3) (h2 : b' ≤ b + 3) : (if p then a' else b') ≤ (if p then a else b) + 3 := by
  by_cases h : p
  · rw [if_pos h, if_pos h]; exact h1
  · rw [if_neg h, if_neg h]; exact h2
theorem worth_riseP (k : Nat) (w w' : Int → Int) (h : Int) (r : LS) : worthP k w' h r ≤ worthP k w h r + 3 := by
  have t1 : ∀ (c : Int) (a b : Nat), a ≤ b + 3 → b ≤ a + 3 → (if r.a = w' c then a else b) ≤ (if r.a = w c then a else b) + 3 := fun c a b h1 h2 => by
    by_cases e1 : r.a = w' c <;> by_cases e2 : r.a = w c
    · rw [if_pos e1, if_pos e2]; omega
    · rw [if_pos e1, if_neg e2]; omega
    · rw [if_neg e1, if_pos e2]; omega
    · rw [if_neg e1, if_neg e2]; omega
  unfold worthP
  refine ite_rise (Nat.le_add_right _ _) (ite_rise (Nat.le_add_right _ _) (ite_rise (ite_rise (Nat.le_add_right _ _) (ite_rise (t1 2 _ _ ?_ ?_) (t1 _ _ _ ?_ ?_))) (Nat.le_add_right _ _)))
  all_goals omega
theorem worth_sameP (k : Nat) {w w' : Int → Int} (e : w' 0 = w 0) (e2 : w' 2 = w 2) (h : Int) (r : LS) : worthP k w' h r = worthP k w h r := by
  have e3 : w' (if r.op = 5 then 0 else 2) = w (if r.op = 5 then 0 else 2) := by
    by_cases e4 : r.op = 5
    · rw [if_pos e4]; exact e
    · rw [if_neg e4]; exact e2
  unfold worthP; rw [e3, e2]
theorem idleP_le (k : Nat) (h : Int) : idleP k h ≤ 13 * k + 4 := by
  unfold idleP
  by_cases e : h = 1
  · rw [if_pos e]; omega
  · rw [if_neg e]
    by_cases e2 : h = 2
    · rw [if_pos e2]; omega
    · rw [if_neg e2]; omega
end Go.Proofs.Ytgfippbcgneegaa
set_option linter.unusedVariables false
set_option linter.unusedSimpArgs false
namespace Go.Proofs.Ytgfippbcgneegaa
structure AheadP (b : Int) (k : Nat) (s : PS) (t : Nat) (h : Int) (r : LS) : Prop where
  inv : PInv k s
  lt : t < k
  rd : s.rd t = rdOf h r
  wr : s.wr t = wrOf h r
  task : TaskP b s.N s.T (s.tk t) (wordAt r.xs 4) (wi b s.a 0) h r
  ws : WordsP b s r.xs
  N : s.N < 50000
  I : s.I < 50000
  th : ∀ c : Int, 0 ≤ c → c < 8 → there r.xs c = true
  on : r.k.on = false
  ret : r.ret = 0
def MovedP (b : Int) (k : Nat) (s : PS) (t : Nat) (P : Int) (h' : Int) (r' : LS) (xs' : List Int) : Prop :=
  ∃ s' : PS, PInv k s' ∧ (∀ i, i ≠ t → s'.rd i = s.rd i ∧ s'.wr i = s.wr i ∧ s'.tk i = s.tk i) ∧ s'.rd t = rdOf h' r' ∧ s'.wr t = wrOf h' r' ∧ s.N ≤ s'.N ∧ s'.N ≤ s.N + 1 ∧ s.T ≤ s'.T ∧ s'.I ≤ s.I + 1 ∧ WordsP b s' xs' ∧
    ((wordAt xs' 4 = P ∧ s'.a = s.a) ∨ (s.wr t).act = true) ∧ TaskP b s'.N s'.T (s'.tk t) (wordAt xs' 4) (wi b s'.a 0) h' r'
section
variable {b : Int} {k : Nat} {s : PS} {t : Nat} {r : LS} {h : Int}
theorem mp_stay (A : AheadP b k s t h r) {h' : Int} {r' : LS} {xs' : List Int} (e1 : rdOf h' r' = rdOf h r) (e2 : wrOf h' r' = wrOf h r) (hx : ∀ d, 0 ≤ d → d < 8 → wordAt xs' d = wordAt r.xs d) (hT : TaskP b s.N s.T (s.tk t) (wordAt r.xs 4) (wi b s.a 0) h' r') : MovedP b k s t (wordAt r.xs 4) h' r' xs' := by
  have x4 := hx 4 (by decide) (by decide)
  refine ⟨s, A.inv, fun i _ => ⟨rfl, rfl, rfl⟩, A.rd.trans e1.symm, A.wr.trans e2.symm, by omega, by omega, by omega, by omega, ⟨?_, ?_, ?_, ?_, ?_⟩, .inl ⟨x4, rfl⟩, by rw [x4]; exact hT⟩
  · rw [hx 0 (by decide) (by decide)]; exact A.ws.w0
  · rw [hx 1 (by decide) (by decide)]; exact A.ws.w1
  · rw [hx 2 (by decide) (by decide)]; exact A.ws.w2
  · rw [hx 3 (by decide) (by decide)]; exact A.ws.w3
  · rw [x4]; exact A.ws.w4
theorem mp_rd (A : AheadP b k s t h r) {x : Rd} {I O : Nat} {h' : Int} {r' : LS} {xs' : List Int} (hI : PInv k (s.setR t x I O)) (e1 : x = rdOf h' r') (e2 : wrOf h' r' = wrOf h r) (hI1 : I ≤ s.I + 1) (w0 : wordAt xs' 0 = wi b I s.β) (w1 : wordAt xs' 1 = wi b O 0) (hx : ∀ d, d = 2 ∨ d = 3 ∨ d = 4 → wordAt xs' d = wordAt r.xs d)
    (hT : TaskP b s.N s.T (s.tk t) (wordAt r.xs 4) (wi b s.a 0) h' r') : MovedP b k s t (wordAt r.xs 4) h' r' xs' := by
  have x4 := hx 4 (.inr (.inr rfl))
  refine ⟨_, hI, fun i hi => ⟨upd_other _ _ hi, rfl, rfl⟩, (upd_same _ _ _).trans e1, A.wr.trans e2.symm, Nat.le_refl _, by show s.N ≤ s.N + 1; omega, Nat.le_refl _, hI1, ⟨w0, w1, ?_, ?_, ?_⟩, .inl ⟨x4, rfl⟩, by rw [x4]; exact hT⟩
  · rw [hx 2 (.inl rfl)]; exact A.ws.w2
  · rw [hx 3 (.inr (.inl rfl))]; exact A.ws.w3
  · rw [x4]; exact A.ws.w4
theorem mp_wr (A : AheadP b k s t h r) {y : Wr} {T N T' a : Nat} {β φ : Int} {h' : Int} {r' : LS} {xs' : List Int} (hI : PInv k (s.setW t y T N T' β φ a)) (e1 : rdOf h' r' = rdOf h r) (e2 : y = wrOf h' r') (hN : s.N ≤ N ∧ N ≤ s.N + 1) (hT' : s.T ≤ T') (w0 : wordAt xs' 0 = wi b s.I β) (w1 : wordAt xs' 1 = wordAt r.xs 1) (w2 : wordAt xs' 2 = wd b N) (w3 : wordAt xs' 3 = wd b T') (w4 : wordAt xs' 4 % 2 = φ)
    (hq : (wordAt xs' 4 = wordAt r.xs 4 ∧ a = s.a) ∨ (s.wr t).act = true) (hT : TaskP b N T' T (wordAt xs' 4) (wi b a 0) h' r') : MovedP b k s t (wordAt r.xs 4) h' r' xs' :=
  ⟨_, hI, fun i hi => ⟨rfl, upd_other _ _ hi, upd_other _ _ hi⟩, A.rd.trans e1.symm, (upd_same _ _ _).trans e2, hN.1, hN.2, hT', Nat.le_succ _, ⟨w0, w1.trans A.ws.w1, w2, w3, w4⟩, hq, by show TaskP b N T' (upd s.tk t T t) _ _ _ _; rw [upd_same]; exact hT⟩
theorem addf {xs : List Int} {c d x : Int} (h : c ≠ d) : wordAt (doNew xs 3 c x 0) d = wordAt xs d := own_add_far h
theorem addat (A : AheadP b k s t h r) {c x : Int} (h0 : 0 ≤ c) (h8 : c < 8) : wordAt (doNew r.xs 3 c x 0) c = (x + wordAt r.xs c) % 4294967296 := own_add (A.th c h0 h8)
theorem loadf {xs : List Int} (c d : Int) : wordAt (doNew xs 1 c 0 0) d = wordAt xs d := by rw [own_load]
theorem taskp_at {N T tk : Nat} {P ia : Int} {r' : LS} {o l : Int} (p1 : r'.op = o) (p2 : r'.line = l) (hl : lineP h r') (hk : wakeP r') (h1 : o = 3 ∧ l = 1 → r'.a = wd b tk) (h2 : (o = 3 ∧ l = 3) ∨ ((o = 4 ∨ o = 8) ∧ (l = 1 ∨ l = 2)) ∨ ((o = 6 ∨ o = 7) ∧ l = 6) → r'.b = P) (h3 : (o = 3 ∧ l = 4) ∨ ((o = 6 ∨ o = 7) ∧ l = 7) → r'.a = ia) (h4 : o = 5 ∧ l = 1 → bitsI r'.a = 0) (h5 : (o = 6 ∨ o = 7) ∧ (l = 1 ∨ l = 2) → ∃ A : Nat, A ≤ N ∧ r'.a = wd b A ∧ (l = 2 → A ≤ T)) : TaskP b N T tk P ia h r' := by
  subst p1 p2
  exact ⟨hl, hk, fun e1 e2 => h1 ⟨e1, e2⟩, h2, h3, fun e1 e2 => h4 ⟨e1, e2⟩, fun e1 e2 => h5 ⟨e1, e2⟩⟩
theorem wakep_off {r' : LS} (hk : r'.k.on = false) : wakeP r' := fun e => (by rw [hk] at e; cases e)
theorem p_1_0 (A : AheadP b k s t h r) (ho : r.op = 1) (hl : r.line = 0) (hh : h = 0) (hs : r.s = 0) : MovedP b k s t (wordAt r.xs 4) (r.pCome.finH h) r.pCome.finR r.pCome.xs := by
  subst hh
  have hrd : s.rd t = .no := by rw [A.rd]; unfold rdOf; simp [ho, hl]
  have hwr : s.wr t = .no := by rw [A.wr]; unfold wrOf; simp [ho]
  have hI := A.inv.come A.lt hrd (.inl (by rw [hwr]; rfl))
  have hβ : s.β = 0 ∨ s.β = 2 ∨ s.β = 3 := by
    by_cases e : s.β = 0
    · exact .inl e
    · obtain ⟨i, hi, hp⟩ := A.inv.present e
      have := (A.inv.bits i hi hp).1
      have := A.inv.ph
      omega
  have hb : bitsI (wordAt r.xs 0) = s.β := by rw [A.ws.w0, wi_bits]; omega
  have w0 : wordAt (doNew r.xs 3 0 256 0) 0 = wi b (s.I + 1) s.β := by rw [addat A (by decide) (by decide), A.ws.w0, wi_up]
  have w1 : wordAt (doNew r.xs 3 0 256 0) 1 = wi b s.O 0 := (addf (by decide)).trans A.ws.w1
  have hx : ∀ d : Int, d = 2 ∨ d = 3 ∨ d = 4 → wordAt (doNew r.xs 3 0 256 0) d = wordAt r.xs d := fun d hd => addf (by omega)
  unfold LS.pCome
  by_cases e : bitsI (wordAt r.xs 0) = 0
  · rw [if_pos e]
    have e0 : s.β = 0 := hb.symm.trans e
    obtain ⟨f1, f2⟩ := fin_yes (R := ((((r.doA 3 0 256 0).keepA (wordAt r.xs 0)).note 2 1).note 4 0).fin true) 0 (by show (2 : Int) ≠ 0; decide) A.on
    rw [f1, f2]
    have hbh : behindI (((((r.doA 3 0 256 0).keepA (wordAt r.xs 0)).note 2 1).note 4 0).fin true).op (((((r.doA 3 0 256 0).keepA (wordAt r.xs 0)).note 2 1).note 4 0).fin true).ret 0 = 1 := by show behindI r.op 2 0 = 1; rw [ho]; rfl
    rw [hbh]
    exact mp_rd A hI (by rw [if_pos e0]; rfl) (by rw [← A.wr, hwr]; rfl) (Nat.le_refl _) w0 w1 hx (taskp_idle _ (.inr (.inl rfl)))
  · rw [if_neg e]
    have e0 : s.β ≠ 0 := fun e2 => e (hb.trans e2)
    obtain ⟨f1, f2⟩ := fin_no (R := (((r.doA 3 0 256 0).keepA (wordAt r.xs 0)).note 2 1).go 1) 0 A.ret
    rw [f1, f2]
    refine mp_rd A hI ?_ ?_ (Nat.le_refl _) w0 w1 hx (taskp_at (o := 1) (l := 1) ho rfl ?_ (wakep_off A.on) (by omega) (by omega) (by omega) (by omega) (by omega))
    · rw [if_neg e0]; unfold rdOf; simp [LS.go, LS.note, LS.keepA, LS.doA, ho, hs, hb]
    · rw [← A.wr, hwr]; unfold wrOf; simp [LS.go, LS.note, LS.keepA, LS.doA, ho]
    · unfold lineP; simp [LS.go, LS.note, LS.keepA, LS.doA, ho]
theorem fin_turn {R : LS} (h : Int) (mode c : Int) (hk : R.k = beginI mode c) (hr : R.ret ≠ 0) : (mode = 2 ∧ R.finR = R ∧ R.finH h = h ∧ R.k.on = true) ∨ (mode ≠ 2 ∧ R.finR = zeroF R 0 ∧ R.finH h = behindI R.op R.ret h) := by
  by_cases e : mode = 2
  · have hon : R.k.on = true := by rw [hk, e]; rfl
    obtain ⟨f1, f2⟩ := fin_on (R := R) h hon
    exact .inl ⟨e, f1, f2, hon⟩
  · obtain ⟨f1, f2⟩ := fin_yes (R := R) h hr (by rw [hk, beginI_no e]; rfl)
    exact .inr ⟨e, f1, f2⟩
theorem p_2_0 (A : AheadP b k s t h r) (ho : r.op = 2) (hl : r.line = 0) (hh : h = 0) : MovedP b k s t (wordAt r.xs 4) (r.pDepart.finH h) r.pDepart.finR r.pDepart.xs := by
  subst hh
  obtain ⟨p1, p2, p3, p4, p5, p6⟩ := dep_p (r := r)
  have hrd : s.rd t = .reads := by rw [A.rd]; unfold rdOf; simp [ho, A.on]
  have hwr : wrOf 0 r = .no := by unfold wrOf; simp [ho]
  have hI := A.inv.depart A.lt hrd
  have w0 : wordAt r.pDepart.xs 0 = wi b s.I s.β := by rw [p6, addf (by decide)]; exact A.ws.w0
  have w1 : wordAt r.pDepart.xs 1 = wi b (s.O + 1) 0 := by rw [p6, addat A (by decide) (by decide), A.ws.w1, wi_up]
  have hx : ∀ d : Int, d = 2 ∨ d = 3 ∨ d = 4 → wordAt r.pDepart.xs d = wordAt r.xs d := fun d hd => by rw [p6]; exact addf (by omega)
  rcases fin_turn (R := r.pDepart) 0 r.mode 1 p3 (by rw [p4]; decide) with ⟨e, f1, f2, f3⟩ | ⟨e, f1, f2⟩
  · rw [f1, f2]
    refine mp_rd A hI ?_ ?_ (Nat.le_succ _) w0 w1 hx (taskp_at (o := 2) (l := 0) (p1.trans ho) (p2.trans hl) (linep_like p1 p2 A.task.line) (fun _ => .inl ⟨p1.trans ho, p4⟩) (by omega) (by omega) (by omega) (by omega) (by omega))
    · unfold rdOf; simp [p1, ho, f3]
    · rw [hwr]; unfold wrOf; simp [p1, ho]
  · rw [f1, f2, p1, p4, ho]
    exact mp_rd A hI rfl (by rw [hwr]; rfl) (Nat.le_succ _) w0 w1 hx (taskp_idle _ (.inl rfl))
theorem p_3_0 (A : AheadP b k s t h r) (ho : r.op = 3) (hl : r.line = 0) (hh : h = 0) (hs : r.s = 0) : MovedP b k s t (wordAt r.xs 4) (r.pDraw.finH h) r.pDraw.finR r.pDraw.xs := by
  subst hh
  obtain ⟨f1, f2⟩ := fin_no (R := r.pDraw) 0 A.ret
  rw [f1, f2]
  have hwr : s.wr t = .no := by rw [A.wr]; unfold wrOf; simp [ho, hl]
  refine mp_wr A (A.inv.draw A.lt hwr (y := .waits) (.inl rfl)) ?_ ?_ ⟨Nat.le_succ _, Nat.le_refl _⟩ (Nat.le_refl _) ((addf (c := 2) (by decide)).trans A.ws.w0) (addf (c := 2) (by decide)) ?_ ((addf (c := 2) (by decide)).trans A.ws.w3) ?_ (.inl ⟨addf (c := 2) (by decide), rfl⟩) (taskp_at (o := 3) (l := 1) ho rfl ?_ (wakep_off A.on) (fun _ => A.ws.w2) (by omega) (by omega) (by omega) (by omega))
  · unfold rdOf; simp [LS.pDraw, LS.go, LS.note, LS.keepA, LS.doA, ho]
  · unfold wrOf; simp [LS.pDraw, LS.go, LS.note, LS.keepA, LS.doA, ho, hs]
  · show wordAt (doNew r.xs 3 2 1 0) 2 = _
    rw [addat A (by decide) (by decide), A.ws.w2, wd_up]
  · show wordAt (doNew r.xs 3 2 1 0) 4 % 2 = _
    rw [addf (by decide)]; exact A.ws.w4
  · unfold lineP; simp [LS.pDraw, LS.go, LS.note, LS.keepA, LS.doA, ho]
theorem p_keep (A : AheadP b k s t h r) (n : Int) (e1 : rdOf h (r.pKeep n) = rdOf h r) (e2 : wrOf h (r.pKeep n) = wrOf h r) (hl : lineP h (r.pKeep n)) (hn : n ≠ 4 ∧ n ≠ 7) (h1 : ¬ (r.op = 3 ∧ n = 1)) (h5 : ¬ (r.op = 5 ∧ n = 1)) (h6 : ¬ ((r.op = 6 ∨ r.op = 7) ∧ (n = 1 ∨ n = 2))) : MovedP b k s t (wordAt r.xs 4) ((r.pKeep n).finH h) (r.pKeep n).finR (r.pKeep n).xs := by
  obtain ⟨f1, f2⟩ := fin_no (R := r.pKeep n) h A.ret
  rw [f1, f2]
  exact mp_stay A e1 e2 (fun d _ _ => loadf 4 d) (taskp_at (o := r.op) (l := n) rfl rfl hl (wakep_off A.on) (fun e => absurd e h1) (fun _ => rfl) (fun e => by omega) (fun e => absurd e h5) (fun e => absurd e h6))
theorem p_appear (A : AheadP b k s t h r) (n : Int) (hp : phL r) (hw : wrOf h r = .turn) (hs : r.s = 0) (ho : (r.op = 3 ∧ n = 4) ∨ ((r.op = 6 ∨ r.op = 7) ∧ n = 7)) (e1 : rdOf h (r.pAppear n) = rdOf h r) (e2 : wrOf h (r.pAppear n) = .comes) (hl : lineP h (r.pAppear n)) : MovedP b k s t (wordAt r.xs 4) ((r.pAppear n).finH h) (r.pAppear n).finR (r.pAppear n).xs := by
  obtain ⟨p1, p2, p3, p4, p5, p6, p7, p8⟩ := app_p (r := r) n
  obtain ⟨f1, f2⟩ := fin_no (R := r.pAppear n) h (p4.trans A.ret)
  rw [f1, f2]
  have hwt : s.wr t = .turn := A.wr.trans hw
  have hb0 := A.inv.free A.lt (by rw [hwt]; rfl) (by rw [hwt]; rfl)
  have hP : presI r.b = 2 + s.φ := by
    rw [A.task.ph hp]; unfold presI; rw [A.ws.w4]
  refine mp_wr A (A.inv.appear A.lt hwt) e1 e2.symm ⟨Nat.le_refl _, Nat.le_succ _⟩ (Nat.le_refl _) ?_ ?_ ?_ ?_ ?_ (.inr (by rw [hwt]; rfl)) (taskp_at (o := r.op) (l := n) p1 p2 hl (wakep_off (by rw [p3]; exact A.on)) (fun e => by omega) (fun e => by omega) (fun _ => ?_) (fun e => by omega) (fun e => by omega))
  · rw [p6, addat A (by decide) (by decide), A.ws.w0, wi_add, hP, hb0, Int.add_zero]
  · rw [p6]; exact addf (by decide)
  · rw [p6, addf (by decide)]; exact A.ws.w2
  · rw [p6, addf (by decide)]; exact A.ws.w3
  · rw [p6, addf (by decide)]; exact A.ws.w4
  · rw [p7, A.ws.w0, hb0]
theorem p_4_1 (A : AheadP b k s t h r) (ho : r.op = 4) (hl : r.line = 1) (hh : h = 0) : MovedP b k s t (wordAt r.xs 4) ((r.pVanish 0 7).finH h) (r.pVanish 0 7).finR (r.pVanish 0 7).xs := by
  subst hh
  obtain ⟨p1, p2, p3, p4, p5, p6, p7⟩ := van_p (r := r) 0 7
  obtain ⟨f1, f2⟩ := fin_no (R := r.pVanish 0 7) 0 (p4.trans A.ret)
  rw [f1, f2]
  have hwt : s.wr t = .writes := by rw [A.wr]; unfold wrOf; simp [ho, hl]
  have hrd : s.rd t = .no := by rw [A.rd]; unfold rdOf; simp [ho]
  obtain ⟨b1, b2⟩ := A.inv.bits t A.lt (by rw [hwt]; rfl)
  have hb : r.b = wordAt r.xs 4 := A.task.ph (.inr (.inl ⟨.inl ho, .inl hl⟩))
  have hP : presI r.b = s.β := by rw [hb, b1]; unfold presI; rw [A.ws.w4]
  refine mp_wr A (A.inv.vanish A.lt hwt hrd) ?_ ?_ ⟨Nat.le_refl _, Nat.le_succ _⟩ (Nat.le_refl _) ?_ ?_ ?_ ?_ ?_ (.inr (by rw [hwt]; rfl)) (taskp_at (o := 4) (l := 2) (p1.trans ho) p2 ?_ (fun _ => .inr (.inl ⟨.inl (p1.trans ho), p2, p4.trans A.ret⟩)) (by omega) (fun _ => ?_) (by omega) (by omega) (by omega))
  · unfold rdOf; simp [p1, ho]
  · unfold wrOf; simp [p1, p2, ho]
  · rw [p6, addat A (by decide) (by decide), A.ws.w0, hP, wi_van]
  · rw [p6]; exact addf (by decide)
  · rw [p6, addf (by decide)]; exact A.ws.w2
  · rw [p6, addf (by decide)]; exact A.ws.w3
  · rw [p6, addf (by decide)]; exact A.ws.w4
  · unfold lineP; rw [p1, p2, ho]; simp
  · rw [p7, hb, p6, addf (by decide)]
theorem p_8_1 (A : AheadP b k s t h r) (ho : r.op = 8) (hl : r.line = 1) (hh : h = 1) : MovedP b k s t (wordAt r.xs 4) ((r.pVanish 256 10).finH h) (r.pVanish 256 10).finR (r.pVanish 256 10).xs := by
  subst hh
  obtain ⟨p1, p2, p3, p4, p5, p6, p7⟩ := van_p (r := r) 256 10
  obtain ⟨f1, f2⟩ := fin_no (R := r.pVanish 256 10) 1 (p4.trans A.ret)
  rw [f1, f2]
  have hwt : s.wr t = .writes := by rw [A.wr]; unfold wrOf; simp [ho, hl]
  have hrd : s.rd t = .no := by rw [A.rd]; unfold rdOf; simp [ho, hl]
  obtain ⟨b1, b2⟩ := A.inv.bits t A.lt (by rw [hwt]; rfl)
  have hb : r.b = wordAt r.xs 4 := A.task.ph (.inr (.inl ⟨.inr ho, .inl hl⟩))
  have hP : presI r.b = s.β := by rw [hb, b1]; unfold presI; rw [A.ws.w4]
  have h1 := A.inv.vanish A.lt hwt hrd
  have h2 := h1.come (t := t) A.lt hrd (.inr rfl)
  have x4 : wordAt (r.pVanish 256 10).xs 4 = wordAt r.xs 4 := by rw [p6]; exact addf (by decide)
  refine ⟨_, h2, fun i hi => ⟨upd_other _ _ hi, upd_other _ _ hi, upd_other _ _ hi⟩, ?_, ?_, Nat.le_refl _, Nat.le_succ _, Nat.le_refl _, Nat.le_refl _, ⟨?_, ?_, ?_, ?_, ?_⟩, .inr (by rw [hwt]; rfl), ?_⟩
  · show upd s.rd t (if (0 : Int) = 0 then .reads else .waits 0) t = _
    rw [upd_same, if_pos rfl]; unfold rdOf; simp [p1, p2, ho]
  · show upd s.wr t .left t = _
    rw [upd_same]; unfold wrOf; simp [p1, p2, ho]
  · show _ = wi b (s.I + 1) 0
    rw [p6, addat A (by decide) (by decide), A.ws.w0, hP, wi_van']
  · rw [p6, addf (by decide)]; exact A.ws.w1
  · rw [p6, addf (by decide)]; exact A.ws.w2
  · rw [p6, addf (by decide)]; exact A.ws.w3
  · rw [x4]; exact A.ws.w4
  · exact taskp_at (o := 8) (l := 2) (p1.trans ho) p2 (by unfold lineP; rw [p1, p2, ho]; simp) (fun _ => .inr (.inl ⟨.inr (p1.trans ho), p2, p4.trans A.ret⟩)) (by omega) (fun _ => by rw [p7, hb, x4]) (by omega) (by omega) (by omega)
theorem p_count (A : AheadP b k s t h r) (ho : r.op = 4 ∨ r.op = 8) (hl : r.line = 2) (hh : (r.op = 4 ∧ h = 0) ∨ (r.op = 8 ∧ h = 1)) : MovedP b k s t (wordAt r.xs 4) (r.pCount.finH h) r.pCount.finR r.pCount.xs := by
  obtain ⟨p1, p2, p3, p4, p5, p6⟩ := cnt_p (r := r)
  obtain ⟨f1, f2⟩ := fin_no (R := r.pCount) h (p4.trans A.ret)
  rw [f1, f2]
  have hwt : s.wr t = .left := by rw [A.wr]; unfold wrOf; rcases ho with e | e <;> simp [e, hl]
  have hb : r.b = wordAt r.xs 4 := A.task.ph (.inr (.inl ⟨ho, .inr hl⟩))
  have hb0 := A.inv.free A.lt (by rw [hwt]; rfl) (by rw [hwt]; rfl)
  have w4' := A.ws.w4
  have hst : wordAt r.pCount.xs 4 = (r.b + 1) % 4294967296 := by
    rw [p6, doNew_st _ _ _ _ _ rfl, word_st, if_pos (A.th 4 (by decide) (by decide))]; rfl
  have far : ∀ d : Int, d ≠ 4 → wordAt r.pCount.xs d = wordAt r.xs d := fun d hd => by rw [p6]; exact stop4 (Ne.symm hd)
  refine mp_wr A (A.inv.count A.lt (φ := 1 - s.φ) (.inl ⟨hwt, rfl⟩)) ?_ ?_ ⟨Nat.le_refl _, Nat.le_succ _⟩ (Nat.le_refl _) ((far 0 (by decide)).trans A.ws.w0) (far 1 (by decide)) ((far 2 (by decide)).trans A.ws.w2) ((far 3 (by decide)).trans A.ws.w3) ?_ (.inr (by rw [hwt]; rfl)) (taskp_at (o := r.op) (l := 3) p1 p2 ?_ (wakep_off (by rw [p3]; exact A.on)) (by omega) (by omega) (by omega) (by omega) (by omega))
  · unfold rdOf; rcases ho with e | e <;> simp [p1, p2, e, hl]
  · unfold wrOf; rcases ho with e | e <;> simp [p1, p2, e, p4, A.ret]
  · rw [hst, hb]
    have := A.inv.ph
    omega
  · unfold lineP; rw [p1, p2]
    rcases hh with ⟨e1, e2⟩ | ⟨e1, e2⟩ <;> rw [e1, e2] <;> simp
theorem p_pass (A : AheadP b k s t h r) (ok : Bool) (hw : wrOf h r = .last) (hwk : r.mode = 2 → wakeP (r.pPass ok)) (e1 : rdOf h (r.pPass ok) = rdOf h r) (e2 : wrOf h (r.pPass ok) = .no) (hno : r.op ≠ 3 ∧ r.op ≠ 5 ∧ r.line ≠ 1 ∧ r.line ≠ 2 ∧ r.line ≠ 6 ∧ r.line ≠ 7) {h' : Int} (hb : behindI r.op (if ok then 2 else 1) h = h') (hh : h' = 0 ∨ h' = 1) (e3 : rdOf h' (zeroF r 0) = rdOf h r) :
    MovedP b k s t (wordAt r.xs 4) ((r.pPass ok).finH h) (r.pPass ok).finR (r.pPass ok).xs := by
  obtain ⟨p1, p2, p3, p4, p5, p6⟩ := pass_p (r := r) ok
  have hwt : s.wr t = .last := A.wr.trans hw
  have hI := A.inv.pass A.lt hwt
  have w0 : wordAt (r.pPass ok).xs 0 = wi b s.I s.β := by rw [p6, addf (by decide)]; exact A.ws.w0
  have w1 : wordAt (r.pPass ok).xs 1 = wordAt r.xs 1 := by rw [p6]; exact addf (by decide)
  have w2 : wordAt (r.pPass ok).xs 2 = wd b s.N := by rw [p6, addf (by decide)]; exact A.ws.w2
  have w3 : wordAt (r.pPass ok).xs 3 = wd b (s.T + 1) := by rw [p6, addat A (by decide) (by decide), A.ws.w3, wd_up]
  have w4 : wordAt (r.pPass ok).xs 4 = wordAt r.xs 4 := by rw [p6]; exact addf (by decide)
  have w4' : wordAt (r.pPass ok).xs 4 % 2 = s.φ := by rw [w4]; exact A.ws.w4
  rcases fin_turn (R := r.pPass ok) h r.mode 3 p3 (by rw [p4]; cases ok <;> decide) with ⟨e, f1, f2, f3⟩ | ⟨e, f1, f2⟩
  · rw [f1, f2]
    exact mp_wr A hI e1 e2.symm ⟨Nat.le_refl _, Nat.le_succ _⟩ (Nat.le_succ _) w0 w1 w2 w3 w4' (.inl ⟨w4, rfl⟩) (taskp_at (o := r.op) (l := r.line) p1 p2 (linep_like p1 p2 A.task.line) (hwk e) (by omega) (by omega) (by omega) (by omega) (by omega))
  · rw [f1, f2, p1, p4, hb]
    refine mp_wr A hI e3 ?_ ⟨Nat.le_refl _, Nat.le_succ _⟩ (Nat.le_succ _) w0 w1 w2 w3 w4' (.inl ⟨w4, rfl⟩) (taskp_idle _ (by omega))
    rcases hh with e | e <;> rw [e] <;> rfl
end
end Go.Proofs.Ytgfippbcgneegaa
