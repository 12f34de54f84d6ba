import Derived.Test.YtgfippbcgneegaaP12
import Derived.Test.YtgfippbcgneegaaP11
set_option linter.unusedVariables false
set_option linter.unusedSimpArgs false
namespace Go.Proofs.Ytgfippbcgneegaa
open Go.RowKit
section
variable {r : LS}
theorem good_store (c x : Int) (hx : 0 ≤ x ∧ x < 4294967296) : r.Good (r.doA 2 c x 0) 0 := good_do (fun h => hx)
theorem good_pf : r.Good r.pf 2 := by
  have hm : ∀ a : Int, 0 ≤ a % 4294967296 ∧ a % 4294967296 < 4294967296 := fun a => by omega
  have ad : ∀ c q, r.Good (r.pAdmit c q) 2 := fun c q => by
    unfold LS.pAdmit
    split
    · exact (((good_wait _ _).trans (good_noteIf _ _)).trans (good_fin true)).le (by decide)
    · exact ((good_wait _ _).trans (good_noteIf _ _)).le (by decide)
  unfold LS.pf
  split
  · unfold LS.pCome
    split
    · exact (((((good_add _ _).trans (good_keepA _)).trans (good_note _ _)).trans (good_note _ _)).trans (good_fin true)).le (by decide)
    · exact ((((good_add _ _).trans (good_keepA _)).trans (good_note _ _)).trans (good_go _)).le (by decide)
  · exact ad _ _
  · exact ((((good_add _ _).trans (good_note _ _)).trans (good_wake _)).trans (good_fin true)).le (by decide)
  · exact ((((good_add _ _).trans (good_keepA _)).trans (good_note _ _)).trans (good_go _)).le (by decide)
  · unfold LS.pTurn
    split
    · exact ((good_wait _ _).trans (good_go _)).le (by decide)
    · exact (good_wait _ _).le (by decide)
  · exact (((good_load _).trans (good_keepB _)).trans (good_go _)).le (by decide)
  · exact ((((good_add _ _).trans (good_keepA _)).trans (good_note _ _)).trans (good_go _)).le (by decide)
  · exact ad _ _
  · exact (((good_load _).trans (good_keepB _)).trans (good_go _)).le (by decide)
  · exact ((((good_add _ _).trans (good_note _ _)).trans (good_wake _)).trans (good_go _)).le (by decide)
  · exact ((((good_add _ _).trans (good_note _ _)).trans (good_wake _)).trans (good_go _)).le (by decide)
  · exact ((good_store _ _ (hm _)).trans (good_go _)).le (by decide)
  · exact ((((good_add _ _).trans (good_note _ _)).trans (good_wake _)).trans (good_fin _)).le (by decide)
  · unfold LS.pLookIn
    split
    · exact (((good_load _).trans (good_keepA _)).trans (good_go _)).le (by decide)
    · exact ((((good_load _).trans (good_keepA _)).trans (good_note _ _)).trans (good_fin false)).le (by decide)
  · unfold LS.pSlip
    split
    · exact ((((good_cas _ _ _ (hm _)).trans (good_note _ _)).trans (good_note _ _)).trans (good_fin true)).le (by decide)
    · exact ((good_cas _ _ _ (hm _)).trans (good_go _)).le (by decide)
  · exact (((good_load _).trans (good_keepA _)).trans (good_go _)).le (by decide)
  · unfold LS.pWeighT
    split
    · exact ((((good_load _).trans (good_keepB _)).trans (good_note _ _)).trans (good_fin false)).le (by decide)
    split
    · exact (((good_load _).trans (good_keepB _)).trans (good_go _)).le (by decide)
    · exact (((good_load _).trans (good_keepB _)).trans (good_go _)).le (by decide)
  · unfold LS.pClaim
    split
    · exact (((good_cas _ _ _ (hm _)).trans (good_note _ _)).trans (good_go _)).le (by decide)
    · exact ((good_cas _ _ _ (hm _)).trans (good_go _)).le (by decide)
  · exact (((good_load _).trans (good_keepA _)).trans (good_go _)).le (by decide)
  · unfold LS.pWeighR
    split
    · exact (((good_load _).trans (good_keepB _)).trans (good_go _)).le (by decide)
    · exact ((((good_load _).trans (good_keepB _)).trans (good_note _ _)).trans (good_go _)).le (by decide)
  · unfold LS.pWeighR
    split
    · exact (((good_load _).trans (good_keepB _)).trans (good_go _)).le (by decide)
    · exact ((((good_load _).trans (good_keepB _)).trans (good_note _ _)).trans (good_go _)).le (by decide)
  · exact (((good_load _).trans (good_keepB _)).trans (good_go _)).le (by decide)
  · exact ((((good_add _ _).trans (good_keepA _)).trans (good_note _ _)).trans (good_go _)).le (by decide)
  · exact ad _ _
  · unfold LS.pOthers
    split
    · exact (((good_wait _ _).trans (good_noteIf _ _)).trans (good_go _)).le (by decide)
    · exact ((good_wait _ _).trans (good_noteIf _ _)).le (by decide)
  · exact ((good_add _ _).trans (good_fin _)).le (by decide)
  · exact ((((good_add _ _).trans (good_note _ _)).trans (good_wake _)).trans (good_fin _)).le (by decide)
  · exact (good_refl r).le (by decide)
theorem keeps_0 {r' : LS} (h1 : r'.a = r.a) (h2 : r'.b = r.b) : r.KeepsAB r' := ⟨.inl h1, .inl h2⟩
theorem keeps_a {r' : LS} (c : Int) (h1 : r'.a = wordAt r.xs c) (h2 : r'.b = r.b) : r.KeepsAB r' := ⟨.inr ⟨c, h1⟩, .inl h2⟩
theorem keeps_b {r' : LS} (c : Int) (h1 : r'.a = r.a) (h2 : r'.b = wordAt r.xs c) : r.KeepsAB r' := ⟨.inl h1, .inr ⟨c, h2⟩⟩
theorem keeps_pf (r : LS) : r.KeepsAB r.pf := by
  have ad : ∀ c q, r.KeepsAB (r.pAdmit c q) := fun c q => by
    unfold LS.pAdmit
    split
    · exact ⟨.inl (noteIf_a _ _ _).1, .inl (noteIf_a _ _ _).2⟩
    · exact ⟨.inl (noteIf_a _ _ _).1, .inl (noteIf_a _ _ _).2⟩
  unfold LS.pf
  split
  · unfold LS.pCome
    split
    · exact keeps_a 0 (by simp only [LS.pCome, LS.pDepart, LS.pDraw, LS.pTurn, LS.pKeep, LS.pAppear, LS.pVanish, LS.pCount, LS.pPass, LS.pLookIn, LS.pSlip, LS.pLook, LS.pWeighT, LS.pClaim, LS.pWeighR, LS.pStop, LS.doA, LS.keepA, LS.keepB, LS.note, LS.go, LS.fin, LS.wake, LS.wait]) (by simp only [LS.pCome, LS.pDepart, LS.pDraw, LS.pTurn, LS.pKeep, LS.pAppear, LS.pVanish, LS.pCount, LS.pPass, LS.pLookIn, LS.pSlip, LS.pLook, LS.pWeighT, LS.pClaim, LS.pWeighR, LS.pStop, LS.doA, LS.keepA, LS.keepB, LS.note, LS.go, LS.fin, LS.wake, LS.wait])
    · exact keeps_a 0 (by simp only [LS.pCome, LS.pDepart, LS.pDraw, LS.pTurn, LS.pKeep, LS.pAppear, LS.pVanish, LS.pCount, LS.pPass, LS.pLookIn, LS.pSlip, LS.pLook, LS.pWeighT, LS.pClaim, LS.pWeighR, LS.pStop, LS.doA, LS.keepA, LS.keepB, LS.note, LS.go, LS.fin, LS.wake, LS.wait]) (by simp only [LS.pCome, LS.pDepart, LS.pDraw, LS.pTurn, LS.pKeep, LS.pAppear, LS.pVanish, LS.pCount, LS.pPass, LS.pLookIn, LS.pSlip, LS.pLook, LS.pWeighT, LS.pClaim, LS.pWeighR, LS.pStop, LS.doA, LS.keepA, LS.keepB, LS.note, LS.go, LS.fin, LS.wake, LS.wait])
  · exact ad _ _
  · exact keeps_0 (by simp only [LS.pCome, LS.pDepart, LS.pDraw, LS.pTurn, LS.pKeep, LS.pAppear, LS.pVanish, LS.pCount, LS.pPass, LS.pLookIn, LS.pSlip, LS.pLook, LS.pWeighT, LS.pClaim, LS.pWeighR, LS.pStop, LS.doA, LS.keepA, LS.keepB, LS.note, LS.go, LS.fin, LS.wake, LS.wait]) (by simp only [LS.pCome, LS.pDepart, LS.pDraw, LS.pTurn, LS.pKeep, LS.pAppear, LS.pVanish, LS.pCount, LS.pPass, LS.pLookIn, LS.pSlip, LS.pLook, LS.pWeighT, LS.pClaim, LS.pWeighR, LS.pStop, LS.doA, LS.keepA, LS.keepB, LS.note, LS.go, LS.fin, LS.wake, LS.wait])
  · exact keeps_a 2 (by simp only [LS.pCome, LS.pDepart, LS.pDraw, LS.pTurn, LS.pKeep, LS.pAppear, LS.pVanish, LS.pCount, LS.pPass, LS.pLookIn, LS.pSlip, LS.pLook, LS.pWeighT, LS.pClaim, LS.pWeighR, LS.pStop, LS.doA, LS.keepA, LS.keepB, LS.note, LS.go, LS.fin, LS.wake, LS.wait]) (by simp only [LS.pCome, LS.pDepart, LS.pDraw, LS.pTurn, LS.pKeep, LS.pAppear, LS.pVanish, LS.pCount, LS.pPass, LS.pLookIn, LS.pSlip, LS.pLook, LS.pWeighT, LS.pClaim, LS.pWeighR, LS.pStop, LS.doA, LS.keepA, LS.keepB, LS.note, LS.go, LS.fin, LS.wake, LS.wait])
  · unfold LS.pTurn
    split
    · exact keeps_0 (by simp only [LS.pCome, LS.pDepart, LS.pDraw, LS.pTurn, LS.pKeep, LS.pAppear, LS.pVanish, LS.pCount, LS.pPass, LS.pLookIn, LS.pSlip, LS.pLook, LS.pWeighT, LS.pClaim, LS.pWeighR, LS.pStop, LS.doA, LS.keepA, LS.keepB, LS.note, LS.go, LS.fin, LS.wake, LS.wait]) (by simp only [LS.pCome, LS.pDepart, LS.pDraw, LS.pTurn, LS.pKeep, LS.pAppear, LS.pVanish, LS.pCount, LS.pPass, LS.pLookIn, LS.pSlip, LS.pLook, LS.pWeighT, LS.pClaim, LS.pWeighR, LS.pStop, LS.doA, LS.keepA, LS.keepB, LS.note, LS.go, LS.fin, LS.wake, LS.wait])
    · exact keeps_0 (by simp only [LS.pCome, LS.pDepart, LS.pDraw, LS.pTurn, LS.pKeep, LS.pAppear, LS.pVanish, LS.pCount, LS.pPass, LS.pLookIn, LS.pSlip, LS.pLook, LS.pWeighT, LS.pClaim, LS.pWeighR, LS.pStop, LS.doA, LS.keepA, LS.keepB, LS.note, LS.go, LS.fin, LS.wake, LS.wait]) (by simp only [LS.pCome, LS.pDepart, LS.pDraw, LS.pTurn, LS.pKeep, LS.pAppear, LS.pVanish, LS.pCount, LS.pPass, LS.pLookIn, LS.pSlip, LS.pLook, LS.pWeighT, LS.pClaim, LS.pWeighR, LS.pStop, LS.doA, LS.keepA, LS.keepB, LS.note, LS.go, LS.fin, LS.wake, LS.wait])
  · exact keeps_b 4 (by simp only [LS.pCome, LS.pDepart, LS.pDraw, LS.pTurn, LS.pKeep, LS.pAppear, LS.pVanish, LS.pCount, LS.pPass, LS.pLookIn, LS.pSlip, LS.pLook, LS.pWeighT, LS.pClaim, LS.pWeighR, LS.pStop, LS.doA, LS.keepA, LS.keepB, LS.note, LS.go, LS.fin, LS.wake, LS.wait]) (by simp only [LS.pCome, LS.pDepart, LS.pDraw, LS.pTurn, LS.pKeep, LS.pAppear, LS.pVanish, LS.pCount, LS.pPass, LS.pLookIn, LS.pSlip, LS.pLook, LS.pWeighT, LS.pClaim, LS.pWeighR, LS.pStop, LS.doA, LS.keepA, LS.keepB, LS.note, LS.go, LS.fin, LS.wake, LS.wait])
  · exact keeps_a 0 (by simp only [LS.pCome, LS.pDepart, LS.pDraw, LS.pTurn, LS.pKeep, LS.pAppear, LS.pVanish, LS.pCount, LS.pPass, LS.pLookIn, LS.pSlip, LS.pLook, LS.pWeighT, LS.pClaim, LS.pWeighR, LS.pStop, LS.doA, LS.keepA, LS.keepB, LS.note, LS.go, LS.fin, LS.wake, LS.wait]) (by simp only [LS.pCome, LS.pDepart, LS.pDraw, LS.pTurn, LS.pKeep, LS.pAppear, LS.pVanish, LS.pCount, LS.pPass, LS.pLookIn, LS.pSlip, LS.pLook, LS.pWeighT, LS.pClaim, LS.pWeighR, LS.pStop, LS.doA, LS.keepA, LS.keepB, LS.note, LS.go, LS.fin, LS.wake, LS.wait])
  · exact ad _ _
  · exact keeps_b 4 (by simp only [LS.pCome, LS.pDepart, LS.pDraw, LS.pTurn, LS.pKeep, LS.pAppear, LS.pVanish, LS.pCount, LS.pPass, LS.pLookIn, LS.pSlip, LS.pLook, LS.pWeighT, LS.pClaim, LS.pWeighR, LS.pStop, LS.doA, LS.keepA, LS.keepB, LS.note, LS.go, LS.fin, LS.wake, LS.wait]) (by simp only [LS.pCome, LS.pDepart, LS.pDraw, LS.pTurn, LS.pKeep, LS.pAppear, LS.pVanish, LS.pCount, LS.pPass, LS.pLookIn, LS.pSlip, LS.pLook, LS.pWeighT, LS.pClaim, LS.pWeighR, LS.pStop, LS.doA, LS.keepA, LS.keepB, LS.note, LS.go, LS.fin, LS.wake, LS.wait])
  · exact keeps_0 (by simp only [LS.pCome, LS.pDepart, LS.pDraw, LS.pTurn, LS.pKeep, LS.pAppear, LS.pVanish, LS.pCount, LS.pPass, LS.pLookIn, LS.pSlip, LS.pLook, LS.pWeighT, LS.pClaim, LS.pWeighR, LS.pStop, LS.doA, LS.keepA, LS.keepB, LS.note, LS.go, LS.fin, LS.wake, LS.wait]) (by simp only [LS.pCome, LS.pDepart, LS.pDraw, LS.pTurn, LS.pKeep, LS.pAppear, LS.pVanish, LS.pCount, LS.pPass, LS.pLookIn, LS.pSlip, LS.pLook, LS.pWeighT, LS.pClaim, LS.pWeighR, LS.pStop, LS.doA, LS.keepA, LS.keepB, LS.note, LS.go, LS.fin, LS.wake, LS.wait])
  · exact keeps_0 (by simp only [LS.pCome, LS.pDepart, LS.pDraw, LS.pTurn, LS.pKeep, LS.pAppear, LS.pVanish, LS.pCount, LS.pPass, LS.pLookIn, LS.pSlip, LS.pLook, LS.pWeighT, LS.pClaim, LS.pWeighR, LS.pStop, LS.doA, LS.keepA, LS.keepB, LS.note, LS.go, LS.fin, LS.wake, LS.wait]) (by simp only [LS.pCome, LS.pDepart, LS.pDraw, LS.pTurn, LS.pKeep, LS.pAppear, LS.pVanish, LS.pCount, LS.pPass, LS.pLookIn, LS.pSlip, LS.pLook, LS.pWeighT, LS.pClaim, LS.pWeighR, LS.pStop, LS.doA, LS.keepA, LS.keepB, LS.note, LS.go, LS.fin, LS.wake, LS.wait])
  · exact keeps_0 (by simp only [LS.pCome, LS.pDepart, LS.pDraw, LS.pTurn, LS.pKeep, LS.pAppear, LS.pVanish, LS.pCount, LS.pPass, LS.pLookIn, LS.pSlip, LS.pLook, LS.pWeighT, LS.pClaim, LS.pWeighR, LS.pStop, LS.doA, LS.keepA, LS.keepB, LS.note, LS.go, LS.fin, LS.wake, LS.wait]) (by simp only [LS.pCome, LS.pDepart, LS.pDraw, LS.pTurn, LS.pKeep, LS.pAppear, LS.pVanish, LS.pCount, LS.pPass, LS.pLookIn, LS.pSlip, LS.pLook, LS.pWeighT, LS.pClaim, LS.pWeighR, LS.pStop, LS.doA, LS.keepA, LS.keepB, LS.note, LS.go, LS.fin, LS.wake, LS.wait])
  · exact keeps_0 (by simp only [LS.pCome, LS.pDepart, LS.pDraw, LS.pTurn, LS.pKeep, LS.pAppear, LS.pVanish, LS.pCount, LS.pPass, LS.pLookIn, LS.pSlip, LS.pLook, LS.pWeighT, LS.pClaim, LS.pWeighR, LS.pStop, LS.doA, LS.keepA, LS.keepB, LS.note, LS.go, LS.fin, LS.wake, LS.wait]) (by simp only [LS.pCome, LS.pDepart, LS.pDraw, LS.pTurn, LS.pKeep, LS.pAppear, LS.pVanish, LS.pCount, LS.pPass, LS.pLookIn, LS.pSlip, LS.pLook, LS.pWeighT, LS.pClaim, LS.pWeighR, LS.pStop, LS.doA, LS.keepA, LS.keepB, LS.note, LS.go, LS.fin, LS.wake, LS.wait])
  · unfold LS.pLookIn
    split
    · exact keeps_a 0 (by simp only [LS.pCome, LS.pDepart, LS.pDraw, LS.pTurn, LS.pKeep, LS.pAppear, LS.pVanish, LS.pCount, LS.pPass, LS.pLookIn, LS.pSlip, LS.pLook, LS.pWeighT, LS.pClaim, LS.pWeighR, LS.pStop, LS.doA, LS.keepA, LS.keepB, LS.note, LS.go, LS.fin, LS.wake, LS.wait]) (by simp only [LS.pCome, LS.pDepart, LS.pDraw, LS.pTurn, LS.pKeep, LS.pAppear, LS.pVanish, LS.pCount, LS.pPass, LS.pLookIn, LS.pSlip, LS.pLook, LS.pWeighT, LS.pClaim, LS.pWeighR, LS.pStop, LS.doA, LS.keepA, LS.keepB, LS.note, LS.go, LS.fin, LS.wake, LS.wait])
    · exact keeps_a 0 (by simp only [LS.pCome, LS.pDepart, LS.pDraw, LS.pTurn, LS.pKeep, LS.pAppear, LS.pVanish, LS.pCount, LS.pPass, LS.pLookIn, LS.pSlip, LS.pLook, LS.pWeighT, LS.pClaim, LS.pWeighR, LS.pStop, LS.doA, LS.keepA, LS.keepB, LS.note, LS.go, LS.fin, LS.wake, LS.wait]) (by simp only [LS.pCome, LS.pDepart, LS.pDraw, LS.pTurn, LS.pKeep, LS.pAppear, LS.pVanish, LS.pCount, LS.pPass, LS.pLookIn, LS.pSlip, LS.pLook, LS.pWeighT, LS.pClaim, LS.pWeighR, LS.pStop, LS.doA, LS.keepA, LS.keepB, LS.note, LS.go, LS.fin, LS.wake, LS.wait])
  · unfold LS.pSlip
    split
    · exact keeps_0 (by simp only [LS.pCome, LS.pDepart, LS.pDraw, LS.pTurn, LS.pKeep, LS.pAppear, LS.pVanish, LS.pCount, LS.pPass, LS.pLookIn, LS.pSlip, LS.pLook, LS.pWeighT, LS.pClaim, LS.pWeighR, LS.pStop, LS.doA, LS.keepA, LS.keepB, LS.note, LS.go, LS.fin, LS.wake, LS.wait]) (by simp only [LS.pCome, LS.pDepart, LS.pDraw, LS.pTurn, LS.pKeep, LS.pAppear, LS.pVanish, LS.pCount, LS.pPass, LS.pLookIn, LS.pSlip, LS.pLook, LS.pWeighT, LS.pClaim, LS.pWeighR, LS.pStop, LS.doA, LS.keepA, LS.keepB, LS.note, LS.go, LS.fin, LS.wake, LS.wait])
    · exact keeps_0 (by simp only [LS.pCome, LS.pDepart, LS.pDraw, LS.pTurn, LS.pKeep, LS.pAppear, LS.pVanish, LS.pCount, LS.pPass, LS.pLookIn, LS.pSlip, LS.pLook, LS.pWeighT, LS.pClaim, LS.pWeighR, LS.pStop, LS.doA, LS.keepA, LS.keepB, LS.note, LS.go, LS.fin, LS.wake, LS.wait]) (by simp only [LS.pCome, LS.pDepart, LS.pDraw, LS.pTurn, LS.pKeep, LS.pAppear, LS.pVanish, LS.pCount, LS.pPass, LS.pLookIn, LS.pSlip, LS.pLook, LS.pWeighT, LS.pClaim, LS.pWeighR, LS.pStop, LS.doA, LS.keepA, LS.keepB, LS.note, LS.go, LS.fin, LS.wake, LS.wait])
  · exact keeps_a 2 (by simp only [LS.pCome, LS.pDepart, LS.pDraw, LS.pTurn, LS.pKeep, LS.pAppear, LS.pVanish, LS.pCount, LS.pPass, LS.pLookIn, LS.pSlip, LS.pLook, LS.pWeighT, LS.pClaim, LS.pWeighR, LS.pStop, LS.doA, LS.keepA, LS.keepB, LS.note, LS.go, LS.fin, LS.wake, LS.wait]) (by simp only [LS.pCome, LS.pDepart, LS.pDraw, LS.pTurn, LS.pKeep, LS.pAppear, LS.pVanish, LS.pCount, LS.pPass, LS.pLookIn, LS.pSlip, LS.pLook, LS.pWeighT, LS.pClaim, LS.pWeighR, LS.pStop, LS.doA, LS.keepA, LS.keepB, LS.note, LS.go, LS.fin, LS.wake, LS.wait])
  · unfold LS.pWeighT
    split
    · exact keeps_b 3 (by simp only [LS.pCome, LS.pDepart, LS.pDraw, LS.pTurn, LS.pKeep, LS.pAppear, LS.pVanish, LS.pCount, LS.pPass, LS.pLookIn, LS.pSlip, LS.pLook, LS.pWeighT, LS.pClaim, LS.pWeighR, LS.pStop, LS.doA, LS.keepA, LS.keepB, LS.note, LS.go, LS.fin, LS.wake, LS.wait]) (by simp only [LS.pCome, LS.pDepart, LS.pDraw, LS.pTurn, LS.pKeep, LS.pAppear, LS.pVanish, LS.pCount, LS.pPass, LS.pLookIn, LS.pSlip, LS.pLook, LS.pWeighT, LS.pClaim, LS.pWeighR, LS.pStop, LS.doA, LS.keepA, LS.keepB, LS.note, LS.go, LS.fin, LS.wake, LS.wait])
    split
    · exact keeps_b 3 (by simp only [LS.pCome, LS.pDepart, LS.pDraw, LS.pTurn, LS.pKeep, LS.pAppear, LS.pVanish, LS.pCount, LS.pPass, LS.pLookIn, LS.pSlip, LS.pLook, LS.pWeighT, LS.pClaim, LS.pWeighR, LS.pStop, LS.doA, LS.keepA, LS.keepB, LS.note, LS.go, LS.fin, LS.wake, LS.wait]) (by simp only [LS.pCome, LS.pDepart, LS.pDraw, LS.pTurn, LS.pKeep, LS.pAppear, LS.pVanish, LS.pCount, LS.pPass, LS.pLookIn, LS.pSlip, LS.pLook, LS.pWeighT, LS.pClaim, LS.pWeighR, LS.pStop, LS.doA, LS.keepA, LS.keepB, LS.note, LS.go, LS.fin, LS.wake, LS.wait])
    · exact keeps_b 3 (by simp only [LS.pCome, LS.pDepart, LS.pDraw, LS.pTurn, LS.pKeep, LS.pAppear, LS.pVanish, LS.pCount, LS.pPass, LS.pLookIn, LS.pSlip, LS.pLook, LS.pWeighT, LS.pClaim, LS.pWeighR, LS.pStop, LS.doA, LS.keepA, LS.keepB, LS.note, LS.go, LS.fin, LS.wake, LS.wait]) (by simp only [LS.pCome, LS.pDepart, LS.pDraw, LS.pTurn, LS.pKeep, LS.pAppear, LS.pVanish, LS.pCount, LS.pPass, LS.pLookIn, LS.pSlip, LS.pLook, LS.pWeighT, LS.pClaim, LS.pWeighR, LS.pStop, LS.doA, LS.keepA, LS.keepB, LS.note, LS.go, LS.fin, LS.wake, LS.wait])
  · unfold LS.pClaim
    split
    · exact keeps_0 (by simp only [LS.pCome, LS.pDepart, LS.pDraw, LS.pTurn, LS.pKeep, LS.pAppear, LS.pVanish, LS.pCount, LS.pPass, LS.pLookIn, LS.pSlip, LS.pLook, LS.pWeighT, LS.pClaim, LS.pWeighR, LS.pStop, LS.doA, LS.keepA, LS.keepB, LS.note, LS.go, LS.fin, LS.wake, LS.wait]) (by simp only [LS.pCome, LS.pDepart, LS.pDraw, LS.pTurn, LS.pKeep, LS.pAppear, LS.pVanish, LS.pCount, LS.pPass, LS.pLookIn, LS.pSlip, LS.pLook, LS.pWeighT, LS.pClaim, LS.pWeighR, LS.pStop, LS.doA, LS.keepA, LS.keepB, LS.note, LS.go, LS.fin, LS.wake, LS.wait])
    · exact keeps_0 (by simp only [LS.pCome, LS.pDepart, LS.pDraw, LS.pTurn, LS.pKeep, LS.pAppear, LS.pVanish, LS.pCount, LS.pPass, LS.pLookIn, LS.pSlip, LS.pLook, LS.pWeighT, LS.pClaim, LS.pWeighR, LS.pStop, LS.doA, LS.keepA, LS.keepB, LS.note, LS.go, LS.fin, LS.wake, LS.wait]) (by simp only [LS.pCome, LS.pDepart, LS.pDraw, LS.pTurn, LS.pKeep, LS.pAppear, LS.pVanish, LS.pCount, LS.pPass, LS.pLookIn, LS.pSlip, LS.pLook, LS.pWeighT, LS.pClaim, LS.pWeighR, LS.pStop, LS.doA, LS.keepA, LS.keepB, LS.note, LS.go, LS.fin, LS.wake, LS.wait])
  · exact keeps_a 0 (by simp only [LS.pCome, LS.pDepart, LS.pDraw, LS.pTurn, LS.pKeep, LS.pAppear, LS.pVanish, LS.pCount, LS.pPass, LS.pLookIn, LS.pSlip, LS.pLook, LS.pWeighT, LS.pClaim, LS.pWeighR, LS.pStop, LS.doA, LS.keepA, LS.keepB, LS.note, LS.go, LS.fin, LS.wake, LS.wait]) (by simp only [LS.pCome, LS.pDepart, LS.pDraw, LS.pTurn, LS.pKeep, LS.pAppear, LS.pVanish, LS.pCount, LS.pPass, LS.pLookIn, LS.pSlip, LS.pLook, LS.pWeighT, LS.pClaim, LS.pWeighR, LS.pStop, LS.doA, LS.keepA, LS.keepB, LS.note, LS.go, LS.fin, LS.wake, LS.wait])
  · unfold LS.pWeighR
    split
    · exact keeps_b 1 (by simp only [LS.pCome, LS.pDepart, LS.pDraw, LS.pTurn, LS.pKeep, LS.pAppear, LS.pVanish, LS.pCount, LS.pPass, LS.pLookIn, LS.pSlip, LS.pLook, LS.pWeighT, LS.pClaim, LS.pWeighR, LS.pStop, LS.doA, LS.keepA, LS.keepB, LS.note, LS.go, LS.fin, LS.wake, LS.wait]) (by simp only [LS.pCome, LS.pDepart, LS.pDraw, LS.pTurn, LS.pKeep, LS.pAppear, LS.pVanish, LS.pCount, LS.pPass, LS.pLookIn, LS.pSlip, LS.pLook, LS.pWeighT, LS.pClaim, LS.pWeighR, LS.pStop, LS.doA, LS.keepA, LS.keepB, LS.note, LS.go, LS.fin, LS.wake, LS.wait])
    · exact keeps_b 1 (by simp only [LS.pCome, LS.pDepart, LS.pDraw, LS.pTurn, LS.pKeep, LS.pAppear, LS.pVanish, LS.pCount, LS.pPass, LS.pLookIn, LS.pSlip, LS.pLook, LS.pWeighT, LS.pClaim, LS.pWeighR, LS.pStop, LS.doA, LS.keepA, LS.keepB, LS.note, LS.go, LS.fin, LS.wake, LS.wait]) (by simp only [LS.pCome, LS.pDepart, LS.pDraw, LS.pTurn, LS.pKeep, LS.pAppear, LS.pVanish, LS.pCount, LS.pPass, LS.pLookIn, LS.pSlip, LS.pLook, LS.pWeighT, LS.pClaim, LS.pWeighR, LS.pStop, LS.doA, LS.keepA, LS.keepB, LS.note, LS.go, LS.fin, LS.wake, LS.wait])
  · unfold LS.pWeighR
    split
    · exact keeps_b 1 (by simp only [LS.pCome, LS.pDepart, LS.pDraw, LS.pTurn, LS.pKeep, LS.pAppear, LS.pVanish, LS.pCount, LS.pPass, LS.pLookIn, LS.pSlip, LS.pLook, LS.pWeighT, LS.pClaim, LS.pWeighR, LS.pStop, LS.doA, LS.keepA, LS.keepB, LS.note, LS.go, LS.fin, LS.wake, LS.wait]) (by simp only [LS.pCome, LS.pDepart, LS.pDraw, LS.pTurn, LS.pKeep, LS.pAppear, LS.pVanish, LS.pCount, LS.pPass, LS.pLookIn, LS.pSlip, LS.pLook, LS.pWeighT, LS.pClaim, LS.pWeighR, LS.pStop, LS.doA, LS.keepA, LS.keepB, LS.note, LS.go, LS.fin, LS.wake, LS.wait])
    · exact keeps_b 1 (by simp only [LS.pCome, LS.pDepart, LS.pDraw, LS.pTurn, LS.pKeep, LS.pAppear, LS.pVanish, LS.pCount, LS.pPass, LS.pLookIn, LS.pSlip, LS.pLook, LS.pWeighT, LS.pClaim, LS.pWeighR, LS.pStop, LS.doA, LS.keepA, LS.keepB, LS.note, LS.go, LS.fin, LS.wake, LS.wait]) (by simp only [LS.pCome, LS.pDepart, LS.pDraw, LS.pTurn, LS.pKeep, LS.pAppear, LS.pVanish, LS.pCount, LS.pPass, LS.pLookIn, LS.pSlip, LS.pLook, LS.pWeighT, LS.pClaim, LS.pWeighR, LS.pStop, LS.doA, LS.keepA, LS.keepB, LS.note, LS.go, LS.fin, LS.wake, LS.wait])
  · exact keeps_b 4 (by simp only [LS.pCome, LS.pDepart, LS.pDraw, LS.pTurn, LS.pKeep, LS.pAppear, LS.pVanish, LS.pCount, LS.pPass, LS.pLookIn, LS.pSlip, LS.pLook, LS.pWeighT, LS.pClaim, LS.pWeighR, LS.pStop, LS.doA, LS.keepA, LS.keepB, LS.note, LS.go, LS.fin, LS.wake, LS.wait]) (by simp only [LS.pCome, LS.pDepart, LS.pDraw, LS.pTurn, LS.pKeep, LS.pAppear, LS.pVanish, LS.pCount, LS.pPass, LS.pLookIn, LS.pSlip, LS.pLook, LS.pWeighT, LS.pClaim, LS.pWeighR, LS.pStop, LS.doA, LS.keepA, LS.keepB, LS.note, LS.go, LS.fin, LS.wake, LS.wait])
  · exact keeps_a 0 (by simp only [LS.pCome, LS.pDepart, LS.pDraw, LS.pTurn, LS.pKeep, LS.pAppear, LS.pVanish, LS.pCount, LS.pPass, LS.pLookIn, LS.pSlip, LS.pLook, LS.pWeighT, LS.pClaim, LS.pWeighR, LS.pStop, LS.doA, LS.keepA, LS.keepB, LS.note, LS.go, LS.fin, LS.wake, LS.wait]) (by simp only [LS.pCome, LS.pDepart, LS.pDraw, LS.pTurn, LS.pKeep, LS.pAppear, LS.pVanish, LS.pCount, LS.pPass, LS.pLookIn, LS.pSlip, LS.pLook, LS.pWeighT, LS.pClaim, LS.pWeighR, LS.pStop, LS.doA, LS.keepA, LS.keepB, LS.note, LS.go, LS.fin, LS.wake, LS.wait])
  · exact ad _ _
  · unfold LS.pOthers
    split
    · exact ⟨.inl (noteIf_a _ _ _).1, .inl (noteIf_a _ _ _).2⟩
    · exact ⟨.inl (noteIf_a _ _ _).1, .inl (noteIf_a _ _ _).2⟩
  · exact keeps_0 (by simp only [LS.pCome, LS.pDepart, LS.pDraw, LS.pTurn, LS.pKeep, LS.pAppear, LS.pVanish, LS.pCount, LS.pPass, LS.pLookIn, LS.pSlip, LS.pLook, LS.pWeighT, LS.pClaim, LS.pWeighR, LS.pStop, LS.doA, LS.keepA, LS.keepB, LS.note, LS.go, LS.fin, LS.wake, LS.wait]) (by simp only [LS.pCome, LS.pDepart, LS.pDraw, LS.pTurn, LS.pKeep, LS.pAppear, LS.pVanish, LS.pCount, LS.pPass, LS.pLookIn, LS.pSlip, LS.pLook, LS.pWeighT, LS.pClaim, LS.pWeighR, LS.pStop, LS.doA, LS.keepA, LS.keepB, LS.note, LS.go, LS.fin, LS.wake, LS.wait])
  · exact keeps_0 (by simp only [LS.pCome, LS.pDepart, LS.pDraw, LS.pTurn, LS.pKeep, LS.pAppear, LS.pVanish, LS.pCount, LS.pPass, LS.pLookIn, LS.pSlip, LS.pLook, LS.pWeighT, LS.pClaim, LS.pWeighR, LS.pStop, LS.doA, LS.keepA, LS.keepB, LS.note, LS.go, LS.fin, LS.wake, LS.wait]) (by simp only [LS.pCome, LS.pDepart, LS.pDraw, LS.pTurn, LS.pKeep, LS.pAppear, LS.pVanish, LS.pCount, LS.pPass, LS.pLookIn, LS.pSlip, LS.pLook, LS.pWeighT, LS.pClaim, LS.pWeighR, LS.pStop, LS.doA, LS.keepA, LS.keepB, LS.note, LS.go, LS.fin, LS.wake, LS.wait])
  · exact keeps_0 (by simp only [LS.pCome, LS.pDepart, LS.pDraw, LS.pTurn, LS.pKeep, LS.pAppear, LS.pVanish, LS.pCount, LS.pPass, LS.pLookIn, LS.pSlip, LS.pLook, LS.pWeighT, LS.pClaim, LS.pWeighR, LS.pStop, LS.doA, LS.keepA, LS.keepB, LS.note, LS.go, LS.fin, LS.wake, LS.wait]) (by simp only [LS.pCome, LS.pDepart, LS.pDraw, LS.pTurn, LS.pKeep, LS.pAppear, LS.pVanish, LS.pCount, LS.pPass, LS.pLookIn, LS.pSlip, LS.pLook, LS.pWeighT, LS.pClaim, LS.pWeighR, LS.pStop, LS.doA, LS.keepA, LS.keepB, LS.note, LS.go, LS.fin, LS.wake, LS.wait])
end
end Go.Proofs.Ytgfippbcgneegaa
