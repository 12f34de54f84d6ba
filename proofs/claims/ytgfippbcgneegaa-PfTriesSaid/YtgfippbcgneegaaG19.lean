import Derived.Laws.AppendOwnNone
import Derived.Test.YtgfippbcgneegaaG3
import Derived.Test.YtgfippbcgneegaaG18
import Derived.Test.YtgfippbcgneegaaG4
import Derived.Test.YtgfippbcgneegaaG2
import Derived.Test.YtgfippbcgneegaaG1
set_option linter.unusedVariables false
set_option linter.unusedSimpArgs false
namespace Go.Proofs.Ytgfippbcgneegaa
open Go.RowKit
section
variable {r : LS}
theorem good_store (c x : Int) (hx : 0 ≤ x ∧ x < 4294967296) : r.Good (r.doA 2 c x 0) 0 := good_do (fun h => hx)
theorem good_pf : r.Good r.pf 2 := by
  have hm : ∀ a : Int, 0 ≤ a % 4294967296 ∧ a % 4294967296 < 4294967296 := fun a => by omega
  have ad : ∀ c q, r.Good (r.pAdmit c q) 2 := fun c q => by
    unfold LS.pAdmit
    split
    · exact (((good_wait _ _).trans (good_noteIf _ _)).trans (good_fin true)).le (by decide)
    · exact ((good_wait _ _).trans (good_noteIf _ _)).le (by decide)
  unfold LS.pf
  split
  · unfold LS.pCome
    split
    · exact (((((good_add _ _).trans (good_keepA _)).trans (good_note _ _)).trans (good_note _ _)).trans (good_fin true)).le (by decide)
    · exact ((((good_add _ _).trans (good_keepA _)).trans (good_note _ _)).trans (good_go _)).le (by decide)
  · exact ad _ _
  · exact ((((good_add _ _).trans (good_note _ _)).trans (good_wake _)).trans (good_fin true)).le (by decide)
  · exact ((((good_add _ _).trans (good_keepA _)).trans (good_note _ _)).trans (good_go _)).le (by decide)
  · unfold LS.pTurn
    split
    · exact ((good_wait _ _).trans (good_go _)).le (by decide)
    · exact (good_wait _ _).le (by decide)
  · exact (((good_load _).trans (good_keepB _)).trans (good_go _)).le (by decide)
  · exact ((((good_add _ _).trans (good_keepA _)).trans (good_note _ _)).trans (good_go _)).le (by decide)
  · exact ad _ _
  · exact (((good_load _).trans (good_keepB _)).trans (good_go _)).le (by decide)
  · exact ((((good_add _ _).trans (good_note _ _)).trans (good_wake _)).trans (good_go _)).le (by decide)
  · exact ((((good_add _ _).trans (good_note _ _)).trans (good_wake _)).trans (good_go _)).le (by decide)
  · exact ((good_store _ _ (hm _)).trans (good_go _)).le (by decide)
  · exact ((((good_add _ _).trans (good_note _ _)).trans (good_wake _)).trans (good_fin _)).le (by decide)
  · unfold LS.pLookIn
    split
    · exact (((good_load _).trans (good_keepA _)).trans (good_go _)).le (by decide)
    · exact ((((good_load _).trans (good_keepA _)).trans (good_note _ _)).trans (good_fin false)).le (by decide)
  · unfold LS.pSlip
    split
    · exact ((((good_cas _ _ _ (hm _)).trans (good_note _ _)).trans (good_note _ _)).trans (good_fin true)).le (by decide)
    · exact ((good_cas _ _ _ (hm _)).trans (good_go _)).le (by decide)
  · exact (((good_load _).trans (good_keepA _)).trans (good_go _)).le (by decide)
  · unfold LS.pWeighT
    split
    · exact ((((good_load _).trans (good_keepB _)).trans (good_note _ _)).trans (good_fin false)).le (by decide)
    split
    · exact (((good_load _).trans (good_keepB _)).trans (good_go _)).le (by decide)
    · exact (((good_load _).trans (good_keepB _)).trans (good_go _)).le (by decide)
  · unfold LS.pClaim
    split
    · exact (((good_cas _ _ _ (hm _)).trans (good_note _ _)).trans (good_go _)).le (by decide)
    · exact ((good_cas _ _ _ (hm _)).trans (good_go _)).le (by decide)
  · exact (((good_load _).trans (good_keepA _)).trans (good_go _)).le (by decide)
  · unfold LS.pWeighR
    split
    · exact (((good_load _).trans (good_keepB _)).trans (good_go _)).le (by decide)
    · exact ((((good_load _).trans (good_keepB _)).trans (good_note _ _)).trans (good_go _)).le (by decide)
  · unfold LS.pWeighR
    split
    · exact (((good_load _).trans (good_keepB _)).trans (good_go _)).le (by decide)
    · exact ((((good_load _).trans (good_keepB _)).trans (good_note _ _)).trans (good_go _)).le (by decide)
  · exact (((good_load _).trans (good_keepB _)).trans (good_go _)).le (by decide)
  · exact ((((good_add _ _).trans (good_keepA _)).trans (good_note _ _)).trans (good_go _)).le (by decide)
  · exact ad _ _
  · unfold LS.pOthers
    split
    · exact (((good_wait _ _).trans (good_noteIf _ _)).trans (good_go _)).le (by decide)
    · exact ((good_wait _ _).trans (good_noteIf _ _)).le (by decide)
  · exact ((good_add _ _).trans (good_fin _)).le (by decide)
  · exact ((((good_add _ _).trans (good_note _ _)).trans (good_wake _)).trans (good_fin _)).le (by decide)
  · exact (good_refl r).le (by decide)
theorem keeps_0 {r' : LS} (h1 : r'.a = r.a) (h2 : r'.b = r.b) : r.KeepsAB r' := ⟨.inl h1, .inl h2⟩
theorem keeps_a {r' : LS} (c : Int) (h1 : r'.a = wordAt r.xs c) (h2 : r'.b = r.b) : r.KeepsAB r' := ⟨.inr ⟨c, h1⟩, .inl h2⟩
theorem keeps_b {r' : LS} (c : Int) (h1 : r'.a = r.a) (h2 : r'.b = wordAt r.xs c) : r.KeepsAB r' := ⟨.inl h1, .inr ⟨c, h2⟩⟩
theorem keeps_pf (r : LS) : r.KeepsAB r.pf := by
  have ad : ∀ c q, r.KeepsAB (r.pAdmit c q) := fun c q => by
    unfold LS.pAdmit
    split
    · exact ⟨.inl (noteIf_a _ _ _).1, .inl (noteIf_a _ _ _).2⟩
    · exact ⟨.inl (noteIf_a _ _ _).1, .inl (noteIf_a _ _ _).2⟩
  unfold LS.pf
  split
  · unfold LS.pCome
    split
    · exact keeps_a 0 (by simp only [LS.pCome, LS.pDepart, LS.pDraw, LS.pTurn, LS.pKeep, LS.pAppear, LS.pVanish, LS.pCount, LS.pPass, LS.pLookIn, LS.pSlip, LS.pLook, LS.pWeighT, LS.pClaim, LS.pWeighR, LS.pStop, LS.doA, LS.keepA, LS.keepB, LS.note, LS.go, LS.fin, LS.wake, LS.wait]) (by simp only [LS.pCome, LS.pDepart, LS.pDraw, LS.pTurn, LS.pKeep, LS.pAppear, LS.pVanish, LS.pCount, LS.pPass, LS.pLookIn, LS.pSlip, LS.pLook, LS.pWeighT, LS.pClaim, LS.pWeighR, LS.pStop, LS.doA, LS.keepA, LS.keepB, LS.note, LS.go, LS.fin, LS.wake, LS.wait])
    · exact keeps_a 0 (by simp only [LS.pCome, LS.pDepart, LS.pDraw, LS.pTurn, LS.pKeep, LS.pAppear, LS.pVanish, LS.pCount, LS.pPass, LS.pLookIn, LS.pSlip, LS.pLook, LS.pWeighT, LS.pClaim, LS.pWeighR, LS.pStop, LS.doA, LS.keepA, LS.keepB, LS.note, LS.go, LS.fin, LS.wake, LS.wait]) (by simp only [LS.pCome, LS.pDepart, LS.pDraw, LS.pTurn, LS.pKeep, LS.pAppear, LS.pVanish, LS.pCount, LS.pPass, LS.pLookIn, LS.pSlip, LS.pLook, LS.pWeighT, LS.pClaim, LS.pWeighR, LS.pStop, LS.doA, LS.keepA, LS.keepB, LS.note, LS.go, LS.fin, LS.wake, LS.wait])
  · exact ad _ _
  · exact keeps_0 (by simp only [LS.pCome, LS.pDepart, LS.pDraw, LS.pTurn, LS.pKeep, LS.pAppear, LS.pVanish, LS.pCount, LS.pPass, LS.pLookIn, LS.pSlip, LS.pLook, LS.pWeighT, LS.pClaim, LS.pWeighR, LS.pStop, LS.doA, LS.keepA, LS.keepB, LS.note, LS.go, LS.fin, LS.wake, LS.wait]) (by simp only [LS.pCome, LS.pDepart, LS.pDraw, LS.pTurn, LS.pKeep, LS.pAppear, LS.pVanish, LS.pCount, LS.pPass, LS.pLookIn, LS.pSlip, LS.pLook, LS.pWeighT, LS.pClaim, LS.pWeighR, LS.pStop, LS.doA, LS.keepA, LS.keepB, LS.note, LS.go, LS.fin, LS.wake, LS.wait])
  · exact keeps_a 2 (by simp only [LS.pCome, LS.pDepart, LS.pDraw, LS.pTurn, LS.pKeep, LS.pAppear, LS.pVanish, LS.pCount, LS.pPass, LS.pLookIn, LS.pSlip, LS.pLook, LS.pWeighT, LS.pClaim, LS.pWeighR, LS.pStop, LS.doA, LS.keepA, LS.keepB, LS.note, LS.go, LS.fin, LS.wake, LS.wait]) (by simp only [LS.pCome, LS.pDepart, LS.pDraw, LS.pTurn, LS.pKeep, LS.pAppear, LS.pVanish, LS.pCount, LS.pPass, LS.pLookIn, LS.pSlip, LS.pLook, LS.pWeighT, LS.pClaim, LS.pWeighR, LS.pStop, LS.doA, LS.keepA, LS.keepB, LS.note, LS.go, LS.fin, LS.wake, LS.wait])
  · unfold LS.pTurn
    split
    · exact keeps_0 (by simp only [LS.pCome, LS.pDepart, LS.pDraw, LS.pTurn, LS.pKeep, LS.pAppear, LS.pVanish, LS.pCount, LS.pPass, LS.pLookIn, LS.pSlip, LS.pLook, LS.pWeighT, LS.pClaim, LS.pWeighR, LS.pStop, LS.doA, LS.keepA, LS.keepB, LS.note, LS.go, LS.fin, LS.wake, LS.wait]) (by simp only [LS.pCome, LS.pDepart, LS.pDraw, LS.pTurn, LS.pKeep, LS.pAppear, LS.pVanish, LS.pCount, LS.pPass, LS.pLookIn, LS.pSlip, LS.pLook, LS.pWeighT, LS.pClaim, LS.pWeighR, LS.pStop, LS.doA, LS.keepA, LS.keepB, LS.note, LS.go, LS.fin, LS.wake, LS.wait])
    · exact keeps_0 (by simp only [LS.pCome, LS.pDepart, LS.pDraw, LS.pTurn, LS.pKeep, LS.pAppear, LS.pVanish, LS.pCount, LS.pPass, LS.pLookIn, LS.pSlip, LS.pLook, LS.pWeighT, LS.pClaim, LS.pWeighR, LS.pStop, LS.doA, LS.keepA, LS.keepB, LS.note, LS.go, LS.fin, LS.wake, LS.wait]) (by simp only [LS.pCome, LS.pDepart, LS.pDraw, LS.pTurn, LS.pKeep, LS.pAppear, LS.pVanish, LS.pCount, LS.pPass, LS.pLookIn, LS.pSlip, LS.pLook, LS.pWeighT, LS.pClaim, LS.pWeighR, LS.pStop, LS.doA, LS.keepA, LS.keepB, LS.note, LS.go, LS.fin, LS.wake, LS.wait])
  · exact keeps_b 4 (by simp only [LS.pCome, LS.pDepart, LS.pDraw, LS.pTurn, LS.pKeep, LS.pAppear, LS.pVanish, LS.pCount, LS.pPass, LS.pLookIn, LS.pSlip, LS.pLook, LS.pWeighT, LS.pClaim, LS.pWeighR, LS.pStop, LS.doA, LS.keepA, LS.keepB, LS.note, LS.go, LS.fin, LS.wake, LS.wait]) (by simp only [LS.pCome, LS.pDepart, LS.pDraw, LS.pTurn, LS.pKeep, LS.pAppear, LS.pVanish, LS.pCount, LS.pPass, LS.pLookIn, LS.pSlip, LS.pLook, LS.pWeighT, LS.pClaim, LS.pWeighR, LS.pStop, LS.doA, LS.keepA, LS.keepB, LS.note, LS.go, LS.fin, LS.wake, LS.wait])
  · exact keeps_a 0 (by simp only [LS.pCome, LS.pDepart, LS.pDraw, LS.pTurn, LS.pKeep, LS.pAppear, LS.pVanish, LS.pCount, LS.pPass, LS.pLookIn, LS.pSlip, LS.pLook, LS.pWeighT, LS.pClaim, LS.pWeighR, LS.pStop, LS.doA, LS.keepA, LS.keepB, LS.note, LS.go, LS.fin, LS.wake, LS.wait]) (by simp only [LS.pCome, LS.pDepart, LS.pDraw, LS.pTurn, LS.pKeep, LS.pAppear, LS.pVanish, LS.pCount, LS.pPass, LS.pLookIn, LS.pSlip, LS.pLook, LS.pWeighT, LS.pClaim, LS.pWeighR, LS.pStop, LS.doA, LS.keepA, LS.keepB, LS.note, LS.go, LS.fin, LS.wake, LS.wait])
  · exact ad _ _
  · exact keeps_b 4 (by simp only [LS.pCome, LS.pDepart, LS.pDraw, LS.pTurn, LS.pKeep, LS.pAppear, LS.pVanish, LS.pCount, LS.pPass, LS.pLookIn, LS.pSlip, LS.pLook, LS.pWeighT, LS.pClaim, LS.pWeighR, LS.pStop, LS.doA, LS.keepA, LS.keepB, LS.note, LS.go, LS.fin, LS.wake, LS.wait]) (by simp only [LS.pCome, LS.pDepart, LS.pDraw, LS.pTurn, LS.pKeep, LS.pAppear, LS.pVanish, LS.pCount, LS.pPass, LS.pLookIn, LS.pSlip, LS.pLook, LS.pWeighT, LS.pClaim, LS.pWeighR, LS.pStop, LS.doA, LS.keepA, LS.keepB, LS.note, LS.go, LS.fin, LS.wake, LS.wait])
  · exact keeps_0 (by simp only [LS.pCome, LS.pDepart, LS.pDraw, LS.pTurn, LS.pKeep, LS.pAppear, LS.pVanish, LS.pCount, LS.pPass, LS.pLookIn, LS.pSlip, LS.pLook, LS.pWeighT, LS.pClaim, LS.pWeighR, LS.pStop, LS.doA, LS.keepA, LS.keepB, LS.note, LS.go, LS.fin, LS.wake, LS.wait]) (by simp only [LS.pCome, LS.pDepart, LS.pDraw, LS.pTurn, LS.pKeep, LS.pAppear, LS.pVanish, LS.pCount, LS.pPass, LS.pLookIn, LS.pSlip, LS.pLook, LS.pWeighT, LS.pClaim, LS.pWeighR, LS.pStop, LS.doA, LS.keepA, LS.keepB, LS.note, LS.go, LS.fin, LS.wake, LS.wait])
  · exact keeps_0 (by simp only [LS.pCome, LS.pDepart, LS.pDraw, LS.pTurn, LS.pKeep, LS.pAppear, LS.pVanish, LS.pCount, LS.pPass, LS.pLookIn, LS.pSlip, LS.pLook, LS.pWeighT, LS.pClaim, LS.pWeighR, LS.pStop, LS.doA, LS.keepA, LS.keepB, LS.note, LS.go, LS.fin, LS.wake, LS.wait]) (by simp only [LS.pCome, LS.pDepart, LS.pDraw, LS.pTurn, LS.pKeep, LS.pAppear, LS.pVanish, LS.pCount, LS.pPass, LS.pLookIn, LS.pSlip, LS.pLook, LS.pWeighT, LS.pClaim, LS.pWeighR, LS.pStop, LS.doA, LS.keepA, LS.keepB, LS.note, LS.go, LS.fin, LS.wake, LS.wait])
  · exact keeps_0 (by simp only [LS.pCome, LS.pDepart, LS.pDraw, LS.pTurn, LS.pKeep, LS.pAppear, LS.pVanish, LS.pCount, LS.pPass, LS.pLookIn, LS.pSlip, LS.pLook, LS.pWeighT, LS.pClaim, LS.pWeighR, LS.pStop, LS.doA, LS.keepA, LS.keepB, LS.note, LS.go, LS.fin, LS.wake, LS.wait]) (by simp only [LS.pCome, LS.pDepart, LS.pDraw, LS.pTurn, LS.pKeep, LS.pAppear, LS.pVanish, LS.pCount, LS.pPass, LS.pLookIn, LS.pSlip, LS.pLook, LS.pWeighT, LS.pClaim, LS.pWeighR, LS.pStop, LS.doA, LS.keepA, LS.keepB, LS.note, LS.go, LS.fin, LS.wake, LS.wait])
  · exact keeps_0 (by simp only [LS.pCome, LS.pDepart, LS.pDraw, LS.pTurn, LS.pKeep, LS.pAppear, LS.pVanish, LS.pCount, LS.pPass, LS.pLookIn, LS.pSlip, LS.pLook, LS.pWeighT, LS.pClaim, LS.pWeighR, LS.pStop, LS.doA, LS.keepA, LS.keepB, LS.note, LS.go, LS.fin, LS.wake, LS.wait]) (by simp only [LS.pCome, LS.pDepart, LS.pDraw, LS.pTurn, LS.pKeep, LS.pAppear, LS.pVanish, LS.pCount, LS.pPass, LS.pLookIn, LS.pSlip, LS.pLook, LS.pWeighT, LS.pClaim, LS.pWeighR, LS.pStop, LS.doA, LS.keepA, LS.keepB, LS.note, LS.go, LS.fin, LS.wake, LS.wait])
  · unfold LS.pLookIn
    split
    · exact keeps_a 0 (by simp only [LS.pCome, LS.pDepart, LS.pDraw, LS.pTurn, LS.pKeep, LS.pAppear, LS.pVanish, LS.pCount, LS.pPass, LS.pLookIn, LS.pSlip, LS.pLook, LS.pWeighT, LS.pClaim, LS.pWeighR, LS.pStop, LS.doA, LS.keepA, LS.keepB, LS.note, LS.go, LS.fin, LS.wake, LS.wait]) (by simp only [LS.pCome, LS.pDepart, LS.pDraw, LS.pTurn, LS.pKeep, LS.pAppear, LS.pVanish, LS.pCount, LS.pPass, LS.pLookIn, LS.pSlip, LS.pLook, LS.pWeighT, LS.pClaim, LS.pWeighR, LS.pStop, LS.doA, LS.keepA, LS.keepB, LS.note, LS.go, LS.fin, LS.wake, LS.wait])
    · exact keeps_a 0 (by simp only [LS.pCome, LS.pDepart, LS.pDraw, LS.pTurn, LS.pKeep, LS.pAppear, LS.pVanish, LS.pCount, LS.pPass, LS.pLookIn, LS.pSlip, LS.pLook, LS.pWeighT, LS.pClaim, LS.pWeighR, LS.pStop, LS.doA, LS.keepA, LS.keepB, LS.note, LS.go, LS.fin, LS.wake, LS.wait]) (by simp only [LS.pCome, LS.pDepart, LS.pDraw, LS.pTurn, LS.pKeep, LS.pAppear, LS.pVanish, LS.pCount, LS.pPass, LS.pLookIn, LS.pSlip, LS.pLook, LS.pWeighT, LS.pClaim, LS.pWeighR, LS.pStop, LS.doA, LS.keepA, LS.keepB, LS.note, LS.go, LS.fin, LS.wake, LS.wait])
  · unfold LS.pSlip
    split
    · exact keeps_0 (by simp only [LS.pCome, LS.pDepart, LS.pDraw, LS.pTurn, LS.pKeep, LS.pAppear, LS.pVanish, LS.pCount, LS.pPass, LS.pLookIn, LS.pSlip, LS.pLook, LS.pWeighT, LS.pClaim, LS.pWeighR, LS.pStop, LS.doA, LS.keepA, LS.keepB, LS.note, LS.go, LS.fin, LS.wake, LS.wait]) (by simp only [LS.pCome, LS.pDepart, LS.pDraw, LS.pTurn, LS.pKeep, LS.pAppear, LS.pVanish, LS.pCount, LS.pPass, LS.pLookIn, LS.pSlip, LS.pLook, LS.pWeighT, LS.pClaim, LS.pWeighR, LS.pStop, LS.doA, LS.keepA, LS.keepB, LS.note, LS.go, LS.fin, LS.wake, LS.wait])
    · exact keeps_0 (by simp only [LS.pCome, LS.pDepart, LS.pDraw, LS.pTurn, LS.pKeep, LS.pAppear, LS.pVanish, LS.pCount, LS.pPass, LS.pLookIn, LS.pSlip, LS.pLook, LS.pWeighT, LS.pClaim, LS.pWeighR, LS.pStop, LS.doA, LS.keepA, LS.keepB, LS.note, LS.go, LS.fin, LS.wake, LS.wait]) (by simp only [LS.pCome, LS.pDepart, LS.pDraw, LS.pTurn, LS.pKeep, LS.pAppear, LS.pVanish, LS.pCount, LS.pPass, LS.pLookIn, LS.pSlip, LS.pLook, LS.pWeighT, LS.pClaim, LS.pWeighR, LS.pStop, LS.doA, LS.keepA, LS.keepB, LS.note, LS.go, LS.fin, LS.wake, LS.wait])
  · exact keeps_a 2 (by simp only [LS.pCome, LS.pDepart, LS.pDraw, LS.pTurn, LS.pKeep, LS.pAppear, LS.pVanish, LS.pCount, LS.pPass, LS.pLookIn, LS.pSlip, LS.pLook, LS.pWeighT, LS.pClaim, LS.pWeighR, LS.pStop, LS.doA, LS.keepA, LS.keepB, LS.note, LS.go, LS.fin, LS.wake, LS.wait]) (by simp only [LS.pCome, LS.pDepart, LS.pDraw, LS.pTurn, LS.pKeep, LS.pAppear, LS.pVanish, LS.pCount, LS.pPass, LS.pLookIn, LS.pSlip, LS.pLook, LS.pWeighT, LS.pClaim, LS.pWeighR, LS.pStop, LS.doA, LS.keepA, LS.keepB, LS.note, LS.go, LS.fin, LS.wake, LS.wait])
  · unfold LS.pWeighT
    split
    · exact keeps_b 3 (by simp only [LS.pCome, LS.pDepart, LS.pDraw, LS.pTurn, LS.pKeep, LS.pAppear, LS.pVanish, LS.pCount, LS.pPass, LS.pLookIn, LS.pSlip, LS.pLook, LS.pWeighT, LS.pClaim, LS.pWeighR, LS.pStop, LS.doA, LS.keepA, LS.keepB, LS.note, LS.go, LS.fin, LS.wake, LS.wait]) (by simp only [LS.pCome, LS.pDepart, LS.pDraw, LS.pTurn, LS.pKeep, LS.pAppear, LS.pVanish, LS.pCount, LS.pPass, LS.pLookIn, LS.pSlip, LS.pLook, LS.pWeighT, LS.pClaim, LS.pWeighR, LS.pStop, LS.doA, LS.keepA, LS.keepB, LS.note, LS.go, LS.fin, LS.wake, LS.wait])
    split
    · exact keeps_b 3 (by simp only [LS.pCome, LS.pDepart, LS.pDraw, LS.pTurn, LS.pKeep, LS.pAppear, LS.pVanish, LS.pCount, LS.pPass, LS.pLookIn, LS.pSlip, LS.pLook, LS.pWeighT, LS.pClaim, LS.pWeighR, LS.pStop, LS.doA, LS.keepA, LS.keepB, LS.note, LS.go, LS.fin, LS.wake, LS.wait]) (by simp only [LS.pCome, LS.pDepart, LS.pDraw, LS.pTurn, LS.pKeep, LS.pAppear, LS.pVanish, LS.pCount, LS.pPass, LS.pLookIn, LS.pSlip, LS.pLook, LS.pWeighT, LS.pClaim, LS.pWeighR, LS.pStop, LS.doA, LS.keepA, LS.keepB, LS.note, LS.go, LS.fin, LS.wake, LS.wait])
    · exact keeps_b 3 (by simp only [LS.pCome, LS.pDepart, LS.pDraw, LS.pTurn, LS.pKeep, LS.pAppear, LS.pVanish, LS.pCount, LS.pPass, LS.pLookIn, LS.pSlip, LS.pLook, LS.pWeighT, LS.pClaim, LS.pWeighR, LS.pStop, LS.doA, LS.keepA, LS.keepB, LS.note, LS.go, LS.fin, LS.wake, LS.wait]) (by simp only [LS.pCome, LS.pDepart, LS.pDraw, LS.pTurn, LS.pKeep, LS.pAppear, LS.pVanish, LS.pCount, LS.pPass, LS.pLookIn, LS.pSlip, LS.pLook, LS.pWeighT, LS.pClaim, LS.pWeighR, LS.pStop, LS.doA, LS.keepA, LS.keepB, LS.note, LS.go, LS.fin, LS.wake, LS.wait])
  · unfold LS.pClaim
    split
    · exact keeps_0 (by simp only [LS.pCome, LS.pDepart, LS.pDraw, LS.pTurn, LS.pKeep, LS.pAppear, LS.pVanish, LS.pCount, LS.pPass, LS.pLookIn, LS.pSlip, LS.pLook, LS.pWeighT, LS.pClaim, LS.pWeighR, LS.pStop, LS.doA, LS.keepA, LS.keepB, LS.note, LS.go, LS.fin, LS.wake, LS.wait]) (by simp only [LS.pCome, LS.pDepart, LS.pDraw, LS.pTurn, LS.pKeep, LS.pAppear, LS.pVanish, LS.pCount, LS.pPass, LS.pLookIn, LS.pSlip, LS.pLook, LS.pWeighT, LS.pClaim, LS.pWeighR, LS.pStop, LS.doA, LS.keepA, LS.keepB, LS.note, LS.go, LS.fin, LS.wake, LS.wait])
    · exact keeps_0 (by simp only [LS.pCome, LS.pDepart, LS.pDraw, LS.pTurn, LS.pKeep, LS.pAppear, LS.pVanish, LS.pCount, LS.pPass, LS.pLookIn, LS.pSlip, LS.pLook, LS.pWeighT, LS.pClaim, LS.pWeighR, LS.pStop, LS.doA, LS.keepA, LS.keepB, LS.note, LS.go, LS.fin, LS.wake, LS.wait]) (by simp only [LS.pCome, LS.pDepart, LS.pDraw, LS.pTurn, LS.pKeep, LS.pAppear, LS.pVanish, LS.pCount, LS.pPass, LS.pLookIn, LS.pSlip, LS.pLook, LS.pWeighT, LS.pClaim, LS.pWeighR, LS.pStop, LS.doA, LS.keepA, LS.keepB, LS.note, LS.go, LS.fin, LS.wake, LS.wait])
  · exact keeps_a 0 (by simp only [LS.pCome, LS.pDepart, LS.pDraw, LS.pTurn, LS.pKeep, LS.pAppear, LS.pVanish, LS.pCount, LS.pPass, LS.pLookIn, LS.pSlip, LS.pLook, LS.pWeighT, LS.pClaim, LS.pWeighR, LS.pStop, LS.doA, LS.keepA, LS.keepB, LS.note, LS.go, LS.fin, LS.wake, LS.wait]) (by simp only [LS.pCome, LS.pDepart, LS.pDraw, LS.pTurn, LS.pKeep, LS.pAppear, LS.pVanish, LS.pCount, LS.pPass, LS.pLookIn, LS.pSlip, LS.pLook, LS.pWeighT, LS.pClaim, LS.pWeighR, LS.pStop, LS.doA, LS.keepA, LS.keepB, LS.note, LS.go, LS.fin, LS.wake, LS.wait])
  · unfold LS.pWeighR
    split
    · exact keeps_b 1 (by simp only [LS.pCome, LS.pDepart, LS.pDraw, LS.pTurn, LS.pKeep, LS.pAppear, LS.pVanish, LS.pCount, LS.pPass, LS.pLookIn, LS.pSlip, LS.pLook, LS.pWeighT, LS.pClaim, LS.pWeighR, LS.pStop, LS.doA, LS.keepA, LS.keepB, LS.note, LS.go, LS.fin, LS.wake, LS.wait]) (by simp only [LS.pCome, LS.pDepart, LS.pDraw, LS.pTurn, LS.pKeep, LS.pAppear, LS.pVanish, LS.pCount, LS.pPass, LS.pLookIn, LS.pSlip, LS.pLook, LS.pWeighT, LS.pClaim, LS.pWeighR, LS.pStop, LS.doA, LS.keepA, LS.keepB, LS.note, LS.go, LS.fin, LS.wake, LS.wait])
    · exact keeps_b 1 (by simp only [LS.pCome, LS.pDepart, LS.pDraw, LS.pTurn, LS.pKeep, LS.pAppear, LS.pVanish, LS.pCount, LS.pPass, LS.pLookIn, LS.pSlip, LS.pLook, LS.pWeighT, LS.pClaim, LS.pWeighR, LS.pStop, LS.doA, LS.keepA, LS.keepB, LS.note, LS.go, LS.fin, LS.wake, LS.wait]) (by simp only [LS.pCome, LS.pDepart, LS.pDraw, LS.pTurn, LS.pKeep, LS.pAppear, LS.pVanish, LS.pCount, LS.pPass, LS.pLookIn, LS.pSlip, LS.pLook, LS.pWeighT, LS.pClaim, LS.pWeighR, LS.pStop, LS.doA, LS.keepA, LS.keepB, LS.note, LS.go, LS.fin, LS.wake, LS.wait])
  · unfold LS.pWeighR
    split
    · exact keeps_b 1 (by simp only [LS.pCome, LS.pDepart, LS.pDraw, LS.pTurn, LS.pKeep, LS.pAppear, LS.pVanish, LS.pCount, LS.pPass, LS.pLookIn, LS.pSlip, LS.pLook, LS.pWeighT, LS.pClaim, LS.pWeighR, LS.pStop, LS.doA, LS.keepA, LS.keepB, LS.note, LS.go, LS.fin, LS.wake, LS.wait]) (by simp only [LS.pCome, LS.pDepart, LS.pDraw, LS.pTurn, LS.pKeep, LS.pAppear, LS.pVanish, LS.pCount, LS.pPass, LS.pLookIn, LS.pSlip, LS.pLook, LS.pWeighT, LS.pClaim, LS.pWeighR, LS.pStop, LS.doA, LS.keepA, LS.keepB, LS.note, LS.go, LS.fin, LS.wake, LS.wait])
    · exact keeps_b 1 (by simp only [LS.pCome, LS.pDepart, LS.pDraw, LS.pTurn, LS.pKeep, LS.pAppear, LS.pVanish, LS.pCount, LS.pPass, LS.pLookIn, LS.pSlip, LS.pLook, LS.pWeighT, LS.pClaim, LS.pWeighR, LS.pStop, LS.doA, LS.keepA, LS.keepB, LS.note, LS.go, LS.fin, LS.wake, LS.wait]) (by simp only [LS.pCome, LS.pDepart, LS.pDraw, LS.pTurn, LS.pKeep, LS.pAppear, LS.pVanish, LS.pCount, LS.pPass, LS.pLookIn, LS.pSlip, LS.pLook, LS.pWeighT, LS.pClaim, LS.pWeighR, LS.pStop, LS.doA, LS.keepA, LS.keepB, LS.note, LS.go, LS.fin, LS.wake, LS.wait])
  · exact keeps_b 4 (by simp only [LS.pCome, LS.pDepart, LS.pDraw, LS.pTurn, LS.pKeep, LS.pAppear, LS.pVanish, LS.pCount, LS.pPass, LS.pLookIn, LS.pSlip, LS.pLook, LS.pWeighT, LS.pClaim, LS.pWeighR, LS.pStop, LS.doA, LS.keepA, LS.keepB, LS.note, LS.go, LS.fin, LS.wake, LS.wait]) (by simp only [LS.pCome, LS.pDepart, LS.pDraw, LS.pTurn, LS.pKeep, LS.pAppear, LS.pVanish, LS.pCount, LS.pPass, LS.pLookIn, LS.pSlip, LS.pLook, LS.pWeighT, LS.pClaim, LS.pWeighR, LS.pStop, LS.doA, LS.keepA, LS.keepB, LS.note, LS.go, LS.fin, LS.wake, LS.wait])
  · exact keeps_a 0 (by simp only [LS.pCome, LS.pDepart, LS.pDraw, LS.pTurn, LS.pKeep, LS.pAppear, LS.pVanish, LS.pCount, LS.pPass, LS.pLookIn, LS.pSlip, LS.pLook, LS.pWeighT, LS.pClaim, LS.pWeighR, LS.pStop, LS.doA, LS.keepA, LS.keepB, LS.note, LS.go, LS.fin, LS.wake, LS.wait]) (by simp only [LS.pCome, LS.pDepart, LS.pDraw, LS.pTurn, LS.pKeep, LS.pAppear, LS.pVanish, LS.pCount, LS.pPass, LS.pLookIn, LS.pSlip, LS.pLook, LS.pWeighT, LS.pClaim, LS.pWeighR, LS.pStop, LS.doA, LS.keepA, LS.keepB, LS.note, LS.go, LS.fin, LS.wake, LS.wait])
  · exact ad _ _
  · unfold LS.pOthers
    split
    · exact ⟨.inl (noteIf_a _ _ _).1, .inl (noteIf_a _ _ _).2⟩
    · exact ⟨.inl (noteIf_a _ _ _).1, .inl (noteIf_a _ _ _).2⟩
  · exact keeps_0 (by simp only [LS.pCome, LS.pDepart, LS.pDraw, LS.pTurn, LS.pKeep, LS.pAppear, LS.pVanish, LS.pCount, LS.pPass, LS.pLookIn, LS.pSlip, LS.pLook, LS.pWeighT, LS.pClaim, LS.pWeighR, LS.pStop, LS.doA, LS.keepA, LS.keepB, LS.note, LS.go, LS.fin, LS.wake, LS.wait]) (by simp only [LS.pCome, LS.pDepart, LS.pDraw, LS.pTurn, LS.pKeep, LS.pAppear, LS.pVanish, LS.pCount, LS.pPass, LS.pLookIn, LS.pSlip, LS.pLook, LS.pWeighT, LS.pClaim, LS.pWeighR, LS.pStop, LS.doA, LS.keepA, LS.keepB, LS.note, LS.go, LS.fin, LS.wake, LS.wait])
  · exact keeps_0 (by simp only [LS.pCome, LS.pDepart, LS.pDraw, LS.pTurn, LS.pKeep, LS.pAppear, LS.pVanish, LS.pCount, LS.pPass, LS.pLookIn, LS.pSlip, LS.pLook, LS.pWeighT, LS.pClaim, LS.pWeighR, LS.pStop, LS.doA, LS.keepA, LS.keepB, LS.note, LS.go, LS.fin, LS.wake, LS.wait]) (by simp only [LS.pCome, LS.pDepart, LS.pDraw, LS.pTurn, LS.pKeep, LS.pAppear, LS.pVanish, LS.pCount, LS.pPass, LS.pLookIn, LS.pSlip, LS.pLook, LS.pWeighT, LS.pClaim, LS.pWeighR, LS.pStop, LS.doA, LS.keepA, LS.keepB, LS.note, LS.go, LS.fin, LS.wake, LS.wait])
  · exact keeps_0 (by simp only [LS.pCome, LS.pDepart, LS.pDraw, LS.pTurn, LS.pKeep, LS.pAppear, LS.pVanish, LS.pCount, LS.pPass, LS.pLookIn, LS.pSlip, LS.pLook, LS.pWeighT, LS.pClaim, LS.pWeighR, LS.pStop, LS.doA, LS.keepA, LS.keepB, LS.note, LS.go, LS.fin, LS.wake, LS.wait]) (by simp only [LS.pCome, LS.pDepart, LS.pDraw, LS.pTurn, LS.pKeep, LS.pAppear, LS.pVanish, LS.pCount, LS.pPass, LS.pLookIn, LS.pSlip, LS.pLook, LS.pWeighT, LS.pClaim, LS.pWeighR, LS.pStop, LS.doA, LS.keepA, LS.keepB, LS.note, LS.go, LS.fin, LS.wake, LS.wait])
end
end Go.Proofs.Ytgfippbcgneegaa
set_option linter.unusedVariables false
set_option linter.unusedSimpArgs false
namespace Go.Proofs.Ytgfippbcgneegaa
open Go.RowKit
theorem flat_cells : ∀ (zs : List Nt) (u : Value), u ∈ flat zs → u.oneCell' = true
  | [], u, h => by simp [flat] at h
  | n :: r, u, h => by
    rw [flat, List.mem_append] at h
    rcases h with h | h
    · unfold flat1 at h
      simp only [List.mem_cons, List.not_mem_nil, or_false] at h
      rcases h with rfl | rfl | rfl | rfl <;> rfl
    · exact flat_cells r u h
theorem wp_appNs {w : World} {ops : Array Oper} {rest : List Oper} {o : Oper} {a : Act} {Q : Exit → Act → World → Prop} (hgd : o.guard = none) (s x : Operand)
    (ho : o.op = .call { callee := .builtin .append, args := #[s, x], argTypes := #[32, 32] })
    (base : Nat) (v : Value) (zs : List Nt) (hs : a.eval s = v) (hown : OwnN base w v zs)
    (u : Value) (ys : List Nt) (hx : a.eval x = u) (hu : OwnN 0 w u ys)
    (h1 : zs.length ≤ 4000) (h2 : ys.length ≤ 1000) (hbase : base ≤ w.heap.size)
    (h : ∀ v' w', OwnN base w' v' (zs ++ ys) → Only (fun k => v.ownBlock = some k) w w' → wpList Try.prog ops Q rest (a.put o.dst v') w') : wpList Try.prog ops Q (o :: rest) a w := by
  obtain ⟨i0, hi, hz0, hz1, hz2⟩ := info_parts infoN
  rcases hu.2 with ⟨rfl, hn⟩ | ⟨g, cap, cur, rfl, _, hg, hc, hm, hsz, ht⟩
  · obtain rfl := List.eq_nil_of_length_eq_zero hn
    refine wpList_append_own_none hgd s x 32 ho base 130 i0 4 Try.underlying32 hi v zs.length (flat zs) hs hown hx ?_
    exact h v w (by rw [List.append_nil]; exact hown) (Only.refl _ _)
  · refine wpList_append_own w hgd s x 32 ho base 130 i0 (.agg #[.int .i64 0, .int .i64 0, .int .i64 0, .int .i64 0]) 4 32 Try.underlying32 hi hz0 hz1 hz2 rfl (by decide) v zs.length (flat zs) hs hown ⟨g, 0, none⟩ ys.length cap (flat ys) hx (flat_len ys) (fun j u hj => World.ownsRow.cells hu (g := g) rfl j u hj) (fun u hu => flat_cells ys u hu) (by unfold maxLen; omega) (by omega) hbase (fun v' w' hO hG _ => ?_)
    refine h v' w' ?_ ((Only.refl _ w).grown hG (fun k hk => .inr hk))
    have e : (zs ++ ys).length = zs.length + ys.length := List.length_append
    unfold OwnN
    rw [e, flat_app]
    exact hO
end Go.Proofs.Ytgfippbcgneegaa
set_option linter.unusedVariables false
set_option linter.unusedSimpArgs false
namespace Go.Proofs.Ytgfippbcgneegaa
open Go.RowKit
structure AloneI (w0 : World) (B : Nat) (p A : Option Addr) (cp : Nat) (r0 : LS) (most j : Nat) (v : Value) (wr : World) : Prop where
  run : ∃ nv r, RunQ wr B p A cp nv r ∧ r.WB ∧ aloneL LS.pf most r0 = aloneL LS.pf (most - j) r
  notes : ∃ zs, OwnN w0.heap.size wr v zs ∧ zs.length ≤ 2 * j
  only : Only (At A) w0 wr
  new : w0.heap.size ≤ B
  old : ∀ j, At p j ∨ At A j → j < w0.heap.size
def AloneP (p A : Option Addr) (cp : Nat) (w : World) (t : Int × List Int) (e : Ending) (w' : World) : Prop := ∃ nv, e = .returned (.tuple #[.int .i64 t.1, nv]) ∧ Only (At A) w w' ∧ Memo w' p A cp t.2 ∧ Words t.2
theorem ownN_form {base : Nat} {w : World} {v : Value} {zs : List Nt} (h : OwnN base w v zs) : ∃ A n c, v = .slice A n c := by
  rcases h.2 with ⟨rfl, _⟩ | ⟨g, cap, cur, rfl, _⟩
  · exact ⟨none, 0, 0, rfl⟩
  · exact ⟨_, _, _, rfl⟩
set_option maxRecDepth 100000 in
set_option maxHeartbeats 2000000 in
theorem alone_any (p A : Option Addr) (cp : Nat) (k mode op : Int) (most : Nat) (xs : List Int) (w : World) (h : Memo w p A cp xs) (hx : Words xs) (hmost : most ≤ 1000) :
    Calls Try.prog 10 #[.pointer p, .int .i64 k, .int .i64 mode, .int .i64 op, .int .i64 most] w (AloneP p A cp w (aloneL LS.pf most (newR k mode 0 op xs))) := by
  have e0 := (Only.refl Nil w).alloc (.cells ((newR k mode 0 op xs).cells (.pointer p) (.slice none 0 0)) 61)
  have HI0 : Hid (AloneI w w.heap.size p A cp (newR k mode 0 op xs) most 0 (.slice none 0 0) (w.alloc (.cells ((newR k mode 0 op xs).cells (.pointer p) (.slice none 0 0)) 61))) :=
    Lib.hid ⟨⟨_, _, ⟨Row.new w _ _, h.keep e0⟩, wb_new hx, rfl⟩, ⟨[], ownN_nil _ _, Nat.zero_le _⟩, e0.mono (fun _ _ h => h.elim), Nat.le_refl _, h.lt⟩
  rw [show (newR k mode 0 op xs).cells (.pointer p) (.slice none 0 0) = newCells p k mode 0 op from rfl] at HI0
  unfold newCells at HI0
  clear e0 h hx
  generalize hr0 : newR k mode 0 op xs = r0 at *
  clear hr0
  go_enter Try.func10, Try.ntmps10
  go_upto_region 2 with (fail)
  generalize w.alloc (.cells #[.pointer p, .int .i64 k, .int .i64 mode, .int .i64 0, .int .i64 op, .int .i64 0, .int .u32 0, .int .u32 0, .int .i64 0, .bool false, .int .i64 0, .int .i64 0, .bool false, .int .i64 0, .int .i64 0, .int .i64 0, .int .u32 0, .int .u32 0, .int .u32 0, .slice none 0 0] 61) = w1 at *
  generalize hB : w.heap.size = B at *
  have HB := Lib.hid hB
  clear hB
  go_wp2_with fail
  go_loopw [13, 14] (fun nv i wr => ∃ j : Nat, j ≤ most ∧ i = .int .i64 j ∧ AloneI w B p A cp r0 most j nv wr) (fun _ i _ => most - (intOf i).toNat)
  case atStart => exact ⟨0, Nat.zero_le _, rfl, HI0.out⟩
  case round =>
    obtain ⟨j, hj, rfl, hI⟩ := hrel
    clear HI0
    obtain ⟨nvr, r, hQ, hW, hA⟩ := hI.run
    have HI := Lib.hid hI
    have HQ := Lib.hid hQ
    have HW := Lib.hid hW
    have HA := Lib.hid hA
    clear hI hQ hW hA
    by_cases hlt : j < most
    · go_wp2_with fail
      refine (pf_step B p A cp nvr r _ HQ.out HW.out.words HW.out.a HW.out.b).mono ?_
      obtain ⟨hg, hn2⟩ := good_next (L := LS.pf) (fun r => good_pf) r
      have HG := Lib.hid hg
      have HN2 := Lib.hid hn2
      clear hg hn2
      have HNW := Lib.hid (wb_next (L := LS.pf) (fun r => good_pf) keeps_pf HW.out)
      rintro e w2 ⟨rfl, hO, _, nv2, hP⟩
      have HO := Lib.hid hO
      have HP := Lib.hid hP
      clear hO hP
      obtain ⟨zs, hzs, hzl⟩ := HI.out.notes
      have HZ := Lib.hid (show OwnN w.heap.size w2 _ zs from own_only hzs HO.out (fun i hi e => by
        obtain ⟨cur, hc⟩ := ownN_tag hzs hi
        rcases e with e | e
        · exact row_ne hc HQ.out.row (by decide) e
        · exact memo_not HQ.out.memo hc (by decide) (by decide) (.inr e)))
      have HZL := Lib.hid hzl
      clear hzs hzl
      have HSTEP : Hid (aloneL LS.pf most r0 = if (r.next LS.pf).over then ((r.next LS.pf).ret, (r.next LS.pf).xs) else aloneL LS.pf (most - (j + 1)) (r.next LS.pf)) := Lib.hid (by
        rw [HA.out, show most - j = (most - (j + 1)) + 1 by omega]
        rfl)
      generalize r.next LS.pf = r2 at *
      have c19 : w2.cell? ⟨B, 19, none⟩ = some nv2 := HP.out.row.cell_ (i := 19) rfl
      have hbase : w.heap.size ≤ w2.heap.size := Nat.le_trans HI.out.only.size HO.out.size
      have HBA := Lib.hid hbase
      clear hbase
      go_wp2_with (at_builtin; refine wp_appNs rfl (.tmp 31) (.tmp 35) rfl w.heap.size _ _ (by rfl) HZ.out nv2 r2.ns (by rfl) HP.out.notes (by have := HZL.out; omega) (by have := HN2.out; omega) HBA.out ?_)
      intro v' w3 hown hO3
      clear c19
      have HRQ : Hid (RunQ w3 B p A cp nv2 r2) := Lib.hid ⟨HP.out.row.only hO3 (fun e => by
          obtain ⟨cur, hc⟩ := ownN_tag HZ.out e
          exact absurd (HP.out.row.same hc).1 (by decide)), HP.out.memo.far hO3 (fun j hj e => by
          obtain ⟨cur, hc⟩ := ownN_tag HZ.out e
          exact memo_not HP.out.memo hc (by decide) (by decide) hj)⟩
      have HO3 : Hid (Only (At A) w w3) := Lib.hid ((HI.out.only.step HO.out (fun i hi e => by
          rcases e with e | e
          · have := HI.out.new; omega
          · exact e)).step hO3 (fun i hi e => by
          have := (World.ownsRow.lt HZ.out i e).1
          omega))
      have HOW := Lib.hid hown
      obtain ⟨A9, n9, c9, rfl⟩ := ownN_form hown
      clear hown hO3
      cases hov : r2.over
      · have HSTEP2 := Lib.hid (HSTEP.out.trans (by rw [hov, if_neg Bool.false_ne_true]))
        clear hov
        go_wp2
        go_roundw
        case rel => exact ⟨j + 1, by omega, by go_num, ⟨⟨nv2, r2, HRQ.out, HNW.out, HSTEP2.out⟩, ⟨_, HOW.out, by rw [List.length_append]; have := HZL.out; have := HN2.out; omega⟩, HO3.out, HI.out.new, HI.out.old⟩⟩
        case measure => simp [intOf]; omega
      · have HSTEP2 := Lib.hid (HSTEP.out.trans (by rw [hov, if_pos rfl]))
        clear hov
        have c13 : w3.cell? ⟨B, 13, none⟩ = some (.int .i64 r2.ret) := HRQ.out.row.cell_ (i := 13) rfl
        go_wp2
        go_ret2
        rw [HSTEP2.out]
        exact ⟨_, rfl, HO3.out, HRQ.out.memo, HNW.out.words⟩
    · obtain rfl : j = most := by omega
      have HE := Lib.hid (show aloneL LS.pf j r0 = (0, r.xs) by rw [HA.out, Nat.sub_self]; rfl)
      go_wp2
      go_ret2
      rw [HE.out]
      exact ⟨_, rfl, HI.out.only, HQ.out.memo, HW.out.words⟩
end Go.Proofs.Ytgfippbcgneegaa
set_option linter.unusedVariables false
set_option linter.unusedSimpArgs false
namespace Go.Proofs.Ytgfippbcgneegaa
open Go.RowKit
def Fresh (w : World) (xs : List Int) (e : Ending) (w' : World) : Prop := ∃ b A' c', e = .returned (.tuple #[.pointer (some ⟨b, 0, none⟩), .int .i64 0]) ∧ w.heap.size ≤ b ∧ (∀ i, At A' i → w.heap.size ≤ i) ∧ Mem w' b A' c' xs ∧ Only Nil w w'
theorem from_ok (A : Option Addr) (n cap : Nat) (xs : List Int) (w : World) (hm : n ≤ 1024) (h : Held w A n cap xs) :
    Calls Try.prog 9 #[.slice A n cap] w (Fresh w xs) := by
  have hl := h.1
  have hm' : (n : Int) ≤ 1024 := by omega
  have HH := Lib.hid h
  have HL := Lib.hid hl
  clear h hl
  go_enter Try.func9, Try.ntmps9
  go_wp2_with (go_at_call 25; refine (clone_held A n cap xs _ (by omega) HH.out).mono ?_; rintro e w1 ⟨A', c', rfl, ho, hO⟩)
  have HO := Lib.hid ho
  have HW := Lib.hid hO
  clear ho hO
  go_ret2
  refine ⟨w1.heap.size, A', c', rfl, HW.out.size, HO.out.base, ⟨Row.new w1 _ _, ?_, ?_⟩, HW.out.alloc _⟩
  · exact ⟨own_base (own_only HO.out.own ((Only.refl Nil w1).alloc _) (fun _ _ h => h)) (Nat.zero_le _), HO.out.nil, fun _ _ => Nat.zero_le _⟩
  · rw [HL.out]; exact hm
end Go.Proofs.Ytgfippbcgneegaa
set_option linter.unusedVariables false
set_option linter.unusedSimpArgs false
namespace Go.Proofs.Ytgfippbcgneegaa
open Go.RowKit
structure Made (w0 : World) (b : Nat) (A : Option Addr) (cp : Nat) (xs : List Int) (W : World) : Prop where
  mem : Mem W b A cp xs
  new : ∀ j, At A j → w0.heap.size ≤ j
  only : Only Nil w0 W
theorem Made.call {w0 W W' : World} {b : Nat} {A : Option Addr} {cp : Nat} {xs ys : List Int} (h : Made w0 b A cp xs W) (ho : Only (At A) W W') (hm : Mem W' b A cp ys) : Made w0 b A cp ys W' :=
  ⟨hm, h.new, h.only.step ho (fun i hi e => by have := h.new i e; omega)⟩
end Go.Proofs.Ytgfippbcgneegaa
set_option linter.unusedVariables false
set_option linter.unusedSimpArgs false
namespace Go.Proofs.Ytgfippbcgneegaa
open Go.RowKit
theorem load_raw (b : Nat) (A : Option Addr) (cp : Nat) (xs : List Int) (c : Int) (w : World) (h : Mem w b A cp xs) :
    Calls Try.prog 11 #[.pointer (some ⟨b, 0, none⟩), .int .i64 c] w fun e w' => e = .returned (.int .u32 (wordAt xs c)) ∧ Only (At A) w w' ∧ Mem w' b A cp (doNew xs 1 c 0 0) := by
  have HH := Lib.hid h
  clear h
  go_enter Try.func11, Try.ntmps11
  go_wp2_with fail
  refine (do_any b A cp xs 1 c 0 0 0 _ HH.out).mono ?_
  obtain ⟨k', c', x', y', hv⟩ := doVal_form xs 1 c 0 0
  rw [oldAt xs 1 c rfl] at hv
  rintro e w1 ⟨rfl, hO, hM⟩
  rw [hv]
  have HO := Lib.hid hO
  have HM := Lib.hid hM
  clear hO hM hv
  go_wp2
  go_ret
  exact ⟨rfl, HO.out.alloc _, HM.out.only ((Only.refl Nil w1).alloc _) id (fun _ _ => id)⟩
theorem load_any (b : Nat) (A : Option Addr) (cp : Nat) (xs : List Int) (c : Int) (w : World) (h : Mem w b A cp xs) :
    Calls Try.prog 11 #[.pointer (some ⟨b, 0, none⟩), .int .i64 c] w fun e w' => e = .returned (.int .u32 (wordAt xs c)) ∧ Only (At A) w w' ∧ Mem w' b A cp xs :=
  (load_raw b A cp xs c w h).mono fun _ _ ⟨h1, h2, h3⟩ => ⟨h1, h2, by rw [doNew_load] at h3; exact h3⟩
end Go.Proofs.Ytgfippbcgneegaa
set_option linter.unusedVariables false
set_option linter.unusedSimpArgs false
namespace Go.Proofs.Ytgfippbcgneegaa
open Go.RowKit
theorem aw_alone {m : Nat} (h : m = 5) : aloneL LS.pf m (newR (1 : Nat) 1 0 3 ((T5.at 7).xs 1)) = (2, (⟨1795, 1792, 8, 7, 7⟩ : T5).xs 1) := by
  subst h
  decide
set_option maxHeartbeats 1000000 in
theorem awake_any (w : World) : Calls Try.prog 12 #[] w fun e w' => e = .returned (.bool true) ∧ Only Nil w w' := by
  go_enter Try.func12, Try.ntmps12
  go_wp2_with fail
  refine (first_pf 1 7 _ (by decide) (by decide)).mono ?_
  rintro e w1 ⟨g, rfl, hg, hH, hO⟩
  have HH := Lib.hid hH
  have HO := Lib.hid hO
  clear hg hH hO
  go_wp2_with fail
  refine (from_ok _ _ _ _ _ (by decide) HH.out).mono ?_
  rintro e w2 ⟨b, A', c', rfl, hb, hA, hM, hO⟩
  have HM : Hid (Made w b A' c' _ w2) := Lib.hid ⟨hM, fun j hj => Nat.le_trans HO.out.size (hA j hj), HO.out.trans hO⟩
  clear hb hA hM hO HO HH
  go_wp2_with fail
  refine (alone_any (some ⟨b, 0, none⟩) A' c' 1 1 3 5 _ _ (Memo.of HM.out.mem) (at_ok (by decide)).words (by decide)).mono ?_
  rw [show aloneL LS.pf 5 (newR 1 1 0 3 ((T5.at 7).xs 1)) = (2, (⟨1795, 1792, 8, 7, 7⟩ : T5).xs 1) from aw_alone rfl]
  rintro e w3 ⟨nv, rfl, hO, hM, _⟩
  have HM3 := Lib.hid (HM.out.call hO hM.mem)
  clear hO hM HM
  go_wp2_with fail
  refine (load_any b A' c' _ 2 _ HM3.out.mem).mono ?_
  rw [show wordAt ((⟨1795, 1792, 8, 7, 7⟩ : T5).xs 1) 2 = 8 from rfl]
  rintro e w4 ⟨rfl, hO, hM⟩
  have HM4 := Lib.hid (HM3.out.call hO hM)
  clear hO hM HM3
  go_wp2_with fail
  refine (load_any b A' c' _ 0 _ HM4.out.mem).mono ?_
  rw [show wordAt ((⟨1795, 1792, 8, 7, 7⟩ : T5).xs 1) 0 = 1795 from rfl]
  rintro e w5 ⟨rfl, hO, hM⟩
  have HM5 := Lib.hid (HM4.out.call hO hM)
  clear hO hM HM4
  go_wp2
  go_ret
  exact ⟨rfl, HM5.out.only⟩
end Go.Proofs.Ytgfippbcgneegaa
set_option linter.unusedVariables false
set_option linter.unusedSimpArgs false
namespace Go.Proofs.Ytgfippbcgneegaa
open Go.RowKit
def ListsAt (W : World) (gL : Nat) (ls : List (List Int)) : Prop := ∀ (i : Nat) (l : List Int), ls[i]? = some l → ∃ g, W.cell? ⟨gL, i, none⟩ = some (.slice (some ⟨g, 0, none⟩) l.length l.length) ∧ ∀ (j : Nat) (op : Int), l[j]? = some op → W.cell? ⟨g, j, none⟩ = some (.int .i64 op)
theorem cell_keep {W W' : World} {p : Addr} {v : Value} (h : W.cell? p = some v) (ho : Only Nil W W') : W'.cell? p = some v := (ho.cell (World.block_lt_of_cell? W p h) id).trans h
theorem ListsAt.only {W W' : World} {gL : Nat} {ls : List (List Int)} (h : ListsAt W gL ls) (ho : Only Nil W W') : ListsAt W' gL ls := fun i l hi => by
  obtain ⟨g, hc, hj⟩ := h i l hi
  exact ⟨g, cell_keep hc ho, fun j op e => cell_keep (hj j op e) ho⟩
theorem Row.op {W : World} {g : Nat} {t : TypeId} {l : List Int} (h : Row W g t ((l.map (Value.int .i64)).toArray)) : ∀ (j : Nat) (op : Int), l[j]? = some op → W.cell? ⟨g, j, none⟩ = some (.int .i64 op) := fun j op e => h.cell_ (by simp [e])
end Go.Proofs.Ytgfippbcgneegaa
set_option linter.unusedVariables false
set_option linter.unusedSimpArgs false
namespace Go.Proofs.Ytgfippbcgneegaa
open Go.RowKit
theorem lists_made (w : World) : ListsAt ((((((((w.alloc (.cells #[.int .i64 1, .int .i64 2] 3)).alloc (.cells #[.int .i64 3, .int .i64 4] 3)).alloc (.cells #[.int .i64 5, .int .i64 2] 3)).alloc (.cells #[.int .i64 6, .int .i64 4] 3)).alloc (.cells #[.int .i64 3, .int .i64 8, .int .i64 2] 3)).alloc (.cells #[.int .i64 1, .int .i64 7, .int .i64 4] 3)).alloc (.cells #[.int .i64 6, .int .i64 8, .int .i64 7, .int .i64 4] 3)).alloc (.cells #[.slice (some ⟨w.heap.size, 0, none⟩) 2 2, .slice (some ⟨w.heap.size + 1, 0, none⟩) 2 2, .slice (some ⟨w.heap.size + 1 + 1, 0, none⟩) 2 2, .slice (some ⟨w.heap.size + 1 + 1 + 1, 0, none⟩) 2 2, .slice (some ⟨w.heap.size + 1 + 1 + 1 + 1, 0, none⟩) 3 3, .slice (some ⟨w.heap.size + 1 + 1 + 1 + 1 + 1, 0, none⟩) 3 3, .slice (some ⟨w.heap.size + 1 + 1 + 1 + 1 + 1 + 1, 0, none⟩) 4 4] 23)) (w.heap.size + 1 + 1 + 1 + 1 + 1 + 1 + 1) opsP := by
  have r0 : Row ((((((((w.alloc (.cells #[.int .i64 1, .int .i64 2] 3)).alloc (.cells #[.int .i64 3, .int .i64 4] 3)).alloc (.cells #[.int .i64 5, .int .i64 2] 3)).alloc (.cells #[.int .i64 6, .int .i64 4] 3)).alloc (.cells #[.int .i64 3, .int .i64 8, .int .i64 2] 3)).alloc (.cells #[.int .i64 1, .int .i64 7, .int .i64 4] 3)).alloc (.cells #[.int .i64 6, .int .i64 8, .int .i64 7, .int .i64 4] 3)).alloc (.cells #[.slice (some ⟨w.heap.size, 0, none⟩) 2 2, .slice (some ⟨w.heap.size + 1, 0, none⟩) 2 2, .slice (some ⟨w.heap.size + 1 + 1, 0, none⟩) 2 2, .slice (some ⟨w.heap.size + 1 + 1 + 1, 0, none⟩) 2 2, .slice (some ⟨w.heap.size + 1 + 1 + 1 + 1, 0, none⟩) 3 3, .slice (some ⟨w.heap.size + 1 + 1 + 1 + 1 + 1, 0, none⟩) 3 3, .slice (some ⟨w.heap.size + 1 + 1 + 1 + 1 + 1 + 1, 0, none⟩) 4 4] 23)) (w.heap.size) 3 #[.int .i64 1, .int .i64 2] := (((((((Row.new w 3 _).alloc _).alloc _).alloc _).alloc _).alloc _).alloc _).alloc _
  have r1 : Row ((((((((w.alloc (.cells #[.int .i64 1, .int .i64 2] 3)).alloc (.cells #[.int .i64 3, .int .i64 4] 3)).alloc (.cells #[.int .i64 5, .int .i64 2] 3)).alloc (.cells #[.int .i64 6, .int .i64 4] 3)).alloc (.cells #[.int .i64 3, .int .i64 8, .int .i64 2] 3)).alloc (.cells #[.int .i64 1, .int .i64 7, .int .i64 4] 3)).alloc (.cells #[.int .i64 6, .int .i64 8, .int .i64 7, .int .i64 4] 3)).alloc (.cells #[.slice (some ⟨w.heap.size, 0, none⟩) 2 2, .slice (some ⟨w.heap.size + 1, 0, none⟩) 2 2, .slice (some ⟨w.heap.size + 1 + 1, 0, none⟩) 2 2, .slice (some ⟨w.heap.size + 1 + 1 + 1, 0, none⟩) 2 2, .slice (some ⟨w.heap.size + 1 + 1 + 1 + 1, 0, none⟩) 3 3, .slice (some ⟨w.heap.size + 1 + 1 + 1 + 1 + 1, 0, none⟩) 3 3, .slice (some ⟨w.heap.size + 1 + 1 + 1 + 1 + 1 + 1, 0, none⟩) 4 4] 23)) (w.heap.size + 1) 3 #[.int .i64 3, .int .i64 4] := ((((((Row.at (by simp)).alloc _).alloc _).alloc _).alloc _).alloc _).alloc _
  have r2 : Row ((((((((w.alloc (.cells #[.int .i64 1, .int .i64 2] 3)).alloc (.cells #[.int .i64 3, .int .i64 4] 3)).alloc (.cells #[.int .i64 5, .int .i64 2] 3)).alloc (.cells #[.int .i64 6, .int .i64 4] 3)).alloc (.cells #[.int .i64 3, .int .i64 8, .int .i64 2] 3)).alloc (.cells #[.int .i64 1, .int .i64 7, .int .i64 4] 3)).alloc (.cells #[.int .i64 6, .int .i64 8, .int .i64 7, .int .i64 4] 3)).alloc (.cells #[.slice (some ⟨w.heap.size, 0, none⟩) 2 2, .slice (some ⟨w.heap.size + 1, 0, none⟩) 2 2, .slice (some ⟨w.heap.size + 1 + 1, 0, none⟩) 2 2, .slice (some ⟨w.heap.size + 1 + 1 + 1, 0, none⟩) 2 2, .slice (some ⟨w.heap.size + 1 + 1 + 1 + 1, 0, none⟩) 3 3, .slice (some ⟨w.heap.size + 1 + 1 + 1 + 1 + 1, 0, none⟩) 3 3, .slice (some ⟨w.heap.size + 1 + 1 + 1 + 1 + 1 + 1, 0, none⟩) 4 4] 23)) (w.heap.size + 1 + 1) 3 #[.int .i64 5, .int .i64 2] := (((((Row.at (by simp)).alloc _).alloc _).alloc _).alloc _).alloc _
  have r3 : Row ((((((((w.alloc (.cells #[.int .i64 1, .int .i64 2] 3)).alloc (.cells #[.int .i64 3, .int .i64 4] 3)).alloc (.cells #[.int .i64 5, .int .i64 2] 3)).alloc (.cells #[.int .i64 6, .int .i64 4] 3)).alloc (.cells #[.int .i64 3, .int .i64 8, .int .i64 2] 3)).alloc (.cells #[.int .i64 1, .int .i64 7, .int .i64 4] 3)).alloc (.cells #[.int .i64 6, .int .i64 8, .int .i64 7, .int .i64 4] 3)).alloc (.cells #[.slice (some ⟨w.heap.size, 0, none⟩) 2 2, .slice (some ⟨w.heap.size + 1, 0, none⟩) 2 2, .slice (some ⟨w.heap.size + 1 + 1, 0, none⟩) 2 2, .slice (some ⟨w.heap.size + 1 + 1 + 1, 0, none⟩) 2 2, .slice (some ⟨w.heap.size + 1 + 1 + 1 + 1, 0, none⟩) 3 3, .slice (some ⟨w.heap.size + 1 + 1 + 1 + 1 + 1, 0, none⟩) 3 3, .slice (some ⟨w.heap.size + 1 + 1 + 1 + 1 + 1 + 1, 0, none⟩) 4 4] 23)) (w.heap.size + 1 + 1 + 1) 3 #[.int .i64 6, .int .i64 4] := ((((Row.at (by simp)).alloc _).alloc _).alloc _).alloc _
  have r4 : Row ((((((((w.alloc (.cells #[.int .i64 1, .int .i64 2] 3)).alloc (.cells #[.int .i64 3, .int .i64 4] 3)).alloc (.cells #[.int .i64 5, .int .i64 2] 3)).alloc (.cells #[.int .i64 6, .int .i64 4] 3)).alloc (.cells #[.int .i64 3, .int .i64 8, .int .i64 2] 3)).alloc (.cells #[.int .i64 1, .int .i64 7, .int .i64 4] 3)).alloc (.cells #[.int .i64 6, .int .i64 8, .int .i64 7, .int .i64 4] 3)).alloc (.cells #[.slice (some ⟨w.heap.size, 0, none⟩) 2 2, .slice (some ⟨w.heap.size + 1, 0, none⟩) 2 2, .slice (some ⟨w.heap.size + 1 + 1, 0, none⟩) 2 2, .slice (some ⟨w.heap.size + 1 + 1 + 1, 0, none⟩) 2 2, .slice (some ⟨w.heap.size + 1 + 1 + 1 + 1, 0, none⟩) 3 3, .slice (some ⟨w.heap.size + 1 + 1 + 1 + 1 + 1, 0, none⟩) 3 3, .slice (some ⟨w.heap.size + 1 + 1 + 1 + 1 + 1 + 1, 0, none⟩) 4 4] 23)) (w.heap.size + 1 + 1 + 1 + 1) 3 #[.int .i64 3, .int .i64 8, .int .i64 2] := (((Row.at (by simp)).alloc _).alloc _).alloc _
  have r5 : Row ((((((((w.alloc (.cells #[.int .i64 1, .int .i64 2] 3)).alloc (.cells #[.int .i64 3, .int .i64 4] 3)).alloc (.cells #[.int .i64 5, .int .i64 2] 3)).alloc (.cells #[.int .i64 6, .int .i64 4] 3)).alloc (.cells #[.int .i64 3, .int .i64 8, .int .i64 2] 3)).alloc (.cells #[.int .i64 1, .int .i64 7, .int .i64 4] 3)).alloc (.cells #[.int .i64 6, .int .i64 8, .int .i64 7, .int .i64 4] 3)).alloc (.cells #[.slice (some ⟨w.heap.size, 0, none⟩) 2 2, .slice (some ⟨w.heap.size + 1, 0, none⟩) 2 2, .slice (some ⟨w.heap.size + 1 + 1, 0, none⟩) 2 2, .slice (some ⟨w.heap.size + 1 + 1 + 1, 0, none⟩) 2 2, .slice (some ⟨w.heap.size + 1 + 1 + 1 + 1, 0, none⟩) 3 3, .slice (some ⟨w.heap.size + 1 + 1 + 1 + 1 + 1, 0, none⟩) 3 3, .slice (some ⟨w.heap.size + 1 + 1 + 1 + 1 + 1 + 1, 0, none⟩) 4 4] 23)) (w.heap.size + 1 + 1 + 1 + 1 + 1) 3 #[.int .i64 1, .int .i64 7, .int .i64 4] := ((Row.at (by simp)).alloc _).alloc _
  have r6 : Row ((((((((w.alloc (.cells #[.int .i64 1, .int .i64 2] 3)).alloc (.cells #[.int .i64 3, .int .i64 4] 3)).alloc (.cells #[.int .i64 5, .int .i64 2] 3)).alloc (.cells #[.int .i64 6, .int .i64 4] 3)).alloc (.cells #[.int .i64 3, .int .i64 8, .int .i64 2] 3)).alloc (.cells #[.int .i64 1, .int .i64 7, .int .i64 4] 3)).alloc (.cells #[.int .i64 6, .int .i64 8, .int .i64 7, .int .i64 4] 3)).alloc (.cells #[.slice (some ⟨w.heap.size, 0, none⟩) 2 2, .slice (some ⟨w.heap.size + 1, 0, none⟩) 2 2, .slice (some ⟨w.heap.size + 1 + 1, 0, none⟩) 2 2, .slice (some ⟨w.heap.size + 1 + 1 + 1, 0, none⟩) 2 2, .slice (some ⟨w.heap.size + 1 + 1 + 1 + 1, 0, none⟩) 3 3, .slice (some ⟨w.heap.size + 1 + 1 + 1 + 1 + 1, 0, none⟩) 3 3, .slice (some ⟨w.heap.size + 1 + 1 + 1 + 1 + 1 + 1, 0, none⟩) 4 4] 23)) (w.heap.size + 1 + 1 + 1 + 1 + 1 + 1) 3 #[.int .i64 6, .int .i64 8, .int .i64 7, .int .i64 4] := (Row.at (by simp)).alloc _
  have r7 : Row ((((((((w.alloc (.cells #[.int .i64 1, .int .i64 2] 3)).alloc (.cells #[.int .i64 3, .int .i64 4] 3)).alloc (.cells #[.int .i64 5, .int .i64 2] 3)).alloc (.cells #[.int .i64 6, .int .i64 4] 3)).alloc (.cells #[.int .i64 3, .int .i64 8, .int .i64 2] 3)).alloc (.cells #[.int .i64 1, .int .i64 7, .int .i64 4] 3)).alloc (.cells #[.int .i64 6, .int .i64 8, .int .i64 7, .int .i64 4] 3)).alloc (.cells #[.slice (some ⟨w.heap.size, 0, none⟩) 2 2, .slice (some ⟨w.heap.size + 1, 0, none⟩) 2 2, .slice (some ⟨w.heap.size + 1 + 1, 0, none⟩) 2 2, .slice (some ⟨w.heap.size + 1 + 1 + 1, 0, none⟩) 2 2, .slice (some ⟨w.heap.size + 1 + 1 + 1 + 1, 0, none⟩) 3 3, .slice (some ⟨w.heap.size + 1 + 1 + 1 + 1 + 1, 0, none⟩) 3 3, .slice (some ⟨w.heap.size + 1 + 1 + 1 + 1 + 1 + 1, 0, none⟩) 4 4] 23)) (w.heap.size + 1 + 1 + 1 + 1 + 1 + 1 + 1) 23 #[.slice (some ⟨w.heap.size, 0, none⟩) 2 2, .slice (some ⟨w.heap.size + 1, 0, none⟩) 2 2, .slice (some ⟨w.heap.size + 1 + 1, 0, none⟩) 2 2, .slice (some ⟨w.heap.size + 1 + 1 + 1, 0, none⟩) 2 2, .slice (some ⟨w.heap.size + 1 + 1 + 1 + 1, 0, none⟩) 3 3, .slice (some ⟨w.heap.size + 1 + 1 + 1 + 1 + 1, 0, none⟩) 3 3, .slice (some ⟨w.heap.size + 1 + 1 + 1 + 1 + 1 + 1, 0, none⟩) 4 4] := Row.at (by simp)
  intro i l hi
  match i, hi with
  | 0, hi => obtain rfl := Option.some.inj hi; exact ⟨_, r7.cell_ (i := 0) rfl, Row.op (l := [1, 2]) r0⟩
  | 1, hi => obtain rfl := Option.some.inj hi; exact ⟨_, r7.cell_ (i := 1) rfl, Row.op (l := [3, 4]) r1⟩
  | 2, hi => obtain rfl := Option.some.inj hi; exact ⟨_, r7.cell_ (i := 2) rfl, Row.op (l := [5, 2]) r2⟩
  | 3, hi => obtain rfl := Option.some.inj hi; exact ⟨_, r7.cell_ (i := 3) rfl, Row.op (l := [6, 4]) r3⟩
  | 4, hi => obtain rfl := Option.some.inj hi; exact ⟨_, r7.cell_ (i := 4) rfl, Row.op (l := [3, 8, 2]) r4⟩
  | 5, hi => obtain rfl := Option.some.inj hi; exact ⟨_, r7.cell_ (i := 5) rfl, Row.op (l := [1, 7, 4]) r5⟩
  | 6, hi => obtain rfl := Option.some.inj hi; exact ⟨_, r7.cell_ (i := 6) rfl, Row.op (l := [6, 8, 7, 4]) r6⟩
  | i + 7, hi => simp [opsP] at hi
set_option maxHeartbeats 2000000 in
theorem walk_pfAlone (a0 a1 a2 : Int) (w : World) (h0 : (Lit.int .u32 a0).wf = true) (h1 : (Lit.int .u8 a1).wf = true) (h2 : (Lit.int .i64 a2).wf = true) :
    Calls Try.prog 3 #[.int .u32 a0, .int .u8 a1, .int .i64 a2] w fun e w' => e = .returned (.bool true) ∧ Only Nil w w' := by
  have HBD := Lib.hid (wf_u32 h0)
  obtain ⟨n0, n1⟩ := wf_u8 h1
  obtain ⟨k, hkk⟩ : ∃ k : Nat, 1 + a1 % 64 = (k : Int) := ⟨(1 + a1 % 64).toNat, by omega⟩
  have HK := Lib.hid (show 1 ≤ k ∧ k ≤ 64 by omega)
  have HKK := Lib.hid hkk
  have HLS := Lib.hid (lists_made w)
  have HO := Lib.hid (((((((((Only.refl Nil w).alloc (.cells #[.int .i64 1, .int .i64 2] 3)).alloc (.cells #[.int .i64 3, .int .i64 4] 3)).alloc (.cells #[.int .i64 5, .int .i64 2] 3)).alloc (.cells #[.int .i64 6, .int .i64 4] 3)).alloc (.cells #[.int .i64 3, .int .i64 8, .int .i64 2] 3)).alloc (.cells #[.int .i64 1, .int .i64 7, .int .i64 4] 3)).alloc (.cells #[.int .i64 6, .int .i64 8, .int .i64 7, .int .i64 4] 3)).alloc (.cells #[.slice (some ⟨w.heap.size, 0, none⟩) 2 2, .slice (some ⟨w.heap.size + 1, 0, none⟩) 2 2, .slice (some ⟨w.heap.size + 1 + 1, 0, none⟩) 2 2, .slice (some ⟨w.heap.size + 1 + 1 + 1, 0, none⟩) 2 2, .slice (some ⟨w.heap.size + 1 + 1 + 1 + 1, 0, none⟩) 3 3, .slice (some ⟨w.heap.size + 1 + 1 + 1 + 1 + 1, 0, none⟩) 3 3, .slice (some ⟨w.heap.size + 1 + 1 + 1 + 1 + 1 + 1, 0, none⟩) 4 4] 23))
  clear h0 h1 h2 hkk
  go_enter Try.func3, Try.ntmps3
  go_upto_region 3 with (fail)
  rw [HKK.out]
  generalize ((((((((w.alloc (.cells #[.int .i64 1, .int .i64 2] 3)).alloc (.cells #[.int .i64 3, .int .i64 4] 3)).alloc (.cells #[.int .i64 5, .int .i64 2] 3)).alloc (.cells #[.int .i64 6, .int .i64 4] 3)).alloc (.cells #[.int .i64 3, .int .i64 8, .int .i64 2] 3)).alloc (.cells #[.int .i64 1, .int .i64 7, .int .i64 4] 3)).alloc (.cells #[.int .i64 6, .int .i64 8, .int .i64 7, .int .i64 4] 3)).alloc (.cells #[.slice (some ⟨w.heap.size, 0, none⟩) 2 2, .slice (some ⟨w.heap.size + 1, 0, none⟩) 2 2, .slice (some ⟨w.heap.size + 1 + 1, 0, none⟩) 2 2, .slice (some ⟨w.heap.size + 1 + 1 + 1, 0, none⟩) 2 2, .slice (some ⟨w.heap.size + 1 + 1 + 1 + 1, 0, none⟩) 3 3, .slice (some ⟨w.heap.size + 1 + 1 + 1 + 1 + 1, 0, none⟩) 3 3, .slice (some ⟨w.heap.size + 1 + 1 + 1 + 1 + 1 + 1, 0, none⟩) 4 4] 23)) = w1 at *
  generalize w.heap.size + 1 + 1 + 1 + 1 + 1 + 1 + 1 = gL at *
  clear HKK n0 n1
  have hk1 : (1 : Int) ≤ k := by have := HK.out; omega
  have hk2 : (k : Int) ≤ 64 := by have := HK.out; omega
  go_loopw [30] (fun iv wr => ∃ i : Nat, i ≤ 7 ∧ iv = .int .i64 i ∧ Only Nil w1 wr) (fun iv _ => 7 - (intOf iv).toNat)
  case atStart => exact ⟨0, Nat.zero_le _, rfl, Only.refl _ _⟩
  case round =>
    obtain ⟨i, hi, rfl, hOr⟩ := hrel
    have HOR := Lib.hid hOr
    clear hOr
    by_cases hlt : i < 7
    · obtain ⟨l, hl⟩ : ∃ l, opsP[i]? = some l := ⟨_, List.getElem?_eq_getElem (show i < opsP.length from hlt)⟩
      obtain ⟨g, hc1, hops⟩ := HLS.out i l hl
      have hc := cell_keep hc1 HOR.out
      clear hc1
      have HL := Lib.hid (List.mem_of_getElem? hl)
      have HOPS := Lib.hid hops
      clear hops hl
      generalize hlen : l.length = m at *
      have HLEN := Lib.hid hlen
      have hm9 : m ≤ 4 := by
        have h := HL.out
        simp only [opsP, List.mem_cons, List.not_mem_nil, or_false] at h
        rcases h with rfl | rfl | rfl | rfl | rfl | rfl | rfl <;> simp at hlen <;> omega
      clear hlen
      go_wp2_with fail
      clear hc
      refine (first_pf k a0 _ HK.out HBD.out).mono ?_
      rintro e w2 ⟨gf, rfl, hg, hH, hO⟩
      have HH := Lib.hid hH
      have HO2 := Lib.hid hO
      clear hg hH hO
      go_wp2_with fail
      refine (from_ok _ _ _ _ _ (by omega) HH.out).mono ?_
      rintro e w3 ⟨b, A', c', rfl, hb, hA, hM, hO⟩
      have HM0 : Hid (Made w1 b A' c' ((foldP (l.take 0) a0).xs k) w3) := Lib.hid ⟨hM, fun j hj => Nat.le_trans (HOR.out.trans HO2.out).size (hA j hj), (HOR.out.trans HO2.out).trans hO⟩
      clear hb hA hM hO HO2 HH
      go_wp2_with fail
      go_loopw [14] (fun jv wq => ∃ j : Nat, j ≤ m ∧ jv = .int .i64 j ∧ Made w1 b A' c' ((foldP (l.take j) a0).xs k) wq) (fun jv _ => m - (intOf jv).toNat)
      case atStart => exact ⟨0, Nat.zero_le _, rfl, HM0.out⟩
      case round =>
        obtain ⟨j, hj, rfl, hM⟩ := hrel
        clear HM0
        have HM := Lib.hid hM
        clear hM
        by_cases hjm : j < m
        · obtain ⟨op, hop⟩ : ∃ op, l[j]? = some op := ⟨_, List.getElem?_eq_getElem (by rw [HLEN.out]; exact hjm)⟩
          have c63 : wr.cell? ⟨g, j, none⟩ = some (.int .i64 op) := cell_keep (HOPS.out j op hop) HM.out.only
          have HAL : Hid (aloneL LS.pf (40 + 8 * k) (newR k a2 0 op ((foldP (l.take j) a0).xs k)) = _) := Lib.hid (alone_pfG chk_n (m := 40 + 8 * k) (mode := a2) HK.out (by omega) (ok_pf HBD.out l HL.out j op hop))
          have HNX := Lib.hid (foldP_next (b := a0) hop)
          clear hop
          go_wp2_with fail
          clear c63
          rw [show (40 : Int) + 8 * (k : Int) = ((40 + 8 * k : Nat) : Int) by push_cast; rfl]
          refine (alone_any (some ⟨b, 0, none⟩) A' c' k a2 op (40 + 8 * k) _ _ (Memo.of HM.out.mem) (foldP_ok HBD.out).words (by omega)).mono ?_
          rw [HAL.out]
          rintro e w5 ⟨nv, rfl, hO, hM, _⟩
          have HM5 := Lib.hid (HM.out.call hO hM.mem)
          clear hO hM HM
          go_wp2
          go_roundw
          case rel => exact ⟨j + 1, by omega, by go_num, by rw [HNX.out]; exact HM5.out⟩
          case measure => simp [intOf]; omega
        · obtain rfl : j = m := by omega
          obtain ⟨x, y, z, hx⟩ : ∃ x y z, foldP l a0 = ⟨x, x, y, y, z⟩ := by
            obtain ⟨h1, h2⟩ := end_pf HBD.out l HL.out
            exact ⟨(foldP l a0).i, (foldP l a0).n, (foldP l a0).ph, by rw [T5.mk.injEq]; exact ⟨rfl, h1.symm, rfl, h2.symm, rfl⟩⟩
          have HXS := Lib.hid (show (foldP (l.take j) a0).xs k = (⟨x, x, y, y, z⟩ : T5).xs k by rw [← HLEN.out, List.take_length, hx])
          have HM4 : Hid (Made w1 b A' c' ((⟨x, x, y, y, z⟩ : T5).xs k) wr) := Lib.hid (by rw [← HXS.out]; exact HM.out)
          clear hx HM
          go_wp2_with fail
          refine (load_any b A' c' _ 0 _ HM4.out.mem).mono ?_
          rw [show wordAt ((⟨x, x, y, y, z⟩ : T5).xs k) 0 = x from os5_0]
          rintro e w5 ⟨rfl, hO, hM⟩
          have HM5 := Lib.hid (HM4.out.call hO hM)
          clear hO hM HM4
          go_wp2_with fail
          refine (load_any b A' c' _ 1 _ HM5.out.mem).mono ?_
          rw [show wordAt ((⟨x, x, y, y, z⟩ : T5).xs k) 1 = x from os5_1]
          rintro e w6 ⟨rfl, hO, hM⟩
          have HM6 := Lib.hid (HM5.out.call hO hM)
          clear hO hM HM5
          go_wp2_with fail
          refine (load_any b A' c' _ 2 _ HM6.out.mem).mono ?_
          rw [show wordAt ((⟨x, x, y, y, z⟩ : T5).xs k) 2 = y from os5_2]
          rintro e w7 ⟨rfl, hO, hM⟩
          have HM7 := Lib.hid (HM6.out.call hO hM)
          clear hO hM HM6
          go_wp2_with fail
          refine (load_any b A' c' _ 3 _ HM7.out.mem).mono ?_
          rw [show wordAt ((⟨x, x, y, y, z⟩ : T5).xs k) 3 = y from os5_3]
          rintro e w8 ⟨rfl, hO, hM⟩
          have HM8 := Lib.hid (HM7.out.call hO hM)
          clear hO hM HM7
          go_wp2
          go_roundw
          case rel => exact ⟨i + 1, by omega, by go_num, HM8.out.only⟩
          case measure => simp [intOf]; omega
    · obtain rfl : i = 7 := by omega
      go_wp2_with fail
      refine (awake_any _).mono ?_
      rintro e w9 ⟨rfl, hO⟩
      have HO9 := Lib.hid ((HO.out.trans HOR.out).trans hO)
      clear hO
      go_wp2
      go_ret
      exact ⟨rfl, HO9.out⟩
end Go.Proofs.Ytgfippbcgneegaa
