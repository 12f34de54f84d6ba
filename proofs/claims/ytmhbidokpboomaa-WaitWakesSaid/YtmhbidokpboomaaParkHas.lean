/- park.There. -/
import Derived.Test.YtmhbidokpboomaaParkOn
set_option linter.unusedVariables false
set_option linter.unusedSimpArgs false
namespace Go.Proofs.Ytmhbidokpboomaa
open Go.RowKit

theorem has_any (p A : Option Addr) (cp : Nat) (xs : List Int) (n i : Int) (w : World) (h : Memo w p A cp xs) :
    Calls Try.prog 25 #[.pointer p, .agg #[.int .i64 n], .int .i64 i] w fun e w' =>
      e = .returned (.bool (hasP xs n i)) ∧ Only (At A) w w' ∧ Memo w' p A cp xs := by
  have hok0 : doOk xs 1 (pc n i) = there xs (pc n i) := by simp [doOk, isKind]
  have hst : doNew xs 1 (pc n i) 0 0 = xs := doNew_load xs _ _ _
  have HH := Lib.hid h
  have ha : ∀ j, At p j ∨ At A j → j < w.heap.size := HH.out.lt
  have HA := Lib.hid ha
  clear h ha
  go_enter Try.func25, Try.ntmps25
  go_wp2_with fail
  have e0 := (Only.refl Nil w).alloc (Obj.cells #[Value.int IntKind.i64 n] 34)
  refine (on_any p A cp xs n i 1 0 0 0 0 _ (HH.out.keep e0)).mono ?_
  obtain ⟨k', c', x', y', hv⟩ := doVal_form xs 1 (pc n i) 0 0
  rw [hv, hok0, hst]
  rintro e w2 ⟨rfl, hO, hM⟩
  have hS : Only (At A) w w2 := (e0.mono (fun _ _ h => h.elim)).trans hO
  have HS := Lib.hid hS
  have HM2 := Lib.hid hM
  clear hO hS hM e0 hv hok0 hst
  have hp : hasP xs n i = (there xs (pc n i) && (wordAt xs (pc n i) != 0)) := by
    unfold hasP wordAt
    cases there xs (pc n i) <;> simp
  cases ht : there xs (pc n i)
  · rw [ht] at hp
    have HP := Lib.hid hp
    clear ht hp
    go_wp2
    go_ret
    exact ⟨by rw [HP.out]; rfl, HS.out.alloc _, HM2.out.keep ((Only.refl Nil w2).alloc _)⟩
  · rw [ht] at hp
    generalize wordAt xs (pc n i) = v at *
    have HP := Lib.hid hp
    clear ht hp
    go_wp2
    go_ret
    exact ⟨by rw [HP.out, Bool.true_and]; rfl, HS.out.alloc _, HM2.out.keep ((Only.refl Nil w2).alloc _)⟩
end Go.Proofs.Ytmhbidokpboomaa
