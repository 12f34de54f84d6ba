/- The law's example. -/
import Derived.Test.YtmhbidokpboomaaStep
import Derived.Test.YtmhbidokpboomaaFrom
import Derived.Test.YtmhbidokpboomaaSame
set_option linter.unusedVariables false
set_option linter.unusedSimpArgs false
namespace Go.Proofs.Ytmhbidokpboomaa
open Go.RowKit

set_option maxHeartbeats 400000 in
theorem awake_any (w : World) : Calls Try.prog 6 #[] w fun e w' => e = .returned (.bool true) ∧ Only Nil w w' := by
  have HR := Lib.hid (Row.new w 25 #[.int .u32 5, .int .u32 0, .int .u32 0, .int .u32 0])
  have HO0 := Lib.hid ((Only.refl Nil w).alloc (.cells #[.int .u32 5, .int .u32 0, .int .u32 0, .int .u32 0] 25))
  go_enter Try.func6, Try.ntmps6
  go_wp2_with fail
  refine (from_ok (some ⟨w.heap.size, 0, none⟩) 4 4 [5, 0, 0, 0] _ (by decide) ⟨rfl, (by intro h; cases h), ?h0⟩).mono ?_
  case h0 => exact Row.ints (xs := [5, 0, 0, 0]) HR.out
  intro e w1 hF
  obtain ⟨b, A', c', rfl, hb, hA, hM, hO⟩ := hF
  have HM := Lib.hid (Memo.of hM)
  have HO := Lib.hid (HO0.out.trans hO)
  have HA : Hid (∀ i, At A' i → w.heap.size ≤ i) := Lib.hid (fun i h => by have := hA i h; have := HO0.out.size; omega)
  clear hM hO hA hb HO0 HR
  go_wp2_with fail
  refine (step_any (some ⟨b, 0, none⟩) A' c' [5, 0, 0, 0] 1 1 0 0 0 _ _ _ HM.out holds_four (by intro n hn; simp at hn; rcases hn with rfl | rfl <;> rfl)).mono ?_
  rw [show stepI [5, 0, 0, 0] 1 1 0 0 0 (fun v => v == 4) = ⟨0, .agg #[.int .i64 1, .int .i64 0, .int .u32 0, .int .u32 0, .int .u32 5], false, false, [5, 0, 0, 0]⟩ from by kernel_rfl]
  rintro e w2 ⟨rfl, hO, _⟩
  have HO2 := Lib.hid (HO.out.step hO (fun i hi h => by have := HA.out i h; omega))
  clear hO
  go_wp2
  go_ret
  exact ⟨rfl, ((HO2.out.alloc _).alloc _)⟩
end Go.Proofs.Ytmhbidokpboomaa
