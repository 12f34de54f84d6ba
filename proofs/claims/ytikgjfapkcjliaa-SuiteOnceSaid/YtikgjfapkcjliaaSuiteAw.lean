/- The law's example. -/
import Derived.Test.YtikgjfapkcjliaaSuite
import Derived.Test.YtikgjfapkcjliaaSuiteN
set_option linter.unusedVariables false
set_option linter.unusedSimpArgs false
namespace Go.Proofs.Ytikgjfapkcjliaa
open Go.RowKit
theorem awake_any (w : World) : Calls Try.prog 7 #[] w fun e w' => e = .returned (.bool true) ∧ Only Nil w w' := by
  go_enter Try.func7, Try.ntmps7
  go_wp2_with fail
  refine (beh_any 7 1 1 _).mono ?_
  rw [show behI 7 1 1 = 1 from rfl]
  rintro e w1 ⟨rfl, rfl⟩
  go_wp2_with fail
  refine (name_any 4 _).mono ?_
  rw [show kindB 4 = ⟨#[102, 97, 105, 114, 45, 113, 117, 101, 117, 101]⟩ from rfl]
  rintro e w2 ⟨rfl, hO⟩
  have HO := Lib.hid hO
  clear hO
  go_wp2_with fail
  refine (may_any 3 0 _).mono ?_
  rw [show mayI 3 0 = true from rfl]
  rintro e w3 ⟨rfl, rfl⟩
  go_wp2
  go_ret
  exact ⟨rfl, HO.out⟩
end Go.Proofs.Ytikgjfapkcjliaa
