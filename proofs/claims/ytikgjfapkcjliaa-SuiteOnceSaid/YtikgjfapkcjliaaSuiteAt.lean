/- The suite's At. -/
import Derived.Test.YtikgjfapkcjliaaSuite
set_option linter.unusedVariables false
set_option linter.unusedSimpArgs false
namespace Go.Proofs.Ytikgjfapkcjliaa
open Go.RowKit
theorem at_any (o h : Int) (w : World) : Calls Try.prog 6 #[.int .i64 o, .int .i64 h] w fun e w' => e = .returned (.int .i64 (atI o h)) ∧ w = w' := by
  by_cases h2 : o = 2
  · subst h2
    rw [show atI 2 h = 0 from rfl]
    go_enter Try.func6, Try.ntmps6
    go_wp2
    go_ret
    exact ⟨rfl, rfl⟩
  by_cases h4 : o = 4
  · subst h4
    rw [show atI 4 h = 0 from rfl]
    go_enter Try.func6, Try.ntmps6
    go_wp2
    go_ret
    exact ⟨rfl, rfl⟩
  by_cases h8 : o = 8
  · subst h8
    rw [show atI 8 h = 1 from rfl]
    go_enter Try.func6, Try.ntmps6
    go_wp2
    go_ret
    exact ⟨rfl, rfl⟩
  · rw [show atI o h = h by unfold atI; rw [if_neg (by omega), if_neg h8]]
    go_enter Try.func6, Try.ntmps6
    go_wp2
    go_ret
    exact ⟨rfl, rfl⟩
end Go.Proofs.Ytikgjfapkcjliaa
