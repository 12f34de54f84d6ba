/- The suite's lines of a kind: a function. -/
import Derived.Test.YtikgjfapkcjliaaGreatKit
import Derived.Test.YtikgjfapkcjliaaGreatChecked
set_option linter.unusedVariables false
set_option linter.unusedSimpArgs false
namespace Go.Proofs.YtikgjfapkcjliaaGreat
open Go.RowKit
/-- A kind's lines. -/
def linesF (k : Int) : Value := if k = 1 then .func (.func 12) #[] #[] else if k = 2 then .func (.func 13) #[] #[] else if k = 3 then .func (.func 14) #[] #[] else if k = 4 then .func (.func 15) #[] #[] else if k = 5 then .func (.func 16) #[] #[] else if k = 6 then .func (.func 17) #[] #[] else .nilFunc
theorem lines_any (k : Int) (w : World) : Calls Tryz.prog 7 #[.int .i64 k] w fun e w' => e = .returned (.tuple #[linesF k, .bool (decide (1 ≤ k ∧ k ≤ 6))]) ∧ w = w' := by
  by_cases hk : 1 ≤ k ∧ k ≤ 6
  · rw [decide_eq_true hk]
    have hc : k = 1 ∨ k = 2 ∨ k = 3 ∨ k = 4 ∨ k = 5 ∨ k = 6 := by omega
    rcases hc with rfl | rfl | rfl | rfl | rfl | rfl
    all_goals
      go_enter Tryz.func7, Tryz.ntmps7
      go_wp2
      go_returns
      exact ⟨rfl, rfl⟩
  · rw [decide_eq_false hk]
    have h1 : ¬ k = 1 := by omega
    have h2 : ¬ k = 2 := by omega
    have h3 : ¬ k = 3 := by omega
    have h4 : ¬ k = 4 := by omega
    have h5 : ¬ k = 5 := by omega
    have h6 : ¬ k = 6 := by omega
    rw [show linesF k = .nilFunc by unfold linesF; rw [if_neg h1, if_neg h2, if_neg h3, if_neg h4, if_neg h5, if_neg h6]]
    clear hk
    go_enter Tryz.func7, Tryz.ntmps7
    go_wp2
    go_returns
    exact ⟨rfl, rfl⟩
end Go.Proofs.YtikgjfapkcjliaaGreat
