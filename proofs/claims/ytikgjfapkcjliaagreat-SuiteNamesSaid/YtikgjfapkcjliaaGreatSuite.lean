/- The suite: which operation may be begun, what is held from its beginning on, and behind its end. -/
import Derived.Test.YtikgjfapkcjliaaGreatKit
import Derived.Test.YtikgjfapkcjliaaGreatChecked
set_option linter.unusedVariables false
set_option linter.unusedSimpArgs false
namespace Go.Proofs.YtikgjfapkcjliaaGreat
open Go.RowKit

/-- May one that holds h begin the operation o? -/
def mayI (o h : Int) : Bool := if o = 1 ∨ o = 3 ∨ o = 5 ∨ o = 6 then h == 0 else if o = 2 ∨ o = 7 then h == 1 else if o = 4 ∨ o = 8 then h == 2 else false
/-- What is held from its beginning on. -/
def atI (o h : Int) : Int := if o = 2 ∨ o = 4 then 0 else if o = 8 then 1 else h
/-- What is held behind its end with r. -/
def behI (o r h : Int) : Int := if r = 2 then (if o = 1 ∨ o = 5 then 1 else if o = 3 ∨ o = 6 ∨ o = 7 then 2 else h) else h

theorem op_cases (o : Int) : o = 1 ∨ o = 2 ∨ o = 3 ∨ o = 4 ∨ o = 5 ∨ o = 6 ∨ o = 7 ∨ o = 8 ∨ (¬ o = 1 ∧ ¬ o = 2 ∧ ¬ o = 3 ∧ ¬ o = 4 ∧ ¬ o = 5 ∧ ¬ o = 6 ∧ ¬ o = 7 ∧ ¬ o = 8) := by omega
theorem may_none {o : Int} (h : ¬ o = 1 ∧ ¬ o = 2 ∧ ¬ o = 3 ∧ ¬ o = 4 ∧ ¬ o = 5 ∧ ¬ o = 6 ∧ ¬ o = 7 ∧ ¬ o = 8) (x : Int) : mayI o x = false := by
  unfold mayI
  rw [if_neg (by omega), if_neg (by omega), if_neg (by omega)]
theorem beh_none {o : Int} (h : ¬ o = 1 ∧ ¬ o = 2 ∧ ¬ o = 3 ∧ ¬ o = 4 ∧ ¬ o = 5 ∧ ¬ o = 6 ∧ ¬ o = 7 ∧ ¬ o = 8) (r x : Int) : behI o r x = x := by
  unfold behI
  by_cases hr : r = 2
  · rw [if_pos hr, if_neg (by omega), if_neg (by omega)]
  · rw [if_neg hr]

theorem may_any (o h : Int) (w : World) : Calls Tryz.prog 10 #[.int .i64 o, .int .i64 h] w fun e w' => e = .returned (.bool (mayI o h)) ∧ w = w' := by
  rcases op_cases o with rfl | rfl | rfl | rfl | rfl | rfl | rfl | rfl | ⟨h1, h2, h3, h4, h5, h6, h7, h8⟩
  all_goals (try rw [show ∀ x, mayI 1 x = (x == 0) from fun _ => rfl])
  all_goals (try rw [show ∀ x, mayI 2 x = (x == 1) from fun _ => rfl])
  all_goals (try rw [show ∀ x, mayI 3 x = (x == 0) from fun _ => rfl])
  all_goals (try rw [show ∀ x, mayI 4 x = (x == 2) from fun _ => rfl])
  all_goals (try rw [show ∀ x, mayI 5 x = (x == 0) from fun _ => rfl])
  all_goals (try rw [show ∀ x, mayI 6 x = (x == 0) from fun _ => rfl])
  all_goals (try rw [show ∀ x, mayI 7 x = (x == 1) from fun _ => rfl])
  all_goals (try rw [show ∀ x, mayI 8 x = (x == 2) from fun _ => rfl])
  all_goals (try rw [may_none ⟨h1, h2, h3, h4, h5, h6, h7, h8⟩])
  all_goals
    go_enter Tryz.func10, Tryz.ntmps10
    go_wp2
    go_ret
    exact ⟨rfl, rfl⟩

theorem beh_any (o r h : Int) (w : World) : Calls Tryz.prog 9 #[.int .i64 o, .int .i64 r, .int .i64 h] w fun e w' => e = .returned (.int .i64 (behI o r h)) ∧ w = w' := by
  by_cases hr : r = 2
  · subst hr
    rcases op_cases o with rfl | rfl | rfl | rfl | rfl | rfl | rfl | rfl | ⟨h1, h2, h3, h4, h5, h6, h7, h8⟩
    all_goals (try rw [show ∀ x, behI 1 2 x = 1 from fun _ => rfl])
    all_goals (try rw [show ∀ x, behI 2 2 x = x from fun _ => rfl])
    all_goals (try rw [show ∀ x, behI 3 2 x = 2 from fun _ => rfl])
    all_goals (try rw [show ∀ x, behI 4 2 x = x from fun _ => rfl])
    all_goals (try rw [show ∀ x, behI 5 2 x = 1 from fun _ => rfl])
    all_goals (try rw [show ∀ x, behI 6 2 x = 2 from fun _ => rfl])
    all_goals (try rw [show ∀ x, behI 7 2 x = 2 from fun _ => rfl])
    all_goals (try rw [show ∀ x, behI 8 2 x = x from fun _ => rfl])
    all_goals (try rw [beh_none ⟨h1, h2, h3, h4, h5, h6, h7, h8⟩])
    all_goals
      go_enter Tryz.func9, Tryz.ntmps9
      go_wp2
      go_ret
      exact ⟨rfl, rfl⟩
  · rw [show behI o r h = h from if_neg hr]
    go_enter Tryz.func9, Tryz.ntmps9
    go_wp2
    go_ret
    exact ⟨rfl, rfl⟩
end Go.Proofs.YtikgjfapkcjliaaGreat
