/- Waiting: each word stays one; a step keeps their number. -/
import Derived.Test.YtmhbidokpboomaaWaitM
set_option linter.unusedVariables false
set_option linter.unusedSimpArgs false
namespace Go.Proofs.Ytmhbidokpboomaa
open Go.RowKit

theorem wf_mk {n : Int} (h0 : 0 ≤ n) (h1 : n < 4294967296) : (Lit.int .u32 n).wf = true := by
  have e1 : IntKind.u32.min = 0 := rfl
  have e2 : IntKind.u32.max = 4294967295 := rfl
  simp only [Lit.wf, Bool.and_eq_true, decide_eq_true_eq]
  omega
theorem Words.st {xs : List Int} (h : Words xs) (c : Int) {u : Int} (h0 : 0 ≤ u) (h1 : u < 4294967296) : Words (Go.Proofs.Ytmhbidokpboomaa.st xs c u) := by
  unfold Go.Proofs.Ytmhbidokpboomaa.st
  split
  · intro n hn
    rcases List.mem_or_eq_of_mem_set hn with hn | rfl
    · exact h n hn
    · exact wf_mk h0 h1
  · exact h
theorem Words.step {xs : List Int} (h : Words xs) (n mode i s c : Int) (q : Int → Bool) : Words (stepI xs n mode i s c q).xs := by
  unfold stepI
  split
  · exact h
  split
  · exact h.st _ (by omega) (by omega)
  split
  · exact h
  split
  · exact h.st _ (by omega) (by omega)
  split
  · exact h.st _ (by omega) (by omega)
  · exact h
theorem step_len (xs : List Int) (n mode i s c : Int) (q : Int → Bool) : (stepI xs n mode i s c q).xs.length = xs.length := by
  unfold stepI
  split
  · rfl
  split
  · exact st_len _ _ _
  split
  · rfl
  split
  · exact st_len _ _ _
  split
  · exact st_len _ _ _
  · rfl
/-- Of a function that never holds nothing is seen. -/
theorem step_never (xs : List Int) (n mode i s c : Int) : (stepI xs n mode i s c (fun _ => false)).seen = false := by
  unfold stepI
  split
  · rfl
  split
  · rfl
  split
  · rfl
  split
  · rfl
  split
  · rfl
  · rfl
end Go.Proofs.Ytmhbidokpboomaa
