/- The answer's There. -/
import Derived.Test.YtjdgniconbocnaaDoAny
set_option linter.unusedVariables false
set_option linter.unusedSimpArgs false
namespace Go.Proofs.Ytjdgniconbocnaa
open Go.RowKit

theorem there_any (A : Option Addr) (n cap : Nat) (xs : List Int) (c : Int) (hn : xs.length = n) (w : World) :
    Calls Try.prog 33 #[.slice A n cap, .int .i64 c] w fun e w' => e = .returned (.bool (there xs c)) ∧ w' = w := by
  have HN := Lib.hid hn
  clear hn
  by_cases h0 : 0 ≤ c
  · go_enter Try.func33, Try.ntmps33
    go_wp2
    go_ret
    exact ⟨by simp [there, HN.out, h0], rfl⟩
  · go_enter Try.func33, Try.ntmps33
    go_wp2
    go_ret
    have hf : there xs c = false := by
      have : ¬ (0 ≤ c ∧ c < xs.length) := by omega
      simp [there, this]
    exact ⟨by simp [hf], rfl⟩
end Go.Proofs.Ytjdgniconbocnaa
