/- The answer's cell of a permit. -/
import Derived.Test.YtjdgniconbocnaaParkM
import Derived.Test.YtjdgniconbocnaaRefThere
set_option linter.unusedVariables false
set_option linter.unusedSimpArgs false
namespace Go.Proofs.Ytjdgniconbocnaa
open Go.RowKit

theorem rcell_any (A : Option Addr) (l cp : Nat) (xs : List Int) (n i : Int) (hn : xs.length = l) (w : World) :
    Calls Try.prog 32 #[.slice A l cp, .int .i64 n, .int .i64 i] w fun e w' => e = .returned (.int .i64 (if there xs (pc n i) then pc n i else -1)) ∧ w = w' := by
  have HN := Lib.hid hn
  clear hn
  cases ht : there xs (pc n i)
  all_goals
    simp only [Bool.false_eq_true, if_false, if_true]
    have HT := Lib.hid ht
    clear ht
    go_enter Try.func32, Try.ntmps32
    go_wp2_with fail
    refine (refCell_any n 3 i _ (by omega)).mono ?_
    rintro e w1 ⟨rfl, rfl⟩
    have hpc : cellI n 3 i = pc n i := rfl
    rw [hpc]
    clear hpc
    go_wp2_with fail
    refine (there_any A l cp xs (pc n i) HN.out _).mono ?_
    rw [HT.out]
    rintro e w2 ⟨rfl, hw⟩
    obtain rfl := hw.symm
    clear hw
    go_wp2
    go_ret
    exact ⟨rfl, rfl⟩
end Go.Proofs.Ytjdgniconbocnaa
