/- The words at first of a fair queue's lock. -/
import Derived.Test.YtjdgniconbocnaaFirst
import Derived.Test.YtjdgniconbocnaaSame
import Derived.Test.YtjdgniconbocnaaClone
set_option linter.unusedVariables false
set_option linter.unusedSimpArgs false
namespace Go.Proofs.Ytjdgniconbocnaa
open Go.RowKit

/-- So many words, each 0, in a list of the call's own. -/
def Zeros (S : Nat) (w : World) (e : Ending) (w' : World) : Prop :=
  ∃ g, e = .returned (.tuple #[.slice (some ⟨g, 0, none⟩) S S, .int .i64 0]) ∧ w.heap.size ≤ g ∧ Held w' (some ⟨g, 0, none⟩) S S (List.replicate S 0) ∧ Only Nil w w' ∧ g < w'.heap.size

theorem words4 (S c : Nat) : words 4 S c 0 = List.replicate S 0 := by
  apply List.ext_getElem
  · simp [words]
  · intro i h1 h2; simp [words, wordI]

theorem first4 (n : Int) (S : Nat) (w : World) (hn : 1 ≤ n ∧ n ≤ 64) (hS : sizeI n = S) :
    Calls Try.prog 14 #[.int .i64 4, .int .i64 n, .int .u32 0] w (Zeros S w) := by
  refine (first_yes 4 n 0 S w (by omega) hn hS (by omega)).mono ?_
  rintro e w' ⟨g, rfl, hg, hR, hO⟩
  rw [words4] at hR
  have hI := Row.ints (k := .u32) (xs := List.replicate S 0) hR
  exact ⟨g, rfl, hg, ⟨by simp, (by intro h; cases h), hI⟩, hO, hR.lt⟩
end Go.Proofs.Ytjdgniconbocnaa
