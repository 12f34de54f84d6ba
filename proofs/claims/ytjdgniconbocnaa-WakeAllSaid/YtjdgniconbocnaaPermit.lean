/- The cell of a task's permit. -/
import Derived.Test.YtjdgniconbocnaaPlaceC
namespace Go.Proofs.Ytjdgniconbocnaa
open Go.RowKit

theorem permit_any (n i : Int) (w : World) :
    Calls Try.prog 39 #[.agg #[.int .i64 n], .int .i64 i] w fun e w' => e = .returned (.int .i64 (cellI n 3 i)) ∧ Only Nil w w' := by
  go_enter Try.func39, Try.ntmps39
  go_wp2_with fail
  refine (cell_row n 3 i _ (by omega)).mono ?_
  rintro e w1 ⟨rfl, hO⟩
  have HO := Lib.hid hO
  clear hO
  go_wp2
  go_ret
  exact ⟨rfl, (Only.alloc (Only.refl _ _) _).trans HO.out⟩

end Go.Proofs.Ytjdgniconbocnaa
