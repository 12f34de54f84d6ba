/- The cell of a task's watch. -/
import Derived.Test.YtjdgniconbocnaaPlaceC
namespace Go.Proofs.Ytjdgniconbocnaa
open Go.RowKit

theorem watch_any (n i : Int) (w : World) :
    Calls Try.prog 31 #[.agg #[.int .i64 n], .int .i64 i] w fun e w' => e = .returned (.int .i64 (cellI n 2 i)) ∧ Only Nil w w' := by
  go_enter Try.func31, Try.ntmps31
  go_wp2_with fail
  refine (cell_row n 2 i _ (by omega)).mono ?_
  rintro e w1 ⟨rfl, hO⟩
  have HO := Lib.hid hO
  clear hO
  go_wp2
  go_ret
  exact ⟨rfl, (Only.alloc (Only.refl _ _) _).trans HO.out⟩

end Go.Proofs.Ytjdgniconbocnaa
