/- wake.Begin, and the answer's. -/
import Derived.Test.YtjdgniconbocnaaWakeM
set_option linter.unusedVariables false
set_option linter.unusedSimpArgs false
namespace Go.Proofs.Ytjdgniconbocnaa
open Go.RowKit

/-- A wake-up at first. -/
def beginI (mode c : Int) : WkV := if mode = 2 then ⟨true, c, 0, false⟩ else wk0
theorem beginI_2 (c : Int) : beginI 2 c = ⟨true, c, 0, false⟩ := rfl
theorem beginI_no {mode : Int} (h : mode ≠ 2) (c : Int) : beginI mode c = wk0 := if_neg h

theorem begin_any (mode c : Int) (w : World) : Calls Try.prog 12 #[.int .i64 mode, .int .i64 c] w fun e w' => e = .returned (beginI mode c).v ∧ Only Nil w w' := by
  by_cases hm : mode = 2
  · subst hm
    rw [beginI_2]
    go_enter Try.func12, Try.ntmps12
    go_wp2
    exact post_row (P := Try.prog) Try.results12 (t := 24) (by rfl) (Row.new _ _ _) Try.underlying24 rfl (by kernel_rfl) rfl ⟨rfl, (Only.refl _ _).alloc _⟩
  · rw [beginI_no hm]
    have h2 : (mode != 2) = true := bne_iff_ne.2 hm
    clear hm
    go_enter Try.func12, Try.ntmps12
    go_wp2
    exact post_row (P := Try.prog) Try.results12 (t := 24) (by rfl) (Row.new _ _ _) Try.underlying24 rfl (by kernel_rfl) rfl ⟨rfl, (Only.refl _ _).alloc _⟩

theorem rbegin_any (mode c : Int) (w : World) : Calls Try.prog 13 #[.int .i64 mode, .int .i64 c] w fun e w' => e = .returned (beginI mode c).v ∧ Only Nil w w' := by
  by_cases hm : mode = 2
  · subst hm
    rw [beginI_2]
    go_enter Try.func13, Try.ntmps13
    go_wp2
    exact post_row (P := Try.prog) Try.results13 (t := 24) (by rfl) ((Row.new _ _ _).alloc _) Try.underlying24 rfl (by kernel_rfl) rfl ⟨rfl, ((Only.refl _ _).alloc _).alloc _⟩
  · rw [beginI_no hm]
    have h2 : (mode == 2) = false := beq_eq_false_iff_ne.2 hm
    clear hm
    go_enter Try.func13, Try.ntmps13
    go_wp2
    exact post_row (P := Try.prog) Try.results13 (t := 24) (by rfl) ((Row.new _ _ _).alloc _) Try.underlying24 rfl (by kernel_rfl) rfl ⟨rfl, ((Only.refl _ _).alloc _).alloc _⟩
end Go.Proofs.Ytjdgniconbocnaa
