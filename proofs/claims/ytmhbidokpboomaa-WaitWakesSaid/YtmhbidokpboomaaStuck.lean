/- wait.Stuck. -/
import Derived.Test.YtmhbidokpboomaaWaitM
import Derived.Test.YtmhbidokpboomaaParkHas
set_option linter.unusedVariables false
set_option linter.unusedSimpArgs false
namespace Go.Proofs.Ytmhbidokpboomaa
open Go.RowKit

theorem stuck_any (p A : Option Addr) (cp : Nat) (xs : List Int) (n mode i s : Int) (w : World) (h : Memo w p A cp xs) :
    Calls Try.prog 9 #[.pointer p, .agg #[.int .i64 n], .int .i64 mode, .int .i64 i, .agg #[.int .i64 s]] w fun e w' =>
      e = .returned (.bool (stuckB xs n mode i s)) ∧ Only (At A) w w' ∧ Memo w' p A cp xs := by
  have e0 := ((Only.refl (At A) w).alloc (Obj.cells #[Value.int IntKind.i64 n] 34)).alloc (Obj.cells #[Value.int IntKind.i64 s] 24)
  have e1 := ((Only.refl Nil w).alloc (Obj.cells #[Value.int IntKind.i64 n] 34)).alloc (Obj.cells #[Value.int IntKind.i64 s] 24)
  have HH := Lib.hid (h.keep e1)
  have HO := Lib.hid e0
  clear h e0 e1
  by_cases h2 : mode = 2
  · by_cases h3 : s = 3
    · have hs : stuckB xs n mode i s = !hasP xs n i := by rw [h2, h3]; rfl
      rw [hs]
      clear hs
      subst h2 h3
      go_enter Try.func9, Try.ntmps9
      go_wp2_with fail
      refine (has_any p A cp xs n i _ HH.out).mono ?_
      rintro e w2 ⟨rfl, hO, hM⟩
      have HS := Lib.hid (HO.out.trans hO)
      have HM := Lib.hid hM
      clear hO hM
      go_wp2
      go_ret
      exact ⟨rfl, HS.out, HM.out⟩
    · have hs : stuckB xs n mode i s = false := by unfold stuckB; rw [beq_eq_false_iff_ne.2 h3, Bool.and_false, Bool.false_and]
      rw [hs]
      clear hs
      subst h2
      have h3' := beq_eq_false_iff_ne.2 h3
      go_enter Try.func9, Try.ntmps9
      go_wp2
      go_ret
      exact ⟨rfl, HO.out, HH.out⟩
  · have hs : stuckB xs n mode i s = false := by unfold stuckB; rw [beq_eq_false_iff_ne.2 h2, Bool.false_and, Bool.false_and]
    rw [hs]
    clear hs
    have h2' := beq_eq_false_iff_ne.2 h2
    go_enter Try.func9, Try.ntmps9
    go_wp2
    go_ret
    exact ⟨rfl, HO.out, HH.out⟩
end Go.Proofs.Ytmhbidokpboomaa
