/- The answer's Stuck. -/
import Derived.Test.YtmhbidokpboomaaWaitM
import Derived.Test.YtmhbidokpboomaaRHas
set_option linter.unusedVariables false
set_option linter.unusedSimpArgs false
namespace Go.Proofs.Ytmhbidokpboomaa
open Go.RowKit

theorem rstuck_any (A : Option Addr) (l cp : Nat) (xs : List Int) (n mode i s : Int) (hn : xs.length = l) (w : World) (hx : Ints w w.heap.size .u32 A xs) :
    Calls Try.prog 10 #[.slice A l cp, .int .i64 n, .int .i64 mode, .int .i64 i, .agg #[.int .i64 s]] w fun e w' =>
      e = .returned (.bool (stuckB xs n mode i s)) ∧ Only Nil w w' := by
  have e1 := (Only.refl Nil w).alloc (Obj.cells #[Value.int IntKind.i64 s] 24)
  have HO := Lib.hid e1
  have HX := Lib.hid (hx.only e1 (Nat.le_refl _) (fun _ _ => id))
  have HN := Lib.hid hn
  clear e1 hx hn
  by_cases h2 : mode = 2
  · by_cases h3 : s = 3
    · have hs : stuckB xs n mode i s = !hasP xs n i := by rw [h2, h3]; rfl
      rw [hs]
      clear hs
      subst h2 h3
      go_enter Try.func10, Try.ntmps10
      go_wp2_with fail
      refine (rhas_any A l cp _ xs n i HN.out _ HX.out).mono ?_
      rintro e w2 ⟨rfl, rfl⟩
      go_wp2
      go_ret
      exact ⟨rfl, HO.out⟩
    · have hs : stuckB xs n mode i s = false := by unfold stuckB; rw [beq_eq_false_iff_ne.2 h3, Bool.and_false, Bool.false_and]
      rw [hs]
      clear hs
      subst h2
      have h3' := beq_eq_false_iff_ne.2 h3
      go_enter Try.func10, Try.ntmps10
      go_wp2
      go_ret
      exact ⟨rfl, HO.out⟩
  · have hs : stuckB xs n mode i s = false := by unfold stuckB; rw [beq_eq_false_iff_ne.2 h2, Bool.false_and, Bool.false_and]
    rw [hs]
    clear hs
    have h2' := beq_eq_false_iff_ne.2 h2
    go_enter Try.func10, Try.ntmps10
    go_wp2
    go_ret
    exact ⟨rfl, HO.out⟩
end Go.Proofs.Ytmhbidokpboomaa
