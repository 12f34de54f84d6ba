/- (*Memory).Store. -/
import Derived.Test.YtmhbidokpboomaaDoAny
set_option linter.unusedVariables false
set_option linter.unusedSimpArgs false
namespace Go.Proofs.Ytmhbidokpboomaa
open Go.RowKit

theorem store_any (b : Nat) (A : Option Addr) (cp : Nat) (xs : List Int) (c x : Int) (w : World) (h : Mem w b A cp xs) :
    Calls Try.prog 19 #[.pointer (some ⟨b, 0, none⟩), .int .i64 c, .int .u32 x] w fun e w' => e = .returned (.tuple #[]) ∧ Only (At A) w w' ∧ Mem w' b A cp (doNew xs 2 c x 0) := by
  have HH := Lib.hid h
  clear h
  go_enter Try.func19, Try.ntmps19
  go_wp2_with fail
  refine (do_any b A cp xs 2 c x 0 0 _ HH.out).mono ?_
  obtain ⟨k', c', x', y', hv⟩ := doVal_form xs 2 c x 0
  rw [oldAt xs 2 c rfl] at hv
  rintro e w1 ⟨rfl, hO, hM⟩
  rw [hv]
  have HO := Lib.hid hO
  have HM := Lib.hid hM
  clear hO hM hv
  go_wp2
  go_end0
  exact ⟨rfl, HO.out, HM.out⟩
end Go.Proofs.Ytmhbidokpboomaa
