/- What is waited for: the law's Until. -/
import Derived.Test.YtmhbidokpboomaaKit
import Derived.Test.YtmhbidokpboomaaChecked
set_option linter.unusedVariables false
set_option linter.unusedSimpArgs false
namespace Go.Proofs.Ytmhbidokpboomaa
open Go.RowKit

/-- Does it hold of a word? -/
def uIs (k m x v : Int) : Bool :=
  if k = 0 then bits .and .u32 v m == x else if k = 1 then bits .and .u32 v m != x else if k = 2 then v / 256 % 256 == v / 65536 % 256 else if k = 3 then decide (v / 256 % 256 = x) && (v % 256 == 0) else false
theorem ret_bool {a b : Bool} (h : a = b) : Ending.returned (.bool a) = .returned (.bool b) := by rw [h]

theorem is_any (k m x v : Int) (w : World) (h0 : 0 ≤ v) (h1 : v < 4294967296) :
    Calls Try.prog 12 #[.agg #[.int .i64 k, .int .u32 m, .int .u32 x], .int .u32 v] w fun e w' => e = .returned (.bool (uIs k m x v)) ∧ Only Nil w w' := by
  by_cases k0 : k = 0
  · have hu : uIs k m x v = (bits .and .u32 v m == x) := if_pos k0
    rw [hu]
    clear hu
    subst k0
    go_enter Try.func12, Try.ntmps12
    go_wp2
    go_ret
    exact ⟨rfl, (Only.refl _ _).alloc _⟩
  by_cases k1 : k = 1
  · have hu : uIs k m x v = (bits .and .u32 v m != x) := (if_neg k0).trans (if_pos k1)
    rw [hu]
    clear hu k0
    subst k1
    go_enter Try.func12, Try.ntmps12
    go_wp2
    go_ret
    exact ⟨rfl, (Only.refl _ _).alloc _⟩
  by_cases k2 : k = 2
  · have hu : uIs k m x v = (v / 256 % 256 == v / 65536 % 256) := ((if_neg k0).trans (if_neg k1)).trans (if_pos k2)
    rw [hu]
    clear hu k0 k1
    subst k2
    go_enter Try.func12, Try.ntmps12
    go_wp2
    go_ret
    exact ⟨rfl, (Only.refl _ _).alloc _⟩
  by_cases k3 : k = 3
  · have hu : uIs k m x v = (decide (v / 256 % 256 = x) && (v % 256 == 0)) := (((if_neg k0).trans (if_neg k1)).trans (if_neg k2)).trans (if_pos k3)
    have HU := Lib.hid hu
    clear hu k0 k1 k2
    subst k3
    go_enter Try.func12, Try.ntmps12
    go_wp2
    · have hx : v / 256 % 256 = x := by assumption
      go_ret
      exact ⟨ret_bool (by rw [HU.out, decide_eq_true hx, Bool.true_and]), (Only.refl _ _).alloc _⟩
    · have hx : ¬ v / 256 % 256 = x := by assumption
      go_ret
      exact ⟨ret_bool (by rw [HU.out, decide_eq_false hx, Bool.false_and]), (Only.refl _ _).alloc _⟩
  · have hu : uIs k m x v = false := (((if_neg k0).trans (if_neg k1)).trans (if_neg k2)).trans (if_neg k3)
    rw [hu]
    clear hu
    go_enter Try.func12, Try.ntmps12
    go_wp2
    go_ret
    exact ⟨rfl, (Only.refl _ _).alloc _⟩
end Go.Proofs.Ytmhbidokpboomaa
