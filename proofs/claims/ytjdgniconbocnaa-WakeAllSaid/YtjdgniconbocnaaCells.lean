/- Contracts of package cells. -/
import Derived.Test.YtjdgniconbocnaaKit
import Derived.Test.YtjdgniconbocnaaChecked
namespace Go.Proofs.Ytjdgniconbocnaa
open Go.RowKit

def leftOf (k x y o : Int) : Int := if k = 3 then (x + o) % 4294967296 else if k = 2 then x else if k = 4 then x else if k = 5 then (if o = x then y else o) else if k = 1 then o else 0
def isKind (k : Int) : Bool := decide (1 ≤ k ∧ k ≤ 5)

theorem two_eq {a b : Int} {c d : Bool} (h : a = b) (h' : c = d) : Ending.returned (.tuple #[.int .u32 a, .bool c]) = .returned (.tuple #[.int .u32 b, .bool d]) := by rw [h, h']

theorem behind_any (k c x y o : Int) (w : World) :
    Calls Try.prog 36 #[.agg #[.int .i64 k, .int .i64 c, .int .u32 x, .int .u32 y, .int .u32 o]] w fun e w' =>
      e = .returned (.tuple #[.int .u32 (leftOf k x y o), .bool (isKind k)]) ∧ Only Nil w w' := by
  by_cases h3 : k = 3 <;> by_cases h2 : k = 2 <;> by_cases h4 : k = 4 <;> by_cases h5 : k = 5 <;> by_cases h1 : k = 1 <;> by_cases hx : o = x
  all_goals first
    | omega
    | (go_enter Try.func36, Try.ntmps36
       go_wp2
       all_goals
         go_ret2
         exact ⟨two_eq (by simp [leftOf, h3, h2, h4, h5, h1, hx]) (by simp [isKind]; omega), (Only.refl _ _).alloc _⟩)

/-- The header of a memory: the pointer's block b holds one slice. -/
theorem len_any (b : Nat) (A : Option Addr) (n cap : Nat) (w : World) (h : Row w b 49 #[.slice A n cap]) :
    Calls Try.prog 35 #[.pointer (some ⟨b, 0, none⟩)] w fun e w' => e = .returned (.int .i64 n) ∧ w' = w := by
  have hc := h.cell_ (i := 0) rfl
  clear h
  go_enter Try.func35, Try.ntmps35
  go_wp2
  go_ret
  exact ⟨rfl, rfl⟩

theorem len_nil (w : World) :
    Calls Try.prog 35 #[.pointer none] w fun e w' => e = .returned (.int .i64 0) ∧ w' = w := by
  go_enter Try.func35, Try.ntmps35
  go_wp2
  go_ret
  exact ⟨rfl, rfl⟩

end Go.Proofs.Ytjdgniconbocnaa
