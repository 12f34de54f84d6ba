/- Accesses, compared. -/
import Derived.Test.YtlccmhlbkgojlaaDoorKit
import Derived.Test.YtlccmhlbkgojlaaDoorChecked
import Derived.Laws.StructEq
namespace Go.Proofs.YtlccmhlbkgojlaaDoor
open Go.RowKit
/-- The same access? -/
def sameB (k c x y o k' c' x' y' o' : Int) : Bool := k == k' && (c == c' && (x == x' && (y == y' && o == o')))
theorem sameB_iff {k c x y o k' c' x' y' o' : Int} : sameB k c x y o k' c' x' y' o' = true ↔ k = k' ∧ c = c' ∧ x = x' ∧ y = y' ∧ o = o' := by
  simp [sameB]
theorem eql_acc (k c x y o k' c' x' y' o' : Int) (W : World) : (binOp .eql 24 (.agg #[.int .i64 k, .int .i64 c, .int .u32 x, .int .u32 y, .int .u32 o]) (.agg #[.int .i64 k', .int .i64 c', .int .u32 x', .int .u32 y', .int .u32 o'])).run Tryd.prog W = .ok (.bool (sameB k c x y o k' c' x' y' o')) W := by
  simp [go_sem, sameB]
  by_cases h1 : k = k' <;> by_cases h2 : c = c' <;> by_cases h3 : x = x' <;> by_cases h4 : y = y' <;> by_cases h5 : o = o' <;> simp [h1, h2, h3, h4, h5]
theorem neq_acc (k c x y o k' c' x' y' o' : Int) (W : World) : (binOp .neq 24 (.agg #[.int .i64 k, .int .i64 c, .int .u32 x, .int .u32 y, .int .u32 o]) (.agg #[.int .i64 k', .int .i64 c', .int .u32 x', .int .u32 y', .int .u32 o'])).run Tryd.prog W = .ok (.bool (!sameB k c x y o k' c' x' y' o')) W := by
  simp [go_sem, sameB]
  by_cases h1 : k = k' <;> by_cases h2 : c = c' <;> by_cases h3 : x = x' <;> by_cases h4 : y = y' <;> by_cases h5 : o = o' <;> simp [h1, h2, h3, h4, h5]
end Go.Proofs.YtlccmhlbkgojlaaDoor
