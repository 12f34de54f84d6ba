/- Notes, compared. -/
import Derived.Test.YtakbbabmbhencaaDoorKit
import Derived.Test.YtakbbabmbhencaaDoorChecked
import Derived.Laws.StructEq
namespace Go.Proofs.YtakbbabmbhencaaDoor
open Go.RowKit
/-- The same note? -/
def sameN (k c x y k' c' x' y' : Int) : Bool := k == k' && (c == c' && (x == x' && y == y'))
theorem sameN_iff {k c x y k' c' x' y' : Int} : sameN k c x y k' c' x' y' = true ↔ k = k' ∧ c = c' ∧ x = x' ∧ y = y' := by
  simp [sameN]
theorem eql_note (k c x y k' c' x' y' : Int) (W : World) : (binOp .eql 23 (.agg #[.int .i64 k, .int .i64 c, .int .i64 x, .int .i64 y]) (.agg #[.int .i64 k', .int .i64 c', .int .i64 x', .int .i64 y'])).run Tryd.prog W = .ok (.bool (sameN k c x y k' c' x' y')) W := by
  simp [go_sem, sameN]
  by_cases h1 : k = k' <;> by_cases h2 : c = c' <;> by_cases h3 : x = x' <;> by_cases h4 : y = y' <;> simp [h1, h2, h3, h4]
theorem neq_note (k c x y k' c' x' y' : Int) (W : World) : (binOp .neq 23 (.agg #[.int .i64 k, .int .i64 c, .int .i64 x, .int .i64 y]) (.agg #[.int .i64 k', .int .i64 c', .int .i64 x', .int .i64 y'])).run Tryd.prog W = .ok (.bool (!sameN k c x y k' c' x' y')) W := by
  simp [go_sem, sameN]
  by_cases h1 : k = k' <;> by_cases h2 : c = c' <;> by_cases h3 : x = x' <;> by_cases h4 : y = y' <;> simp [h1, h2, h3, h4]
end Go.Proofs.YtakbbabmbhencaaDoor
