/- Texts, compared. -/
import Derived.Test.YtdneicbbnbbffaaDoorKit
import Derived.Test.YtdneicbbnbbffaaDoorChecked
import Derived.Laws.Strings3
namespace Go.Proofs.YtdneicbbnbbffaaDoor
open Go.RowKit
theorem beq_str (X Y : ByteArray) : (X.toList == Y.toList) = decide (X = Y) := by
  rw [Bool.eq_iff_iff]
  simp only [beq_iff_eq, decide_eq_true_eq]
  constructor
  · intro h
    rw [ByteArray.toList_eq, ByteArray.toList_eq] at h
    exact ByteArray.ext (Array.ext' h)
  · rintro rfl; rfl
theorem eql_str (X Y : ByteArray) (W : World) : (binOp .eql 9 (.string X) (.string Y)).run Tryd.prog W = .ok (.bool (decide (X = Y))) W := by
  have e := beq_str X Y
  simp [go_sem]
  first
    | exact e
    | (by_cases h : X = Y <;> simp [h] at e ⊢ <;> first | exact e | simp_all)
theorem neq_str (X Y : ByteArray) (W : World) : (binOp .neq 9 (.string X) (.string Y)).run Tryd.prog W = .ok (.bool (!decide (X = Y))) W := by
  have e := beq_str X Y
  simp [go_sem]
  first
    | exact e
    | (by_cases h : X = Y <;> simp [h] at e ⊢ <;> first | exact e | simp_all)
end Go.Proofs.YtdneicbbnbbffaaDoor
