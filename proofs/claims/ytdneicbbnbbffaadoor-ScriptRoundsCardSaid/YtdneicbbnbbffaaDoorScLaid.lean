/- From the rows' condition to what script reads. -/
import Derived.Test.YtdneicbbnbbffaaDoorScCut
import Derived.Test.YtdneicbbnbbffaaDoorVars
import Derived.Shelf.Vars
namespace Go.Proofs.YtdneicbbnbbffaaDoor
open Go.RowKit Go.ChangeShapes Go.WideShapes
theorem liesS_of {w : World} {l : List (String × DataW Unit)} (hp : (l.all fun x => x.2.handleName?.isNone) = true) (h : laidMetH Tryd.prog l w) (hs : w.ShapedOpen Tryd.prog)
    (h2 : ("internal/strconv.uint64pow10", Rows.laid_internal_strconv_uint64pow10) ∈ l) (h4 : ("strconv.ErrSyntax", Rows.laid_strconv_ErrSyntax) ∈ l) (h5 : ("strconv.ErrRange", Rows.laid_strconv_ErrRange) ∈ l) : LiesS w := by
  have g2 : Tryd.prog.globalNamed "internal/strconv.uint64pow10" = some 1 := by kernel_rfl
  have g4 : Tryd.prog.globalNamed "strconv.ErrSyntax" = some 2 := by kernel_rfl
  have g5 : Tryd.prog.globalNamed "strconv.ErrRange" = some 3 := by kernel_rfl
  have t2 : (Tryd.prog.globals[1]?).map (·.type) = some 110 := by kernel_rfl
  have t4 : (Tryd.prog.globals[2]?).map (·.type) = some 58 := by kernel_rfl
  have t5 : (Tryd.prog.globals[3]?).map (·.type) = some 58 := by kernel_rfl
  refine ⟨⟨?_, ?_, ?_⟩, ?_⟩
  · exact cell_of_shapedOpen_int hs (of_decide_eq_true (by kernel_rfl)) (zero := #[.int .i64 0]) (t := 3) (by kernel_rfl) rfl (by kernel_rfl) (by kernel_rfl) Tryd.underlying3
  · exact err_of g4 t4 Tryd.underlying58 (reads_of hp h h4)
  · exact err_of g5 t5 Tryd.underlying58 (reads_of hp h h5)
  · exact tab_of (zs := Lib.pow10Tab) g2 t2 Tryd.underlying110 Tryd.underlying91 (by kernel_rfl) (by kernel_rfl) (reads_of hp h h2)
end Go.Proofs.YtdneicbbnbbffaaDoor
