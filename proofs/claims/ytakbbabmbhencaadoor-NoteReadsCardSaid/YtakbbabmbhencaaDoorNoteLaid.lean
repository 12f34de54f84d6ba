/- From the rows' condition to what note.Parse reads. -/
import Derived.Test.YtakbbabmbhencaaDoorNLies
import Derived.Test.YtakbbabmbhencaaDoorVars
import Derived.Test.YtakbbabmbhencaaDoorNoteArg
namespace Go.Proofs.YtakbbabmbhencaaDoor
open Go.RowKit Go.ChangeShapes Go.WideShapes
theorem liesN_of {w : World} {l : List (String × DataW Unit)} (hp : (l.all fun x => x.2.handleName?.isNone) = true) (h : laidMetH Tryd.prog l w) (hs : w.ShapedOpen Tryd.prog)
    (h4 : ("strconv.ErrSyntax", Rows.laid_strconv_ErrSyntax) ∈ l) (h5 : ("strconv.ErrRange", Rows.laid_strconv_ErrRange) ∈ l) : LiesN w := by
  have g4 : Tryd.prog.globalNamed "strconv.ErrSyntax" = some 2 := by kernel_rfl
  have g5 : Tryd.prog.globalNamed "strconv.ErrRange" = some 3 := by kernel_rfl
  have t4 : (Tryd.prog.globals[2]?).map (·.type) = some 61 := by kernel_rfl
  have t5 : (Tryd.prog.globals[3]?).map (·.type) = some 61 := by kernel_rfl
  refine ⟨?_, ?_, ?_⟩
  · exact cell_of_shapedOpen_int hs (of_decide_eq_true (by kernel_rfl)) (zero := #[.int .i64 0]) (t := 3) (by kernel_rfl) rfl (by kernel_rfl) (by kernel_rfl) Tryd.underlying3
  · exact err_of g4 t4 Tryd.underlying61 (reads_of hp h h4)
  · exact err_of g5 t5 Tryd.underlying61 (reads_of hp h h5)
end Go.Proofs.YtakbbabmbhencaaDoor
