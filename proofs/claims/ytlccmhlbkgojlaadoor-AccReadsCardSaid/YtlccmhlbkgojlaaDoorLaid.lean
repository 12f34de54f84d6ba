/- From the rows' condition to what the variables hold. -/
import Derived.Test.YtlccmhlbkgojlaaDoorHex
import Derived.Test.YtlccmhlbkgojlaaDoorVars
import Derived.Test.YtlccmhlbkgojlaaDoorRows
import Derived.MakeChecks
import Derived.OpenShut
import Derived.Lib.LaidTab
import Derived.Handed
import Derived.Shelf.Vars
namespace Go.Proofs.YtlccmhlbkgojlaaDoor
open Go.RowKit Go.ChangeShapes Go.WideShapes

/-- What the rows' condition gives acc.Text. -/
theorem lies_of {w : World} {l : List (String × DataW Unit)} (hp : (l.all fun x => x.2.handleName?.isNone) = true) (h : laidMetH Tryd.prog l w)
    (h1 : ("stileman/acc.kindWords", Rows.laid_stileman_acc_kindWords) ∈ l) (h2 : ("internal/strconv.uint64pow10", Rows.laid_internal_strconv_uint64pow10) ∈ l) (h3 : ("math/bits.deBruijn64tab", Rows.laid_math_bits_deBruijn64tab) ∈ l) : Lies w := by
  have g1 : Tryd.prog.globalNamed "stileman/acc.kindWords" = some 0 := by kernel_rfl
  have g2 : Tryd.prog.globalNamed "internal/strconv.uint64pow10" = some 1 := by kernel_rfl
  have g3 : Tryd.prog.globalNamed "math/bits.deBruijn64tab" = some 8 := by kernel_rfl
  have t1 : (Tryd.prog.globals[0]?).map (·.type) = some 38 := by kernel_rfl
  have t2 : (Tryd.prog.globals[1]?).map (·.type) = some 104 := by kernel_rfl
  have t3 : (Tryd.prog.globals[8]?).map (·.type) = some 122 := by kernel_rfl
  refine ⟨?_, ?_, ?_⟩
  · intro k hk
    refine strs_of (ls := [wordL 0, wordL 1, wordL 2, wordL 3, wordL 4, wordL 5]) g1 t1 Tryd.underlying38 Tryd.underlying9 (by kernel_rfl) (reads_of hp h h1) k (wordL k) ?_ hk
    rcases (show k = 0 ∨ k = 1 ∨ k = 2 ∨ k = 3 ∨ k = 4 ∨ k = 5 by omega) with rfl | rfl | rfl | rfl | rfl | rfl <;> rfl
  · exact tab_of (zs := Lib.pow10Tab) g2 t2 Tryd.underlying104 Tryd.underlying54 (by kernel_rfl) (by kernel_rfl) (reads_of hp h h2)
  · have ht := tab_of (zs := [0, 1, 56, 2, 57, 49, 28, 3, 61, 58, 42, 50, 38, 29, 17, 4, 62, 47, 59, 36, 45, 43, 51, 22, 53, 39, 33, 30, 24, 18, 12, 5, 63, 55, 48, 27, 60, 41, 37, 16, 46, 35, 44, 21, 52, 32, 23, 11, 54, 26, 40, 15, 34, 20, 31, 10, 25, 14, 19, 9, 13, 8, 7, 6]) g3 t3 Tryd.underlying122 Tryd.underlying5 (by kernel_rfl) (by kernel_rfl) (reads_of hp h h3)
    exact Lib.TabIs.cell ht g3 15 (by decide)

/-- What the variables hold that acc.Parse reads besides. -/
structure LiesP (w : World) : Prop where
  lies : Lies w
  max : ∃ m, w.cell? ⟨2, 0, none⟩ = some (.int .i64 m)
  syn : ∃ tp p, w.var? Tryd.prog "strconv.ErrSyntax" = some #[.iface tp p]
  rng : ∃ tp p, w.var? Tryd.prog "strconv.ErrRange" = some #[.iface tp p]
theorem LiesP.only {w w' : World} (h : LiesP w) (ho : Only Nil w w') : LiesP w' where
  lies := h.lies.only ho
  max := by
    obtain ⟨m, hm⟩ := h.max
    exact ⟨m, (ho.cell (p := ⟨2, 0, none⟩) (World.block_lt_of_cell? w _ hm) id).trans hm⟩
  syn := by
    obtain ⟨tp, p, hv⟩ := h.syn
    exact ⟨tp, p, var_only hv ho⟩
  rng := by
    obtain ⟨tp, p, hv⟩ := h.rng
    exact ⟨tp, p, var_only hv ho⟩
theorem liesP_of {w : World} {l : List (String × DataW Unit)} (hp : (l.all fun x => x.2.handleName?.isNone) = true) (h : laidMetH Tryd.prog l w) (hs : w.ShapedOpen Tryd.prog)
    (h1 : ("stileman/acc.kindWords", Rows.laid_stileman_acc_kindWords) ∈ l) (h2 : ("internal/strconv.uint64pow10", Rows.laid_internal_strconv_uint64pow10) ∈ l) (h3 : ("math/bits.deBruijn64tab", Rows.laid_math_bits_deBruijn64tab) ∈ l)
    (h4 : ("strconv.ErrSyntax", Rows.laid_strconv_ErrSyntax) ∈ l) (h5 : ("strconv.ErrRange", Rows.laid_strconv_ErrRange) ∈ l) : LiesP w := by
  have g4 : Tryd.prog.globalNamed "strconv.ErrSyntax" = some 3 := by kernel_rfl
  have g5 : Tryd.prog.globalNamed "strconv.ErrRange" = some 4 := by kernel_rfl
  have t4 : (Tryd.prog.globals[3]?).map (·.type) = some 62 := by kernel_rfl
  have t5 : (Tryd.prog.globals[4]?).map (·.type) = some 62 := by kernel_rfl
  refine ⟨lies_of hp h h1 h2 h3, ?_, ?_, ?_⟩
  · exact cell_of_shapedOpen_int hs (of_decide_eq_true (by kernel_rfl)) (zero := #[.int .i64 0]) (t := 3) (by kernel_rfl) rfl (by kernel_rfl) (by kernel_rfl) Tryd.underlying3
  · exact err_of g4 t4 Tryd.underlying62 (reads_of hp h h4)
  · exact err_of g5 t5 Tryd.underlying62 (reads_of hp h h5)
end Go.Proofs.YtlccmhlbkgojlaaDoor
