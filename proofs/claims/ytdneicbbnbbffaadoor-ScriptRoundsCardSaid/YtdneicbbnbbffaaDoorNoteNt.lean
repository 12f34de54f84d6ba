/- A note, in plain mathematics. -/
import Derived.Test.YtdneicbbnbbffaaDoorKit
namespace Go.Proofs.YtdneicbbnbbffaaDoor
open Go.RowKit

/-- A note: task, what, operation, argument. -/
structure Nt where
  t : Int
  w : Int
  o : Int
  a : Int
theorem Nt.ext_ {a b : Nt} (h1 : a.t = b.t) (h2 : a.w = b.w) (h3 : a.o = b.o) (h4 : a.a = b.a) : a = b := by
  cases a; cases b; simp_all
end Go.Proofs.YtdneicbbnbbffaaDoor
