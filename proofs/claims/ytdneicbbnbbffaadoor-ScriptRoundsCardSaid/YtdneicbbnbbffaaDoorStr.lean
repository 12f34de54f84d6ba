/- Texts as lists of bytes. -/
import Derived.Test.YtdneicbbnbbffaaDoorKit
import Derived.Test.YtdneicbbnbbffaaDoorChecked
import Derived.Test.YtdneicbbnbbffaaDoorAccM
import Derived.Sort.Grow
namespace Go.Proofs.YtdneicbbnbbffaaDoor
open Go.RowKit
/-- A text of these bytes. -/
def bs (l : Bs) : ByteArray := ⟨l.toArray⟩
theorem bs_size (l : Bs) : (bs l).size = l.length := rfl
theorem bs_list (l : Bs) : (bs l).data.toList = l := rfl
theorem bs_app (l r : Bs) : bs l ++ bs r = bs (l ++ r) := by
  apply ByteArray.ext
  simp [bs]
theorem bs_inj {l r : Bs} (h : bs l = bs r) : l = r := by rw [← bs_list l, h, bs_list]
theorem bs_data (s : ByteArray) : bs s.data.toList = s := rfl
/-- A number's digits. -/
def decB (c : Nat) : ByteArray := bs (Lib.decDigits c)
theorem grow_only (w : World) (os : Array Obj) : Only Nil w (Go.Sort.grow w os) :=
  ⟨rfl, rfl, rfl, by simp [Go.Sort.grow], fun k hk _ => by simp [Go.Sort.grow, Array.getElem?_append, hk]⟩
end Go.Proofs.YtdneicbbnbbffaaDoor
