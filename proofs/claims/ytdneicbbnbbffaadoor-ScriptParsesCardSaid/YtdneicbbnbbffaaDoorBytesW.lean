/- Texts that come back; a text of one byte. -/
import Derived.Test.YtdneicbbnbbffaaDoorApp
import Derived.Test.YtdneicbbnbbffaaDoorByteL
import Derived.Lib.Strings
set_option linter.unusedVariables false
set_option linter.unusedSimpArgs false
namespace Go.Proofs.YtdneicbbnbbffaaDoor
open Go.RowKit

/-- A list of these texts, that the call made. -/
def GotS (ls : List Bs) (w : World) (e : Ending) (w' : World) : Prop := ∃ v, e = .returned v ∧ OwnS w.heap.size w' v (ls.map bs) ∧ Only Nil w w'

theorem extract_one (s : ByteArray) (k : Nat) (h : k < s.size) : s.extract k (k + 1) = bs [s[k]] := by
  apply ByteArray.ext
  apply Array.ext'
  show (s.extract k (k + 1)).data.toList = [s[k]]
  rw [Lib.extract_data]
  rw [show s.data.toList.drop k = s[k] :: s.data.toList.drop (k + 1) from drop_byte s k h, show k + 1 - k = 1 by omega]
  rfl
end Go.Proofs.YtdneicbbnbbffaaDoor
