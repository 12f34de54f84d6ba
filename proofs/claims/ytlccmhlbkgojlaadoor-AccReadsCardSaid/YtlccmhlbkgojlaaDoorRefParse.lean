/- Accesses read from texts: the answer's. -/
import Derived.Test.YtlccmhlbkgojlaaDoorRefParse0
import Derived.Test.YtlccmhlbkgojlaaDoorRefParse1
import Derived.Test.YtlccmhlbkgojlaaDoorRefParse2
import Derived.Test.YtlccmhlbkgojlaaDoorRefParse5
namespace Go.Proofs.YtlccmhlbkgojlaaDoor
open Go.RowKit
theorem parse_ref (s : ByteArray) (w : World) (hs : s.size ≤ 900) : Calls Tryd.prog 13 #[.string s] w fun e w' => ParsedAs s.data.toList e ∧ Only Nil w w' := by
  obtain ⟨W0, hW0⟩ : ∃ x, (cut s.data.toList)[0]? = some x := ⟨_, List.getElem?_eq_getElem (List.length_pos_iff.2 (cut_ne _))⟩
  have hK := kindL_le W0
  rcases (show kindL W0 = 0 ∨ kindL W0 = 1 ∨ (kindL W0 = 2 ∨ kindL W0 = 3 ∨ kindL W0 = 4) ∨ kindL W0 = 5 by omega) with h | h | h | h
  · exact parse_ref0 s w hs W0 hW0 h
  · exact parse_ref1 s w hs W0 hW0 h
  · exact parse_ref2 s w hs W0 hW0 h
  · exact parse_ref5 s w hs W0 hW0 h
end Go.Proofs.YtlccmhlbkgojlaaDoor
