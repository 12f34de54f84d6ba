import Derived.Laws.BitsAllLaws
import Derived.Laws.BitsLemmas
import Derived.Test.YtdmpaoajcnjbaaaGreatChecked
import Derived.Test.YtdmpaoajcnjbaaaGreatG15
import Derived.Test.YtdmpaoajcnjbaaaGreatG23
import Derived.Test.YtdmpaoajcnjbaaaGreatG16
import Derived.Test.YtdmpaoajcnjbaaaGreatG1
set_option linter.unusedVariables false
set_option linter.unusedSimpArgs false
namespace Go.Proofs.YtdmpaoajcnjbaaaGreat
open Go.RowKit
theorem RunR.setA {w : World} {B base : Nat} {A : Option Addr} {l cp : Nat} {nv : Value} {r : LS} (h : RunR w B base A l cp nv r) (v : Int) : RunR (w.setCell ⟨B, 6, none⟩ (.int .u32 v)) B base A l cp nv (r.keepA v) :=
  h.turn ((Only.refl (· = B) w).setCell (p := ⟨B, 6, none⟩) (.inr rfl) _) (h.row.set 6 (.int .u32 v)) rfl rfl
theorem RunR.setB {w : World} {B base : Nat} {A : Option Addr} {l cp : Nat} {nv : Value} {r : LS} (h : RunR w B base A l cp nv r) (v : Int) : RunR (w.setCell ⟨B, 7, none⟩ (.int .u32 v)) B base A l cp nv (r.keepB v) :=
  h.turn ((Only.refl (· = B) w).setCell (p := ⟨B, 7, none⟩) (.inr rfl) _) (h.row.set 7 (.int .u32 v)) rfl rfl
theorem all32 {x : Int} (hx : 0 ≤ x ∧ x < 4294967296) : bits .and .u32 x 4294967295 = x := by
  have := bits_mask .u32 32 (by decide) (fun k h0 h1 => by rw [IntKind.wrap_u32']; omega) 32 (by omega) x hx.1 (by simpa using hx.2)
  have h2 : x % 4294967296 = x := by omega
  simpa [h2] using this
theorem uIs_mine {r : LS} {v : Int} (hv : 0 ≤ v ∧ v < 4294967296) : uIs 0 4294967295 r.a v = r.mine v := by
  show (bits .and .u32 v 4294967295 == r.a) = (v == r.a)
  rw [all32 hv]
theorem stepI_same {xs : List Int} {n mode i s c : Int} {q q' : Int → Bool} (h : q (wordAt xs c) = q' (wordAt xs c)) : stepI xs n mode i s c q = stepI xs n mode i s c q' := by unfold stepI; rw [h]
theorem stepR_mine {r : LS} (hx : Words r.xs) (c : Int) : r.stepR c (uIs 0 4294967295 r.a) = r.stepR c r.mine := stepI_same (uIs_mine (word_bd hx c))
theorem wait_mine {r : LS} (hx : Words r.xs) (c : Int) : r.wait c (uIs 0 4294967295 r.a) = r.wait c r.mine := by unfold LS.wait; rw [stepR_mine hx c]
end Go.Proofs.YtdmpaoajcnjbaaaGreat
set_option linter.unusedVariables false
set_option linter.unusedSimpArgs false
namespace Go.Proofs.YtdmpaoajcnjbaaaGreat
open Go.RowKit
theorem refAhead_any (a b : Int) (w : World) (ha : 0 ≤ a ∧ a < 4294967296) (hb : 0 ≤ b ∧ b < 4294967296) :
    Calls Tryz.prog 30 #[.int .u32 a, .int .u32 b] w fun e w' => e = .returned (.int .i64 (aheadI a b)) ∧ w = w' := by
  obtain ⟨a1, a2⟩ := ha
  obtain ⟨b1, b2⟩ := hb
  by_cases h1 : 2147483648 ≤ a - b
  · have E := Lib.hid (show a - b - 4294967296 = aheadI a b by unfold aheadI; omega)
    go_enter Tryz.func30, Tryz.ntmps30
    go_wp2
    go_ret
    exact ⟨congrArg (fun x => Ending.returned (.int .i64 x)) E.out, rfl⟩
  · by_cases h2 : a - b < -2147483648
    · have E := Lib.hid (show a - b + 4294967296 = aheadI a b by unfold aheadI; omega)
      go_enter Tryz.func30, Tryz.ntmps30
      go_wp2
      go_ret
      exact ⟨congrArg (fun x => Ending.returned (.int .i64 x)) E.out, rfl⟩
    · have E := Lib.hid (show a - b = aheadI a b by unfold aheadI; omega)
      go_enter Tryz.func30, Tryz.ntmps30
      go_wp2
      go_ret
      exact ⟨congrArg (fun x => Ending.returned (.int .i64 x)) E.out, rfl⟩
end Go.Proofs.YtdmpaoajcnjbaaaGreat
