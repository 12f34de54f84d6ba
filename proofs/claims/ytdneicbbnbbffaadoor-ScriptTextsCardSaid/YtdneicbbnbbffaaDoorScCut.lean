/- script's small functions: cut, quiet, hasNumber, taskOf, pick. -/
import Derived.Test.YtdneicbbnbbffaaDoorScL
import Derived.Test.YtdneicbbnbbffaaDoorNum
import Derived.Test.YtdneicbbnbbffaaDoorNLies
import Derived.Test.YtdneicbbnbbffaaDoorNoteNum
import Derived.Test.YtdneicbbnbbffaaDoorStrEq
import Derived.Test.YtdneicbbnbbffaaDoorItoa
import Derived.Lib.AppendIntMem
namespace Go.Proofs.YtdneicbbnbbffaaDoor
open Go.RowKit
set_option linter.unusedVariables false
set_option linter.unusedSimpArgs false
/-- What the variables hold that script reads. -/
structure LiesS (w : World) : Prop where
  n : LiesN w
  pow : Lib.TabIs Tryd.prog w "internal/strconv.uint64pow10" .u64 Lib.pow10Tab
theorem LiesS.only {w w' : World} (h : LiesS w) (ho : Only Nil w w') : LiesS w' where
  n := h.n.only ho
  pow := Lib.tabBelow_of_tabIs h.pow w' (ho.below (Nat.le_refl _) (fun _ _ => id))
theorem scut_any (c : UInt8) (l : Bs) (w : World) (hs : l.length ≤ 100000) (h : LiesS w) : Calls Tryd.prog 31 #[.string (bs l), .string ⟨#[c]⟩] w fun e w' => (∃ f, e = .returned (.tuple #[.string (bs (tw c l)), .string (bs (dw c l)), .bool f])) ∧ Only Nil w w' := by
  obtain ⟨m, hm⟩ := h.n.max
  obtain ⟨e1, e2⟩ := lib_cut c l
  refine (Tryd.strings_Cut (bs l) ⟨#[c]⟩ m w (by rw [bs_size]; omega) hm).mono fun e w' ⟨he, k, hw⟩ => ⟨⟨(Lib.cut l [c]).2.2, ?_⟩, ?_⟩
  · rw [he]
    show Ending.returned (.tuple #[.string ⟨(Lib.cut l [c]).1.toArray⟩, .string ⟨(Lib.cut l [c]).2.1.toArray⟩, .bool _]) = _
    rw [e1, e2]; rfl
  · rw [hw]; exact (Only.refl _ _).drewN k
theorem cut_any (l : Bs) (w : World) (hs : l.length ≤ 100000) (h : LiesS w) : Calls Tryd.prog 32 #[.string (bs l)] w fun e w' => e = .returned (.tuple #[.string (bs (fw l)), .string (bs (bh l))]) ∧ Only Nil w w' := by
  have HT := Lib.hid (Tryd.strings_TrimLeft_one (bs l) 32 (by decide) w)
  have HC := Lib.hid (scut_any 32 (skipB l) w (Nat.le_trans (skipB_len l) hs) h)
  clear hs h
  go_enter Tryd.func32, Tryd.ntmps32
  go_wp2_with fail
  refine HT.out.mono ?_
  rw [show Lib.trimLeftB (bs l).data.toList 32 = skipB l from lib_trim l]
  rintro e w1 ⟨rfl, rfl⟩
  go_wp2_with fail
  refine HC.out.mono ?_
  rintro e w2 ⟨⟨f, rfl⟩, hO⟩
  have HO := Lib.hid hO
  clear hO
  go_wp2
  go_ret2
  exact ⟨rfl, HO.out⟩
/-- A line that says nothing. -/
def quietB (l : Bs) : Bool := decide (fw l = []) || decide ((fw l).head? = some 35)
theorem bs_nil {l : Bs} : (bs l = (⟨#[]⟩ : ByteArray)) ↔ l = [] := ⟨fun h => bs_inj (r := []) h, fun h => by rw [h]; rfl⟩
theorem quiet_any (l : Bs) (w : World) (hs : l.length ≤ 100000) (h : LiesS w) : Calls Tryd.prog 17 #[.string (bs l)] w fun e w' => e = .returned (.bool (quietB l)) ∧ Only Nil w w' := by
  have HC := Lib.hid (cut_any l w hs h)
  have HP := Lib.hid (fun W => Tryd.strings_HasPrefix (bs (fw l)) ⟨#[35]⟩ W)
  clear hs h
  by_cases h1 : fw l = []
  · obtain ⟨q1, q2⟩ := em_yes h1
    rw [show quietB l = true by unfold quietB; rw [h1]; rfl]
    clear h1
    go_enter Tryd.func17, Tryd.ntmps17
    go_wp2_with fail
    refine HC.out.mono ?_
    rintro e w1 ⟨rfl, hO⟩
    have HO := Lib.hid hO
    clear hO
    go_wp2
    go_ret
    exact ⟨rfl, HO.out⟩
  · obtain ⟨q1, q2⟩ := em_no h1
    rw [show quietB l = decide ((fw l).head? = some 35) by unfold quietB; rw [decide_eq_false h1]; rfl]
    go_enter Tryd.func17, Tryd.ntmps17
    go_wp2_with fail
    refine HC.out.mono ?_
    rintro e w1 ⟨rfl, hO⟩
    have HO := Lib.hid hO
    clear hO
    go_wp2_with fail
    refine (HP.out _).mono ?_
    rw [show Lib.hasPrefix (bs (fw l)).data.toList (⟨#[35]⟩ : ByteArray).data.toList = _ from lib_hash (fw l)]
    rintro e w2 ⟨rfl, rfl⟩
    go_wp2
    go_ret
    exact ⟨rfl, HO.out⟩
end Go.Proofs.YtdneicbbnbbffaaDoor
