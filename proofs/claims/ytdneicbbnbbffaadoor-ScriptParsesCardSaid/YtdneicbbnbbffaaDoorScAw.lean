/- The document's example. -/
import Derived.Test.YtdneicbbnbbffaaDoorScParse
import Derived.Test.YtdneicbbnbbffaaDoorScSame
set_option linter.unusedVariables false
set_option linter.unusedSimpArgs false
namespace Go.Proofs.YtdneicbbnbbffaaDoor
open Go.RowKit
abbrev exS : Bs := [51, 32, 114, 108, 111, 99, 107, 10, 48]
theorem task_three : taskN [51] = some 3 := by unfold taskN; rw [show dval [51] = 3 from rfl, Lib.decDigits_one (by decide)]; rfl
theorem task_zero : taskN [48] = some 0 := by unfold taskN; rw [show dval [48] = 0 from rfl, Lib.decDigits_one (by decide)]; rfl
theorem ex_one : lineR [51, 32, 114, 108, 111, 99, 107] = .pick 3 1 := by
  rw [lineR, show wordsL [51, 32, 114, 108, 111, 99, 107] = [[51], [114, 108, 111, 99, 107]] by decide, sayL, if_neg (by decide), task_three]
  show (if numI opWs [114, 108, 111, 99, 107] = 0 then LR.bad 5 else if ([] : List Bs) = [] then LR.pick ((3 : Nat) : Int) (numI opWs [114, 108, 111, 99, 107]) else LR.bad 4) = _
  rw [show numI opWs [114, 108, 111, 99, 107] = 1 by decide]; rfl
theorem ex_two : lineR [48] = .pick 0 0 := by
  rw [lineR, show wordsL [48] = [[48]] by decide, sayL, if_neg (by decide), task_zero]
  rfl
theorem ex_all : prsT exS = ([(3, 1), (0, 0)], 0, 0) := by
  rw [prsT, show lineL exS = [[51, 32, 114, 108, 111, 99, 107], [48]] by decide, prsL, ex_one]
  simp only
  rw [prsL, ex_two]
  rfl
theorem awake_s (w : World) (hL : LiesS w) : Calls Tryd.prog 7 #[] w fun e w' => e = .returned (.bool true) ∧ Only Nil w w' := by
  have HP := Lib.hid (fun W (ho : Only Nil w W) => parse_any exS W (by decide) (hL.only ho))
  rw [ex_all] at HP
  have HS := Lib.hid (fun v1 v2 W h1 h2 => same_pk v1 v2 [(3, 1), (0, 0)] W h1 h2 (by decide))
  clear hL
  go_enter Tryd.func7, Tryd.ntmps7
  go_wp2_with fail
  refine (HP.out _ (Only.refl _ _)).mono ?_
  rintro e w1 ⟨v, rfl, hown, hO⟩
  have HA := Lib.hid hown.at
  have HO := Lib.hid hO
  clear hown hO HP
  go_wp2_with fail
  refine (HS.out _ _ _ (HA.out.only ((Only.refl _ _).alloc _)) ?_).mono ?_
  · refine ⟨some ⟨w1.heap.size, 0, none⟩, 2, rfl, fun j p hj => ⟨w1.heap.size, 0, rfl, by simp, ?_⟩⟩
    have hr := Row.new w1 42 #[.int .i64 3, .int .i64 1, .int .i64 0, .int .i64 0]
    have hlt : j < 2 := (List.getElem?_eq_some_iff.1 hj).1
    rcases (show j = 0 ∨ j = 1 by omega) with rfl | rfl
    · obtain rfl : (3, 1) = p := Option.some.inj hj
      exact ⟨hr.cell_ (i := 0) rfl, hr.cell_ (i := 1) rfl⟩
    · obtain rfl : (0, 0) = p := Option.some.inj hj
      exact ⟨hr.cell_ (i := 2) rfl, hr.cell_ (i := 3) rfl⟩
  · rintro e w2 ⟨rfl, hO⟩
    have HO2 := Lib.hid ((HO.out.alloc (.cells #[.int .i64 3, .int .i64 1, .int .i64 0, .int .i64 0] 42)).trans hO)
    clear hO
    go_wp2
    go_ret
    exact ⟨rfl, HO2.out⟩
end Go.Proofs.YtdneicbbnbbffaaDoor
