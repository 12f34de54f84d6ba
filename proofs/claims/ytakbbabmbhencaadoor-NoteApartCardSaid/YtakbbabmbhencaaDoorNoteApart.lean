/- Right notes have the same text just if they are the same: the law's walk. -/
import Derived.Test.YtakbbabmbhencaaDoorNoteText
import Derived.Test.YtakbbabmbhencaaDoorNoteE
import Derived.Test.YtakbbabmbhencaaDoorNoteArg
import Derived.Deep.RegionHeld3
import Derived.Test.YtakbbabmbhencaaDoorStrEq
namespace Go.Proofs.YtakbbabmbhencaaDoor
open Go.RowKit
set_option linter.unusedVariables false
set_option linter.unusedSimpArgs false
/-- What the comparisons with the empty text tell. -/
def Empt (X : ByteArray) (r : Bool) : Prop := decide (X = bs []) = !r
theorem empt_text (t q o a : Int) : Empt (txB t q o a) (rightN t q o a) := by
  unfold Empt txB
  cases h : rightN t q o a with
  | false => rw [txtN_iff.2 h]; decide
  | true => exact decide_eq_false (fun e => by have := txtN_iff.1 (bs_inj e); rw [h] at this; cases this)

theorem empt_no {X : ByteArray} (h : Empt X true) : ¬ X.toList = [] ∧ X.toList.isEmpty = false := by
  have h1 : ¬ X = bs [] := of_decide_eq_false (by simpa [Empt] using h)
  have h2 : ¬ X.toList = [] := fun e => h1 (by
    rw [ByteArray.toList_eq] at e
    exact ByteArray.ext (Array.ext' e))
  exact ⟨h2, by simpa using h2⟩
theorem empt_yes {X : ByteArray} (h : Empt X false) : X = ⟨#[]⟩ := (show X = bs [] by simpa [Empt] using h)


set_option maxHeartbeats 1000000 in
set_option maxRecDepth 100000 in
theorem walk_noteApart (a0 a1 a2 a3 b0 b1 b2 b3 : Int) (w : World) (_ : I64 a0 ∧ I64 a1 ∧ I64 a2 ∧ I64 a3) (_ : I64 b0 ∧ I64 b1 ∧ I64 b2 ∧ I64 b3) :
    Calls Tryd.prog 6 #[.agg #[.int .i64 a0, .int .i64 a1, .int .i64 a2, .int .i64 a3], .agg #[.int .i64 b0, .int .i64 b1, .int .i64 b2, .int .i64 b3]] w fun e w' => e = .returned (.bool true) ∧ Only Nil w w' := by
  have hob := ((Only.refl Nil w).alloc (.cells #[.int .i64 a0, .int .i64 a1, .int .i64 a2, .int .i64 a3] 23)).alloc (.cells #[.int .i64 b0, .int .i64 b1, .int .i64 b2, .int .i64 b3] 23)
  have HOB := Lib.hid hob
  have HRA := Lib.hid ((Row.new w 23 #[.int .i64 a0, .int .i64 a1, .int .i64 a2, .int .i64 a3]).alloc (.cells #[.int .i64 b0, .int .i64 b1, .int .i64 b2, .int .i64 b3] 23))
  have HRB := Lib.hid (Row.new2 w (.cells #[.int .i64 a0, .int .i64 a1, .int .i64 a2, .int .i64 a3] 23) 23 #[.int .i64 b0, .int .i64 b1, .int .i64 b2, .int .i64 b3])
  have HEA := Lib.hid (empt_text a0 a1 a2 a3)
  have HEB := Lib.hid (empt_text b0 b1 b2 b3)
  have HRIA := Lib.hid (right_note a0 a1 a2 a3)
  have HRIB := Lib.hid (right_note b0 b1 b2 b3)
  have HQ : Hid (rightN a0 a1 a2 a3 = true → rightN b0 b1 b2 b3 = true → decide (txB a0 a1 a2 a3 = txB b0 b1 b2 b3) = sameN a0 a1 a2 a3 b0 b1 b2 b3) := Lib.hid fun ha hb => by
    rw [Bool.eq_iff_iff, decide_eq_true_eq, sameN_iff, ← txtN_inj ha hb]
    exact ⟨fun e => bs_inj e, fun e => congrArg bs e⟩
  have HQS := Lib.hid (fun W => eql_note a0 a1 a2 a3 b0 b1 b2 b3 W)
  have HTA := Lib.hid (fun (W : World) (hW : Only Nil ((w.alloc (.cells #[.int .i64 a0, .int .i64 a1, .int .i64 a2, .int .i64 a3] 23)).alloc (.cells #[.int .i64 b0, .int .i64 b1, .int .i64 b2, .int .i64 b3] 23)) W) => text_note a0 a1 a2 a3 W)
  have HTB := Lib.hid (fun (W : World) (hW : Only Nil ((w.alloc (.cells #[.int .i64 a0, .int .i64 a1, .int .i64 a2, .int .i64 a3] 23)).alloc (.cells #[.int .i64 b0, .int .i64 b1, .int .i64 b2, .int .i64 b3] 23)) W) => text_note b0 b1 b2 b3 W)
  clear hob
  generalize txB a0 a1 a2 a3 = X at *
  generalize txB b0 b1 b2 b3 = Y at *
  generalize rightN a0 a1 a2 a3 = ra at *
  generalize rightN b0 b1 b2 b3 = rb at *
  generalize sameN a0 a1 a2 a3 b0 b1 b2 b3 = q at *
  go_enter Tryd.func6, Tryd.ntmps6
  go_wp2_with fail
  generalize (w.alloc (.cells #[.int .i64 a0, .int .i64 a1, .int .i64 a2, .int .i64 a3] 23)).alloc (.cells #[.int .i64 b0, .int .i64 b1, .int .i64 b2, .int .i64 b3] 23) = w0 at *
  generalize w.heap.size = g at *
  have c0 : w0.cell? ⟨g, 0, none⟩ = some (.int .i64 a0) := HRA.out.cell_ (i := 0) rfl
  have c1 : w0.cell? ⟨g, 1, none⟩ = some (.int .i64 a1) := HRA.out.cell_ (i := 1) rfl
  have c2 : w0.cell? ⟨g, 2, none⟩ = some (.int .i64 a2) := HRA.out.cell_ (i := 2) rfl
  have c3 : w0.cell? ⟨g, 3, none⟩ = some (.int .i64 a3) := HRA.out.cell_ (i := 3) rfl
  have d0 : w0.cell? ⟨g + 1, 0, none⟩ = some (.int .i64 b0) := HRB.out.cell_ (i := 0) rfl
  have d1 : w0.cell? ⟨g + 1, 1, none⟩ = some (.int .i64 b1) := HRB.out.cell_ (i := 1) rfl
  have d2 : w0.cell? ⟨g + 1, 2, none⟩ = some (.int .i64 b2) := HRB.out.cell_ (i := 2) rfl
  have d3 : w0.cell? ⟨g + 1, 3, none⟩ = some (.int .i64 b3) := HRB.out.cell_ (i := 3) rfl
  go_region_held3 (fun w' => w'.cell? ⟨g, 0, none⟩ = some (.int .i64 a0) ∧ w'.cell? ⟨g, 1, none⟩ = some (.int .i64 a1) ∧ w'.cell? ⟨g, 2, none⟩ = some (.int .i64 a2) ∧ w'.cell? ⟨g, 3, none⟩ = some (.int .i64 a3) ∧ w'.cell? ⟨g + 1, 0, none⟩ = some (.int .i64 b0) ∧ w'.cell? ⟨g + 1, 1, none⟩ = some (.int .i64 b1) ∧ w'.cell? ⟨g + 1, 2, none⟩ = some (.int .i64 b2) ∧ w'.cell? ⟨g + 1, 3, none⟩ = some (.int .i64 b3) ∧ Only Nil w0 w')
    (first
      | exact ⟨c0, c1, c2, c3, d0, d1, d2, d3, (Only.refl _ _).drew⟩
      | (go_keep; done)
      | (go_split_ands
         refine ⟨?_, ?_, ?_, ?_, ?_, ?_, ?_, ?_, ?_⟩
         all_goals first
           | exact Only.trans (by assumption) hO
           | (rw [hO.cell (World.block_lt_of_cell? _ _ (by assumption)) id]; assumption)))
    ((first
      | (go_at_call_of 7 (Value.agg #[.int .i64 a0, .int .i64 a1, .int .i64 a2, .int .i64 a3]); refine (HTA.out _ (by go_split_ands; assumption)).mono ?_; rintro e w' ⟨rfl, hO⟩)
      | (go_at_call 7; refine (HTB.out _ (by go_split_ands; assumption)).mono ?_; rintro e w' ⟨rfl, hO⟩)))
  rename_i hH
  have HO2 := Lib.hid hH.2.2.2.2.2.2.2.2
  clear hH c0 c1 c2 c3 d0 d1 d2 d3 HTA HTB hO
  have c0 : w'.cell? ⟨g, 0, none⟩ = some (.int .i64 a0) := (HRA.out.only HO2.out id).cell_ (i := 0) rfl
  have c1 : w'.cell? ⟨g, 1, none⟩ = some (.int .i64 a1) := (HRA.out.only HO2.out id).cell_ (i := 1) rfl
  have c2 : w'.cell? ⟨g, 2, none⟩ = some (.int .i64 a2) := (HRA.out.only HO2.out id).cell_ (i := 2) rfl
  have c3 : w'.cell? ⟨g, 3, none⟩ = some (.int .i64 a3) := (HRA.out.only HO2.out id).cell_ (i := 3) rfl
  by_cases hb : ra = true ∧ rb = true
  · obtain ⟨rfl, rfl⟩ := hb
    obtain ⟨hx1, hx2⟩ := empt_no HEA.out
    obtain ⟨hy1, hy2⟩ := empt_no HEB.out
    have hq : (X.toList == Y.toList) = q := by rw [beq_str, HQ.out rfl rfl]
    have hqs := HQS.out
    have d0 : w'.cell? ⟨g + 1, 0, none⟩ = some (.int .i64 b0) := (HRB.out.only HO2.out id).cell_ (i := 0) rfl
    have d1 : w'.cell? ⟨g + 1, 1, none⟩ = some (.int .i64 b1) := (HRB.out.only HO2.out id).cell_ (i := 1) rfl
    have d2 : w'.cell? ⟨g + 1, 2, none⟩ = some (.int .i64 b2) := (HRB.out.only HO2.out id).cell_ (i := 2) rfl
    have d3 : w'.cell? ⟨g + 1, 3, none⟩ = some (.int .i64 b3) := (HRB.out.only HO2.out id).cell_ (i := 3) rfl
    go_wp2_with fail
    refine (awake_any _).mono ?_
    rintro e w3 ⟨rfl, hO⟩
    have HO3 := Lib.hid (HOB.out.trans (HO2.out.trans hO))
    clear hO
    go_wp2
    go_ret
    exact ⟨rfl, HO3.out⟩
  · clear HQS HQ
    cases ra
    all_goals cases rb
    · obtain rfl := empt_yes HEA.out
      obtain rfl := empt_yes HEB.out
      clear hb HEA HEB
      go_wp2_with fail
      refine (HRIA.out _).mono ?_
      rintro e w3 ⟨rfl, hO⟩
      have HO3 := Lib.hid (HO2.out.trans hO)
      clear hO c0 c1 c2 c3
      have d0 : w3.cell? ⟨g + 1, 0, none⟩ = some (.int .i64 b0) := (HRB.out.only HO3.out id).cell_ (i := 0) rfl
      have d1 : w3.cell? ⟨g + 1, 1, none⟩ = some (.int .i64 b1) := (HRB.out.only HO3.out id).cell_ (i := 1) rfl
      have d2 : w3.cell? ⟨g + 1, 2, none⟩ = some (.int .i64 b2) := (HRB.out.only HO3.out id).cell_ (i := 2) rfl
      have d3 : w3.cell? ⟨g + 1, 3, none⟩ = some (.int .i64 b3) := (HRB.out.only HO3.out id).cell_ (i := 3) rfl
      go_wp2_with fail
      refine (HRIB.out _).mono ?_
      rintro e w4 ⟨rfl, hO⟩
      have HO4 := Lib.hid (HO3.out.trans hO)
      clear hO d0 d1 d2 d3
      go_wp2_with fail
      refine (awake_any _).mono ?_
      rintro e w5 ⟨rfl, hO⟩
      have HO5 := Lib.hid (HOB.out.trans (HO4.out.trans hO))
      clear hO
      go_wp2
      go_ret
      exact ⟨rfl, HO5.out⟩
    · obtain rfl := empt_yes HEA.out
      obtain ⟨hy1, hy2⟩ := empt_no HEB.out
      clear hb HEA HEB
      go_wp2_with fail
      refine (HRIA.out _).mono ?_
      rintro e w3 ⟨rfl, hO⟩
      have HO3 := Lib.hid (HO2.out.trans hO)
      clear hO c0 c1 c2 c3
      have d0 : w3.cell? ⟨g + 1, 0, none⟩ = some (.int .i64 b0) := (HRB.out.only HO3.out id).cell_ (i := 0) rfl
      have d1 : w3.cell? ⟨g + 1, 1, none⟩ = some (.int .i64 b1) := (HRB.out.only HO3.out id).cell_ (i := 1) rfl
      have d2 : w3.cell? ⟨g + 1, 2, none⟩ = some (.int .i64 b2) := (HRB.out.only HO3.out id).cell_ (i := 2) rfl
      have d3 : w3.cell? ⟨g + 1, 3, none⟩ = some (.int .i64 b3) := (HRB.out.only HO3.out id).cell_ (i := 3) rfl
      go_wp2_with fail
      refine (HRIB.out _).mono ?_
      rintro e w4 ⟨rfl, hO⟩
      have HO4 := Lib.hid (HO3.out.trans hO)
      clear hO d0 d1 d2 d3
      go_wp2_with fail
      refine (awake_any _).mono ?_
      rintro e w5 ⟨rfl, hO⟩
      have HO5 := Lib.hid (HOB.out.trans (HO4.out.trans hO))
      clear hO
      go_wp2
      go_ret
      exact ⟨rfl, HO5.out⟩
    · obtain ⟨hx1, hx2⟩ := empt_no HEA.out
      obtain rfl := empt_yes HEB.out
      clear hb HEA HEB
      go_wp2_with fail
      refine (HRIA.out _).mono ?_
      rintro e w3 ⟨rfl, hO⟩
      have HO3 := Lib.hid (HO2.out.trans hO)
      clear hO c0 c1 c2 c3
      have d0 : w3.cell? ⟨g + 1, 0, none⟩ = some (.int .i64 b0) := (HRB.out.only HO3.out id).cell_ (i := 0) rfl
      have d1 : w3.cell? ⟨g + 1, 1, none⟩ = some (.int .i64 b1) := (HRB.out.only HO3.out id).cell_ (i := 1) rfl
      have d2 : w3.cell? ⟨g + 1, 2, none⟩ = some (.int .i64 b2) := (HRB.out.only HO3.out id).cell_ (i := 2) rfl
      have d3 : w3.cell? ⟨g + 1, 3, none⟩ = some (.int .i64 b3) := (HRB.out.only HO3.out id).cell_ (i := 3) rfl
      go_wp2_with fail
      refine (HRIB.out _).mono ?_
      rintro e w4 ⟨rfl, hO⟩
      have HO4 := Lib.hid (HO3.out.trans hO)
      clear hO d0 d1 d2 d3
      go_wp2_with fail
      refine (awake_any _).mono ?_
      rintro e w5 ⟨rfl, hO⟩
      have HO5 := Lib.hid (HOB.out.trans (HO4.out.trans hO))
      clear hO
      go_wp2
      go_ret
      exact ⟨rfl, HO5.out⟩
    · exact absurd ⟨rfl, rfl⟩ hb
end Go.Proofs.YtakbbabmbhencaaDoor
