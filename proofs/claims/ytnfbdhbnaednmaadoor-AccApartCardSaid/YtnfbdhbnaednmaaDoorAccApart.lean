/- Right accesses have the same text just if they are the same: the law's walk. -/
import Derived.Test.YtnfbdhbnaednmaaDoorAwake
import Derived.Test.YtnfbdhbnaednmaaDoorStrEq
namespace Go.Proofs.YtnfbdhbnaednmaaDoor
open Go.RowKit
/-- What the comparisons with the empty text tell. -/
def Empt (X : ByteArray) (r : Bool) : Prop := decide (X = bs []) = !r
theorem empt_text (k c x y o : Int) : Empt (textB k c x y o) (rightB k c x y o) := by
  unfold Empt
  cases h : rightB k c x y o with
  | false => rw [textB_no h]; decide
  | true =>
    rw [textB_yes h]
    have := text_ne (rightB_iff.1 h)
    exact decide_eq_false (fun e => this (bs_inj e))

theorem empt_no {X : ByteArray} (h : Empt X true) : ¬ X.toList = [] ∧ X.toList.isEmpty = false := by
  have h1 : ¬ X = bs [] := of_decide_eq_false (by simpa [Empt] using h)
  have h2 : ¬ X.toList = [] := fun e => h1 (by
    rw [ByteArray.toList_eq] at e
    exact ByteArray.ext (Array.ext' e))
  exact ⟨h2, by simpa using h2⟩
theorem empt_yes {X : ByteArray} (h : Empt X false) : X = ⟨#[]⟩ := (show X = bs [] by simpa [Empt] using h)


set_option maxHeartbeats 1000000 in
set_option maxRecDepth 100000 in
theorem walk_accApart (a0 a1 a2 a3 a4 b0 b1 b2 b3 b4 : Int) (w : World) (f : Acc.Fits ⟨a0, a1, a2, a3, a4⟩) (f' : Acc.Fits ⟨b0, b1, b2, b3, b4⟩) (h : Lies w) :
    Calls Tryd.prog 5 #[.agg #[.int .i64 a0, .int .i64 a1, .int .u32 a2, .int .u32 a3, .int .u32 a4], .agg #[.int .i64 b0, .int .i64 b1, .int .u32 b2, .int .u32 b3, .int .u32 b4]] w fun e w' => e = .returned (.bool true) ∧ Only Nil w w' := by
  have hob := ((Only.refl Nil w).alloc (.cells #[.int .i64 a0, .int .i64 a1, .int .u32 a2, .int .u32 a3, .int .u32 a4] 24)).alloc (.cells #[.int .i64 b0, .int .i64 b1, .int .u32 b2, .int .u32 b3, .int .u32 b4] 24)
  have HL := Lib.hid (h.only hob)
  have HOB := Lib.hid hob
  have HRA := Lib.hid ((Row.new w 24 #[.int .i64 a0, .int .i64 a1, .int .u32 a2, .int .u32 a3, .int .u32 a4]).alloc (.cells #[.int .i64 b0, .int .i64 b1, .int .u32 b2, .int .u32 b3, .int .u32 b4] 24))
  have HRB := Lib.hid (Row.new2 w (.cells #[.int .i64 a0, .int .i64 a1, .int .u32 a2, .int .u32 a3, .int .u32 a4] 24) 24 #[.int .i64 b0, .int .i64 b1, .int .u32 b2, .int .u32 b3, .int .u32 b4])
  have HEA := Lib.hid (empt_text a0 a1 a2 a3 a4)
  have HEB := Lib.hid (empt_text b0 b1 b2 b3 b4)
  have HRIA := Lib.hid (right_any a0 a1 a2 a3 a4)
  have HRIB := Lib.hid (right_any b0 b1 b2 b3 b4)
  have HQ : Hid (rightB a0 a1 a2 a3 a4 = true → rightB b0 b1 b2 b3 b4 = true → decide (textB a0 a1 a2 a3 a4 = textB b0 b1 b2 b3 b4) = sameB a0 a1 a2 a3 a4 b0 b1 b2 b3 b4) := Lib.hid fun ha hb => by
    rw [Bool.eq_iff_iff, decide_eq_true_eq, sameB_iff, textB_yes ha, textB_yes hb]
    constructor
    · intro e
      have := text_inj f f' (rightB_iff.1 ha) (rightB_iff.1 hb) (bs_inj e)
      simpa using this
    · rintro ⟨rfl, rfl, rfl, rfl, rfl⟩; rfl
  have HQS := Lib.hid (fun W => eql_acc a0 a1 a2 a3 a4 b0 b1 b2 b3 b4 W)
  have HTA := Lib.hid (fun (W : World) (hW : Only Nil ((w.alloc (.cells #[.int .i64 a0, .int .i64 a1, .int .u32 a2, .int .u32 a3, .int .u32 a4] 24)).alloc (.cells #[.int .i64 b0, .int .i64 b1, .int .u32 b2, .int .u32 b3, .int .u32 b4] 24)) W) => text_any a0 a1 a2 a3 a4 W (HL.out.only hW) f)
  have HTB := Lib.hid (fun (W : World) (hW : Only Nil ((w.alloc (.cells #[.int .i64 a0, .int .i64 a1, .int .u32 a2, .int .u32 a3, .int .u32 a4] 24)).alloc (.cells #[.int .i64 b0, .int .i64 b1, .int .u32 b2, .int .u32 b3, .int .u32 b4] 24)) W) => text_any b0 b1 b2 b3 b4 W (HL.out.only hW) f')
  clear h f f' hob
  generalize textB a0 a1 a2 a3 a4 = X at *
  generalize textB b0 b1 b2 b3 b4 = Y at *
  generalize rightB a0 a1 a2 a3 a4 = ra at *
  generalize rightB b0 b1 b2 b3 b4 = rb at *
  generalize sameB a0 a1 a2 a3 a4 b0 b1 b2 b3 b4 = q at *
  go_enter Tryd.func5, Tryd.ntmps5
  go_wp2_with fail
  generalize (w.alloc (.cells #[.int .i64 a0, .int .i64 a1, .int .u32 a2, .int .u32 a3, .int .u32 a4] 24)).alloc (.cells #[.int .i64 b0, .int .i64 b1, .int .u32 b2, .int .u32 b3, .int .u32 b4] 24) = w0 at *
  generalize w.heap.size = g at *
  have c0 : w0.cell? ⟨g, 0, none⟩ = some (.int .i64 a0) := HRA.out.cell_ (i := 0) rfl
  have c1 : w0.cell? ⟨g, 1, none⟩ = some (.int .i64 a1) := HRA.out.cell_ (i := 1) rfl
  have c2 : w0.cell? ⟨g, 2, none⟩ = some (.int .u32 a2) := HRA.out.cell_ (i := 2) rfl
  have c3 : w0.cell? ⟨g, 3, none⟩ = some (.int .u32 a3) := HRA.out.cell_ (i := 3) rfl
  have c4 : w0.cell? ⟨g, 4, none⟩ = some (.int .u32 a4) := HRA.out.cell_ (i := 4) rfl
  have d0 : w0.cell? ⟨g + 1, 0, none⟩ = some (.int .i64 b0) := HRB.out.cell_ (i := 0) rfl
  have d1 : w0.cell? ⟨g + 1, 1, none⟩ = some (.int .i64 b1) := HRB.out.cell_ (i := 1) rfl
  have d2 : w0.cell? ⟨g + 1, 2, none⟩ = some (.int .u32 b2) := HRB.out.cell_ (i := 2) rfl
  have d3 : w0.cell? ⟨g + 1, 3, none⟩ = some (.int .u32 b3) := HRB.out.cell_ (i := 3) rfl
  have d4 : w0.cell? ⟨g + 1, 4, none⟩ = some (.int .u32 b4) := HRB.out.cell_ (i := 4) rfl
  go_region_held3 (fun w' => w'.cell? ⟨g, 0, none⟩ = some (.int .i64 a0) ∧ w'.cell? ⟨g, 1, none⟩ = some (.int .i64 a1) ∧ w'.cell? ⟨g, 2, none⟩ = some (.int .u32 a2) ∧ w'.cell? ⟨g, 3, none⟩ = some (.int .u32 a3) ∧ w'.cell? ⟨g, 4, none⟩ = some (.int .u32 a4) ∧ w'.cell? ⟨g + 1, 0, none⟩ = some (.int .i64 b0) ∧ w'.cell? ⟨g + 1, 1, none⟩ = some (.int .i64 b1) ∧ w'.cell? ⟨g + 1, 2, none⟩ = some (.int .u32 b2) ∧ w'.cell? ⟨g + 1, 3, none⟩ = some (.int .u32 b3) ∧ w'.cell? ⟨g + 1, 4, none⟩ = some (.int .u32 b4) ∧ Only Nil w0 w')
    (first
      | exact ⟨c0, c1, c2, c3, c4, d0, d1, d2, d3, d4, (Only.refl _ _).drew⟩
      | (go_keep; done)
      | (go_split_ands
         refine ⟨?_, ?_, ?_, ?_, ?_, ?_, ?_, ?_, ?_, ?_, ?_⟩
         all_goals first
           | exact Only.trans (by assumption) hO
           | (rw [hO.cell (World.block_lt_of_cell? _ _ (by assumption)) id]; assumption)))
    ((first
      | (go_at_call_of 7 (Value.agg #[.int .i64 a0, .int .i64 a1, .int .u32 a2, .int .u32 a3, .int .u32 a4]); refine (HTA.out _ (by go_split_ands; assumption)).mono ?_; rintro e w' ⟨rfl, hO⟩)
      | (go_at_call 7; refine (HTB.out _ (by go_split_ands; assumption)).mono ?_; rintro e w' ⟨rfl, hO⟩)))
  rename_i hH
  have HO2 := Lib.hid hH.2.2.2.2.2.2.2.2.2.2
  clear hH c0 c1 c2 c3 c4 d0 d1 d2 d3 d4 HTA HTB hO
  have c0 : w'.cell? ⟨g, 0, none⟩ = some (.int .i64 a0) := (HRA.out.only HO2.out id).cell_ (i := 0) rfl
  have c1 : w'.cell? ⟨g, 1, none⟩ = some (.int .i64 a1) := (HRA.out.only HO2.out id).cell_ (i := 1) rfl
  have c2 : w'.cell? ⟨g, 2, none⟩ = some (.int .u32 a2) := (HRA.out.only HO2.out id).cell_ (i := 2) rfl
  have c3 : w'.cell? ⟨g, 3, none⟩ = some (.int .u32 a3) := (HRA.out.only HO2.out id).cell_ (i := 3) rfl
  have c4 : w'.cell? ⟨g, 4, none⟩ = some (.int .u32 a4) := (HRA.out.only HO2.out id).cell_ (i := 4) rfl
  by_cases hb : ra = true ∧ rb = true
  · obtain ⟨rfl, rfl⟩ := hb
    obtain ⟨hx1, hx2⟩ := empt_no HEA.out
    obtain ⟨hy1, hy2⟩ := empt_no HEB.out
    have hq : (X.toList == Y.toList) = q := by rw [beq_str, HQ.out rfl rfl]
    have hqs := HQS.out
    have d0 : w'.cell? ⟨g + 1, 0, none⟩ = some (.int .i64 b0) := (HRB.out.only HO2.out id).cell_ (i := 0) rfl
    have d1 : w'.cell? ⟨g + 1, 1, none⟩ = some (.int .i64 b1) := (HRB.out.only HO2.out id).cell_ (i := 1) rfl
    have d2 : w'.cell? ⟨g + 1, 2, none⟩ = some (.int .u32 b2) := (HRB.out.only HO2.out id).cell_ (i := 2) rfl
    have d3 : w'.cell? ⟨g + 1, 3, none⟩ = some (.int .u32 b3) := (HRB.out.only HO2.out id).cell_ (i := 3) rfl
    have d4 : w'.cell? ⟨g + 1, 4, none⟩ = some (.int .u32 b4) := (HRB.out.only HO2.out id).cell_ (i := 4) rfl
    go_wp2_with fail
    refine (awake_any _ (HL.out.only HO2.out)).mono ?_
    rintro e w3 ⟨rfl, hO⟩
    have HO3 := Lib.hid (HOB.out.trans (HO2.out.trans hO))
    clear hO
    go_wp2
    go_ret
    exact ⟨rfl, HO3.out⟩
  · clear HQS HQ
    cases ra
    all_goals cases rb
    · obtain rfl := empt_yes HEA.out
      obtain rfl := empt_yes HEB.out
      clear hb HEA HEB
      go_wp2_with fail
      refine (HRIA.out _).mono ?_
      rintro e w3 ⟨rfl, hO⟩
      have HO3 := Lib.hid (HO2.out.trans hO)
      clear hO c0 c1 c2 c3 c4
      have d0 : w3.cell? ⟨g + 1, 0, none⟩ = some (.int .i64 b0) := (HRB.out.only HO3.out id).cell_ (i := 0) rfl
      have d1 : w3.cell? ⟨g + 1, 1, none⟩ = some (.int .i64 b1) := (HRB.out.only HO3.out id).cell_ (i := 1) rfl
      have d2 : w3.cell? ⟨g + 1, 2, none⟩ = some (.int .u32 b2) := (HRB.out.only HO3.out id).cell_ (i := 2) rfl
      have d3 : w3.cell? ⟨g + 1, 3, none⟩ = some (.int .u32 b3) := (HRB.out.only HO3.out id).cell_ (i := 3) rfl
      have d4 : w3.cell? ⟨g + 1, 4, none⟩ = some (.int .u32 b4) := (HRB.out.only HO3.out id).cell_ (i := 4) rfl
      go_wp2_with fail
      refine (HRIB.out _).mono ?_
      rintro e w4 ⟨rfl, hO⟩
      have HO4 := Lib.hid (HO3.out.trans hO)
      clear hO d0 d1 d2 d3 d4
      go_wp2_with fail
      refine (awake_any _ (HL.out.only HO4.out)).mono ?_
      rintro e w5 ⟨rfl, hO⟩
      have HO5 := Lib.hid (HOB.out.trans (HO4.out.trans hO))
      clear hO
      go_wp2
      go_ret
      exact ⟨rfl, HO5.out⟩
    · obtain rfl := empt_yes HEA.out
      obtain ⟨hy1, hy2⟩ := empt_no HEB.out
      clear hb HEA HEB
      go_wp2_with fail
      refine (HRIA.out _).mono ?_
      rintro e w3 ⟨rfl, hO⟩
      have HO3 := Lib.hid (HO2.out.trans hO)
      clear hO c0 c1 c2 c3 c4
      have d0 : w3.cell? ⟨g + 1, 0, none⟩ = some (.int .i64 b0) := (HRB.out.only HO3.out id).cell_ (i := 0) rfl
      have d1 : w3.cell? ⟨g + 1, 1, none⟩ = some (.int .i64 b1) := (HRB.out.only HO3.out id).cell_ (i := 1) rfl
      have d2 : w3.cell? ⟨g + 1, 2, none⟩ = some (.int .u32 b2) := (HRB.out.only HO3.out id).cell_ (i := 2) rfl
      have d3 : w3.cell? ⟨g + 1, 3, none⟩ = some (.int .u32 b3) := (HRB.out.only HO3.out id).cell_ (i := 3) rfl
      have d4 : w3.cell? ⟨g + 1, 4, none⟩ = some (.int .u32 b4) := (HRB.out.only HO3.out id).cell_ (i := 4) rfl
      go_wp2_with fail
      refine (HRIB.out _).mono ?_
      rintro e w4 ⟨rfl, hO⟩
      have HO4 := Lib.hid (HO3.out.trans hO)
      clear hO d0 d1 d2 d3 d4
      go_wp2_with fail
      refine (awake_any _ (HL.out.only HO4.out)).mono ?_
      rintro e w5 ⟨rfl, hO⟩
      have HO5 := Lib.hid (HOB.out.trans (HO4.out.trans hO))
      clear hO
      go_wp2
      go_ret
      exact ⟨rfl, HO5.out⟩
    · obtain ⟨hx1, hx2⟩ := empt_no HEA.out
      obtain rfl := empt_yes HEB.out
      clear hb HEA HEB
      go_wp2_with fail
      refine (HRIA.out _).mono ?_
      rintro e w3 ⟨rfl, hO⟩
      have HO3 := Lib.hid (HO2.out.trans hO)
      clear hO c0 c1 c2 c3 c4
      have d0 : w3.cell? ⟨g + 1, 0, none⟩ = some (.int .i64 b0) := (HRB.out.only HO3.out id).cell_ (i := 0) rfl
      have d1 : w3.cell? ⟨g + 1, 1, none⟩ = some (.int .i64 b1) := (HRB.out.only HO3.out id).cell_ (i := 1) rfl
      have d2 : w3.cell? ⟨g + 1, 2, none⟩ = some (.int .u32 b2) := (HRB.out.only HO3.out id).cell_ (i := 2) rfl
      have d3 : w3.cell? ⟨g + 1, 3, none⟩ = some (.int .u32 b3) := (HRB.out.only HO3.out id).cell_ (i := 3) rfl
      have d4 : w3.cell? ⟨g + 1, 4, none⟩ = some (.int .u32 b4) := (HRB.out.only HO3.out id).cell_ (i := 4) rfl
      go_wp2_with fail
      refine (HRIB.out _).mono ?_
      rintro e w4 ⟨rfl, hO⟩
      have HO4 := Lib.hid (HO3.out.trans hO)
      clear hO d0 d1 d2 d3 d4
      go_wp2_with fail
      refine (awake_any _ (HL.out.only HO4.out)).mono ?_
      rintro e w5 ⟨rfl, hO⟩
      have HO5 := Lib.hid (HOB.out.trans (HO4.out.trans hO))
      clear hO
      go_wp2
      go_ret
      exact ⟨rfl, HO5.out⟩
    · exact absurd ⟨rfl, rfl⟩ hb
end Go.Proofs.YtnfbdhbnaednmaaDoor
