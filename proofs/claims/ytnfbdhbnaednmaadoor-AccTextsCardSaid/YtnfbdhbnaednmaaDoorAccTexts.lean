/- The law AccTexts. -/
import Derived.Test.YtnfbdhbnaednmaaDoorParse
import Derived.Test.YtnfbdhbnaednmaaDoorRefText
import Derived.Test.YtnfbdhbnaednmaaDoorAccE
namespace Go.Proofs.YtnfbdhbnaednmaaDoor
open Go.RowKit
theorem parse_yes (k c x y o : Int) (w : World) (h : LiesP w) (f : Acc.Fits ⟨k, c, x, y, o⟩) (hr : rightB k c x y o = true) :
    Calls Tryd.prog 11 #[.string (textB k c x y o)] w fun e w' => e = .returned (.tuple #[.agg #[.int .i64 k, .int .i64 c, .int .u32 x, .int .u32 y, .int .u32 o], .int .i64 0]) ∧ Only Nil w w' := by
  have hH := has_text f (rightB_iff.1 hr)
  refine (parse_acc _ w (Nat.le_trans (textB_size k c x y o) (by decide)) h).mono ?_
  rintro e w' ⟨he, hO⟩
  rw [textB_yes hr] at he
  rcases he with ⟨b, hb, rfl⟩ | ⟨hno, _⟩
  · obtain rfl := hb.inj hH
    exact ⟨rfl, hO⟩
  · exact absurd hH (hno _)
theorem parse_no (k c x y o : Int) (w : World) (h : LiesP w) (hr : rightB k c x y o = false) :
    Calls Tryd.prog 11 #[.string (textB k c x y o)] w fun e w' => e = .returned (.tuple #[.agg #[.int .i64 0, .int .i64 0, .int .u32 0, .int .u32 0, .int .u32 0], .int .i64 4]) ∧ Only Nil w w' := by
  refine (parse_acc _ w (Nat.le_trans (textB_size k c x y o) (by decide)) h).mono ?_
  rintro e w' ⟨he, hO⟩
  rw [textB_no hr] at he
  rcases he with ⟨b, hb, rfl⟩ | ⟨_, rfl⟩
  · exact absurd hb.text (text_ne hb.2.1)
  · exact ⟨rfl, hO⟩



set_option maxHeartbeats 1000000 in
set_option maxRecDepth 100000 in
theorem walk_accTexts (k c x y o : Int) (w : World) (f : Acc.Fits ⟨k, c, x, y, o⟩) (h : LiesP w) :
    Calls Tryd.prog 3 #[.agg #[.int .i64 k, .int .i64 c, .int .u32 x, .int .u32 y, .int .u32 o]] w fun e w' => e = .returned (.bool true) ∧ Only Nil w w' := by
  have hob := (Only.refl Nil w).alloc (.cells #[.int .i64 k, .int .i64 c, .int .u32 x, .int .u32 y, .int .u32 o] 24)
  have HL := Lib.hid (h.only hob)
  have HOB := Lib.hid hob
  have HF := Lib.hid f
  have HRA := Lib.hid (Row.new w 24 #[.int .i64 k, .int .i64 c, .int .u32 x, .int .u32 y, .int .u32 o])
  clear hob f h
  cases hr : rightB k c x y o
  · have HR := Lib.hid hr
    have HP := Lib.hid (fun (W : World) (hW : Only Nil (w.alloc (.cells #[.int .i64 k, .int .i64 c, .int .u32 x, .int .u32 y, .int .u32 o] 24)) W) => parse_no k c x y o W (HL.out.only hW) hr)
    clear hr
    have HT := Lib.hid (fun (W : World) (hW : Only Nil (w.alloc (.cells #[.int .i64 k, .int .i64 c, .int .u32 x, .int .u32 y, .int .u32 o] 24)) W) => text_any k c x y o W (HL.out.only hW).lies HF.out)
    have HRI := Lib.hid (right_any k c x y o)
    have HRR := Lib.hid (right_ref k c x y o)
    have HRT := Lib.hid (fun W => refText_any k c x y o W HF.out)
    rw [show (bs (if rightB k c x y o then textL ⟨k, c, x, y, o⟩ else [])) = textB k c x y o from rfl] at HRT
    rw [HR.out] at HRI HRR
    clear HF
    generalize textB k c x y o = X at *
    go_enter Tryd.func3, Tryd.ntmps3
    go_wp2_with fail
    generalize w.alloc (.cells #[.int .i64 k, .int .i64 c, .int .u32 x, .int .u32 y, .int .u32 o] 24) = w1 at *
    have HG := Lib.hid (Nat.le_refl w.heap.size)
    generalize hg : w.heap.size = g at *
    refine (HT.out w1 (Only.refl _ _)).mono ?_
    rintro e w2 ⟨rfl, hO⟩
    have HO2 := Lib.hid hO
    have c0 : w2.cell? ⟨g, 0, none⟩ = some (.int .i64 k) := (HRA.out.only HO2.out id).cell_ (i := 0) rfl
    have c1 : w2.cell? ⟨g, 1, none⟩ = some (.int .i64 c) := (HRA.out.only HO2.out id).cell_ (i := 1) rfl
    have c2 : w2.cell? ⟨g, 2, none⟩ = some (.int .u32 x) := (HRA.out.only HO2.out id).cell_ (i := 2) rfl
    have c3 : w2.cell? ⟨g, 3, none⟩ = some (.int .u32 y) := (HRA.out.only HO2.out id).cell_ (i := 3) rfl
    have c4 : w2.cell? ⟨g, 4, none⟩ = some (.int .u32 o) := (HRA.out.only HO2.out id).cell_ (i := 4) rfl
    have hxx : (X.toList == X.toList) = true := by simp
    clear hO HT hg
    go_wp2_with fail
    go_region_held3 (fun w' => w'.cell? ⟨g, 0, none⟩ = some (.int .i64 k) ∧ w'.cell? ⟨g, 1, none⟩ = some (.int .i64 c) ∧ w'.cell? ⟨g, 2, none⟩ = some (.int .u32 x) ∧ w'.cell? ⟨g, 3, none⟩ = some (.int .u32 y) ∧ w'.cell? ⟨g, 4, none⟩ = some (.int .u32 o) ∧ Only Nil w2 w')
      (first
        | exact ⟨c0, c1, c2, c3, c4, (Only.refl _ _).drew⟩
        | (go_keep; done)
        | (go_split_ands
           refine ⟨?_, ?_, ?_, ?_, ?_, ?_⟩
           all_goals first
             | exact Only.trans (by assumption) hO
             | (rw [hO.cell (World.block_lt_of_cell? _ _ (by assumption)) id]; assumption)))
      ((first
        | (go_at_call 8; refine (HRI.out _).mono ?_; rintro e w' ⟨rfl, hO⟩)
        | (go_at_call 9; refine (HRR.out _).mono ?_; rintro e w' ⟨rfl, hO⟩)
        | (go_at_call 10; refine (HRT.out _).mono ?_; rintro e w' ⟨rfl, hO⟩)))
    rename_i hH
    have HO3 := Lib.hid (HO2.out.trans hH.2.2.2.2.2)
    clear hH c0 c1 c2 c3 c4 HRI HRT hO
    go_wp2_with fail
    refine (HP.out _ HO3.out).mono ?_
    rintro e w4 ⟨rfl, hO⟩
    have HO4 := Lib.hid (HO3.out.trans hO)
    have HR4 := Lib.hid (HRA.out.only HO4.out id)
    clear hO HP hxx
    have c0 := fun ob => (HR4.out.alloc ob).cell_ (i := 0) rfl
    have c1 := fun ob => (HR4.out.alloc ob).cell_ (i := 1) rfl
    have c2 := fun ob => (HR4.out.alloc ob).cell_ (i := 2) rfl
    have c3 := fun ob => (HR4.out.alloc ob).cell_ (i := 3) rfl
    have c4 := fun ob => (HR4.out.alloc ob).cell_ (i := 4) rfl
    go_wp2_with fail
    clear c0 c1 c2 c3 c4
    have HO5 := Lib.hid (HO4.out.alloc (.cells #[.int .i64 0, .int .i64 0, .int .u32 0, .int .u32 0, .int .u32 0] 24))
    have HR5 := Lib.hid (HR4.out.alloc (.cells #[.int .i64 0, .int .i64 0, .int .u32 0, .int .u32 0, .int .u32 0] 24))
    have HS5 := Lib.hid (Row.new w4 24 #[.int .i64 0, .int .i64 0, .int .u32 0, .int .u32 0, .int .u32 0])
    generalize w4.alloc (.cells #[.int .i64 0, .int .i64 0, .int .u32 0, .int .u32 0, .int .u32 0] 24) = w5 at *
    generalize w4.heap.size = g4 at *
    refine (HRR.out _).mono ?_
    rintro e w6 ⟨rfl, hO⟩
    have HO6 := Lib.hid (HO5.out.trans hO)
    have HR6 := Lib.hid (HR5.out.only hO id)
    have HS6 := Lib.hid (HS5.out.only hO id)
    clear hO HRR HR5 HS5 HO4 HR4
    have c0 : w6.cell? ⟨g, 0, none⟩ = some (.int .i64 k) := HR6.out.cell_ (i := 0) rfl
    have c1 : w6.cell? ⟨g, 1, none⟩ = some (.int .i64 c) := HR6.out.cell_ (i := 1) rfl
    have c2 : w6.cell? ⟨g, 2, none⟩ = some (.int .u32 x) := HR6.out.cell_ (i := 2) rfl
    have c3 : w6.cell? ⟨g, 3, none⟩ = some (.int .u32 y) := HR6.out.cell_ (i := 3) rfl
    have c4 : w6.cell? ⟨g, 4, none⟩ = some (.int .u32 o) := HR6.out.cell_ (i := 4) rfl
    have d0 : w6.cell? ⟨g4, 0, none⟩ = some (.int .i64 0) := HS6.out.cell_ (i := 0) rfl
    have d1 : w6.cell? ⟨g4, 1, none⟩ = some (.int .i64 0) := HS6.out.cell_ (i := 1) rfl
    have d2 : w6.cell? ⟨g4, 2, none⟩ = some (.int .u32 0) := HS6.out.cell_ (i := 2) rfl
    have d3 : w6.cell? ⟨g4, 3, none⟩ = some (.int .u32 0) := HS6.out.cell_ (i := 3) rfl
    have d4 : w6.cell? ⟨g4, 4, none⟩ = some (.int .u32 0) := HS6.out.cell_ (i := 4) rfl
    have hq := fun W => (eql_acc 0 0 0 0 0 0 0 0 0 0 W).trans (by rw [sameB_iff.2 ⟨rfl, rfl, rfl, rfl, rfl⟩])
    go_wp2_with fail
    refine (awake_any _ (HL.out.only HO6.out).lies).mono ?_
    rintro e w7 ⟨rfl, hO⟩
    have HO7 := Lib.hid (HOB.out.trans (HO6.out.trans hO))
    clear hO
    go_wp2
    go_ret
    exact ⟨rfl, HO7.out⟩
  · have HR := Lib.hid hr
    have HP := Lib.hid (fun (W : World) (hW : Only Nil (w.alloc (.cells #[.int .i64 k, .int .i64 c, .int .u32 x, .int .u32 y, .int .u32 o] 24)) W) => parse_yes k c x y o W (HL.out.only hW) HF.out hr)
    clear hr
    have HT := Lib.hid (fun (W : World) (hW : Only Nil (w.alloc (.cells #[.int .i64 k, .int .i64 c, .int .u32 x, .int .u32 y, .int .u32 o] 24)) W) => text_any k c x y o W (HL.out.only hW).lies HF.out)
    have HRI := Lib.hid (right_any k c x y o)
    have HRR := Lib.hid (right_ref k c x y o)
    have HRT := Lib.hid (fun W => refText_any k c x y o W HF.out)
    rw [show (bs (if rightB k c x y o then textL ⟨k, c, x, y, o⟩ else [])) = textB k c x y o from rfl] at HRT
    rw [HR.out] at HRI HRR
    clear HF
    generalize textB k c x y o = X at *
    go_enter Tryd.func3, Tryd.ntmps3
    go_wp2_with fail
    generalize w.alloc (.cells #[.int .i64 k, .int .i64 c, .int .u32 x, .int .u32 y, .int .u32 o] 24) = w1 at *
    have HG := Lib.hid (Nat.le_refl w.heap.size)
    generalize hg : w.heap.size = g at *
    refine (HT.out w1 (Only.refl _ _)).mono ?_
    rintro e w2 ⟨rfl, hO⟩
    have HO2 := Lib.hid hO
    have c0 : w2.cell? ⟨g, 0, none⟩ = some (.int .i64 k) := (HRA.out.only HO2.out id).cell_ (i := 0) rfl
    have c1 : w2.cell? ⟨g, 1, none⟩ = some (.int .i64 c) := (HRA.out.only HO2.out id).cell_ (i := 1) rfl
    have c2 : w2.cell? ⟨g, 2, none⟩ = some (.int .u32 x) := (HRA.out.only HO2.out id).cell_ (i := 2) rfl
    have c3 : w2.cell? ⟨g, 3, none⟩ = some (.int .u32 y) := (HRA.out.only HO2.out id).cell_ (i := 3) rfl
    have c4 : w2.cell? ⟨g, 4, none⟩ = some (.int .u32 o) := (HRA.out.only HO2.out id).cell_ (i := 4) rfl
    have hxx : (X.toList == X.toList) = true := by simp
    clear hO HT hg
    go_wp2_with fail
    go_region_held3 (fun w' => w'.cell? ⟨g, 0, none⟩ = some (.int .i64 k) ∧ w'.cell? ⟨g, 1, none⟩ = some (.int .i64 c) ∧ w'.cell? ⟨g, 2, none⟩ = some (.int .u32 x) ∧ w'.cell? ⟨g, 3, none⟩ = some (.int .u32 y) ∧ w'.cell? ⟨g, 4, none⟩ = some (.int .u32 o) ∧ Only Nil w2 w')
      (first
        | exact ⟨c0, c1, c2, c3, c4, (Only.refl _ _).drew⟩
        | (go_keep; done)
        | (go_split_ands
           refine ⟨?_, ?_, ?_, ?_, ?_, ?_⟩
           all_goals first
             | exact Only.trans (by assumption) hO
             | (rw [hO.cell (World.block_lt_of_cell? _ _ (by assumption)) id]; assumption)))
      ((first
        | (go_at_call 8; refine (HRI.out _).mono ?_; rintro e w' ⟨rfl, hO⟩)
        | (go_at_call 9; refine (HRR.out _).mono ?_; rintro e w' ⟨rfl, hO⟩)
        | (go_at_call 10; refine (HRT.out _).mono ?_; rintro e w' ⟨rfl, hO⟩)))
    rename_i hH
    have HO3 := Lib.hid (HO2.out.trans hH.2.2.2.2.2)
    clear hH c0 c1 c2 c3 c4 HRI HRT hO
    go_wp2_with fail
    refine (HP.out _ HO3.out).mono ?_
    rintro e w4 ⟨rfl, hO⟩
    have HO4 := Lib.hid (HO3.out.trans hO)
    have HR4 := Lib.hid (HRA.out.only HO4.out id)
    clear hO HP hxx
    have c0 := fun ob => (HR4.out.alloc ob).cell_ (i := 0) rfl
    have c1 := fun ob => (HR4.out.alloc ob).cell_ (i := 1) rfl
    have c2 := fun ob => (HR4.out.alloc ob).cell_ (i := 2) rfl
    have c3 := fun ob => (HR4.out.alloc ob).cell_ (i := 3) rfl
    have c4 := fun ob => (HR4.out.alloc ob).cell_ (i := 4) rfl
    go_wp2_with fail
    clear c0 c1 c2 c3 c4
    have HO5 := Lib.hid (HO4.out.alloc (.cells #[.int .i64 k, .int .i64 c, .int .u32 x, .int .u32 y, .int .u32 o] 24))
    have HR5 := Lib.hid (HR4.out.alloc (.cells #[.int .i64 k, .int .i64 c, .int .u32 x, .int .u32 y, .int .u32 o] 24))
    have HS5 := Lib.hid (Row.new w4 24 #[.int .i64 k, .int .i64 c, .int .u32 x, .int .u32 y, .int .u32 o])
    generalize w4.alloc (.cells #[.int .i64 k, .int .i64 c, .int .u32 x, .int .u32 y, .int .u32 o] 24) = w5 at *
    generalize w4.heap.size = g4 at *
    refine (HRR.out _).mono ?_
    rintro e w6 ⟨rfl, hO⟩
    have HO6 := Lib.hid (HO5.out.trans hO)
    have HR6 := Lib.hid (HR5.out.only hO id)
    have HS6 := Lib.hid (HS5.out.only hO id)
    clear hO HRR HR5 HS5 HO4 HR4
    have c0 : w6.cell? ⟨g, 0, none⟩ = some (.int .i64 k) := HR6.out.cell_ (i := 0) rfl
    have c1 : w6.cell? ⟨g, 1, none⟩ = some (.int .i64 c) := HR6.out.cell_ (i := 1) rfl
    have c2 : w6.cell? ⟨g, 2, none⟩ = some (.int .u32 x) := HR6.out.cell_ (i := 2) rfl
    have c3 : w6.cell? ⟨g, 3, none⟩ = some (.int .u32 y) := HR6.out.cell_ (i := 3) rfl
    have c4 : w6.cell? ⟨g, 4, none⟩ = some (.int .u32 o) := HR6.out.cell_ (i := 4) rfl
    have d0 : w6.cell? ⟨g4, 0, none⟩ = some (.int .i64 k) := HS6.out.cell_ (i := 0) rfl
    have d1 : w6.cell? ⟨g4, 1, none⟩ = some (.int .i64 c) := HS6.out.cell_ (i := 1) rfl
    have d2 : w6.cell? ⟨g4, 2, none⟩ = some (.int .u32 x) := HS6.out.cell_ (i := 2) rfl
    have d3 : w6.cell? ⟨g4, 3, none⟩ = some (.int .u32 y) := HS6.out.cell_ (i := 3) rfl
    have d4 : w6.cell? ⟨g4, 4, none⟩ = some (.int .u32 o) := HS6.out.cell_ (i := 4) rfl
    have hq := fun W => (eql_acc k c x y o k c x y o W).trans (by rw [sameB_iff.2 ⟨rfl, rfl, rfl, rfl, rfl⟩])
    go_wp2_with fail
    refine (awake_any _ (HL.out.only HO6.out).lies).mono ?_
    rintro e w7 ⟨rfl, hO⟩
    have HO7 := Lib.hid (HOB.out.trans (HO6.out.trans hO))
    clear hO
    go_wp2
    go_ret
    exact ⟨rfl, HO7.out⟩
end Go.Proofs.YtnfbdhbnaednmaaDoor
