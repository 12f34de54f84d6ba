/- The law NoteTexts. -/
import Derived.Test.YtakbbabmbhencaaDoorNoteParse
import Derived.Test.YtakbbabmbhencaaDoorNoteRT
import Derived.Test.YtakbbabmbhencaaDoorNoteRN
import Derived.Test.YtakbbabmbhencaaDoorNoteE
import Derived.Test.YtakbbabmbhencaaDoorNoteArg
import Derived.Deep.RegionHeld3
namespace Go.Proofs.YtakbbabmbhencaaDoor
open Go.RowKit
set_option linter.unusedVariables false
set_option linter.unusedSimpArgs false
theorem parse_yes (k c x y : Int) (w : World) (h : LiesN w) (hr : rightN k c x y = true) :
    Calls Tryd.prog 15 #[.string (txB k c x y)] w fun e w' => e = .returned (.tuple #[.agg #[.int .i64 k, .int .i64 c, .int .i64 x, .int .i64 y], .int .i64 0]) ∧ Only Nil w w' := by
  have hH : HasN (textN ⟨k, c, x, y⟩) ⟨k, c, x, y⟩ := ⟨hr, rfl⟩
  refine (parse_note _ w (Nat.le_trans (txB_size k c x y) (by decide)) h).mono ?_
  rintro e w' ⟨he, hO⟩
  rw [show txB k c x y = bs (textN ⟨k, c, x, y⟩) from txB_yes hr] at he
  rcases he with ⟨b, hb, rfl⟩ | ⟨hno, _⟩
  · obtain rfl := hb.inj hH
    exact ⟨rfl, hO⟩
  · exact absurd hH (hno _)
theorem parse_no (k c x y : Int) (w : World) (h : LiesN w) (hr : rightN k c x y = false) :
    Calls Tryd.prog 15 #[.string (txB k c x y)] w fun e w' => e = .returned (.tuple #[.agg #[.int .i64 0, .int .i64 0, .int .i64 0, .int .i64 0], .int .i64 4]) ∧ Only Nil w w' := by
  refine (parse_note _ w (Nat.le_trans (txB_size k c x y) (by decide)) h).mono ?_
  rintro e w' ⟨he, hO⟩
  rw [txB_no hr] at he
  rcases he with ⟨b, hb, rfl⟩ | ⟨_, rfl⟩
  · exact absurd hb.2.symm (textN_ne hb.1)
  · exact ⟨rfl, hO⟩



set_option maxHeartbeats 1000000 in
set_option maxRecDepth 100000 in
theorem walk_noteTexts (k c x y : Int) (w : World) (_ : I64 k ∧ I64 c ∧ I64 x ∧ I64 y) (h : LiesN w) :
    Calls Tryd.prog 3 #[.agg #[.int .i64 k, .int .i64 c, .int .i64 x, .int .i64 y]] w fun e w' => e = .returned (.bool true) ∧ Only Nil w w' := by
  have hob := (Only.refl Nil w).alloc (.cells #[.int .i64 k, .int .i64 c, .int .i64 x, .int .i64 y] 23)
  have HL := Lib.hid (h.only hob)
  have HOB := Lib.hid hob
  have HRA := Lib.hid (Row.new w 23 #[.int .i64 k, .int .i64 c, .int .i64 x, .int .i64 y])
  clear hob h
  cases hr : rightN k c x y
  · have HR := Lib.hid hr
    have HP := Lib.hid (fun (W : World) (hW : Only Nil (w.alloc (.cells #[.int .i64 k, .int .i64 c, .int .i64 x, .int .i64 y] 23)) W) => parse_no k c x y W (HL.out.only hW) hr)
    clear hr
    have HT := Lib.hid (text_note k c x y)
    have HRI := Lib.hid (right_note k c x y)
    have HRR := Lib.hid (right_ref k c x y)
    have HRT := Lib.hid (refText_any k c x y)
    have HOP := Lib.hid (op_note x)
    have HROP := Lib.hid (op_ref x)
    have HNU := Lib.hid (number_note (bs (wordI opWs x)))
    have HRN := Lib.hid (number_ref (bs (wordI opWs x)))
    rw [HR.out] at HRI HRR
    generalize txB k c x y = X at *
    generalize numI opWs (bs (wordI opWs x)).data.toList = r at *
    generalize bs (wordI opWs x) = Y at *
    have hrr : (r == r) = true := by simp
    have hyy : (Y.toList == Y.toList) = true := by simp
    go_enter Tryd.func3, Tryd.ntmps3
    go_wp2_with fail
    generalize w.alloc (.cells #[.int .i64 k, .int .i64 c, .int .i64 x, .int .i64 y] 23) = w1 at *
    have HG := Lib.hid (Nat.le_refl w.heap.size)
    generalize hg : w.heap.size = g at *
    refine (HT.out w1).mono ?_
    rintro e w2 ⟨rfl, hO⟩
    have HO2 := Lib.hid hO
    have c0 : w2.cell? ⟨g, 0, none⟩ = some (.int .i64 k) := (HRA.out.only HO2.out id).cell_ (i := 0) rfl
    have c1 : w2.cell? ⟨g, 1, none⟩ = some (.int .i64 c) := (HRA.out.only HO2.out id).cell_ (i := 1) rfl
    have c2 : w2.cell? ⟨g, 2, none⟩ = some (.int .i64 x) := (HRA.out.only HO2.out id).cell_ (i := 2) rfl
    have c3 : w2.cell? ⟨g, 3, none⟩ = some (.int .i64 y) := (HRA.out.only HO2.out id).cell_ (i := 3) rfl
    have hxx : (X.toList == X.toList) = true := by simp
    clear hO HT hg
    go_wp2_with fail
    go_region_held3 (fun w' => w'.cell? ⟨g, 0, none⟩ = some (.int .i64 k) ∧ w'.cell? ⟨g, 1, none⟩ = some (.int .i64 c) ∧ w'.cell? ⟨g, 2, none⟩ = some (.int .i64 x) ∧ w'.cell? ⟨g, 3, none⟩ = some (.int .i64 y) ∧ Only Nil w2 w')
      (first
        | exact ⟨c0, c1, c2, c3, (Only.refl _ _).drew⟩
        | (go_keep; done)
        | (go_split_ands
           refine ⟨?_, ?_, ?_, ?_, ?_⟩
           all_goals first
             | exact Only.trans (by assumption) hO
             | (rw [hO.cell (World.block_lt_of_cell? _ _ (by assumption)) id]; assumption)))
      ((first
        | (go_at_call 8; refine (HRI.out _).mono ?_; rintro e w' ⟨rfl, hO⟩)
        | (go_at_call 9; refine (HRR.out _).mono ?_; rintro e w' ⟨rfl, hO⟩)
        | (go_at_call 10; refine (HRT.out _).mono ?_; rintro e w' ⟨rfl, hO⟩)
        | (go_at_call 11; refine (HOP.out _).mono ?_; rintro e w' ⟨rfl, hO⟩)
        | (go_at_call 12; refine (HROP.out _).mono ?_; rintro e w' ⟨rfl, hO⟩)
        | (go_at_call 13; refine (HNU.out _).mono ?_; rintro e w' ⟨rfl, hO⟩)
        | (go_at_call 14; refine (HRN.out _).mono ?_; rintro e w' ⟨rfl, hO⟩)))
    rename_i hH
    have HO3 := Lib.hid (HO2.out.trans hH.2.2.2.2)
    clear hH c0 c1 c2 c3 HRI HRT hO HOP HROP HNU HRN
    go_wp2_with fail
    refine (HP.out _ HO3.out).mono ?_
    rintro e w4 ⟨rfl, hO⟩
    have HO4 := Lib.hid (HO3.out.trans hO)
    have HR4 := Lib.hid (HRA.out.only HO4.out id)
    clear hO HP hxx hrr hyy
    have c0 := fun ob => (HR4.out.alloc ob).cell_ (i := 0) rfl
    have c1 := fun ob => (HR4.out.alloc ob).cell_ (i := 1) rfl
    have c2 := fun ob => (HR4.out.alloc ob).cell_ (i := 2) rfl
    have c3 := fun ob => (HR4.out.alloc ob).cell_ (i := 3) rfl
    go_wp2_with fail
    clear c0 c1 c2 c3
    have HO5 := Lib.hid (HO4.out.alloc (.cells #[.int .i64 0, .int .i64 0, .int .i64 0, .int .i64 0] 23))
    have HR5 := Lib.hid (HR4.out.alloc (.cells #[.int .i64 0, .int .i64 0, .int .i64 0, .int .i64 0] 23))
    have HS5 := Lib.hid (Row.new w4 23 #[.int .i64 0, .int .i64 0, .int .i64 0, .int .i64 0])
    generalize w4.alloc (.cells #[.int .i64 0, .int .i64 0, .int .i64 0, .int .i64 0] 23) = w5 at *
    generalize w4.heap.size = g4 at *
    refine (HRR.out _).mono ?_
    rintro e w6 ⟨rfl, hO⟩
    have HO6 := Lib.hid (HO5.out.trans hO)
    have HR6 := Lib.hid (HR5.out.only hO id)
    have HS6 := Lib.hid (HS5.out.only hO id)
    clear hO HRR HR5 HS5 HO4 HR4
    have c0 : w6.cell? ⟨g, 0, none⟩ = some (.int .i64 k) := HR6.out.cell_ (i := 0) rfl
    have c1 : w6.cell? ⟨g, 1, none⟩ = some (.int .i64 c) := HR6.out.cell_ (i := 1) rfl
    have c2 : w6.cell? ⟨g, 2, none⟩ = some (.int .i64 x) := HR6.out.cell_ (i := 2) rfl
    have c3 : w6.cell? ⟨g, 3, none⟩ = some (.int .i64 y) := HR6.out.cell_ (i := 3) rfl
    have d0 : w6.cell? ⟨g4, 0, none⟩ = some (.int .i64 0) := HS6.out.cell_ (i := 0) rfl
    have d1 : w6.cell? ⟨g4, 1, none⟩ = some (.int .i64 0) := HS6.out.cell_ (i := 1) rfl
    have d2 : w6.cell? ⟨g4, 2, none⟩ = some (.int .i64 0) := HS6.out.cell_ (i := 2) rfl
    have d3 : w6.cell? ⟨g4, 3, none⟩ = some (.int .i64 0) := HS6.out.cell_ (i := 3) rfl
    have hq := fun W => (eql_note 0 0 0 0 0 0 0 0 W).trans (by rw [sameN_iff.2 ⟨rfl, rfl, rfl, rfl⟩])
    go_wp2_with fail
    refine (awake_any _).mono ?_
    rintro e w7 ⟨rfl, hO⟩
    have HO7 := Lib.hid (HOB.out.trans (HO6.out.trans hO))
    clear hO
    go_wp2
    go_ret
    exact ⟨rfl, HO7.out⟩
  · have HR := Lib.hid hr
    have HP := Lib.hid (fun (W : World) (hW : Only Nil (w.alloc (.cells #[.int .i64 k, .int .i64 c, .int .i64 x, .int .i64 y] 23)) W) => parse_yes k c x y W (HL.out.only hW) hr)
    clear hr
    have HT := Lib.hid (text_note k c x y)
    have HRI := Lib.hid (right_note k c x y)
    have HRR := Lib.hid (right_ref k c x y)
    have HRT := Lib.hid (refText_any k c x y)
    have HOP := Lib.hid (op_note x)
    have HROP := Lib.hid (op_ref x)
    have HNU := Lib.hid (number_note (bs (wordI opWs x)))
    have HRN := Lib.hid (number_ref (bs (wordI opWs x)))
    rw [HR.out] at HRI HRR
    generalize txB k c x y = X at *
    generalize numI opWs (bs (wordI opWs x)).data.toList = r at *
    generalize bs (wordI opWs x) = Y at *
    have hrr : (r == r) = true := by simp
    have hyy : (Y.toList == Y.toList) = true := by simp
    go_enter Tryd.func3, Tryd.ntmps3
    go_wp2_with fail
    generalize w.alloc (.cells #[.int .i64 k, .int .i64 c, .int .i64 x, .int .i64 y] 23) = w1 at *
    have HG := Lib.hid (Nat.le_refl w.heap.size)
    generalize hg : w.heap.size = g at *
    refine (HT.out w1).mono ?_
    rintro e w2 ⟨rfl, hO⟩
    have HO2 := Lib.hid hO
    have c0 : w2.cell? ⟨g, 0, none⟩ = some (.int .i64 k) := (HRA.out.only HO2.out id).cell_ (i := 0) rfl
    have c1 : w2.cell? ⟨g, 1, none⟩ = some (.int .i64 c) := (HRA.out.only HO2.out id).cell_ (i := 1) rfl
    have c2 : w2.cell? ⟨g, 2, none⟩ = some (.int .i64 x) := (HRA.out.only HO2.out id).cell_ (i := 2) rfl
    have c3 : w2.cell? ⟨g, 3, none⟩ = some (.int .i64 y) := (HRA.out.only HO2.out id).cell_ (i := 3) rfl
    have hxx : (X.toList == X.toList) = true := by simp
    clear hO HT hg
    go_wp2_with fail
    go_region_held3 (fun w' => w'.cell? ⟨g, 0, none⟩ = some (.int .i64 k) ∧ w'.cell? ⟨g, 1, none⟩ = some (.int .i64 c) ∧ w'.cell? ⟨g, 2, none⟩ = some (.int .i64 x) ∧ w'.cell? ⟨g, 3, none⟩ = some (.int .i64 y) ∧ Only Nil w2 w')
      (first
        | exact ⟨c0, c1, c2, c3, (Only.refl _ _).drew⟩
        | (go_keep; done)
        | (go_split_ands
           refine ⟨?_, ?_, ?_, ?_, ?_⟩
           all_goals first
             | exact Only.trans (by assumption) hO
             | (rw [hO.cell (World.block_lt_of_cell? _ _ (by assumption)) id]; assumption)))
      ((first
        | (go_at_call 8; refine (HRI.out _).mono ?_; rintro e w' ⟨rfl, hO⟩)
        | (go_at_call 9; refine (HRR.out _).mono ?_; rintro e w' ⟨rfl, hO⟩)
        | (go_at_call 10; refine (HRT.out _).mono ?_; rintro e w' ⟨rfl, hO⟩)
        | (go_at_call 11; refine (HOP.out _).mono ?_; rintro e w' ⟨rfl, hO⟩)
        | (go_at_call 12; refine (HROP.out _).mono ?_; rintro e w' ⟨rfl, hO⟩)
        | (go_at_call 13; refine (HNU.out _).mono ?_; rintro e w' ⟨rfl, hO⟩)
        | (go_at_call 14; refine (HRN.out _).mono ?_; rintro e w' ⟨rfl, hO⟩)))
    rename_i hH
    have HO3 := Lib.hid (HO2.out.trans hH.2.2.2.2)
    clear hH c0 c1 c2 c3 HRI HRT hO HOP HROP HNU HRN
    go_wp2_with fail
    refine (HP.out _ HO3.out).mono ?_
    rintro e w4 ⟨rfl, hO⟩
    have HO4 := Lib.hid (HO3.out.trans hO)
    have HR4 := Lib.hid (HRA.out.only HO4.out id)
    clear hO HP hxx hrr hyy
    have c0 := fun ob => (HR4.out.alloc ob).cell_ (i := 0) rfl
    have c1 := fun ob => (HR4.out.alloc ob).cell_ (i := 1) rfl
    have c2 := fun ob => (HR4.out.alloc ob).cell_ (i := 2) rfl
    have c3 := fun ob => (HR4.out.alloc ob).cell_ (i := 3) rfl
    go_wp2_with fail
    clear c0 c1 c2 c3
    have HO5 := Lib.hid (HO4.out.alloc (.cells #[.int .i64 k, .int .i64 c, .int .i64 x, .int .i64 y] 23))
    have HR5 := Lib.hid (HR4.out.alloc (.cells #[.int .i64 k, .int .i64 c, .int .i64 x, .int .i64 y] 23))
    have HS5 := Lib.hid (Row.new w4 23 #[.int .i64 k, .int .i64 c, .int .i64 x, .int .i64 y])
    generalize w4.alloc (.cells #[.int .i64 k, .int .i64 c, .int .i64 x, .int .i64 y] 23) = w5 at *
    generalize w4.heap.size = g4 at *
    refine (HRR.out _).mono ?_
    rintro e w6 ⟨rfl, hO⟩
    have HO6 := Lib.hid (HO5.out.trans hO)
    have HR6 := Lib.hid (HR5.out.only hO id)
    have HS6 := Lib.hid (HS5.out.only hO id)
    clear hO HRR HR5 HS5 HO4 HR4
    have c0 : w6.cell? ⟨g, 0, none⟩ = some (.int .i64 k) := HR6.out.cell_ (i := 0) rfl
    have c1 : w6.cell? ⟨g, 1, none⟩ = some (.int .i64 c) := HR6.out.cell_ (i := 1) rfl
    have c2 : w6.cell? ⟨g, 2, none⟩ = some (.int .i64 x) := HR6.out.cell_ (i := 2) rfl
    have c3 : w6.cell? ⟨g, 3, none⟩ = some (.int .i64 y) := HR6.out.cell_ (i := 3) rfl
    have d0 : w6.cell? ⟨g4, 0, none⟩ = some (.int .i64 k) := HS6.out.cell_ (i := 0) rfl
    have d1 : w6.cell? ⟨g4, 1, none⟩ = some (.int .i64 c) := HS6.out.cell_ (i := 1) rfl
    have d2 : w6.cell? ⟨g4, 2, none⟩ = some (.int .i64 x) := HS6.out.cell_ (i := 2) rfl
    have d3 : w6.cell? ⟨g4, 3, none⟩ = some (.int .i64 y) := HS6.out.cell_ (i := 3) rfl
    have hq := fun W => (eql_note k c x y k c x y W).trans (by rw [sameN_iff.2 ⟨rfl, rfl, rfl, rfl⟩])
    go_wp2_with fail
    refine (awake_any _).mono ?_
    rintro e w7 ⟨rfl, hO⟩
    have HO7 := Lib.hid (HOB.out.trans (HO6.out.trans hO))
    clear hO
    go_wp2
    go_ret
    exact ⟨rfl, HO7.out⟩
end Go.Proofs.YtakbbabmbhencaaDoor
