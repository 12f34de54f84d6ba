/- Accesses as texts: acc.Text. -/
import Derived.Test.YtlccmhlbkgojlaaDoorAcc
import Derived.Test.YtlccmhlbkgojlaaDoorApp
import Derived.Test.YtlccmhlbkgojlaaDoorHex
import Derived.Test.YtlccmhlbkgojlaaDoorJoin
namespace Go.Proofs.YtlccmhlbkgojlaaDoor
open Go.RowKit

theorem word_len (k : Int) : (wordL k).length ≤ 5 := by
  unfold wordL
  repeat' split
  all_goals decide
theorem text_len {a : Acc} (r : a.Right) : (textL a).length ≤ 60 := by
  refine Nat.le_trans (glue_len _) ?_
  have h1 := word_len a.k
  have h2 : (decL a.c).length ≤ 4 := dec_len (by omega) (by have := r.c0; have := r.c1; omega)
  have h3 := hex8_len a.x
  have h4 := hex8_len a.y
  have h5 := hex8_len a.o
  have h6 : wasL.length = 3 := rfl
  unfold partsL
  split
  · simp only [List.map_cons, List.map_nil, List.sum_cons, List.sum_nil]; omega
  · split <;> (simp only [List.map_cons, List.map_nil, List.sum_cons, List.sum_nil]; omega)

theorem text_no (k c x y o : Int) (w : World) (h : rightB k c x y o = false) : Calls Tryd.prog 7 #[.agg #[.int .i64 k, .int .i64 c, .int .u32 x, .int .u32 y, .int .u32 o]] w fun e w' => e = .returned (.string (bs [])) ∧ Only Nil w w' := by
  have HR := Lib.hid (right_any k c x y o)
  have HB := Lib.hid h
  have HO0 := Lib.hid ((Only.refl Nil w).alloc (.cells #[.int .i64 k, .int .i64 c, .int .u32 x, .int .u32 y, .int .u32 o] 24))
  clear h
  go_enter Tryd.func7, Tryd.ntmps7
  go_wp2_with fail
  refine (HR.out _).mono ?_
  rw [HB.out]
  rintro e w1 ⟨rfl, hO⟩
  have HO := Lib.hid (HO0.out.trans hO)
  clear hO
  go_wp2
  go_ret
  exact ⟨rfl, HO.out⟩

set_option maxHeartbeats 1000000 in
set_option maxRecDepth 100000 in
theorem text_yes (k c : Nat) (x y o : Int) (w : World) (h : Lies w) (f : Acc.Fits ⟨k, c, x, y, o⟩) (r : Acc.Right ⟨k, c, x, y, o⟩) : Calls Tryd.prog 7 #[.agg #[.int .i64 k, .int .i64 c, .int .u32 x, .int .u32 y, .int .u32 o]] w fun e w' => e = .returned (.string (bs (textL ⟨k, c, x, y, o⟩))) ∧ Only Nil w w' := by
  have HR := Lib.hid (right_any k c x y o)
  have HB := Lib.hid (rightB_iff.2 r)
  have HF := Lib.hid f
  have HRR := Lib.hid r
  have hk5 : (k : Int) ≤ 5 := r.k5
  have hk6 : (k : Int) < 6 := by omega
  have hob := (Only.refl Nil w).alloc (.cells #[.int .i64 k, .int .i64 c, .int .u32 x, .int .u32 y, .int .u32 o] 24)
  have HL := Lib.hid (h.only hob)
  have HOB := Lib.hid hob
  have HR0 := Lib.hid (Row.new w 24 #[.int .i64 k, .int .i64 c, .int .u32 x, .int .u32 y, .int .u32 o])
  have HZ := Lib.hid (show (w.alloc (.cells #[.int .i64 k, .int .i64 c, .int .u32 x, .int .u32 y, .int .u32 o] 24)).heap.size = w.heap.size + 1 by simp)
  have HOPS := Lib.hid (fun W => operands_any k W)
  have HNN := Lib.hid (show nOps k = if (k : Int) = 2 ∨ (k : Int) = 3 ∨ (k : Int) = 4 then 1 else if (k : Int) = 5 then 2 else 0 from rfl)
  generalize nOps k = n at *
  clear h f r hob
  go_enter Tryd.func7, Tryd.ntmps7
  go_wp2_with fail
  generalize w.alloc (.cells #[.int .i64 k, .int .i64 c, .int .u32 x, .int .u32 y, .int .u32 o] 24) = wb at *
  generalize w.heap.size = g at *
  refine (HR.out _).mono ?_
  rw [HB.out]
  rintro e w1 ⟨rfl, hO⟩
  have HO1 := Lib.hid hO
  clear hO
  go_wp2_with fail
  have hb0 : w1.cell? ⟨g, 0, none⟩ = some (.int .i64 k) := (HR0.out.only HO1.out id).cell_ (i := 0) rfl
  have hb1 : w1.cell? ⟨g, 1, none⟩ = some (.int .i64 c) := (HR0.out.only HO1.out id).cell_ (i := 1) rfl
  have hw0 : w1.cell? ⟨0, k, none⟩ = some (.string (bs (wordL k))) := (HL.out.only HO1.out).words k (by omega)
  have HI := Lib.hid (fun (W : World) (hW : Only Nil wb W) => itoa_any c W (by have := HRR.out.c1; simp only at this; omega) (HL.out.only hW))
  go_region_held3 (fun w' => w'.cell? ⟨g, 0, none⟩ = some (.int .i64 k) ∧ w'.cell? ⟨g, 1, none⟩ = some (.int .i64 c) ∧ w'.cell? ⟨0, k, none⟩ = some (.string (bs (wordL k))) ∧ Only Nil w1 w')
    (first
      | exact ⟨hb0, hb1, hw0, (Only.refl _ _).drew⟩
      | (go_keep; done)
      | (go_split_ands
         refine ⟨?_, ?_, ?_, ?_⟩
         · rw [hO.cell (World.block_lt_of_cell? _ _ (by assumption)) id]; assumption
         · rw [hO.cell (World.block_lt_of_cell? _ _ (by assumption)) id]; assumption
         · rw [hO.cell (World.block_lt_of_cell? _ _ (by assumption)) id]; assumption
         · exact Only.trans (by assumption) hO)
      | (go_split_ands
         refine ⟨?_, ?_, ?_, ?_⟩
         · (go_keep; done)
         · (go_keep; done)
         · (go_keep; done)
         · exact Only.alloc (by assumption) _))
    ((first
      | (go_at_call 16; refine (HI.out _ (HO1.out.trans (by go_split_ands; assumption))).mono ?_; rintro e w' ⟨rfl, hO⟩)))
  rename_i hH
  have HO2 := Lib.hid (HO1.out.trans hH.2.2.2)
  have hgz : g + 1 ≤ w'.heap.size := by have h1 := hO.size; have h2 := HO1.out.size; have h3 := HZ.out; simp at h1; omega
  have HS2 : Hid (OwnS (g + 1) (w'.alloc (.cells #[.string (bs (wordL k)), .string (decB c)] 9)) (.slice (some ⟨w'.heap.size, 0, none⟩) 2 2) [bs (wordL k), decB c]) := Lib.hid (ownS_new [bs (wordL k), decB c] hgz (by simp))
  clear hH hO hgz hb0 hb1 hw0 HI
  generalize w'.alloc (.cells #[.string (bs (wordL k)), .string (decB c)] 9) = w2 at *
  generalize w'.heap.size = gs at *
  have hb0 : w2.cell? ⟨g, 0, none⟩ = some (.int .i64 k) := (HR0.out.only HO2.out id).cell_ (i := 0) rfl
  go_wp2_with fail
  refine (HOPS.out _).mono ?_
  rintro e w' ⟨rfl, rfl⟩
  have HKN := Lib.hid (show (n = 0 ∧ (k : Int) = 1) ∨ (n = 1 ∧ (k : Int) ≠ 1 ∧ (k : Int) ≠ 5) ∨ (n = 2 ∧ (k : Int) = 5) by
    have e := HNN.out
    have h1 := HRR.out.k1
    have h5 := HRR.out.k5
    simp only at h1 h5
    rcases kinds h1 h5 with h | h | h | h | h <;> rw [h] at e ⊢ <;> simp at e ⊢ <;> exact e)
  clear hb0 HNN HOPS
  rcases HKN.out with ⟨rfl, hk⟩ | ⟨rfl, hk, hk'⟩ | ⟨rfl, hk⟩
  · have HT : Hid (textL ⟨k, c, x, y, o⟩ = glue [wordL k, decL c, wasL, hex8 o]) := Lib.hid (by unfold textL partsL; rw [if_pos hk])
    clear hk HKN
    have hbx : w2.cell? ⟨g, 4, none⟩ = some (.int .u32 o) := (HR0.out.only HO2.out id).cell_ (i := 4) rfl
    go_wp2_with fail
    refine (hex_any o _ (HF.out.o0) (HF.out.o1) (HL.out.only HO2.out)).mono ?_
    rintro e w3 ⟨rfl, hO⟩
    have HO3 := Lib.hid (HO2.out.trans hO)
    have HS3 := Lib.hid (HS2.out.only hO)
    clear hO hbx
    go_wp2_with (at_builtin; refine wp_app rfl (.tmp 35) (.tmp 39) rfl (g + 1) _ _ rfl (HS3.out.only ((Only.refl _ _).alloc _)) _ [bs wasL, hexB o] rfl (Row.new _ _ _) (by simp) (by simp) (by have h1 := HO3.out.size; have h2 := HZ.out; simp; omega) ?_)
    intro v4 w4 hown hon
    have HO4 := Lib.hid (hon wb (HO3.out.alloc _) (Nat.le_of_eq HZ.out))
    have HS4 := Lib.hid hown
    clear hown hon
    go_wp2_with fail
    refine (join_any v4 [wordL k, decL c, wasL, hex8 o] (g + 1) w4 HS4.out (by simp) (by simp) (by rw [← HT.out]; have := text_len HRR.out; omega)).mono ?_
    rintro e w9 ⟨rfl, hO⟩
    have HO9 := Lib.hid (HOB.out.trans (HO4.out.trans hO))
    clear hO
    go_wp2
    go_ret
    exact ⟨by rw [HT.out]; rfl, HO9.out⟩
  · have HT : Hid (textL ⟨k, c, x, y, o⟩ = glue [wordL k, decL c, hex8 x, wasL, hex8 o]) := Lib.hid (by unfold textL partsL; rw [if_neg hk, if_neg hk'])
    clear hk hk' HKN
    have hbx : w2.cell? ⟨g, 2, none⟩ = some (.int .u32 x) := (HR0.out.only HO2.out id).cell_ (i := 2) rfl
    go_wp2_with fail
    refine (hex_any x _ (HF.out.x0) (HF.out.x1) (HL.out.only HO2.out)).mono ?_
    rintro e w3 ⟨rfl, hO⟩
    have HO3 := Lib.hid (HO2.out.trans hO)
    have HS3 := Lib.hid (HS2.out.only hO)
    clear hO hbx
    go_wp2_with (at_builtin; refine wp_app rfl (.tmp 21) (.tmp 25) rfl (g + 1) _ _ rfl (HS3.out.only ((Only.refl _ _).alloc _)) _ [hexB x] rfl (Row.new _ _ _) (by simp) (by simp) (by have h1 := HO3.out.size; have h2 := HZ.out; simp; omega) ?_)
    intro v4 w4 hown hon
    have HO4 := Lib.hid (hon wb (HO3.out.alloc _) (Nat.le_of_eq HZ.out))
    have HS4 := Lib.hid hown
    clear hown hon
    have hbx : w4.cell? ⟨g, 4, none⟩ = some (.int .u32 o) := (HR0.out.only HO4.out id).cell_ (i := 4) rfl
    go_wp2_with fail
    refine (hex_any o _ (HF.out.o0) (HF.out.o1) (HL.out.only HO4.out)).mono ?_
    rintro e w5 ⟨rfl, hO⟩
    have HO5 := Lib.hid (HO4.out.trans hO)
    have HS5 := Lib.hid (HS4.out.only hO)
    clear hO hbx
    go_wp2_with (at_builtin; refine wp_app rfl (.tmp 35) (.tmp 39) rfl (g + 1) _ _ rfl (HS5.out.only ((Only.refl _ _).alloc _)) _ [bs wasL, hexB o] rfl (Row.new _ _ _) (by simp) (by simp) (by have h1 := HO5.out.size; have h2 := HZ.out; simp; omega) ?_)
    intro v6 w6 hown hon
    have HO6 := Lib.hid (hon wb (HO5.out.alloc _) (Nat.le_of_eq HZ.out))
    have HS6 := Lib.hid hown
    clear hown hon
    go_wp2_with fail
    refine (join_any v6 [wordL k, decL c, hex8 x, wasL, hex8 o] (g + 1) w6 HS6.out (by simp) (by simp) (by rw [← HT.out]; have := text_len HRR.out; omega)).mono ?_
    rintro e w9 ⟨rfl, hO⟩
    have HO9 := Lib.hid (HOB.out.trans (HO6.out.trans hO))
    clear hO
    go_wp2
    go_ret
    exact ⟨by rw [HT.out]; rfl, HO9.out⟩
  · have HT : Hid (textL ⟨k, c, x, y, o⟩ = glue [wordL k, decL c, hex8 x, hex8 y, wasL, hex8 o]) := Lib.hid (by unfold textL partsL; rw [if_neg (by simp only; omega), if_pos hk])
    clear hk HKN
    have hbx : w2.cell? ⟨g, 2, none⟩ = some (.int .u32 x) := (HR0.out.only HO2.out id).cell_ (i := 2) rfl
    go_wp2_with fail
    refine (hex_any x _ (HF.out.x0) (HF.out.x1) (HL.out.only HO2.out)).mono ?_
    rintro e w3 ⟨rfl, hO⟩
    have HO3 := Lib.hid (HO2.out.trans hO)
    have HS3 := Lib.hid (HS2.out.only hO)
    clear hO hbx
    go_wp2_with (at_builtin; refine wp_app rfl (.tmp 21) (.tmp 25) rfl (g + 1) _ _ rfl (HS3.out.only ((Only.refl _ _).alloc _)) _ [hexB x] rfl (Row.new _ _ _) (by simp) (by simp) (by have h1 := HO3.out.size; have h2 := HZ.out; simp; omega) ?_)
    intro v4 w4 hown hon
    have HO4 := Lib.hid (hon wb (HO3.out.alloc _) (Nat.le_of_eq HZ.out))
    have HS4 := Lib.hid hown
    clear hown hon
    have hbx : w4.cell? ⟨g, 3, none⟩ = some (.int .u32 y) := (HR0.out.only HO4.out id).cell_ (i := 3) rfl
    go_wp2_with fail
    refine (hex_any y _ (HF.out.y0) (HF.out.y1) (HL.out.only HO4.out)).mono ?_
    rintro e w5 ⟨rfl, hO⟩
    have HO5 := Lib.hid (HO4.out.trans hO)
    have HS5 := Lib.hid (HS4.out.only hO)
    clear hO hbx
    go_wp2_with (at_builtin; refine wp_app rfl (.tmp 29) (.tmp 33) rfl (g + 1) _ _ rfl (HS5.out.only ((Only.refl _ _).alloc _)) _ [hexB y] rfl (Row.new _ _ _) (by simp) (by simp) (by have h1 := HO5.out.size; have h2 := HZ.out; simp; omega) ?_)
    intro v6 w6 hown hon
    have HO6 := Lib.hid (hon wb (HO5.out.alloc _) (Nat.le_of_eq HZ.out))
    have HS6 := Lib.hid hown
    clear hown hon
    have hbx : w6.cell? ⟨g, 4, none⟩ = some (.int .u32 o) := (HR0.out.only HO6.out id).cell_ (i := 4) rfl
    go_wp2_with fail
    refine (hex_any o _ (HF.out.o0) (HF.out.o1) (HL.out.only HO6.out)).mono ?_
    rintro e w7 ⟨rfl, hO⟩
    have HO7 := Lib.hid (HO6.out.trans hO)
    have HS7 := Lib.hid (HS6.out.only hO)
    clear hO hbx
    go_wp2_with (at_builtin; refine wp_app rfl (.tmp 35) (.tmp 39) rfl (g + 1) _ _ rfl (HS7.out.only ((Only.refl _ _).alloc _)) _ [bs wasL, hexB o] rfl (Row.new _ _ _) (by simp) (by simp) (by have h1 := HO7.out.size; have h2 := HZ.out; simp; omega) ?_)
    intro v8 w8 hown hon
    have HO8 := Lib.hid (hon wb (HO7.out.alloc _) (Nat.le_of_eq HZ.out))
    have HS8 := Lib.hid hown
    clear hown hon
    go_wp2_with fail
    refine (join_any v8 [wordL k, decL c, hex8 x, hex8 y, wasL, hex8 o] (g + 1) w8 HS8.out (by simp) (by simp) (by rw [← HT.out]; have := text_len HRR.out; omega)).mono ?_
    rintro e w9 ⟨rfl, hO⟩
    have HO9 := Lib.hid (HOB.out.trans (HO8.out.trans hO))
    clear hO
    go_wp2
    go_ret
    exact ⟨by rw [HT.out]; rfl, HO9.out⟩
end Go.Proofs.YtlccmhlbkgojlaaDoor
