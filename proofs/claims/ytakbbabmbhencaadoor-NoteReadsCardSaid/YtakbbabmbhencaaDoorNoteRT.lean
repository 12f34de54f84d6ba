/- A note's text: the answer's. -/
import Derived.Test.YtakbbabmbhencaaDoorNoteRR
import Derived.Test.YtakbbabmbhencaaDoorNoteText
import Derived.Test.YtakbbabmbhencaaDoorText
namespace Go.Proofs.YtakbbabmbhencaaDoor
open Go.RowKit
set_option linter.unusedVariables false
set_option linter.unusedSimpArgs false
/-- A word with a blank ahead, if there is one. -/
def sp (l : Bs) : Bs := if l = [] then [] else 32 :: l
theorem glue_parts {d l1 : Bs} (l2 l3 : Bs) (hd : d ≠ []) (h1 : l1 ≠ []) : glue ([d, l1, l2, l3].filter (fun l => !decide (l = []))) = d ++ [32] ++ l1 ++ sp l2 ++ sp l3 := by
  unfold sp
  by_cases h2 : l2 = []
  · by_cases h3 : l3 = []
    · simp [hd, h1, h2, h3, glue]
    · simp [hd, h1, h2, h3, glue]
  · by_cases h3 : l3 = []
    · simp [hd, h1, h2, h3, glue]
    · simp [hd, h1, h2, h3, glue]
theorem parts_text {t q o a : Int} (h : tripB q o a = true) : glue (partsN t q o a) = decL t ++ [32] ++ wordI whWs q ++ sp (wordI (opOf q) o) ++ sp (wordI (argOf q) a) :=
  glue_parts _ _ (dec_some _) (by
    unfold tripB at h
    simp only [Bool.and_eq_true] at h
    have := h.1
    rw [fit_wh] at this
    simpa using this)
theorem word_nil (x : Int) : wordI [] x = [] := by unfold wordI; split <;> simp

theorem refText_no (t q o a : Int) (w : World) (h : rightN t q o a = false) : Calls Tryd.prog 10 #[.agg #[.int .i64 t, .int .i64 q, .int .i64 o, .int .i64 a]] w fun e w' => e = .returned (.string ⟨#[]⟩) ∧ Only Nil w w' := by
  have HR := Lib.hid (right_ref t q o a)
  have HB := Lib.hid h
  have HO0 := Lib.hid ((Only.refl Nil w).alloc (.cells #[.int .i64 t, .int .i64 q, .int .i64 o, .int .i64 a] 23))
  clear h
  go_enter Tryd.func10, Tryd.ntmps10
  go_wp2_with fail
  refine (HR.out _).mono ?_
  rw [HB.out]
  rintro e w1 ⟨rfl, hO⟩
  have HO := Lib.hid (HO0.out.trans hO)
  clear hO
  go_wp2
  go_ret
  exact ⟨rfl, HO.out⟩
set_option maxHeartbeats 1000000 in
set_option maxRecDepth 100000 in
theorem refText_1 (t q o a : Int) (w : World) (h : rightN t q o a = true) (hq : q = 1) : Calls Tryd.prog 10 #[.agg #[.int .i64 t, .int .i64 q, .int .i64 o, .int .i64 a]] w fun e w' => e = .returned (.string (bs (glue (partsN t q o a)))) ∧ Only Nil w w' := by
  subst hq
  have HY0 : Hid (wordI opWs o ≠ []) := Lib.hid (by
    have h3 := (right_in h).2.2
    unfold tripB at h3
    rw [show opOf 1 = opWs from rfl, fit_op] at h3
    simp only [Bool.and_eq_true] at h3
    simpa using h3.2.1)
  have HR := Lib.hid (right_ref t 1 o a)
  have HB := Lib.hid h
  obtain ⟨t0, t1, h3⟩ := right_in h
  have HTX := Lib.hid (parts_text (t := t) h3)
  have hob := (Only.refl Nil w).alloc (.cells #[.int .i64 t, .int .i64 1, .int .i64 o, .int .i64 a] 23)
  have HOB := Lib.hid hob
  have HR0 := Lib.hid (Row.new w 23 #[.int .i64 t, .int .i64 1, .int .i64 o, .int .i64 a])
  have HW := Lib.hid (fun W => what_ref 1 W)
  have HV := Lib.hid (fun W => op_ref o W)
  have HT : Hid (∀ W, Calls Tryd.prog 32 #[.int .i64 t] W fun e w' => e = .returned (.string (bs (decL t))) ∧ Only Nil W w') := Lib.hid (fun W => by
    obtain ⟨i, rfl⟩ : ∃ i : Nat, t = i := ⟨t.toNat, by omega⟩
    exact text_small i W (by omega))
  have sd : (bs (decL t)).size ≤ 4 := by rw [bs_size]; exact dec_len (by omega) (by omega)
  have sw : (bs (wordI whWs 1)).size ≤ 9 := by rw [bs_size]; exact word_size _ _ _ (by decide)
  have so : (bs (wordI opWs o)).size ≤ 9 := by rw [bs_size]; exact word_size _ _ _ (by decide)
  clear h hob h3
  generalize hd : bs (decL t) = D at *
  generalize hx : bs (wordI whWs 1) = X at *
  generalize hy : bs (wordI opWs o) = Y at *
  have HD := Lib.hid hd
  have HX := Lib.hid hx
  have HY := Lib.hid hy
  clear hd hx hy
  go_enter Tryd.func10, Tryd.ntmps10
  go_wp2_with fail
  generalize w.alloc (.cells #[.int .i64 t, .int .i64 1, .int .i64 o, .int .i64 a] 23) = wb at *
  generalize w.heap.size = g at *
  refine (HR.out _).mono ?_
  rw [HB.out]
  rintro e w1 ⟨rfl, hO⟩
  have HO1 := Lib.hid hO
  clear hO
  go_wp2_with fail
  have hb0 : w1.cell? ⟨g, 0, none⟩ = some (.int .i64 t) := (HR0.out.only HO1.out id).cell_ (i := 0) rfl
  have hb1 : w1.cell? ⟨g, 1, none⟩ = some (.int .i64 1) := (HR0.out.only HO1.out id).cell_ (i := 1) rfl
  have s1 : ¬ 9223372036854775807 < D.size + 1 := by omega
  have s2 : ¬ 9223372036854775807 < D.size + 1 + X.size := by omega
  go_region_held3 (fun w' => w'.cell? ⟨g, 0, none⟩ = some (.int .i64 t) ∧ w'.cell? ⟨g, 1, none⟩ = some (.int .i64 1) ∧ Only Nil w1 w')
    (first
      | exact ⟨hb0, hb1, (Only.refl _ _).drew⟩
      | (go_keep; done)
      | (go_split_ands
         refine ⟨?_, ?_, ?_⟩
         · rw [hO.cell (World.block_lt_of_cell? _ _ (by assumption)) id]; assumption
         · rw [hO.cell (World.block_lt_of_cell? _ _ (by assumption)) id]; assumption
         · exact Only.trans (by assumption) hO))
    ((first
      | (go_at_call 31; refine (HW.out _).mono ?_; rintro e w' ⟨rfl, hO⟩)
      | (go_at_call 32; refine (HT.out _).mono ?_; rintro e w' ⟨rfl, hO⟩)))
  rename_i hH
  have HO2 := Lib.hid (HOB.out.trans (HO1.out.trans hH.2.2))
  have HR2 := Lib.hid (HR0.out.only (HO1.out.trans hH.2.2) id)
  have HS : Hid (D ++ ⟨#[32]⟩ ++ X = bs (decL t ++ [32] ++ wordI whWs 1)) := Lib.hid (by rw [← HD.out, ← HX.out, show (⟨#[32]⟩ : ByteArray) = bs [32] from rfl, bs_app, bs_app])
  have ss : (D ++ ⟨#[32]⟩ ++ X).size ≤ 20 := by
    have h1 : (D ++ ⟨#[32]⟩ ++ X).size = D.size + 1 + X.size := by rw [ByteArray.size_append, ByteArray.size_append]; rfl
    omega
  clear hH hO hb0 hb1 s1 s2 sw sd
  have c0 : w'.cell? ⟨g, 0, none⟩ = some (.int .i64 t) := HR2.out.cell_ (i := 0) rfl
  have c1 : w'.cell? ⟨g, 1, none⟩ = some (.int .i64 1) := HR2.out.cell_ (i := 1) rfl
  have c2 : w'.cell? ⟨g, 2, none⟩ = some (.int .i64 o) := HR2.out.cell_ (i := 2) rfl
  have c3 : w'.cell? ⟨g, 3, none⟩ = some (.int .i64 a) := HR2.out.cell_ (i := 3) rfl
  generalize D ++ ⟨#[32]⟩ ++ X = S at *
  have HE : Hid (S ++ ⟨#[32]⟩ ++ Y = bs (glue (partsN t 1 o a))) := Lib.hid (by
    rw [HTX.out, HS.out, ← HY.out, show opOf 1 = opWs from rfl, show argOf 1 = [] from rfl, word_nil, show (⟨#[32]⟩ : ByteArray) = bs [32] from rfl, bs_app, bs_app]
    unfold sp
    rw [if_neg HY0.out, if_pos rfl]
    simp)
  go_wp2_with fail
  clear c0 c1 c2 c3
  refine (HV.out _).mono ?_
  rintro e w3 ⟨rfl, hO⟩
  have HO3 := Lib.hid (HO2.out.trans hO)
  have HR3 := Lib.hid (HR2.out.only hO id)
  clear hO
  have c0 : w3.cell? ⟨g, 0, none⟩ = some (.int .i64 t) := HR3.out.cell_ (i := 0) rfl
  have c1 : w3.cell? ⟨g, 1, none⟩ = some (.int .i64 1) := HR3.out.cell_ (i := 1) rfl
  have c2 : w3.cell? ⟨g, 2, none⟩ = some (.int .i64 o) := HR3.out.cell_ (i := 2) rfl
  have c3 : w3.cell? ⟨g, 3, none⟩ = some (.int .i64 a) := HR3.out.cell_ (i := 3) rfl
  go_wp2
  go_ret
  exact ⟨by rw [← HE.out]; rfl, HO3.out⟩
set_option maxHeartbeats 1000000 in
set_option maxRecDepth 100000 in
theorem refText_11 (t q o a : Int) (w : World) (h : rightN t q o a = true) (hq : q = 11) : Calls Tryd.prog 10 #[.agg #[.int .i64 t, .int .i64 q, .int .i64 o, .int .i64 a]] w fun e w' => e = .returned (.string (bs (glue (partsN t q o a)))) ∧ Only Nil w w' := by
  subst hq
  have HY0 : Hid (wordI opWs o ≠ []) := Lib.hid (by
    have h3 := (right_in h).2.2
    unfold tripB at h3
    rw [show opOf 11 = opWs from rfl, fit_op] at h3
    simp only [Bool.and_eq_true] at h3
    simpa using h3.2.1)
  have HA : Hid (a = 1 ∨ a = 2 ∨ a = 3) := Lib.hid (by
    have h3 := (right_in h).2.2
    unfold tripB at h3
    rw [show argOf 11 = rtWs from rfl, arg11] at h3
    simp only [Bool.and_eq_true, decide_eq_true_eq] at h3
    omega)
  have HR := Lib.hid (right_ref t 11 o a)
  have HB := Lib.hid h
  obtain ⟨t0, t1, h3⟩ := right_in h
  have HTX := Lib.hid (parts_text (t := t) h3)
  have hob := (Only.refl Nil w).alloc (.cells #[.int .i64 t, .int .i64 11, .int .i64 o, .int .i64 a] 23)
  have HOB := Lib.hid hob
  have HR0 := Lib.hid (Row.new w 23 #[.int .i64 t, .int .i64 11, .int .i64 o, .int .i64 a])
  have HW := Lib.hid (fun W => what_ref 11 W)
  have HV := Lib.hid (fun W => op_ref o W)
  have HT : Hid (∀ W, Calls Tryd.prog 32 #[.int .i64 t] W fun e w' => e = .returned (.string (bs (decL t))) ∧ Only Nil W w') := Lib.hid (fun W => by
    obtain ⟨i, rfl⟩ : ∃ i : Nat, t = i := ⟨t.toNat, by omega⟩
    exact text_small i W (by omega))
  have sd : (bs (decL t)).size ≤ 4 := by rw [bs_size]; exact dec_len (by omega) (by omega)
  have sw : (bs (wordI whWs 11)).size ≤ 9 := by rw [bs_size]; exact word_size _ _ _ (by decide)
  have so : (bs (wordI opWs o)).size ≤ 9 := by rw [bs_size]; exact word_size _ _ _ (by decide)
  clear h hob h3
  generalize hd : bs (decL t) = D at *
  generalize hx : bs (wordI whWs 11) = X at *
  generalize hy : bs (wordI opWs o) = Y at *
  have HD := Lib.hid hd
  have HX := Lib.hid hx
  have HY := Lib.hid hy
  clear hd hx hy
  go_enter Tryd.func10, Tryd.ntmps10
  go_wp2_with fail
  generalize w.alloc (.cells #[.int .i64 t, .int .i64 11, .int .i64 o, .int .i64 a] 23) = wb at *
  generalize w.heap.size = g at *
  refine (HR.out _).mono ?_
  rw [HB.out]
  rintro e w1 ⟨rfl, hO⟩
  have HO1 := Lib.hid hO
  clear hO
  go_wp2_with fail
  have hb0 : w1.cell? ⟨g, 0, none⟩ = some (.int .i64 t) := (HR0.out.only HO1.out id).cell_ (i := 0) rfl
  have hb1 : w1.cell? ⟨g, 1, none⟩ = some (.int .i64 11) := (HR0.out.only HO1.out id).cell_ (i := 1) rfl
  have s1 : ¬ 9223372036854775807 < D.size + 1 := by omega
  have s2 : ¬ 9223372036854775807 < D.size + 1 + X.size := by omega
  go_region_held3 (fun w' => w'.cell? ⟨g, 0, none⟩ = some (.int .i64 t) ∧ w'.cell? ⟨g, 1, none⟩ = some (.int .i64 11) ∧ Only Nil w1 w')
    (first
      | exact ⟨hb0, hb1, (Only.refl _ _).drew⟩
      | (go_keep; done)
      | (go_split_ands
         refine ⟨?_, ?_, ?_⟩
         · rw [hO.cell (World.block_lt_of_cell? _ _ (by assumption)) id]; assumption
         · rw [hO.cell (World.block_lt_of_cell? _ _ (by assumption)) id]; assumption
         · exact Only.trans (by assumption) hO))
    ((first
      | (go_at_call 31; refine (HW.out _).mono ?_; rintro e w' ⟨rfl, hO⟩)
      | (go_at_call 32; refine (HT.out _).mono ?_; rintro e w' ⟨rfl, hO⟩)))
  rename_i hH
  have HO2 := Lib.hid (HOB.out.trans (HO1.out.trans hH.2.2))
  have HR2 := Lib.hid (HR0.out.only (HO1.out.trans hH.2.2) id)
  have HS : Hid (D ++ ⟨#[32]⟩ ++ X = bs (decL t ++ [32] ++ wordI whWs 11)) := Lib.hid (by rw [← HD.out, ← HX.out, show (⟨#[32]⟩ : ByteArray) = bs [32] from rfl, bs_app, bs_app])
  have ss : (D ++ ⟨#[32]⟩ ++ X).size ≤ 20 := by
    have h1 : (D ++ ⟨#[32]⟩ ++ X).size = D.size + 1 + X.size := by rw [ByteArray.size_append, ByteArray.size_append]; rfl
    omega
  clear hH hO hb0 hb1 s1 s2 sw sd
  have c0 : w'.cell? ⟨g, 0, none⟩ = some (.int .i64 t) := HR2.out.cell_ (i := 0) rfl
  have c1 : w'.cell? ⟨g, 1, none⟩ = some (.int .i64 11) := HR2.out.cell_ (i := 1) rfl
  have c2 : w'.cell? ⟨g, 2, none⟩ = some (.int .i64 o) := HR2.out.cell_ (i := 2) rfl
  have c3 : w'.cell? ⟨g, 3, none⟩ = some (.int .i64 a) := HR2.out.cell_ (i := 3) rfl
  generalize D ++ ⟨#[32]⟩ ++ X = S at *
  have HE : Hid (S ++ ⟨#[32]⟩ ++ Y ++ bs (sp (wordI rtWs a)) = bs (glue (partsN t 11 o a))) := Lib.hid (by
    rw [HTX.out, HS.out, ← HY.out, show opOf 11 = opWs from rfl, show argOf 11 = rtWs from rfl, show (⟨#[32]⟩ : ByteArray) = bs [32] from rfl, bs_app, bs_app, bs_app, show sp (wordI opWs o) = [32] ++ wordI opWs o by unfold sp; rw [if_neg HY0.out]; rfl]
    simp only [List.append_assoc])
  have hs : (S ++ ⟨#[32]⟩ ++ Y).size ≤ 40 := by
    have h1 : (S ++ ⟨#[32]⟩ ++ Y).size = S.size + 1 + Y.size := by rw [ByteArray.size_append, ByteArray.size_append]; rfl
    omega
  go_wp2_with fail
  clear c0 c1 c2 c3
  refine (HV.out _).mono ?_
  rintro e w3 ⟨rfl, hO⟩
  have HO3 := Lib.hid (HO2.out.trans hO)
  have HR3 := Lib.hid (HR2.out.only hO id)
  clear hO
  have c0 : w3.cell? ⟨g, 0, none⟩ = some (.int .i64 t) := HR3.out.cell_ (i := 0) rfl
  have c1 : w3.cell? ⟨g, 1, none⟩ = some (.int .i64 11) := HR3.out.cell_ (i := 1) rfl
  have c2 : w3.cell? ⟨g, 2, none⟩ = some (.int .i64 o) := HR3.out.cell_ (i := 2) rfl
  have c3 : w3.cell? ⟨g, 3, none⟩ = some (.int .i64 a) := HR3.out.cell_ (i := 3) rfl
  have c4 := fun ob => (HR3.out.alloc ob).cell_ (i := 3) rfl
  rcases HA.out with rfl | rfl | rfl
  all_goals
    go_wp2
    go_ret
    exact ⟨by rw [← HE.out]; rfl, HO3.out.alloc _⟩
set_option maxHeartbeats 1000000 in
set_option maxRecDepth 100000 in
theorem refText_2 (t q o a : Int) (w : World) (h : rightN t q o a = true) (hq : q = 2) : Calls Tryd.prog 10 #[.agg #[.int .i64 t, .int .i64 q, .int .i64 o, .int .i64 a]] w fun e w' => e = .returned (.string (bs (glue (partsN t q o a)))) ∧ Only Nil w w' := by
  subst hq
  have HA : Hid (a = 1 ∨ a = 2) := Lib.hid (by
    have h3 := (right_in h).2.2
    unfold tripB at h3
    rw [show argOf 2 = clWs from rfl, arg2] at h3
    simp only [Bool.and_eq_true, decide_eq_true_eq] at h3
    omega)
  have HR := Lib.hid (right_ref t 2 o a)
  have HB := Lib.hid h
  obtain ⟨t0, t1, h3⟩ := right_in h
  have HTX := Lib.hid (parts_text (t := t) h3)
  have hob := (Only.refl Nil w).alloc (.cells #[.int .i64 t, .int .i64 2, .int .i64 o, .int .i64 a] 23)
  have HOB := Lib.hid hob
  have HR0 := Lib.hid (Row.new w 23 #[.int .i64 t, .int .i64 2, .int .i64 o, .int .i64 a])
  have HW := Lib.hid (fun W => what_ref 2 W)
  have HV := Lib.hid (fun W => op_ref o W)
  have HT : Hid (∀ W, Calls Tryd.prog 32 #[.int .i64 t] W fun e w' => e = .returned (.string (bs (decL t))) ∧ Only Nil W w') := Lib.hid (fun W => by
    obtain ⟨i, rfl⟩ : ∃ i : Nat, t = i := ⟨t.toNat, by omega⟩
    exact text_small i W (by omega))
  have sd : (bs (decL t)).size ≤ 4 := by rw [bs_size]; exact dec_len (by omega) (by omega)
  have sw : (bs (wordI whWs 2)).size ≤ 9 := by rw [bs_size]; exact word_size _ _ _ (by decide)
  have so : (bs (wordI opWs o)).size ≤ 9 := by rw [bs_size]; exact word_size _ _ _ (by decide)
  clear h hob h3
  generalize hd : bs (decL t) = D at *
  generalize hx : bs (wordI whWs 2) = X at *
  generalize hy : bs (wordI opWs o) = Y at *
  have HD := Lib.hid hd
  have HX := Lib.hid hx
  have HY := Lib.hid hy
  clear hd hx hy
  go_enter Tryd.func10, Tryd.ntmps10
  go_wp2_with fail
  generalize w.alloc (.cells #[.int .i64 t, .int .i64 2, .int .i64 o, .int .i64 a] 23) = wb at *
  generalize w.heap.size = g at *
  refine (HR.out _).mono ?_
  rw [HB.out]
  rintro e w1 ⟨rfl, hO⟩
  have HO1 := Lib.hid hO
  clear hO
  go_wp2_with fail
  have hb0 : w1.cell? ⟨g, 0, none⟩ = some (.int .i64 t) := (HR0.out.only HO1.out id).cell_ (i := 0) rfl
  have hb1 : w1.cell? ⟨g, 1, none⟩ = some (.int .i64 2) := (HR0.out.only HO1.out id).cell_ (i := 1) rfl
  have s1 : ¬ 9223372036854775807 < D.size + 1 := by omega
  have s2 : ¬ 9223372036854775807 < D.size + 1 + X.size := by omega
  go_region_held3 (fun w' => w'.cell? ⟨g, 0, none⟩ = some (.int .i64 t) ∧ w'.cell? ⟨g, 1, none⟩ = some (.int .i64 2) ∧ Only Nil w1 w')
    (first
      | exact ⟨hb0, hb1, (Only.refl _ _).drew⟩
      | (go_keep; done)
      | (go_split_ands
         refine ⟨?_, ?_, ?_⟩
         · rw [hO.cell (World.block_lt_of_cell? _ _ (by assumption)) id]; assumption
         · rw [hO.cell (World.block_lt_of_cell? _ _ (by assumption)) id]; assumption
         · exact Only.trans (by assumption) hO))
    ((first
      | (go_at_call 31; refine (HW.out _).mono ?_; rintro e w' ⟨rfl, hO⟩)
      | (go_at_call 32; refine (HT.out _).mono ?_; rintro e w' ⟨rfl, hO⟩)))
  rename_i hH
  have HO2 := Lib.hid (HOB.out.trans (HO1.out.trans hH.2.2))
  have HR2 := Lib.hid (HR0.out.only (HO1.out.trans hH.2.2) id)
  have HS : Hid (D ++ ⟨#[32]⟩ ++ X = bs (decL t ++ [32] ++ wordI whWs 2)) := Lib.hid (by rw [← HD.out, ← HX.out, show (⟨#[32]⟩ : ByteArray) = bs [32] from rfl, bs_app, bs_app])
  have ss : (D ++ ⟨#[32]⟩ ++ X).size ≤ 20 := by
    have h1 : (D ++ ⟨#[32]⟩ ++ X).size = D.size + 1 + X.size := by rw [ByteArray.size_append, ByteArray.size_append]; rfl
    omega
  clear hH hO hb0 hb1 s1 s2 sw sd
  have c0 : w'.cell? ⟨g, 0, none⟩ = some (.int .i64 t) := HR2.out.cell_ (i := 0) rfl
  have c1 : w'.cell? ⟨g, 1, none⟩ = some (.int .i64 2) := HR2.out.cell_ (i := 1) rfl
  have c2 : w'.cell? ⟨g, 2, none⟩ = some (.int .i64 o) := HR2.out.cell_ (i := 2) rfl
  have c3 : w'.cell? ⟨g, 3, none⟩ = some (.int .i64 a) := HR2.out.cell_ (i := 3) rfl
  generalize D ++ ⟨#[32]⟩ ++ X = S at *
  have HE : Hid (S ++ bs (sp (wordI clWs a)) = bs (glue (partsN t 2 o a))) := Lib.hid (by
    rw [HTX.out, HS.out, show opOf 2 = [] from rfl, show argOf 2 = clWs from rfl, word_nil, bs_app, show sp [] = [] from rfl]
    simp only [List.append_assoc, List.nil_append])
  have c4 := fun ob => (HR2.out.alloc ob).cell_ (i := 3) rfl
  have c5 := fun ob => (HR2.out.alloc ob).cell_ (i := 1) rfl
  rcases HA.out with rfl | rfl
  all_goals
    go_wp2
    go_ret
    exact ⟨by rw [← HE.out]; rfl, HO2.out.alloc _⟩
set_option maxHeartbeats 1000000 in
set_option maxRecDepth 100000 in
theorem refText_o (t q o a : Int) (w : World) (h : rightN t q o a = true) (q1 : ¬ q = 1) (q2 : ¬ q = 2) (q11 : ¬ q = 11) : Calls Tryd.prog 10 #[.agg #[.int .i64 t, .int .i64 q, .int .i64 o, .int .i64 a]] w fun e w' => e = .returned (.string (bs (glue (partsN t q o a)))) ∧ Only Nil w w' := by
  have HOP := Lib.hid (show opOf q = [] by unfold opOf; rw [if_neg (by omega)])
  have HAR := Lib.hid (show argOf q = [] by unfold argOf; rw [if_neg q2, if_neg q11])
  have b1 : (q == 1) = false := by simpa using q1
  have b2 : (q == 2) = false := by simpa using q2
  have b11 : (q == 11) = false := by simpa using q11
  have HR := Lib.hid (right_ref t q o a)
  have HB := Lib.hid h
  obtain ⟨t0, t1, h3⟩ := right_in h
  have HTX := Lib.hid (parts_text (t := t) h3)
  have hob := (Only.refl Nil w).alloc (.cells #[.int .i64 t, .int .i64 q, .int .i64 o, .int .i64 a] 23)
  have HOB := Lib.hid hob
  have HR0 := Lib.hid (Row.new w 23 #[.int .i64 t, .int .i64 q, .int .i64 o, .int .i64 a])
  have HW := Lib.hid (fun W => what_ref q W)
  have HV := Lib.hid (fun W => op_ref o W)
  have HT : Hid (∀ W, Calls Tryd.prog 32 #[.int .i64 t] W fun e w' => e = .returned (.string (bs (decL t))) ∧ Only Nil W w') := Lib.hid (fun W => by
    obtain ⟨i, rfl⟩ : ∃ i : Nat, t = i := ⟨t.toNat, by omega⟩
    exact text_small i W (by omega))
  have sd : (bs (decL t)).size ≤ 4 := by rw [bs_size]; exact dec_len (by omega) (by omega)
  have sw : (bs (wordI whWs q)).size ≤ 9 := by rw [bs_size]; exact word_size _ _ _ (by decide)
  have so : (bs (wordI opWs o)).size ≤ 9 := by rw [bs_size]; exact word_size _ _ _ (by decide)
  clear h hob h3
  generalize hd : bs (decL t) = D at *
  generalize hx : bs (wordI whWs q) = X at *
  generalize hy : bs (wordI opWs o) = Y at *
  have HD := Lib.hid hd
  have HX := Lib.hid hx
  have HY := Lib.hid hy
  clear hd hx hy
  go_enter Tryd.func10, Tryd.ntmps10
  go_wp2_with fail
  generalize w.alloc (.cells #[.int .i64 t, .int .i64 q, .int .i64 o, .int .i64 a] 23) = wb at *
  generalize w.heap.size = g at *
  refine (HR.out _).mono ?_
  rw [HB.out]
  rintro e w1 ⟨rfl, hO⟩
  have HO1 := Lib.hid hO
  clear hO
  go_wp2_with fail
  have hb0 : w1.cell? ⟨g, 0, none⟩ = some (.int .i64 t) := (HR0.out.only HO1.out id).cell_ (i := 0) rfl
  have hb1 : w1.cell? ⟨g, 1, none⟩ = some (.int .i64 q) := (HR0.out.only HO1.out id).cell_ (i := 1) rfl
  have s1 : ¬ 9223372036854775807 < D.size + 1 := by omega
  have s2 : ¬ 9223372036854775807 < D.size + 1 + X.size := by omega
  go_region_held3 (fun w' => w'.cell? ⟨g, 0, none⟩ = some (.int .i64 t) ∧ w'.cell? ⟨g, 1, none⟩ = some (.int .i64 q) ∧ Only Nil w1 w')
    (first
      | exact ⟨hb0, hb1, (Only.refl _ _).drew⟩
      | (go_keep; done)
      | (go_split_ands
         refine ⟨?_, ?_, ?_⟩
         · rw [hO.cell (World.block_lt_of_cell? _ _ (by assumption)) id]; assumption
         · rw [hO.cell (World.block_lt_of_cell? _ _ (by assumption)) id]; assumption
         · exact Only.trans (by assumption) hO))
    ((first
      | (go_at_call 31; refine (HW.out _).mono ?_; rintro e w' ⟨rfl, hO⟩)
      | (go_at_call 32; refine (HT.out _).mono ?_; rintro e w' ⟨rfl, hO⟩)))
  rename_i hH
  have HO2 := Lib.hid (HOB.out.trans (HO1.out.trans hH.2.2))
  have HR2 := Lib.hid (HR0.out.only (HO1.out.trans hH.2.2) id)
  have HS : Hid (D ++ ⟨#[32]⟩ ++ X = bs (decL t ++ [32] ++ wordI whWs q)) := Lib.hid (by rw [← HD.out, ← HX.out, show (⟨#[32]⟩ : ByteArray) = bs [32] from rfl, bs_app, bs_app])
  have ss : (D ++ ⟨#[32]⟩ ++ X).size ≤ 20 := by
    have h1 : (D ++ ⟨#[32]⟩ ++ X).size = D.size + 1 + X.size := by rw [ByteArray.size_append, ByteArray.size_append]; rfl
    omega
  clear hH hO hb0 hb1 s1 s2 sw sd
  have c0 : w'.cell? ⟨g, 0, none⟩ = some (.int .i64 t) := HR2.out.cell_ (i := 0) rfl
  have c1 : w'.cell? ⟨g, 1, none⟩ = some (.int .i64 q) := HR2.out.cell_ (i := 1) rfl
  have c2 : w'.cell? ⟨g, 2, none⟩ = some (.int .i64 o) := HR2.out.cell_ (i := 2) rfl
  have c3 : w'.cell? ⟨g, 3, none⟩ = some (.int .i64 a) := HR2.out.cell_ (i := 3) rfl
  generalize D ++ ⟨#[32]⟩ ++ X = S at *
  have HE : Hid (S = bs (glue (partsN t q o a))) := Lib.hid (by
    rw [HTX.out, HS.out, HOP.out, HAR.out, word_nil, word_nil, show sp [] = [] from rfl, List.append_nil, List.append_nil])
  go_wp2
  go_ret
  exact ⟨by rw [← HE.out]; rfl, HO2.out⟩
theorem refText_any (t q o a : Int) (w : World) : Calls Tryd.prog 10 #[.agg #[.int .i64 t, .int .i64 q, .int .i64 o, .int .i64 a]] w fun e w' => e = .returned (.string (txB t q o a)) ∧ Only Nil w w' := by
  cases h : rightN t q o a with
  | false => rw [txB_no h]; exact refText_no t q o a w h
  | true =>
    rw [txB_yes h]
    by_cases q1 : q = 1
    · exact refText_1 t q o a w h q1
    · by_cases q2 : q = 2
      · exact refText_2 t q o a w h q2
      · by_cases q11 : q = 11
        · exact refText_11 t q o a w h q11
        · exact refText_o t q o a w h q1 q2 q11
end Go.Proofs.YtakbbabmbhencaaDoor
