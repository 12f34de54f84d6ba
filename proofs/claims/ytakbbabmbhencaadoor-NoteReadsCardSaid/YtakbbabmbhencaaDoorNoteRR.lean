/- Whether a note is right: the answer's. (Written by gen/NoteRefRight.py.) -/
import Derived.Test.YtakbbabmbhencaaDoorNoteN
namespace Go.Proofs.YtakbbabmbhencaaDoor
open Go.RowKit
set_option linter.unusedVariables false
set_option linter.unusedSimpArgs false

theorem rr_lo (t q o a : Int) (w : World) (h0 : t < 0) : Calls Tryd.prog 9 #[.agg #[.int .i64 t, .int .i64 q, .int .i64 o, .int .i64 a]] w fun e w' => e = .returned (.bool false) ∧ Only Nil w w' := by
  have HR := Lib.hid (Row.new w 23 #[.int .i64 t, .int .i64 q, .int .i64 o, .int .i64 a])
  have HO := Lib.hid ((Only.refl Nil w).alloc (.cells #[.int .i64 t, .int .i64 q, .int .i64 o, .int .i64 a] 23))
  go_enter Tryd.func9, Tryd.ntmps9
  go_wp2_with fail
  go_ret
  exact ⟨rfl, HO.out⟩
theorem rr_hi (t q o a : Int) (w : World) (h0 : ¬ t < 0) (h1 : 63 < t) : Calls Tryd.prog 9 #[.agg #[.int .i64 t, .int .i64 q, .int .i64 o, .int .i64 a]] w fun e w' => e = .returned (.bool false) ∧ Only Nil w w' := by
  have HR := Lib.hid (Row.new w 23 #[.int .i64 t, .int .i64 q, .int .i64 o, .int .i64 a])
  have HO := Lib.hid ((Only.refl Nil w).alloc (.cells #[.int .i64 t, .int .i64 q, .int .i64 o, .int .i64 a] 23))
  go_enter Tryd.func9, Tryd.ntmps9
  go_wp2_with fail
  go_ret
  exact ⟨rfl, HO.out⟩
theorem rr_w (t q o a : Int) (w : World) (h0 : ¬ t < 0) (h1 : ¬ 63 < t) (h2 : wordI whWs q = []) : Calls Tryd.prog 9 #[.agg #[.int .i64 t, .int .i64 q, .int .i64 o, .int .i64 a]] w fun e w' => e = .returned (.bool false) ∧ Only Nil w w' := by
  have HW := Lib.hid (fun W => what_ref q W)
  rw [h2, show bs [] = ⟨#[]⟩ from rfl] at HW
  clear h2
  have HR := Lib.hid (Row.new w 23 #[.int .i64 t, .int .i64 q, .int .i64 o, .int .i64 a])
  have HO := Lib.hid ((Only.refl Nil w).alloc (.cells #[.int .i64 t, .int .i64 q, .int .i64 o, .int .i64 a] 23))
  go_enter Tryd.func9, Tryd.ntmps9
  go_wp2_with fail
  generalize w.alloc (.cells #[.int .i64 t, .int .i64 q, .int .i64 o, .int .i64 a] 23) = w0 at *
  generalize w.heap.size = g at *
  refine (HW.out _).mono ?_
  rintro e w1 ⟨rfl, hO⟩
  have HO1 := Lib.hid (HO.out.trans hO)
  have HR1 := Lib.hid (HR.out.only hO id)
  clear hO
  have c0 : w1.cell? ⟨g, 0, none⟩ = some (.int .i64 t) := HR1.out.cell_ (i := 0) rfl
  have c1 : w1.cell? ⟨g, 1, none⟩ = some (.int .i64 q) := HR1.out.cell_ (i := 1) rfl
  have c2 : w1.cell? ⟨g, 2, none⟩ = some (.int .i64 o) := HR1.out.cell_ (i := 2) rfl
  have c3 : w1.cell? ⟨g, 3, none⟩ = some (.int .i64 a) := HR1.out.cell_ (i := 3) rfl
  go_wp2
  go_ret
  exact ⟨rfl, HO1.out⟩
theorem rr_o1 (t q o a : Int) (w : World) (h0 : ¬ t < 0) (h1 : ¬ 63 < t) (h2 : wordI whWs q ≠ []) (hq : q = 1) (h3 : wordI opWs o = []) : Calls Tryd.prog 9 #[.agg #[.int .i64 t, .int .i64 q, .int .i64 o, .int .i64 a]] w fun e w' => e = .returned (.bool false) ∧ Only Nil w w' := by
  have HW := Lib.hid (fun W => what_ref q W)
  obtain ⟨hx1, hx2⟩ := bs_some h2
  clear h2
  generalize bs (wordI whWs q) = X at *
  have HV := Lib.hid (fun W => op_ref o W)
  rw [h3, show bs [] = ⟨#[]⟩ from rfl] at HV
  clear h3
  subst hq
  have HR := Lib.hid (Row.new w 23 #[.int .i64 t, .int .i64 1, .int .i64 o, .int .i64 a])
  have HO := Lib.hid ((Only.refl Nil w).alloc (.cells #[.int .i64 t, .int .i64 1, .int .i64 o, .int .i64 a] 23))
  go_enter Tryd.func9, Tryd.ntmps9
  go_wp2_with fail
  generalize w.alloc (.cells #[.int .i64 t, .int .i64 1, .int .i64 o, .int .i64 a] 23) = w0 at *
  generalize w.heap.size = g at *
  refine (HW.out _).mono ?_
  rintro e w1 ⟨rfl, hO⟩
  have HO1 := Lib.hid (HO.out.trans hO)
  have HR1 := Lib.hid (HR.out.only hO id)
  clear hO
  have c0 : w1.cell? ⟨g, 0, none⟩ = some (.int .i64 t) := HR1.out.cell_ (i := 0) rfl
  have c1 : w1.cell? ⟨g, 1, none⟩ = some (.int .i64 1) := HR1.out.cell_ (i := 1) rfl
  have c2 : w1.cell? ⟨g, 2, none⟩ = some (.int .i64 o) := HR1.out.cell_ (i := 2) rfl
  have c3 : w1.cell? ⟨g, 3, none⟩ = some (.int .i64 a) := HR1.out.cell_ (i := 3) rfl
  go_wp2_with fail
  clear c0 c1 c2 c3
  refine (HV.out _).mono ?_
  rintro e w2 ⟨rfl, hO⟩
  have HO2 := Lib.hid (HO1.out.trans hO)
  have HR2 := Lib.hid (HR1.out.only hO id)
  clear hO
  have c0 : w2.cell? ⟨g, 0, none⟩ = some (.int .i64 t) := HR2.out.cell_ (i := 0) rfl
  have c1 : w2.cell? ⟨g, 1, none⟩ = some (.int .i64 1) := HR2.out.cell_ (i := 1) rfl
  have c2 : w2.cell? ⟨g, 2, none⟩ = some (.int .i64 o) := HR2.out.cell_ (i := 2) rfl
  have c3 : w2.cell? ⟨g, 3, none⟩ = some (.int .i64 a) := HR2.out.cell_ (i := 3) rfl
  go_wp2
  go_ret
  exact ⟨rfl, HO2.out⟩
theorem rr_o11 (t q o a : Int) (w : World) (h0 : ¬ t < 0) (h1 : ¬ 63 < t) (h2 : wordI whWs q ≠ []) (hq : q = 11) (h3 : wordI opWs o = []) : Calls Tryd.prog 9 #[.agg #[.int .i64 t, .int .i64 q, .int .i64 o, .int .i64 a]] w fun e w' => e = .returned (.bool false) ∧ Only Nil w w' := by
  have HW := Lib.hid (fun W => what_ref q W)
  obtain ⟨hx1, hx2⟩ := bs_some h2
  clear h2
  generalize bs (wordI whWs q) = X at *
  have HV := Lib.hid (fun W => op_ref o W)
  rw [h3, show bs [] = ⟨#[]⟩ from rfl] at HV
  clear h3
  subst hq
  have HR := Lib.hid (Row.new w 23 #[.int .i64 t, .int .i64 11, .int .i64 o, .int .i64 a])
  have HO := Lib.hid ((Only.refl Nil w).alloc (.cells #[.int .i64 t, .int .i64 11, .int .i64 o, .int .i64 a] 23))
  go_enter Tryd.func9, Tryd.ntmps9
  go_wp2_with fail
  generalize w.alloc (.cells #[.int .i64 t, .int .i64 11, .int .i64 o, .int .i64 a] 23) = w0 at *
  generalize w.heap.size = g at *
  refine (HW.out _).mono ?_
  rintro e w1 ⟨rfl, hO⟩
  have HO1 := Lib.hid (HO.out.trans hO)
  have HR1 := Lib.hid (HR.out.only hO id)
  clear hO
  have c0 : w1.cell? ⟨g, 0, none⟩ = some (.int .i64 t) := HR1.out.cell_ (i := 0) rfl
  have c1 : w1.cell? ⟨g, 1, none⟩ = some (.int .i64 11) := HR1.out.cell_ (i := 1) rfl
  have c2 : w1.cell? ⟨g, 2, none⟩ = some (.int .i64 o) := HR1.out.cell_ (i := 2) rfl
  have c3 : w1.cell? ⟨g, 3, none⟩ = some (.int .i64 a) := HR1.out.cell_ (i := 3) rfl
  go_wp2_with fail
  clear c0 c1 c2 c3
  refine (HV.out _).mono ?_
  rintro e w2 ⟨rfl, hO⟩
  have HO2 := Lib.hid (HO1.out.trans hO)
  have HR2 := Lib.hid (HR1.out.only hO id)
  clear hO
  have c0 : w2.cell? ⟨g, 0, none⟩ = some (.int .i64 t) := HR2.out.cell_ (i := 0) rfl
  have c1 : w2.cell? ⟨g, 1, none⟩ = some (.int .i64 11) := HR2.out.cell_ (i := 1) rfl
  have c2 : w2.cell? ⟨g, 2, none⟩ = some (.int .i64 o) := HR2.out.cell_ (i := 2) rfl
  have c3 : w2.cell? ⟨g, 3, none⟩ = some (.int .i64 a) := HR2.out.cell_ (i := 3) rfl
  go_wp2
  go_ret
  exact ⟨rfl, HO2.out⟩
theorem rr_1y (t q o a : Int) (w : World) (h0 : ¬ t < 0) (h1 : ¬ 63 < t) (h2 : wordI whWs q ≠ []) (hq : q = 1) (h3 : wordI opWs o ≠ []) (a0 : a = 0) : Calls Tryd.prog 9 #[.agg #[.int .i64 t, .int .i64 q, .int .i64 o, .int .i64 a]] w fun e w' => e = .returned (.bool true) ∧ Only Nil w w' := by
  have HW := Lib.hid (fun W => what_ref q W)
  obtain ⟨hx1, hx2⟩ := bs_some h2
  clear h2
  generalize bs (wordI whWs q) = X at *
  have HV := Lib.hid (fun W => op_ref o W)
  obtain ⟨hy1, hy2⟩ := bs_some h3
  clear h3
  generalize bs (wordI opWs o) = Y at *
  subst hq a0
  have HR := Lib.hid (Row.new w 23 #[.int .i64 t, .int .i64 1, .int .i64 o, .int .i64 0])
  have HO := Lib.hid ((Only.refl Nil w).alloc (.cells #[.int .i64 t, .int .i64 1, .int .i64 o, .int .i64 0] 23))
  go_enter Tryd.func9, Tryd.ntmps9
  go_wp2_with fail
  generalize w.alloc (.cells #[.int .i64 t, .int .i64 1, .int .i64 o, .int .i64 0] 23) = w0 at *
  generalize w.heap.size = g at *
  refine (HW.out _).mono ?_
  rintro e w1 ⟨rfl, hO⟩
  have HO1 := Lib.hid (HO.out.trans hO)
  have HR1 := Lib.hid (HR.out.only hO id)
  clear hO
  have c0 : w1.cell? ⟨g, 0, none⟩ = some (.int .i64 t) := HR1.out.cell_ (i := 0) rfl
  have c1 : w1.cell? ⟨g, 1, none⟩ = some (.int .i64 1) := HR1.out.cell_ (i := 1) rfl
  have c2 : w1.cell? ⟨g, 2, none⟩ = some (.int .i64 o) := HR1.out.cell_ (i := 2) rfl
  have c3 : w1.cell? ⟨g, 3, none⟩ = some (.int .i64 0) := HR1.out.cell_ (i := 3) rfl
  go_wp2_with fail
  clear c0 c1 c2 c3
  refine (HV.out _).mono ?_
  rintro e w2 ⟨rfl, hO⟩
  have HO2 := Lib.hid (HO1.out.trans hO)
  have HR2 := Lib.hid (HR1.out.only hO id)
  clear hO
  have c0 : w2.cell? ⟨g, 0, none⟩ = some (.int .i64 t) := HR2.out.cell_ (i := 0) rfl
  have c1 : w2.cell? ⟨g, 1, none⟩ = some (.int .i64 1) := HR2.out.cell_ (i := 1) rfl
  have c2 : w2.cell? ⟨g, 2, none⟩ = some (.int .i64 o) := HR2.out.cell_ (i := 2) rfl
  have c3 : w2.cell? ⟨g, 3, none⟩ = some (.int .i64 0) := HR2.out.cell_ (i := 3) rfl
  go_wp2
  go_ret
  exact ⟨rfl, HO2.out⟩
theorem rr_1n (t q o a : Int) (w : World) (h0 : ¬ t < 0) (h1 : ¬ 63 < t) (h2 : wordI whWs q ≠ []) (hq : q = 1) (h3 : wordI opWs o ≠ []) (a0 : ¬ a = 0) : Calls Tryd.prog 9 #[.agg #[.int .i64 t, .int .i64 q, .int .i64 o, .int .i64 a]] w fun e w' => e = .returned (.bool false) ∧ Only Nil w w' := by
  have HW := Lib.hid (fun W => what_ref q W)
  obtain ⟨hx1, hx2⟩ := bs_some h2
  clear h2
  generalize bs (wordI whWs q) = X at *
  have HV := Lib.hid (fun W => op_ref o W)
  obtain ⟨hy1, hy2⟩ := bs_some h3
  clear h3
  generalize bs (wordI opWs o) = Y at *
  have ba : (a == 0) = false := by simpa using a0
  subst hq
  have HR := Lib.hid (Row.new w 23 #[.int .i64 t, .int .i64 1, .int .i64 o, .int .i64 a])
  have HO := Lib.hid ((Only.refl Nil w).alloc (.cells #[.int .i64 t, .int .i64 1, .int .i64 o, .int .i64 a] 23))
  go_enter Tryd.func9, Tryd.ntmps9
  go_wp2_with fail
  generalize w.alloc (.cells #[.int .i64 t, .int .i64 1, .int .i64 o, .int .i64 a] 23) = w0 at *
  generalize w.heap.size = g at *
  refine (HW.out _).mono ?_
  rintro e w1 ⟨rfl, hO⟩
  have HO1 := Lib.hid (HO.out.trans hO)
  have HR1 := Lib.hid (HR.out.only hO id)
  clear hO
  have c0 : w1.cell? ⟨g, 0, none⟩ = some (.int .i64 t) := HR1.out.cell_ (i := 0) rfl
  have c1 : w1.cell? ⟨g, 1, none⟩ = some (.int .i64 1) := HR1.out.cell_ (i := 1) rfl
  have c2 : w1.cell? ⟨g, 2, none⟩ = some (.int .i64 o) := HR1.out.cell_ (i := 2) rfl
  have c3 : w1.cell? ⟨g, 3, none⟩ = some (.int .i64 a) := HR1.out.cell_ (i := 3) rfl
  go_wp2_with fail
  clear c0 c1 c2 c3
  refine (HV.out _).mono ?_
  rintro e w2 ⟨rfl, hO⟩
  have HO2 := Lib.hid (HO1.out.trans hO)
  have HR2 := Lib.hid (HR1.out.only hO id)
  clear hO
  have c0 : w2.cell? ⟨g, 0, none⟩ = some (.int .i64 t) := HR2.out.cell_ (i := 0) rfl
  have c1 : w2.cell? ⟨g, 1, none⟩ = some (.int .i64 1) := HR2.out.cell_ (i := 1) rfl
  have c2 : w2.cell? ⟨g, 2, none⟩ = some (.int .i64 o) := HR2.out.cell_ (i := 2) rfl
  have c3 : w2.cell? ⟨g, 3, none⟩ = some (.int .i64 a) := HR2.out.cell_ (i := 3) rfl
  go_wp2
  go_ret
  exact ⟨rfl, HO2.out⟩
theorem rr_11y (t q o a : Int) (w : World) (h0 : ¬ t < 0) (h1 : ¬ 63 < t) (h2 : wordI whWs q ≠ []) (hq : q = 11) (h3 : wordI opWs o ≠ []) (a1 : 1 ≤ a) (a3 : a ≤ 3) : Calls Tryd.prog 9 #[.agg #[.int .i64 t, .int .i64 q, .int .i64 o, .int .i64 a]] w fun e w' => e = .returned (.bool true) ∧ Only Nil w w' := by
  have HW := Lib.hid (fun W => what_ref q W)
  obtain ⟨hx1, hx2⟩ := bs_some h2
  clear h2
  generalize bs (wordI whWs q) = X at *
  have HV := Lib.hid (fun W => op_ref o W)
  obtain ⟨hy1, hy2⟩ := bs_some h3
  clear h3
  generalize bs (wordI opWs o) = Y at *
  subst hq
  have HR := Lib.hid (Row.new w 23 #[.int .i64 t, .int .i64 11, .int .i64 o, .int .i64 a])
  have HO := Lib.hid ((Only.refl Nil w).alloc (.cells #[.int .i64 t, .int .i64 11, .int .i64 o, .int .i64 a] 23))
  go_enter Tryd.func9, Tryd.ntmps9
  go_wp2_with fail
  generalize w.alloc (.cells #[.int .i64 t, .int .i64 11, .int .i64 o, .int .i64 a] 23) = w0 at *
  generalize w.heap.size = g at *
  refine (HW.out _).mono ?_
  rintro e w1 ⟨rfl, hO⟩
  have HO1 := Lib.hid (HO.out.trans hO)
  have HR1 := Lib.hid (HR.out.only hO id)
  clear hO
  have c0 : w1.cell? ⟨g, 0, none⟩ = some (.int .i64 t) := HR1.out.cell_ (i := 0) rfl
  have c1 : w1.cell? ⟨g, 1, none⟩ = some (.int .i64 11) := HR1.out.cell_ (i := 1) rfl
  have c2 : w1.cell? ⟨g, 2, none⟩ = some (.int .i64 o) := HR1.out.cell_ (i := 2) rfl
  have c3 : w1.cell? ⟨g, 3, none⟩ = some (.int .i64 a) := HR1.out.cell_ (i := 3) rfl
  go_wp2_with fail
  clear c0 c1 c2 c3
  refine (HV.out _).mono ?_
  rintro e w2 ⟨rfl, hO⟩
  have HO2 := Lib.hid (HO1.out.trans hO)
  have HR2 := Lib.hid (HR1.out.only hO id)
  clear hO
  have c0 : w2.cell? ⟨g, 0, none⟩ = some (.int .i64 t) := HR2.out.cell_ (i := 0) rfl
  have c1 : w2.cell? ⟨g, 1, none⟩ = some (.int .i64 11) := HR2.out.cell_ (i := 1) rfl
  have c2 : w2.cell? ⟨g, 2, none⟩ = some (.int .i64 o) := HR2.out.cell_ (i := 2) rfl
  have c3 : w2.cell? ⟨g, 3, none⟩ = some (.int .i64 a) := HR2.out.cell_ (i := 3) rfl
  go_wp2
  go_ret
  exact ⟨rfl, HO2.out⟩
theorem rr_11l (t q o a : Int) (w : World) (h0 : ¬ t < 0) (h1 : ¬ 63 < t) (h2 : wordI whWs q ≠ []) (hq : q = 11) (h3 : wordI opWs o ≠ []) (a1 : ¬ 1 ≤ a) : Calls Tryd.prog 9 #[.agg #[.int .i64 t, .int .i64 q, .int .i64 o, .int .i64 a]] w fun e w' => e = .returned (.bool false) ∧ Only Nil w w' := by
  have HW := Lib.hid (fun W => what_ref q W)
  obtain ⟨hx1, hx2⟩ := bs_some h2
  clear h2
  generalize bs (wordI whWs q) = X at *
  have HV := Lib.hid (fun W => op_ref o W)
  obtain ⟨hy1, hy2⟩ := bs_some h3
  clear h3
  generalize bs (wordI opWs o) = Y at *
  subst hq
  have HR := Lib.hid (Row.new w 23 #[.int .i64 t, .int .i64 11, .int .i64 o, .int .i64 a])
  have HO := Lib.hid ((Only.refl Nil w).alloc (.cells #[.int .i64 t, .int .i64 11, .int .i64 o, .int .i64 a] 23))
  go_enter Tryd.func9, Tryd.ntmps9
  go_wp2_with fail
  generalize w.alloc (.cells #[.int .i64 t, .int .i64 11, .int .i64 o, .int .i64 a] 23) = w0 at *
  generalize w.heap.size = g at *
  refine (HW.out _).mono ?_
  rintro e w1 ⟨rfl, hO⟩
  have HO1 := Lib.hid (HO.out.trans hO)
  have HR1 := Lib.hid (HR.out.only hO id)
  clear hO
  have c0 : w1.cell? ⟨g, 0, none⟩ = some (.int .i64 t) := HR1.out.cell_ (i := 0) rfl
  have c1 : w1.cell? ⟨g, 1, none⟩ = some (.int .i64 11) := HR1.out.cell_ (i := 1) rfl
  have c2 : w1.cell? ⟨g, 2, none⟩ = some (.int .i64 o) := HR1.out.cell_ (i := 2) rfl
  have c3 : w1.cell? ⟨g, 3, none⟩ = some (.int .i64 a) := HR1.out.cell_ (i := 3) rfl
  go_wp2_with fail
  clear c0 c1 c2 c3
  refine (HV.out _).mono ?_
  rintro e w2 ⟨rfl, hO⟩
  have HO2 := Lib.hid (HO1.out.trans hO)
  have HR2 := Lib.hid (HR1.out.only hO id)
  clear hO
  have c0 : w2.cell? ⟨g, 0, none⟩ = some (.int .i64 t) := HR2.out.cell_ (i := 0) rfl
  have c1 : w2.cell? ⟨g, 1, none⟩ = some (.int .i64 11) := HR2.out.cell_ (i := 1) rfl
  have c2 : w2.cell? ⟨g, 2, none⟩ = some (.int .i64 o) := HR2.out.cell_ (i := 2) rfl
  have c3 : w2.cell? ⟨g, 3, none⟩ = some (.int .i64 a) := HR2.out.cell_ (i := 3) rfl
  go_wp2
  go_ret
  exact ⟨rfl, HO2.out⟩
theorem rr_11h (t q o a : Int) (w : World) (h0 : ¬ t < 0) (h1 : ¬ 63 < t) (h2 : wordI whWs q ≠ []) (hq : q = 11) (h3 : wordI opWs o ≠ []) (a1 : 1 ≤ a) (a3 : ¬ a ≤ 3) : Calls Tryd.prog 9 #[.agg #[.int .i64 t, .int .i64 q, .int .i64 o, .int .i64 a]] w fun e w' => e = .returned (.bool false) ∧ Only Nil w w' := by
  have HW := Lib.hid (fun W => what_ref q W)
  obtain ⟨hx1, hx2⟩ := bs_some h2
  clear h2
  generalize bs (wordI whWs q) = X at *
  have HV := Lib.hid (fun W => op_ref o W)
  obtain ⟨hy1, hy2⟩ := bs_some h3
  clear h3
  generalize bs (wordI opWs o) = Y at *
  have d3 : decide (a ≤ 3) = false := decide_eq_false a3
  subst hq
  have HR := Lib.hid (Row.new w 23 #[.int .i64 t, .int .i64 11, .int .i64 o, .int .i64 a])
  have HO := Lib.hid ((Only.refl Nil w).alloc (.cells #[.int .i64 t, .int .i64 11, .int .i64 o, .int .i64 a] 23))
  go_enter Tryd.func9, Tryd.ntmps9
  go_wp2_with fail
  generalize w.alloc (.cells #[.int .i64 t, .int .i64 11, .int .i64 o, .int .i64 a] 23) = w0 at *
  generalize w.heap.size = g at *
  refine (HW.out _).mono ?_
  rintro e w1 ⟨rfl, hO⟩
  have HO1 := Lib.hid (HO.out.trans hO)
  have HR1 := Lib.hid (HR.out.only hO id)
  clear hO
  have c0 : w1.cell? ⟨g, 0, none⟩ = some (.int .i64 t) := HR1.out.cell_ (i := 0) rfl
  have c1 : w1.cell? ⟨g, 1, none⟩ = some (.int .i64 11) := HR1.out.cell_ (i := 1) rfl
  have c2 : w1.cell? ⟨g, 2, none⟩ = some (.int .i64 o) := HR1.out.cell_ (i := 2) rfl
  have c3 : w1.cell? ⟨g, 3, none⟩ = some (.int .i64 a) := HR1.out.cell_ (i := 3) rfl
  go_wp2_with fail
  clear c0 c1 c2 c3
  refine (HV.out _).mono ?_
  rintro e w2 ⟨rfl, hO⟩
  have HO2 := Lib.hid (HO1.out.trans hO)
  have HR2 := Lib.hid (HR1.out.only hO id)
  clear hO
  have c0 : w2.cell? ⟨g, 0, none⟩ = some (.int .i64 t) := HR2.out.cell_ (i := 0) rfl
  have c1 : w2.cell? ⟨g, 1, none⟩ = some (.int .i64 11) := HR2.out.cell_ (i := 1) rfl
  have c2 : w2.cell? ⟨g, 2, none⟩ = some (.int .i64 o) := HR2.out.cell_ (i := 2) rfl
  have c3 : w2.cell? ⟨g, 3, none⟩ = some (.int .i64 a) := HR2.out.cell_ (i := 3) rfl
  go_wp2
  go_ret
  exact ⟨rfl, HO2.out⟩
theorem rr_oz (t q o a : Int) (w : World) (h0 : ¬ t < 0) (h1 : ¬ 63 < t) (h2 : wordI whWs q ≠ []) (q1 : ¬ q = 1) (q11 : ¬ q = 11) (o0 : ¬ o = 0) : Calls Tryd.prog 9 #[.agg #[.int .i64 t, .int .i64 q, .int .i64 o, .int .i64 a]] w fun e w' => e = .returned (.bool false) ∧ Only Nil w w' := by
  have HW := Lib.hid (fun W => what_ref q W)
  obtain ⟨hx1, hx2⟩ := bs_some h2
  clear h2
  generalize bs (wordI whWs q) = X at *
  have b1 : (q == 1) = false := by simpa using q1
  have b11 : (q == 11) = false := by simpa using q11
  have bo : (o == 0) = false := by simpa using o0
  have HR := Lib.hid (Row.new w 23 #[.int .i64 t, .int .i64 q, .int .i64 o, .int .i64 a])
  have HO := Lib.hid ((Only.refl Nil w).alloc (.cells #[.int .i64 t, .int .i64 q, .int .i64 o, .int .i64 a] 23))
  go_enter Tryd.func9, Tryd.ntmps9
  go_wp2_with fail
  generalize w.alloc (.cells #[.int .i64 t, .int .i64 q, .int .i64 o, .int .i64 a] 23) = w0 at *
  generalize w.heap.size = g at *
  refine (HW.out _).mono ?_
  rintro e w1 ⟨rfl, hO⟩
  have HO1 := Lib.hid (HO.out.trans hO)
  have HR1 := Lib.hid (HR.out.only hO id)
  clear hO
  have c0 : w1.cell? ⟨g, 0, none⟩ = some (.int .i64 t) := HR1.out.cell_ (i := 0) rfl
  have c1 : w1.cell? ⟨g, 1, none⟩ = some (.int .i64 q) := HR1.out.cell_ (i := 1) rfl
  have c2 : w1.cell? ⟨g, 2, none⟩ = some (.int .i64 o) := HR1.out.cell_ (i := 2) rfl
  have c3 : w1.cell? ⟨g, 3, none⟩ = some (.int .i64 a) := HR1.out.cell_ (i := 3) rfl
  go_wp2
  go_ret
  exact ⟨rfl, HO1.out⟩
theorem rr_2a (t q o a : Int) (w : World) (h0 : ¬ t < 0) (h1 : ¬ 63 < t) (h2 : wordI whWs q ≠ []) (hq : q = 2) (o0 : o = 0) (a1 : a = 1) : Calls Tryd.prog 9 #[.agg #[.int .i64 t, .int .i64 q, .int .i64 o, .int .i64 a]] w fun e w' => e = .returned (.bool true) ∧ Only Nil w w' := by
  have HW := Lib.hid (fun W => what_ref q W)
  obtain ⟨hx1, hx2⟩ := bs_some h2
  clear h2
  generalize bs (wordI whWs q) = X at *
  subst hq o0 a1
  have HR := Lib.hid (Row.new w 23 #[.int .i64 t, .int .i64 2, .int .i64 0, .int .i64 1])
  have HO := Lib.hid ((Only.refl Nil w).alloc (.cells #[.int .i64 t, .int .i64 2, .int .i64 0, .int .i64 1] 23))
  go_enter Tryd.func9, Tryd.ntmps9
  go_wp2_with fail
  generalize w.alloc (.cells #[.int .i64 t, .int .i64 2, .int .i64 0, .int .i64 1] 23) = w0 at *
  generalize w.heap.size = g at *
  refine (HW.out _).mono ?_
  rintro e w1 ⟨rfl, hO⟩
  have HO1 := Lib.hid (HO.out.trans hO)
  have HR1 := Lib.hid (HR.out.only hO id)
  clear hO
  have c0 : w1.cell? ⟨g, 0, none⟩ = some (.int .i64 t) := HR1.out.cell_ (i := 0) rfl
  have c1 : w1.cell? ⟨g, 1, none⟩ = some (.int .i64 2) := HR1.out.cell_ (i := 1) rfl
  have c2 : w1.cell? ⟨g, 2, none⟩ = some (.int .i64 0) := HR1.out.cell_ (i := 2) rfl
  have c3 : w1.cell? ⟨g, 3, none⟩ = some (.int .i64 1) := HR1.out.cell_ (i := 3) rfl
  go_wp2
  go_ret
  exact ⟨rfl, HO1.out⟩
theorem rr_2b (t q o a : Int) (w : World) (h0 : ¬ t < 0) (h1 : ¬ 63 < t) (h2 : wordI whWs q ≠ []) (hq : q = 2) (o0 : o = 0) (a1 : a = 2) : Calls Tryd.prog 9 #[.agg #[.int .i64 t, .int .i64 q, .int .i64 o, .int .i64 a]] w fun e w' => e = .returned (.bool true) ∧ Only Nil w w' := by
  have HW := Lib.hid (fun W => what_ref q W)
  obtain ⟨hx1, hx2⟩ := bs_some h2
  clear h2
  generalize bs (wordI whWs q) = X at *
  subst hq o0 a1
  have HR := Lib.hid (Row.new w 23 #[.int .i64 t, .int .i64 2, .int .i64 0, .int .i64 2])
  have HO := Lib.hid ((Only.refl Nil w).alloc (.cells #[.int .i64 t, .int .i64 2, .int .i64 0, .int .i64 2] 23))
  go_enter Tryd.func9, Tryd.ntmps9
  go_wp2_with fail
  generalize w.alloc (.cells #[.int .i64 t, .int .i64 2, .int .i64 0, .int .i64 2] 23) = w0 at *
  generalize w.heap.size = g at *
  refine (HW.out _).mono ?_
  rintro e w1 ⟨rfl, hO⟩
  have HO1 := Lib.hid (HO.out.trans hO)
  have HR1 := Lib.hid (HR.out.only hO id)
  clear hO
  have c0 : w1.cell? ⟨g, 0, none⟩ = some (.int .i64 t) := HR1.out.cell_ (i := 0) rfl
  have c1 : w1.cell? ⟨g, 1, none⟩ = some (.int .i64 2) := HR1.out.cell_ (i := 1) rfl
  have c2 : w1.cell? ⟨g, 2, none⟩ = some (.int .i64 0) := HR1.out.cell_ (i := 2) rfl
  have c3 : w1.cell? ⟨g, 3, none⟩ = some (.int .i64 2) := HR1.out.cell_ (i := 3) rfl
  go_wp2
  go_ret
  exact ⟨rfl, HO1.out⟩
theorem rr_2n (t q o a : Int) (w : World) (h0 : ¬ t < 0) (h1 : ¬ 63 < t) (h2 : wordI whWs q ≠ []) (hq : q = 2) (o0 : o = 0) (a1 : ¬ a = 1) (a2 : ¬ a = 2) : Calls Tryd.prog 9 #[.agg #[.int .i64 t, .int .i64 q, .int .i64 o, .int .i64 a]] w fun e w' => e = .returned (.bool false) ∧ Only Nil w w' := by
  have HW := Lib.hid (fun W => what_ref q W)
  obtain ⟨hx1, hx2⟩ := bs_some h2
  clear h2
  generalize bs (wordI whWs q) = X at *
  have e1 : (a == 1) = false := by simpa using a1
  have e2 : (a == 2) = false := by simpa using a2
  subst hq o0
  have HR := Lib.hid (Row.new w 23 #[.int .i64 t, .int .i64 2, .int .i64 0, .int .i64 a])
  have HO := Lib.hid ((Only.refl Nil w).alloc (.cells #[.int .i64 t, .int .i64 2, .int .i64 0, .int .i64 a] 23))
  go_enter Tryd.func9, Tryd.ntmps9
  go_wp2_with fail
  generalize w.alloc (.cells #[.int .i64 t, .int .i64 2, .int .i64 0, .int .i64 a] 23) = w0 at *
  generalize w.heap.size = g at *
  refine (HW.out _).mono ?_
  rintro e w1 ⟨rfl, hO⟩
  have HO1 := Lib.hid (HO.out.trans hO)
  have HR1 := Lib.hid (HR.out.only hO id)
  clear hO
  have c0 : w1.cell? ⟨g, 0, none⟩ = some (.int .i64 t) := HR1.out.cell_ (i := 0) rfl
  have c1 : w1.cell? ⟨g, 1, none⟩ = some (.int .i64 2) := HR1.out.cell_ (i := 1) rfl
  have c2 : w1.cell? ⟨g, 2, none⟩ = some (.int .i64 0) := HR1.out.cell_ (i := 2) rfl
  have c3 : w1.cell? ⟨g, 3, none⟩ = some (.int .i64 a) := HR1.out.cell_ (i := 3) rfl
  go_wp2
  go_ret
  exact ⟨rfl, HO1.out⟩
theorem rr_y (t q o a : Int) (w : World) (h0 : ¬ t < 0) (h1 : ¬ 63 < t) (h2 : wordI whWs q ≠ []) (q1 : ¬ q = 1) (q11 : ¬ q = 11) (q2 : ¬ q = 2) (o0 : o = 0) (a0 : a = 0) : Calls Tryd.prog 9 #[.agg #[.int .i64 t, .int .i64 q, .int .i64 o, .int .i64 a]] w fun e w' => e = .returned (.bool true) ∧ Only Nil w w' := by
  have HW := Lib.hid (fun W => what_ref q W)
  obtain ⟨hx1, hx2⟩ := bs_some h2
  clear h2
  generalize bs (wordI whWs q) = X at *
  have b1 : (q == 1) = false := by simpa using q1
  have b11 : (q == 11) = false := by simpa using q11
  have b2 : (q == 2) = false := by simpa using q2
  subst o0 a0
  have HR := Lib.hid (Row.new w 23 #[.int .i64 t, .int .i64 q, .int .i64 0, .int .i64 0])
  have HO := Lib.hid ((Only.refl Nil w).alloc (.cells #[.int .i64 t, .int .i64 q, .int .i64 0, .int .i64 0] 23))
  go_enter Tryd.func9, Tryd.ntmps9
  go_wp2_with fail
  generalize w.alloc (.cells #[.int .i64 t, .int .i64 q, .int .i64 0, .int .i64 0] 23) = w0 at *
  generalize w.heap.size = g at *
  refine (HW.out _).mono ?_
  rintro e w1 ⟨rfl, hO⟩
  have HO1 := Lib.hid (HO.out.trans hO)
  have HR1 := Lib.hid (HR.out.only hO id)
  clear hO
  have c0 : w1.cell? ⟨g, 0, none⟩ = some (.int .i64 t) := HR1.out.cell_ (i := 0) rfl
  have c1 : w1.cell? ⟨g, 1, none⟩ = some (.int .i64 q) := HR1.out.cell_ (i := 1) rfl
  have c2 : w1.cell? ⟨g, 2, none⟩ = some (.int .i64 0) := HR1.out.cell_ (i := 2) rfl
  have c3 : w1.cell? ⟨g, 3, none⟩ = some (.int .i64 0) := HR1.out.cell_ (i := 3) rfl
  go_wp2
  go_ret
  exact ⟨rfl, HO1.out⟩
theorem rr_n (t q o a : Int) (w : World) (h0 : ¬ t < 0) (h1 : ¬ 63 < t) (h2 : wordI whWs q ≠ []) (q1 : ¬ q = 1) (q11 : ¬ q = 11) (q2 : ¬ q = 2) (o0 : o = 0) (a0 : ¬ a = 0) : Calls Tryd.prog 9 #[.agg #[.int .i64 t, .int .i64 q, .int .i64 o, .int .i64 a]] w fun e w' => e = .returned (.bool false) ∧ Only Nil w w' := by
  have HW := Lib.hid (fun W => what_ref q W)
  obtain ⟨hx1, hx2⟩ := bs_some h2
  clear h2
  generalize bs (wordI whWs q) = X at *
  have b1 : (q == 1) = false := by simpa using q1
  have b11 : (q == 11) = false := by simpa using q11
  have b2 : (q == 2) = false := by simpa using q2
  have ba : (a == 0) = false := by simpa using a0
  subst o0
  have HR := Lib.hid (Row.new w 23 #[.int .i64 t, .int .i64 q, .int .i64 0, .int .i64 a])
  have HO := Lib.hid ((Only.refl Nil w).alloc (.cells #[.int .i64 t, .int .i64 q, .int .i64 0, .int .i64 a] 23))
  go_enter Tryd.func9, Tryd.ntmps9
  go_wp2_with fail
  generalize w.alloc (.cells #[.int .i64 t, .int .i64 q, .int .i64 0, .int .i64 a] 23) = w0 at *
  generalize w.heap.size = g at *
  refine (HW.out _).mono ?_
  rintro e w1 ⟨rfl, hO⟩
  have HO1 := Lib.hid (HO.out.trans hO)
  have HR1 := Lib.hid (HR.out.only hO id)
  clear hO
  have c0 : w1.cell? ⟨g, 0, none⟩ = some (.int .i64 t) := HR1.out.cell_ (i := 0) rfl
  have c1 : w1.cell? ⟨g, 1, none⟩ = some (.int .i64 q) := HR1.out.cell_ (i := 1) rfl
  have c2 : w1.cell? ⟨g, 2, none⟩ = some (.int .i64 0) := HR1.out.cell_ (i := 2) rfl
  have c3 : w1.cell? ⟨g, 3, none⟩ = some (.int .i64 a) := HR1.out.cell_ (i := 3) rfl
  go_wp2
  go_ret
  exact ⟨rfl, HO1.out⟩

theorem arg2 : ∀ a : Int, fitB clWs a = decide (a = 1 ∨ a = 2) := fun a => by
  by_cases h : 0 ≤ a ∧ a < 3
  · rcases (show a = 0 ∨ a = 1 ∨ a = 2 by omega) with rfl | rfl | rfl <;> decide
  · rw [decide_eq_false (by omega)]
    unfold fitB
    rw [if_neg (by decide), word_out (by show a < 0 ∨ (3 : Int) ≤ a; omega)]; rfl
theorem arg11 : ∀ a : Int, fitB rtWs a = decide (1 ≤ a ∧ a ≤ 3) := fun a => by
  by_cases h : 0 ≤ a ∧ a < 4
  · rcases (show a = 0 ∨ a = 1 ∨ a = 2 ∨ a = 3 by omega) with rfl | rfl | rfl | rfl <;> decide
  · rw [decide_eq_false (by omega)]
    unfold fitB
    rw [if_neg (by decide), word_out (by show a < 0 ∨ (4 : Int) ≤ a; omega)]; rfl
theorem fit_op (o : Int) : fitB opWs o = !decide (wordI opWs o = []) := by unfold fitB; rw [if_neg (by decide)]
theorem fit_wh (o : Int) : fitB whWs o = !decide (wordI whWs o = []) := by unfold fitB; rw [if_neg (by decide)]
theorem fit_nil (o : Int) : fitB [] o = decide (o = 0) := rfl
theorem right_ref (t q o a : Int) (w : World) : Calls Tryd.prog 9 #[.agg #[.int .i64 t, .int .i64 q, .int .i64 o, .int .i64 a]] w fun e w' => e = .returned (.bool (rightN t q o a)) ∧ Only Nil w w' := by
  unfold rightN tripB
  by_cases h0 : t < 0
  · rw [show decide (0 ≤ t) = false from decide_eq_false (by omega)]
    exact rr_lo t q o a w h0
  · rw [show decide (0 ≤ t) = true from decide_eq_true (by omega)]
    by_cases h1 : 63 < t
    · rw [show decide (t < 64) = false from decide_eq_false (by omega)]
      exact rr_hi t q o a w h0 h1
    · rw [show decide (t < 64) = true from decide_eq_true (by omega), fit_wh]
      by_cases h2 : wordI whWs q = []
      · rw [decide_eq_true h2]
        exact rr_w t q o a w h0 h1 h2
      · rw [decide_eq_false h2]
        by_cases q1 : q = 1
        · rw [show opOf q = opWs by unfold opOf; rw [if_pos (.inl q1)], show argOf q = [] by unfold argOf; rw [if_neg (by omega), if_neg (by omega)], fit_op, fit_nil]
          by_cases h3 : wordI opWs o = []
          · rw [decide_eq_true h3]
            exact rr_o1 t q o a w h0 h1 h2 q1 h3
          · rw [decide_eq_false h3]
            by_cases a0 : a = 0
            · rw [decide_eq_true a0]; exact rr_1y t q o a w h0 h1 h2 q1 h3 a0
            · rw [decide_eq_false a0]; exact rr_1n t q o a w h0 h1 h2 q1 h3 a0
        · by_cases q11 : q = 11
          · rw [show opOf q = opWs by unfold opOf; rw [if_pos (.inr q11)], show argOf q = rtWs by unfold argOf; rw [if_neg (by omega), if_pos q11], fit_op, arg11]
            by_cases h3 : wordI opWs o = []
            · rw [decide_eq_true h3]
              exact rr_o11 t q o a w h0 h1 h2 q11 h3
            · rw [decide_eq_false h3]
              by_cases a1 : 1 ≤ a
              · by_cases a3 : a ≤ 3
                · rw [decide_eq_true ⟨a1, a3⟩]; exact rr_11y t q o a w h0 h1 h2 q11 h3 a1 a3
                · rw [decide_eq_false (fun h => a3 h.2)]; exact rr_11h t q o a w h0 h1 h2 q11 h3 a1 a3
              · rw [decide_eq_false (fun h => a1 h.1)]; exact rr_11l t q o a w h0 h1 h2 q11 h3 a1
          · rw [show opOf q = [] by unfold opOf; rw [if_neg (by omega)], fit_nil]
            by_cases o0 : o = 0
            · rw [decide_eq_true o0]
              by_cases q2 : q = 2
              · rw [show argOf q = clWs by unfold argOf; rw [if_pos q2], arg2]
                by_cases a1 : a = 1
                · rw [decide_eq_true (.inl a1)]; exact rr_2a t q o a w h0 h1 h2 q2 o0 a1
                · by_cases a2 : a = 2
                  · rw [decide_eq_true (.inr a2)]; exact rr_2b t q o a w h0 h1 h2 q2 o0 a2
                  · rw [decide_eq_false (by omega)]; exact rr_2n t q o a w h0 h1 h2 q2 o0 a1 a2
              · rw [show argOf q = [] by unfold argOf; rw [if_neg q2, if_neg q11], fit_nil]
                by_cases a0 : a = 0
                · rw [decide_eq_true a0]; exact rr_y t q o a w h0 h1 h2 q1 q11 q2 o0 a0
                · rw [decide_eq_false a0]; exact rr_n t q o a w h0 h1 h2 q1 q11 q2 o0 a0
            · rw [decide_eq_false o0]
              exact rr_oz t q o a w h0 h1 h2 q1 q11 o0
end Go.Proofs.YtakbbabmbhencaaDoor
