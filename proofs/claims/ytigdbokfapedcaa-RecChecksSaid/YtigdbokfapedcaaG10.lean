import Derived.BigQuiet
import Derived.IntWalk
import Derived.Deep.Cut
import Derived.Test.YtigdbokfapedcaaG7
import Derived.Test.YtigdbokfapedcaaG8
import Derived.Test.YtigdbokfapedcaaG2
import Derived.Test.YtigdbokfapedcaaG6
import Derived.Test.YtigdbokfapedcaaG9
namespace Go.Proofs.Ytigdbokfapedcaa
open Go.RowKit
set_option linter.unusedVariables false
set_option linter.unusedSimpArgs false
theorem op_ref (x : Int) (w : World) : Calls Try.prog 31 #[.int .i64 x] w fun e w' => e = .returned (.string (bs (wordI opWs x))) ∧ Only Nil w w' := by
  have HO := Lib.hid ((Only.refl Nil w).alloc (.cells ((opWs.map bs).map Value.string).toArray 9))
  by_cases h0 : x < 0
  · rw [word_out (.inl h0), show bs [] = ⟨#[]⟩ from rfl]
    go_enter Try.func31, Try.ntmps31
    go_wp2
    go_ret
    exact ⟨rfl, HO.out⟩
  · by_cases h1 : (8 : Int) < x
    · rw [word_out (.inr (by show ((opWs.length : Nat) : Int) ≤ x; have : (opWs.length : Int) = 8 + 1 := rfl; omega)), show bs [] = ⟨#[]⟩ from rfl]
      go_enter Try.func31, Try.ntmps31
      go_wp2
      go_ret
      exact ⟨rfl, HO.out⟩
    · have hlen : opWs.length = 8 + 1 := rfl
      obtain ⟨k, rfl⟩ : ∃ k : Nat, x = k := ⟨x.toNat, by omega⟩
      have hcell : (w.alloc (.cells ((opWs.map bs).map Value.string).toArray 9)).cell? ⟨w.heap.size, k, none⟩ = some (.string (bs (wordI opWs k))) := (Row.new w _ _).cell_ (by rw [List.getElem?_toArray, List.getElem?_map, List.getElem?_map, word_at (ws := opWs) (k := k) (by omega)]; rfl)
      generalize bs (wordI opWs k) = X at *
      simp only [opWs, bs, List.map_cons, List.map_nil] at hcell
      have h0 : decide ((k : Int) < 0) = false := by simp
      clear hlen
      go_enter Try.func31, Try.ntmps31
      go_wp2
      go_ret
      exact ⟨rfl, HO.out⟩
end Go.Proofs.Ytigdbokfapedcaa
namespace Go.Proofs.Ytigdbokfapedcaa
open Go.RowKit
set_option linter.unusedVariables false
set_option linter.unusedSimpArgs false
theorem what_ref (x : Int) (w : World) : Calls Try.prog 30 #[.int .i64 x] w fun e w' => e = .returned (.string (bs (wordI whWs x))) ∧ Only Nil w w' := by
  have HO := Lib.hid ((Only.refl Nil w).alloc (.cells ((whWs.map bs).map Value.string).toArray 9))
  by_cases h0 : x < 0
  · rw [word_out (.inl h0), show bs [] = ⟨#[]⟩ from rfl]
    go_enter Try.func30, Try.ntmps30
    go_wp2
    go_ret
    exact ⟨rfl, HO.out⟩
  · by_cases h1 : (11 : Int) < x
    · rw [word_out (.inr (by show ((whWs.length : Nat) : Int) ≤ x; have : (whWs.length : Int) = 11 + 1 := rfl; omega)), show bs [] = ⟨#[]⟩ from rfl]
      go_enter Try.func30, Try.ntmps30
      go_wp2
      go_ret
      exact ⟨rfl, HO.out⟩
    · have hlen : whWs.length = 11 + 1 := rfl
      obtain ⟨k, rfl⟩ : ∃ k : Nat, x = k := ⟨x.toNat, by omega⟩
      have hcell : (w.alloc (.cells ((whWs.map bs).map Value.string).toArray 9)).cell? ⟨w.heap.size, k, none⟩ = some (.string (bs (wordI whWs k))) := (Row.new w _ _).cell_ (by rw [List.getElem?_toArray, List.getElem?_map, List.getElem?_map, word_at (ws := whWs) (k := k) (by omega)]; rfl)
      generalize bs (wordI whWs k) = X at *
      simp only [whWs, bs, List.map_cons, List.map_nil] at hcell
      have h0 : decide ((k : Int) < 0) = false := by simp
      clear hlen
      go_enter Try.func30, Try.ntmps30
      go_wp2
      go_ret
      exact ⟨rfl, HO.out⟩
end Go.Proofs.Ytigdbokfapedcaa
namespace Go.Proofs.Ytigdbokfapedcaa
open Go.RowKit
set_option linter.unusedVariables false
set_option linter.unusedSimpArgs false
theorem rr_lo (t q o a : Int) (w : World) (h0 : t < 0) : Calls Try.prog 23 #[.agg #[.int .i64 t, .int .i64 q, .int .i64 o, .int .i64 a]] w fun e w' => e = .returned (.bool false) ∧ Only Nil w w' := by
  have HR := Lib.hid (Row.new w 41 #[.int .i64 t, .int .i64 q, .int .i64 o, .int .i64 a])
  have HO := Lib.hid ((Only.refl Nil w).alloc (.cells #[.int .i64 t, .int .i64 q, .int .i64 o, .int .i64 a] 41))
  go_enter Try.func23, Try.ntmps23
  go_wp2_with fail
  go_ret
  exact ⟨rfl, HO.out⟩
theorem rr_hi (t q o a : Int) (w : World) (h0 : ¬ t < 0) (h1 : 63 < t) : Calls Try.prog 23 #[.agg #[.int .i64 t, .int .i64 q, .int .i64 o, .int .i64 a]] w fun e w' => e = .returned (.bool false) ∧ Only Nil w w' := by
  have HR := Lib.hid (Row.new w 41 #[.int .i64 t, .int .i64 q, .int .i64 o, .int .i64 a])
  have HO := Lib.hid ((Only.refl Nil w).alloc (.cells #[.int .i64 t, .int .i64 q, .int .i64 o, .int .i64 a] 41))
  go_enter Try.func23, Try.ntmps23
  go_wp2_with fail
  go_ret
  exact ⟨rfl, HO.out⟩
theorem rr_w (t q o a : Int) (w : World) (h0 : ¬ t < 0) (h1 : ¬ 63 < t) (h2 : wordI whWs q = []) : Calls Try.prog 23 #[.agg #[.int .i64 t, .int .i64 q, .int .i64 o, .int .i64 a]] w fun e w' => e = .returned (.bool false) ∧ Only Nil w w' := by
  have HW := Lib.hid (fun W => what_ref q W)
  rw [h2, show bs [] = ⟨#[]⟩ from rfl] at HW
  clear h2
  have HR := Lib.hid (Row.new w 41 #[.int .i64 t, .int .i64 q, .int .i64 o, .int .i64 a])
  have HO := Lib.hid ((Only.refl Nil w).alloc (.cells #[.int .i64 t, .int .i64 q, .int .i64 o, .int .i64 a] 41))
  go_enter Try.func23, Try.ntmps23
  go_wp2_with fail
  generalize w.alloc (.cells #[.int .i64 t, .int .i64 q, .int .i64 o, .int .i64 a] 41) = w0 at *
  generalize w.heap.size = g at *
  refine (HW.out _).mono ?_
  rintro e w1 ⟨rfl, hO⟩
  have HO1 := Lib.hid (HO.out.trans hO)
  have HR1 := Lib.hid (HR.out.only hO id)
  clear hO
  have c0 : w1.cell? ⟨g, 0, none⟩ = some (.int .i64 t) := HR1.out.cell_ (i := 0) rfl
  have c1 : w1.cell? ⟨g, 1, none⟩ = some (.int .i64 q) := HR1.out.cell_ (i := 1) rfl
  have c2 : w1.cell? ⟨g, 2, none⟩ = some (.int .i64 o) := HR1.out.cell_ (i := 2) rfl
  have c3 : w1.cell? ⟨g, 3, none⟩ = some (.int .i64 a) := HR1.out.cell_ (i := 3) rfl
  go_wp2
  go_ret
  exact ⟨rfl, HO1.out⟩
theorem rr_o1 (t q o a : Int) (w : World) (h0 : ¬ t < 0) (h1 : ¬ 63 < t) (h2 : wordI whWs q ≠ []) (hq : q = 1) (h3 : wordI opWs o = []) : Calls Try.prog 23 #[.agg #[.int .i64 t, .int .i64 q, .int .i64 o, .int .i64 a]] w fun e w' => e = .returned (.bool false) ∧ Only Nil w w' := by
  have HW := Lib.hid (fun W => what_ref q W)
  obtain ⟨hx1, hx2⟩ := bs_some h2
  clear h2
  generalize bs (wordI whWs q) = X at *
  have HV := Lib.hid (fun W => op_ref o W)
  rw [h3, show bs [] = ⟨#[]⟩ from rfl] at HV
  clear h3
  subst hq
  have HR := Lib.hid (Row.new w 41 #[.int .i64 t, .int .i64 1, .int .i64 o, .int .i64 a])
  have HO := Lib.hid ((Only.refl Nil w).alloc (.cells #[.int .i64 t, .int .i64 1, .int .i64 o, .int .i64 a] 41))
  go_enter Try.func23, Try.ntmps23
  go_wp2_with fail
  generalize w.alloc (.cells #[.int .i64 t, .int .i64 1, .int .i64 o, .int .i64 a] 41) = w0 at *
  generalize w.heap.size = g at *
  refine (HW.out _).mono ?_
  rintro e w1 ⟨rfl, hO⟩
  have HO1 := Lib.hid (HO.out.trans hO)
  have HR1 := Lib.hid (HR.out.only hO id)
  clear hO
  have c0 : w1.cell? ⟨g, 0, none⟩ = some (.int .i64 t) := HR1.out.cell_ (i := 0) rfl
  have c1 : w1.cell? ⟨g, 1, none⟩ = some (.int .i64 1) := HR1.out.cell_ (i := 1) rfl
  have c2 : w1.cell? ⟨g, 2, none⟩ = some (.int .i64 o) := HR1.out.cell_ (i := 2) rfl
  have c3 : w1.cell? ⟨g, 3, none⟩ = some (.int .i64 a) := HR1.out.cell_ (i := 3) rfl
  go_wp2_with fail
  clear c0 c1 c2 c3
  refine (HV.out _).mono ?_
  rintro e w2 ⟨rfl, hO⟩
  have HO2 := Lib.hid (HO1.out.trans hO)
  have HR2 := Lib.hid (HR1.out.only hO id)
  clear hO
  have c0 : w2.cell? ⟨g, 0, none⟩ = some (.int .i64 t) := HR2.out.cell_ (i := 0) rfl
  have c1 : w2.cell? ⟨g, 1, none⟩ = some (.int .i64 1) := HR2.out.cell_ (i := 1) rfl
  have c2 : w2.cell? ⟨g, 2, none⟩ = some (.int .i64 o) := HR2.out.cell_ (i := 2) rfl
  have c3 : w2.cell? ⟨g, 3, none⟩ = some (.int .i64 a) := HR2.out.cell_ (i := 3) rfl
  go_wp2
  go_ret
  exact ⟨rfl, HO2.out⟩
theorem rr_o11 (t q o a : Int) (w : World) (h0 : ¬ t < 0) (h1 : ¬ 63 < t) (h2 : wordI whWs q ≠ []) (hq : q = 11) (h3 : wordI opWs o = []) : Calls Try.prog 23 #[.agg #[.int .i64 t, .int .i64 q, .int .i64 o, .int .i64 a]] w fun e w' => e = .returned (.bool false) ∧ Only Nil w w' := by
  have HW := Lib.hid (fun W => what_ref q W)
  obtain ⟨hx1, hx2⟩ := bs_some h2
  clear h2
  generalize bs (wordI whWs q) = X at *
  have HV := Lib.hid (fun W => op_ref o W)
  rw [h3, show bs [] = ⟨#[]⟩ from rfl] at HV
  clear h3
  subst hq
  have HR := Lib.hid (Row.new w 41 #[.int .i64 t, .int .i64 11, .int .i64 o, .int .i64 a])
  have HO := Lib.hid ((Only.refl Nil w).alloc (.cells #[.int .i64 t, .int .i64 11, .int .i64 o, .int .i64 a] 41))
  go_enter Try.func23, Try.ntmps23
  go_wp2_with fail
  generalize w.alloc (.cells #[.int .i64 t, .int .i64 11, .int .i64 o, .int .i64 a] 41) = w0 at *
  generalize w.heap.size = g at *
  refine (HW.out _).mono ?_
  rintro e w1 ⟨rfl, hO⟩
  have HO1 := Lib.hid (HO.out.trans hO)
  have HR1 := Lib.hid (HR.out.only hO id)
  clear hO
  have c0 : w1.cell? ⟨g, 0, none⟩ = some (.int .i64 t) := HR1.out.cell_ (i := 0) rfl
  have c1 : w1.cell? ⟨g, 1, none⟩ = some (.int .i64 11) := HR1.out.cell_ (i := 1) rfl
  have c2 : w1.cell? ⟨g, 2, none⟩ = some (.int .i64 o) := HR1.out.cell_ (i := 2) rfl
  have c3 : w1.cell? ⟨g, 3, none⟩ = some (.int .i64 a) := HR1.out.cell_ (i := 3) rfl
  go_wp2_with fail
  clear c0 c1 c2 c3
  refine (HV.out _).mono ?_
  rintro e w2 ⟨rfl, hO⟩
  have HO2 := Lib.hid (HO1.out.trans hO)
  have HR2 := Lib.hid (HR1.out.only hO id)
  clear hO
  have c0 : w2.cell? ⟨g, 0, none⟩ = some (.int .i64 t) := HR2.out.cell_ (i := 0) rfl
  have c1 : w2.cell? ⟨g, 1, none⟩ = some (.int .i64 11) := HR2.out.cell_ (i := 1) rfl
  have c2 : w2.cell? ⟨g, 2, none⟩ = some (.int .i64 o) := HR2.out.cell_ (i := 2) rfl
  have c3 : w2.cell? ⟨g, 3, none⟩ = some (.int .i64 a) := HR2.out.cell_ (i := 3) rfl
  go_wp2
  go_ret
  exact ⟨rfl, HO2.out⟩
theorem rr_1y (t q o a : Int) (w : World) (h0 : ¬ t < 0) (h1 : ¬ 63 < t) (h2 : wordI whWs q ≠ []) (hq : q = 1) (h3 : wordI opWs o ≠ []) (a0 : a = 0) : Calls Try.prog 23 #[.agg #[.int .i64 t, .int .i64 q, .int .i64 o, .int .i64 a]] w fun e w' => e = .returned (.bool true) ∧ Only Nil w w' := by
  have HW := Lib.hid (fun W => what_ref q W)
  obtain ⟨hx1, hx2⟩ := bs_some h2
  clear h2
  generalize bs (wordI whWs q) = X at *
  have HV := Lib.hid (fun W => op_ref o W)
  obtain ⟨hy1, hy2⟩ := bs_some h3
  clear h3
  generalize bs (wordI opWs o) = Y at *
  subst hq a0
  have HR := Lib.hid (Row.new w 41 #[.int .i64 t, .int .i64 1, .int .i64 o, .int .i64 0])
  have HO := Lib.hid ((Only.refl Nil w).alloc (.cells #[.int .i64 t, .int .i64 1, .int .i64 o, .int .i64 0] 41))
  go_enter Try.func23, Try.ntmps23
  go_wp2_with fail
  generalize w.alloc (.cells #[.int .i64 t, .int .i64 1, .int .i64 o, .int .i64 0] 41) = w0 at *
  generalize w.heap.size = g at *
  refine (HW.out _).mono ?_
  rintro e w1 ⟨rfl, hO⟩
  have HO1 := Lib.hid (HO.out.trans hO)
  have HR1 := Lib.hid (HR.out.only hO id)
  clear hO
  have c0 : w1.cell? ⟨g, 0, none⟩ = some (.int .i64 t) := HR1.out.cell_ (i := 0) rfl
  have c1 : w1.cell? ⟨g, 1, none⟩ = some (.int .i64 1) := HR1.out.cell_ (i := 1) rfl
  have c2 : w1.cell? ⟨g, 2, none⟩ = some (.int .i64 o) := HR1.out.cell_ (i := 2) rfl
  have c3 : w1.cell? ⟨g, 3, none⟩ = some (.int .i64 0) := HR1.out.cell_ (i := 3) rfl
  go_wp2_with fail
  clear c0 c1 c2 c3
  refine (HV.out _).mono ?_
  rintro e w2 ⟨rfl, hO⟩
  have HO2 := Lib.hid (HO1.out.trans hO)
  have HR2 := Lib.hid (HR1.out.only hO id)
  clear hO
  have c0 : w2.cell? ⟨g, 0, none⟩ = some (.int .i64 t) := HR2.out.cell_ (i := 0) rfl
  have c1 : w2.cell? ⟨g, 1, none⟩ = some (.int .i64 1) := HR2.out.cell_ (i := 1) rfl
  have c2 : w2.cell? ⟨g, 2, none⟩ = some (.int .i64 o) := HR2.out.cell_ (i := 2) rfl
  have c3 : w2.cell? ⟨g, 3, none⟩ = some (.int .i64 0) := HR2.out.cell_ (i := 3) rfl
  go_wp2
  go_ret
  exact ⟨rfl, HO2.out⟩
theorem rr_1n (t q o a : Int) (w : World) (h0 : ¬ t < 0) (h1 : ¬ 63 < t) (h2 : wordI whWs q ≠ []) (hq : q = 1) (h3 : wordI opWs o ≠ []) (a0 : ¬ a = 0) : Calls Try.prog 23 #[.agg #[.int .i64 t, .int .i64 q, .int .i64 o, .int .i64 a]] w fun e w' => e = .returned (.bool false) ∧ Only Nil w w' := by
  have HW := Lib.hid (fun W => what_ref q W)
  obtain ⟨hx1, hx2⟩ := bs_some h2
  clear h2
  generalize bs (wordI whWs q) = X at *
  have HV := Lib.hid (fun W => op_ref o W)
  obtain ⟨hy1, hy2⟩ := bs_some h3
  clear h3
  generalize bs (wordI opWs o) = Y at *
  have ba : (a == 0) = false := by simpa using a0
  subst hq
  have HR := Lib.hid (Row.new w 41 #[.int .i64 t, .int .i64 1, .int .i64 o, .int .i64 a])
  have HO := Lib.hid ((Only.refl Nil w).alloc (.cells #[.int .i64 t, .int .i64 1, .int .i64 o, .int .i64 a] 41))
  go_enter Try.func23, Try.ntmps23
  go_wp2_with fail
  generalize w.alloc (.cells #[.int .i64 t, .int .i64 1, .int .i64 o, .int .i64 a] 41) = w0 at *
  generalize w.heap.size = g at *
  refine (HW.out _).mono ?_
  rintro e w1 ⟨rfl, hO⟩
  have HO1 := Lib.hid (HO.out.trans hO)
  have HR1 := Lib.hid (HR.out.only hO id)
  clear hO
  have c0 : w1.cell? ⟨g, 0, none⟩ = some (.int .i64 t) := HR1.out.cell_ (i := 0) rfl
  have c1 : w1.cell? ⟨g, 1, none⟩ = some (.int .i64 1) := HR1.out.cell_ (i := 1) rfl
  have c2 : w1.cell? ⟨g, 2, none⟩ = some (.int .i64 o) := HR1.out.cell_ (i := 2) rfl
  have c3 : w1.cell? ⟨g, 3, none⟩ = some (.int .i64 a) := HR1.out.cell_ (i := 3) rfl
  go_wp2_with fail
  clear c0 c1 c2 c3
  refine (HV.out _).mono ?_
  rintro e w2 ⟨rfl, hO⟩
  have HO2 := Lib.hid (HO1.out.trans hO)
  have HR2 := Lib.hid (HR1.out.only hO id)
  clear hO
  have c0 : w2.cell? ⟨g, 0, none⟩ = some (.int .i64 t) := HR2.out.cell_ (i := 0) rfl
  have c1 : w2.cell? ⟨g, 1, none⟩ = some (.int .i64 1) := HR2.out.cell_ (i := 1) rfl
  have c2 : w2.cell? ⟨g, 2, none⟩ = some (.int .i64 o) := HR2.out.cell_ (i := 2) rfl
  have c3 : w2.cell? ⟨g, 3, none⟩ = some (.int .i64 a) := HR2.out.cell_ (i := 3) rfl
  go_wp2
  go_ret
  exact ⟨rfl, HO2.out⟩
theorem rr_11y (t q o a : Int) (w : World) (h0 : ¬ t < 0) (h1 : ¬ 63 < t) (h2 : wordI whWs q ≠ []) (hq : q = 11) (h3 : wordI opWs o ≠ []) (a1 : 1 ≤ a) (a3 : a ≤ 3) : Calls Try.prog 23 #[.agg #[.int .i64 t, .int .i64 q, .int .i64 o, .int .i64 a]] w fun e w' => e = .returned (.bool true) ∧ Only Nil w w' := by
  have HW := Lib.hid (fun W => what_ref q W)
  obtain ⟨hx1, hx2⟩ := bs_some h2
  clear h2
  generalize bs (wordI whWs q) = X at *
  have HV := Lib.hid (fun W => op_ref o W)
  obtain ⟨hy1, hy2⟩ := bs_some h3
  clear h3
  generalize bs (wordI opWs o) = Y at *
  subst hq
  have HR := Lib.hid (Row.new w 41 #[.int .i64 t, .int .i64 11, .int .i64 o, .int .i64 a])
  have HO := Lib.hid ((Only.refl Nil w).alloc (.cells #[.int .i64 t, .int .i64 11, .int .i64 o, .int .i64 a] 41))
  go_enter Try.func23, Try.ntmps23
  go_wp2_with fail
  generalize w.alloc (.cells #[.int .i64 t, .int .i64 11, .int .i64 o, .int .i64 a] 41) = w0 at *
  generalize w.heap.size = g at *
  refine (HW.out _).mono ?_
  rintro e w1 ⟨rfl, hO⟩
  have HO1 := Lib.hid (HO.out.trans hO)
  have HR1 := Lib.hid (HR.out.only hO id)
  clear hO
  have c0 : w1.cell? ⟨g, 0, none⟩ = some (.int .i64 t) := HR1.out.cell_ (i := 0) rfl
  have c1 : w1.cell? ⟨g, 1, none⟩ = some (.int .i64 11) := HR1.out.cell_ (i := 1) rfl
  have c2 : w1.cell? ⟨g, 2, none⟩ = some (.int .i64 o) := HR1.out.cell_ (i := 2) rfl
  have c3 : w1.cell? ⟨g, 3, none⟩ = some (.int .i64 a) := HR1.out.cell_ (i := 3) rfl
  go_wp2_with fail
  clear c0 c1 c2 c3
  refine (HV.out _).mono ?_
  rintro e w2 ⟨rfl, hO⟩
  have HO2 := Lib.hid (HO1.out.trans hO)
  have HR2 := Lib.hid (HR1.out.only hO id)
  clear hO
  have c0 : w2.cell? ⟨g, 0, none⟩ = some (.int .i64 t) := HR2.out.cell_ (i := 0) rfl
  have c1 : w2.cell? ⟨g, 1, none⟩ = some (.int .i64 11) := HR2.out.cell_ (i := 1) rfl
  have c2 : w2.cell? ⟨g, 2, none⟩ = some (.int .i64 o) := HR2.out.cell_ (i := 2) rfl
  have c3 : w2.cell? ⟨g, 3, none⟩ = some (.int .i64 a) := HR2.out.cell_ (i := 3) rfl
  go_wp2
  go_ret
  exact ⟨rfl, HO2.out⟩
theorem rr_11l (t q o a : Int) (w : World) (h0 : ¬ t < 0) (h1 : ¬ 63 < t) (h2 : wordI whWs q ≠ []) (hq : q = 11) (h3 : wordI opWs o ≠ []) (a1 : ¬ 1 ≤ a) : Calls Try.prog 23 #[.agg #[.int .i64 t, .int .i64 q, .int .i64 o, .int .i64 a]] w fun e w' => e = .returned (.bool false) ∧ Only Nil w w' := by
  have HW := Lib.hid (fun W => what_ref q W)
  obtain ⟨hx1, hx2⟩ := bs_some h2
  clear h2
  generalize bs (wordI whWs q) = X at *
  have HV := Lib.hid (fun W => op_ref o W)
  obtain ⟨hy1, hy2⟩ := bs_some h3
  clear h3
  generalize bs (wordI opWs o) = Y at *
  subst hq
  have HR := Lib.hid (Row.new w 41 #[.int .i64 t, .int .i64 11, .int .i64 o, .int .i64 a])
  have HO := Lib.hid ((Only.refl Nil w).alloc (.cells #[.int .i64 t, .int .i64 11, .int .i64 o, .int .i64 a] 41))
  go_enter Try.func23, Try.ntmps23
  go_wp2_with fail
  generalize w.alloc (.cells #[.int .i64 t, .int .i64 11, .int .i64 o, .int .i64 a] 41) = w0 at *
  generalize w.heap.size = g at *
  refine (HW.out _).mono ?_
  rintro e w1 ⟨rfl, hO⟩
  have HO1 := Lib.hid (HO.out.trans hO)
  have HR1 := Lib.hid (HR.out.only hO id)
  clear hO
  have c0 : w1.cell? ⟨g, 0, none⟩ = some (.int .i64 t) := HR1.out.cell_ (i := 0) rfl
  have c1 : w1.cell? ⟨g, 1, none⟩ = some (.int .i64 11) := HR1.out.cell_ (i := 1) rfl
  have c2 : w1.cell? ⟨g, 2, none⟩ = some (.int .i64 o) := HR1.out.cell_ (i := 2) rfl
  have c3 : w1.cell? ⟨g, 3, none⟩ = some (.int .i64 a) := HR1.out.cell_ (i := 3) rfl
  go_wp2_with fail
  clear c0 c1 c2 c3
  refine (HV.out _).mono ?_
  rintro e w2 ⟨rfl, hO⟩
  have HO2 := Lib.hid (HO1.out.trans hO)
  have HR2 := Lib.hid (HR1.out.only hO id)
  clear hO
  have c0 : w2.cell? ⟨g, 0, none⟩ = some (.int .i64 t) := HR2.out.cell_ (i := 0) rfl
  have c1 : w2.cell? ⟨g, 1, none⟩ = some (.int .i64 11) := HR2.out.cell_ (i := 1) rfl
  have c2 : w2.cell? ⟨g, 2, none⟩ = some (.int .i64 o) := HR2.out.cell_ (i := 2) rfl
  have c3 : w2.cell? ⟨g, 3, none⟩ = some (.int .i64 a) := HR2.out.cell_ (i := 3) rfl
  go_wp2
  go_ret
  exact ⟨rfl, HO2.out⟩
theorem rr_11h (t q o a : Int) (w : World) (h0 : ¬ t < 0) (h1 : ¬ 63 < t) (h2 : wordI whWs q ≠ []) (hq : q = 11) (h3 : wordI opWs o ≠ []) (a1 : 1 ≤ a) (a3 : ¬ a ≤ 3) : Calls Try.prog 23 #[.agg #[.int .i64 t, .int .i64 q, .int .i64 o, .int .i64 a]] w fun e w' => e = .returned (.bool false) ∧ Only Nil w w' := by
  have HW := Lib.hid (fun W => what_ref q W)
  obtain ⟨hx1, hx2⟩ := bs_some h2
  clear h2
  generalize bs (wordI whWs q) = X at *
  have HV := Lib.hid (fun W => op_ref o W)
  obtain ⟨hy1, hy2⟩ := bs_some h3
  clear h3
  generalize bs (wordI opWs o) = Y at *
  have d3 : decide (a ≤ 3) = false := decide_eq_false a3
  subst hq
  have HR := Lib.hid (Row.new w 41 #[.int .i64 t, .int .i64 11, .int .i64 o, .int .i64 a])
  have HO := Lib.hid ((Only.refl Nil w).alloc (.cells #[.int .i64 t, .int .i64 11, .int .i64 o, .int .i64 a] 41))
  go_enter Try.func23, Try.ntmps23
  go_wp2_with fail
  generalize w.alloc (.cells #[.int .i64 t, .int .i64 11, .int .i64 o, .int .i64 a] 41) = w0 at *
  generalize w.heap.size = g at *
  refine (HW.out _).mono ?_
  rintro e w1 ⟨rfl, hO⟩
  have HO1 := Lib.hid (HO.out.trans hO)
  have HR1 := Lib.hid (HR.out.only hO id)
  clear hO
  have c0 : w1.cell? ⟨g, 0, none⟩ = some (.int .i64 t) := HR1.out.cell_ (i := 0) rfl
  have c1 : w1.cell? ⟨g, 1, none⟩ = some (.int .i64 11) := HR1.out.cell_ (i := 1) rfl
  have c2 : w1.cell? ⟨g, 2, none⟩ = some (.int .i64 o) := HR1.out.cell_ (i := 2) rfl
  have c3 : w1.cell? ⟨g, 3, none⟩ = some (.int .i64 a) := HR1.out.cell_ (i := 3) rfl
  go_wp2_with fail
  clear c0 c1 c2 c3
  refine (HV.out _).mono ?_
  rintro e w2 ⟨rfl, hO⟩
  have HO2 := Lib.hid (HO1.out.trans hO)
  have HR2 := Lib.hid (HR1.out.only hO id)
  clear hO
  have c0 : w2.cell? ⟨g, 0, none⟩ = some (.int .i64 t) := HR2.out.cell_ (i := 0) rfl
  have c1 : w2.cell? ⟨g, 1, none⟩ = some (.int .i64 11) := HR2.out.cell_ (i := 1) rfl
  have c2 : w2.cell? ⟨g, 2, none⟩ = some (.int .i64 o) := HR2.out.cell_ (i := 2) rfl
  have c3 : w2.cell? ⟨g, 3, none⟩ = some (.int .i64 a) := HR2.out.cell_ (i := 3) rfl
  go_wp2
  go_ret
  exact ⟨rfl, HO2.out⟩
theorem rr_oz (t q o a : Int) (w : World) (h0 : ¬ t < 0) (h1 : ¬ 63 < t) (h2 : wordI whWs q ≠ []) (q1 : ¬ q = 1) (q11 : ¬ q = 11) (o0 : ¬ o = 0) : Calls Try.prog 23 #[.agg #[.int .i64 t, .int .i64 q, .int .i64 o, .int .i64 a]] w fun e w' => e = .returned (.bool false) ∧ Only Nil w w' := by
  have HW := Lib.hid (fun W => what_ref q W)
  obtain ⟨hx1, hx2⟩ := bs_some h2
  clear h2
  generalize bs (wordI whWs q) = X at *
  have b1 : (q == 1) = false := by simpa using q1
  have b11 : (q == 11) = false := by simpa using q11
  have bo : (o == 0) = false := by simpa using o0
  have HR := Lib.hid (Row.new w 41 #[.int .i64 t, .int .i64 q, .int .i64 o, .int .i64 a])
  have HO := Lib.hid ((Only.refl Nil w).alloc (.cells #[.int .i64 t, .int .i64 q, .int .i64 o, .int .i64 a] 41))
  go_enter Try.func23, Try.ntmps23
  go_wp2_with fail
  generalize w.alloc (.cells #[.int .i64 t, .int .i64 q, .int .i64 o, .int .i64 a] 41) = w0 at *
  generalize w.heap.size = g at *
  refine (HW.out _).mono ?_
  rintro e w1 ⟨rfl, hO⟩
  have HO1 := Lib.hid (HO.out.trans hO)
  have HR1 := Lib.hid (HR.out.only hO id)
  clear hO
  have c0 : w1.cell? ⟨g, 0, none⟩ = some (.int .i64 t) := HR1.out.cell_ (i := 0) rfl
  have c1 : w1.cell? ⟨g, 1, none⟩ = some (.int .i64 q) := HR1.out.cell_ (i := 1) rfl
  have c2 : w1.cell? ⟨g, 2, none⟩ = some (.int .i64 o) := HR1.out.cell_ (i := 2) rfl
  have c3 : w1.cell? ⟨g, 3, none⟩ = some (.int .i64 a) := HR1.out.cell_ (i := 3) rfl
  go_wp2
  go_ret
  exact ⟨rfl, HO1.out⟩
theorem rr_2a (t q o a : Int) (w : World) (h0 : ¬ t < 0) (h1 : ¬ 63 < t) (h2 : wordI whWs q ≠ []) (hq : q = 2) (o0 : o = 0) (a1 : a = 1) : Calls Try.prog 23 #[.agg #[.int .i64 t, .int .i64 q, .int .i64 o, .int .i64 a]] w fun e w' => e = .returned (.bool true) ∧ Only Nil w w' := by
  have HW := Lib.hid (fun W => what_ref q W)
  obtain ⟨hx1, hx2⟩ := bs_some h2
  clear h2
  generalize bs (wordI whWs q) = X at *
  subst hq o0 a1
  have HR := Lib.hid (Row.new w 41 #[.int .i64 t, .int .i64 2, .int .i64 0, .int .i64 1])
  have HO := Lib.hid ((Only.refl Nil w).alloc (.cells #[.int .i64 t, .int .i64 2, .int .i64 0, .int .i64 1] 41))
  go_enter Try.func23, Try.ntmps23
  go_wp2_with fail
  generalize w.alloc (.cells #[.int .i64 t, .int .i64 2, .int .i64 0, .int .i64 1] 41) = w0 at *
  generalize w.heap.size = g at *
  refine (HW.out _).mono ?_
  rintro e w1 ⟨rfl, hO⟩
  have HO1 := Lib.hid (HO.out.trans hO)
  have HR1 := Lib.hid (HR.out.only hO id)
  clear hO
  have c0 : w1.cell? ⟨g, 0, none⟩ = some (.int .i64 t) := HR1.out.cell_ (i := 0) rfl
  have c1 : w1.cell? ⟨g, 1, none⟩ = some (.int .i64 2) := HR1.out.cell_ (i := 1) rfl
  have c2 : w1.cell? ⟨g, 2, none⟩ = some (.int .i64 0) := HR1.out.cell_ (i := 2) rfl
  have c3 : w1.cell? ⟨g, 3, none⟩ = some (.int .i64 1) := HR1.out.cell_ (i := 3) rfl
  go_wp2
  go_ret
  exact ⟨rfl, HO1.out⟩
theorem rr_2b (t q o a : Int) (w : World) (h0 : ¬ t < 0) (h1 : ¬ 63 < t) (h2 : wordI whWs q ≠ []) (hq : q = 2) (o0 : o = 0) (a1 : a = 2) : Calls Try.prog 23 #[.agg #[.int .i64 t, .int .i64 q, .int .i64 o, .int .i64 a]] w fun e w' => e = .returned (.bool true) ∧ Only Nil w w' := by
  have HW := Lib.hid (fun W => what_ref q W)
  obtain ⟨hx1, hx2⟩ := bs_some h2
  clear h2
  generalize bs (wordI whWs q) = X at *
  subst hq o0 a1
  have HR := Lib.hid (Row.new w 41 #[.int .i64 t, .int .i64 2, .int .i64 0, .int .i64 2])
  have HO := Lib.hid ((Only.refl Nil w).alloc (.cells #[.int .i64 t, .int .i64 2, .int .i64 0, .int .i64 2] 41))
  go_enter Try.func23, Try.ntmps23
  go_wp2_with fail
  generalize w.alloc (.cells #[.int .i64 t, .int .i64 2, .int .i64 0, .int .i64 2] 41) = w0 at *
  generalize w.heap.size = g at *
  refine (HW.out _).mono ?_
  rintro e w1 ⟨rfl, hO⟩
  have HO1 := Lib.hid (HO.out.trans hO)
  have HR1 := Lib.hid (HR.out.only hO id)
  clear hO
  have c0 : w1.cell? ⟨g, 0, none⟩ = some (.int .i64 t) := HR1.out.cell_ (i := 0) rfl
  have c1 : w1.cell? ⟨g, 1, none⟩ = some (.int .i64 2) := HR1.out.cell_ (i := 1) rfl
  have c2 : w1.cell? ⟨g, 2, none⟩ = some (.int .i64 0) := HR1.out.cell_ (i := 2) rfl
  have c3 : w1.cell? ⟨g, 3, none⟩ = some (.int .i64 2) := HR1.out.cell_ (i := 3) rfl
  go_wp2
  go_ret
  exact ⟨rfl, HO1.out⟩
theorem rr_2n (t q o a : Int) (w : World) (h0 : ¬ t < 0) (h1 : ¬ 63 < t) (h2 : wordI whWs q ≠ []) (hq : q = 2) (o0 : o = 0) (a1 : ¬ a = 1) (a2 : ¬ a = 2) : Calls Try.prog 23 #[.agg #[.int .i64 t, .int .i64 q, .int .i64 o, .int .i64 a]] w fun e w' => e = .returned (.bool false) ∧ Only Nil w w' := by
  have HW := Lib.hid (fun W => what_ref q W)
  obtain ⟨hx1, hx2⟩ := bs_some h2
  clear h2
  generalize bs (wordI whWs q) = X at *
  have e1 : (a == 1) = false := by simpa using a1
  have e2 : (a == 2) = false := by simpa using a2
  subst hq o0
  have HR := Lib.hid (Row.new w 41 #[.int .i64 t, .int .i64 2, .int .i64 0, .int .i64 a])
  have HO := Lib.hid ((Only.refl Nil w).alloc (.cells #[.int .i64 t, .int .i64 2, .int .i64 0, .int .i64 a] 41))
  go_enter Try.func23, Try.ntmps23
  go_wp2_with fail
  generalize w.alloc (.cells #[.int .i64 t, .int .i64 2, .int .i64 0, .int .i64 a] 41) = w0 at *
  generalize w.heap.size = g at *
  refine (HW.out _).mono ?_
  rintro e w1 ⟨rfl, hO⟩
  have HO1 := Lib.hid (HO.out.trans hO)
  have HR1 := Lib.hid (HR.out.only hO id)
  clear hO
  have c0 : w1.cell? ⟨g, 0, none⟩ = some (.int .i64 t) := HR1.out.cell_ (i := 0) rfl
  have c1 : w1.cell? ⟨g, 1, none⟩ = some (.int .i64 2) := HR1.out.cell_ (i := 1) rfl
  have c2 : w1.cell? ⟨g, 2, none⟩ = some (.int .i64 0) := HR1.out.cell_ (i := 2) rfl
  have c3 : w1.cell? ⟨g, 3, none⟩ = some (.int .i64 a) := HR1.out.cell_ (i := 3) rfl
  go_wp2
  go_ret
  exact ⟨rfl, HO1.out⟩
theorem rr_y (t q o a : Int) (w : World) (h0 : ¬ t < 0) (h1 : ¬ 63 < t) (h2 : wordI whWs q ≠ []) (q1 : ¬ q = 1) (q11 : ¬ q = 11) (q2 : ¬ q = 2) (o0 : o = 0) (a0 : a = 0) : Calls Try.prog 23 #[.agg #[.int .i64 t, .int .i64 q, .int .i64 o, .int .i64 a]] w fun e w' => e = .returned (.bool true) ∧ Only Nil w w' := by
  have HW := Lib.hid (fun W => what_ref q W)
  obtain ⟨hx1, hx2⟩ := bs_some h2
  clear h2
  generalize bs (wordI whWs q) = X at *
  have b1 : (q == 1) = false := by simpa using q1
  have b11 : (q == 11) = false := by simpa using q11
  have b2 : (q == 2) = false := by simpa using q2
  subst o0 a0
  have HR := Lib.hid (Row.new w 41 #[.int .i64 t, .int .i64 q, .int .i64 0, .int .i64 0])
  have HO := Lib.hid ((Only.refl Nil w).alloc (.cells #[.int .i64 t, .int .i64 q, .int .i64 0, .int .i64 0] 41))
  go_enter Try.func23, Try.ntmps23
  go_wp2_with fail
  generalize w.alloc (.cells #[.int .i64 t, .int .i64 q, .int .i64 0, .int .i64 0] 41) = w0 at *
  generalize w.heap.size = g at *
  refine (HW.out _).mono ?_
  rintro e w1 ⟨rfl, hO⟩
  have HO1 := Lib.hid (HO.out.trans hO)
  have HR1 := Lib.hid (HR.out.only hO id)
  clear hO
  have c0 : w1.cell? ⟨g, 0, none⟩ = some (.int .i64 t) := HR1.out.cell_ (i := 0) rfl
  have c1 : w1.cell? ⟨g, 1, none⟩ = some (.int .i64 q) := HR1.out.cell_ (i := 1) rfl
  have c2 : w1.cell? ⟨g, 2, none⟩ = some (.int .i64 0) := HR1.out.cell_ (i := 2) rfl
  have c3 : w1.cell? ⟨g, 3, none⟩ = some (.int .i64 0) := HR1.out.cell_ (i := 3) rfl
  go_wp2
  go_ret
  exact ⟨rfl, HO1.out⟩
theorem rr_n (t q o a : Int) (w : World) (h0 : ¬ t < 0) (h1 : ¬ 63 < t) (h2 : wordI whWs q ≠ []) (q1 : ¬ q = 1) (q11 : ¬ q = 11) (q2 : ¬ q = 2) (o0 : o = 0) (a0 : ¬ a = 0) : Calls Try.prog 23 #[.agg #[.int .i64 t, .int .i64 q, .int .i64 o, .int .i64 a]] w fun e w' => e = .returned (.bool false) ∧ Only Nil w w' := by
  have HW := Lib.hid (fun W => what_ref q W)
  obtain ⟨hx1, hx2⟩ := bs_some h2
  clear h2
  generalize bs (wordI whWs q) = X at *
  have b1 : (q == 1) = false := by simpa using q1
  have b11 : (q == 11) = false := by simpa using q11
  have b2 : (q == 2) = false := by simpa using q2
  have ba : (a == 0) = false := by simpa using a0
  subst o0
  have HR := Lib.hid (Row.new w 41 #[.int .i64 t, .int .i64 q, .int .i64 0, .int .i64 a])
  have HO := Lib.hid ((Only.refl Nil w).alloc (.cells #[.int .i64 t, .int .i64 q, .int .i64 0, .int .i64 a] 41))
  go_enter Try.func23, Try.ntmps23
  go_wp2_with fail
  generalize w.alloc (.cells #[.int .i64 t, .int .i64 q, .int .i64 0, .int .i64 a] 41) = w0 at *
  generalize w.heap.size = g at *
  refine (HW.out _).mono ?_
  rintro e w1 ⟨rfl, hO⟩
  have HO1 := Lib.hid (HO.out.trans hO)
  have HR1 := Lib.hid (HR.out.only hO id)
  clear hO
  have c0 : w1.cell? ⟨g, 0, none⟩ = some (.int .i64 t) := HR1.out.cell_ (i := 0) rfl
  have c1 : w1.cell? ⟨g, 1, none⟩ = some (.int .i64 q) := HR1.out.cell_ (i := 1) rfl
  have c2 : w1.cell? ⟨g, 2, none⟩ = some (.int .i64 0) := HR1.out.cell_ (i := 2) rfl
  have c3 : w1.cell? ⟨g, 3, none⟩ = some (.int .i64 a) := HR1.out.cell_ (i := 3) rfl
  go_wp2
  go_ret
  exact ⟨rfl, HO1.out⟩
theorem arg2 : ∀ a : Int, fitB clWs a = decide (a = 1 ∨ a = 2) := fun a => by
  by_cases h : 0 ≤ a ∧ a < 3
  · rcases (show a = 0 ∨ a = 1 ∨ a = 2 by omega) with rfl | rfl | rfl <;> decide
  · rw [decide_eq_false (by omega)]
    unfold fitB
    rw [if_neg (by decide), word_out (by show a < 0 ∨ (3 : Int) ≤ a; omega)]; rfl
theorem arg11 : ∀ a : Int, fitB rtWs a = decide (1 ≤ a ∧ a ≤ 3) := fun a => by
  by_cases h : 0 ≤ a ∧ a < 4
  · rcases (show a = 0 ∨ a = 1 ∨ a = 2 ∨ a = 3 by omega) with rfl | rfl | rfl | rfl <;> decide
  · rw [decide_eq_false (by omega)]
    unfold fitB
    rw [if_neg (by decide), word_out (by show a < 0 ∨ (4 : Int) ≤ a; omega)]; rfl
theorem fit_op (o : Int) : fitB opWs o = !decide (wordI opWs o = []) := by unfold fitB; rw [if_neg (by decide)]
theorem fit_wh (o : Int) : fitB whWs o = !decide (wordI whWs o = []) := by unfold fitB; rw [if_neg (by decide)]
theorem fit_nil (o : Int) : fitB [] o = decide (o = 0) := rfl
theorem right_ref (t q o a : Int) (w : World) : Calls Try.prog 23 #[.agg #[.int .i64 t, .int .i64 q, .int .i64 o, .int .i64 a]] w fun e w' => e = .returned (.bool (rightN t q o a)) ∧ Only Nil w w' := by
  unfold rightN tripB
  by_cases h0 : t < 0
  · rw [show decide (0 ≤ t) = false from decide_eq_false (by omega)]
    exact rr_lo t q o a w h0
  · rw [show decide (0 ≤ t) = true from decide_eq_true (by omega)]
    by_cases h1 : 63 < t
    · rw [show decide (t < 64) = false from decide_eq_false (by omega)]
      exact rr_hi t q o a w h0 h1
    · rw [show decide (t < 64) = true from decide_eq_true (by omega), fit_wh]
      by_cases h2 : wordI whWs q = []
      · rw [decide_eq_true h2]
        exact rr_w t q o a w h0 h1 h2
      · rw [decide_eq_false h2]
        by_cases q1 : q = 1
        · rw [show opOf q = opWs by unfold opOf; rw [if_pos (.inl q1)], show argOf q = [] by unfold argOf; rw [if_neg (by omega), if_neg (by omega)], fit_op, fit_nil]
          by_cases h3 : wordI opWs o = []
          · rw [decide_eq_true h3]
            exact rr_o1 t q o a w h0 h1 h2 q1 h3
          · rw [decide_eq_false h3]
            by_cases a0 : a = 0
            · rw [decide_eq_true a0]; exact rr_1y t q o a w h0 h1 h2 q1 h3 a0
            · rw [decide_eq_false a0]; exact rr_1n t q o a w h0 h1 h2 q1 h3 a0
        · by_cases q11 : q = 11
          · rw [show opOf q = opWs by unfold opOf; rw [if_pos (.inr q11)], show argOf q = rtWs by unfold argOf; rw [if_neg (by omega), if_pos q11], fit_op, arg11]
            by_cases h3 : wordI opWs o = []
            · rw [decide_eq_true h3]
              exact rr_o11 t q o a w h0 h1 h2 q11 h3
            · rw [decide_eq_false h3]
              by_cases a1 : 1 ≤ a
              · by_cases a3 : a ≤ 3
                · rw [decide_eq_true ⟨a1, a3⟩]; exact rr_11y t q o a w h0 h1 h2 q11 h3 a1 a3
                · rw [decide_eq_false (fun h => a3 h.2)]; exact rr_11h t q o a w h0 h1 h2 q11 h3 a1 a3
              · rw [decide_eq_false (fun h => a1 h.1)]; exact rr_11l t q o a w h0 h1 h2 q11 h3 a1
          · rw [show opOf q = [] by unfold opOf; rw [if_neg (by omega)], fit_nil]
            by_cases o0 : o = 0
            · rw [decide_eq_true o0]
              by_cases q2 : q = 2
              · rw [show argOf q = clWs by unfold argOf; rw [if_pos q2], arg2]
                by_cases a1 : a = 1
                · rw [decide_eq_true (.inl a1)]; exact rr_2a t q o a w h0 h1 h2 q2 o0 a1
                · by_cases a2 : a = 2
                  · rw [decide_eq_true (.inr a2)]; exact rr_2b t q o a w h0 h1 h2 q2 o0 a2
                  · rw [decide_eq_false (by omega)]; exact rr_2n t q o a w h0 h1 h2 q2 o0 a1 a2
              · rw [show argOf q = [] by unfold argOf; rw [if_neg q2, if_neg q11], fit_nil]
                by_cases a0 : a = 0
                · rw [decide_eq_true a0]; exact rr_y t q o a w h0 h1 h2 q1 q11 q2 o0 a0
                · rw [decide_eq_false a0]; exact rr_n t q o a w h0 h1 h2 q1 q11 q2 o0 a0
            · rw [decide_eq_false o0]
              exact rr_oz t q o a w h0 h1 h2 q1 q11 o0
end Go.Proofs.Ytigdbokfapedcaa
set_option linter.unusedVariables false
set_option linter.unusedSimpArgs false
namespace Go.Proofs.Ytigdbokfapedcaa
open Go.RowKit
theorem inOp_take {l : List Nt} {k : Nat} {y : Nt} (h : l[k]? = some y) (t : Int) : inOp (l.take (k + 1)) t = inN t (inOp (l.take k) t) y := by
  rw [List.take_add_one, h]
  exact inOp_snoc _ _ _
set_option maxRecDepth 100000 in
theorem within_any (A : Option Addr) (m cap : Nat) (l : List Nt) (w : World) (hl : l.length = m) (hN : Notes w A l) (t : Int) (at_ : Nat) (ha : at_ ≤ m) (hm : m ≤ 2000) :
    Calls Try.prog 24 #[.slice A m cap, .int .i64 t, .int .i64 at_] w fun e w' => e = .returned (.int .i64 (inOp (l.take at_) t)) ∧ Only Nil w w' := by
  have HZ := Lib.hid hl
  have HN := Lib.hid hN
  have HA := Lib.hid ha
  have q0 : (at_ : Int) ≤ 2000 := by omega
  clear hl hN ha hm
  go_enter Try.func24, Try.ntmps24
  go_wp2
  go_loopw [7] (fun i wr => ∃ k : Nat, k ≤ at_ ∧ i = .int .i64 ((k : Int) - 1) ∧ Hid (inOp (l.take at_) t = inOp (l.take k) t) ∧ Hid (Drew w wr)) (fun i _ => (intOf i + 1).toNat)
  case atStart => exact ⟨at_, Nat.le_refl _, by go_num, Lib.hid rfl, Lib.hid (Drew.refl _)⟩
  case round =>
    obtain ⟨k, hk, rfl, HE, HD⟩ := hrel
    by_cases h0 : k = 0
    · subst h0
      have HV := Lib.hid (show inOp (l.take at_) t = 0 from HE.out)
      go_wp2
      go_ret
      exact ⟨by rw [HV.out]; rfl, HD.out.only⟩
    · obtain ⟨j, rfl⟩ : ∃ j, k = j + 1 := ⟨k - 1, by omega⟩
      rw [show (((j + 1 : Nat) : Int) - 1) = j by omega]
      obtain ⟨y, hy⟩ : ∃ y, l[j]? = some y := ⟨_, List.getElem?_eq_getElem (by rw [HZ.out]; have := HA.out; omega)⟩
      obtain ⟨b, q, rfl, hb, hat⟩ := (HN.out.only HD.out.only) (by rw [HZ.out]; have := HA.out; omega)
      obtain ⟨d0, d1, d2, d3⟩ := hat j y hy
      have HI := Lib.hid (inOp_take hy t)
      have HA2 := Lib.hid (And.intro hk HA.out)
      have z5 : (j : Int) < m := by have := HA.out; omega
      have z6 : (0 : Int) ≤ j := by omega
      have z8 : IntKind.i64.wrap ((j : Int) - 1) = (j : Int) - 1 := IntWalk.i64_in _ (by omega)
      have z7 : (j : Int).toNat = j := rfl
      clear hat hy hb hk h0
      by_cases ht : y.t = t
      · have ht1 : (y.t == t) = true := by simpa using ht
        by_cases h11 : y.w = 11
        · have h111 : (y.w == 11) = true := by simpa using h11
          have HV := Lib.hid (show inOp (l.take at_) t = 0 by rw [HE.out, HI.out]; unfold inN; rw [if_pos ht, if_neg (by omega), if_pos h11])
          clear ht h11
          go_wp2
          go_ret
          exact ⟨by rw [HV.out]; rfl, HD.out.only⟩
        · have h111 : (y.w == 11) = false := by simpa using h11
          by_cases h1 : y.w = 1
          · have h11' : (y.w == 1) = true := by simpa using h1
            have HV := Lib.hid (show inOp (l.take at_) t = y.o by rw [HE.out, HI.out]; unfold inN; rw [if_pos ht, if_pos h1])
            clear ht h11 h1
            go_wp2
            go_ret
            exact ⟨by rw [HV.out]; rfl, HD.out.only⟩
          · have h11' : (y.w == 1) = false := by simpa using h1
            have HV := Lib.hid (show inOp (l.take at_) t = inOp (l.take j) t by rw [HE.out, HI.out]; unfold inN; rw [if_pos ht, if_neg h1, if_neg h11])
            clear ht h11 h1
            go_wp2
            exact ⟨⟨j, by have := HA2.out; omega, by go_num, HV, Lib.hid HD.out⟩, by simp [intOf]⟩
      · have ht1 : (y.t == t) = false := by simpa using ht
        have HV := Lib.hid (show inOp (l.take at_) t = inOp (l.take j) t by rw [HE.out, HI.out]; unfold inN; rw [if_neg ht])
        clear ht
        go_wp2
        exact ⟨⟨j, by have := HA2.out; omega, by go_num, HV, Lib.hid HD.out⟩, by simp [intOf]⟩
set_option maxRecDepth 100000 in
set_option maxHeartbeats 4000000 in
theorem rfcheck_any (n : Int) (A : Option Addr) (m cap : Nat) (l : List Nt) (w : World) (hl : l.length = m) (hN : Notes w A l) (hm : m ≤ 2000) :
    Calls Try.prog 14 #[.int .i64 n, .slice A m cap] w fun e w' => e = .returned (.tuple #[.int .i64 (chkL n l).1, .int .i64 (chkL n l).2]) ∧ Only Nil w w' := by
  have HZ := Lib.hid hl
  have HN := Lib.hid hN
  have HM := Lib.hid hm
  have q0 : (m : Int) ≤ 2000 := by omega
  clear hl hN hm
  go_enter Try.func14, Try.ntmps14
  go_wp2
  go_loopw [6] (fun i wr => ∃ k : Nat, k ≤ m ∧ i = .int .i64 k ∧ Hid (chkL n l = chkF n (l.take k) (l.drop k)) ∧ Hid (Only Nil w wr)) (fun i _ => m - (intOf i).toNat)
  case atStart => exact ⟨0, Nat.zero_le _, rfl, Lib.hid rfl, Lib.hid (Only.refl _ _)⟩
  case round =>
    obtain ⟨k, hk, rfl, HC, HO⟩ := hrel
    by_cases hlt : k < m
    · obtain ⟨x, hx⟩ : ∃ x, l[k]? = some x := ⟨_, List.getElem?_eq_getElem (by rw [HZ.out]; exact hlt)⟩
      have hd : l.drop k = x :: l.drop (k + 1) := by
        obtain ⟨h1, h2⟩ := List.getElem?_eq_some_iff.1 hx
        rw [List.drop_eq_getElem_cons h1, h2]
      have ht1 : l.take (k + 1) = l.take k ++ [x] := by rw [List.take_add_one, hx]; rfl
      have hln : (l.take k).length = k := by rw [List.length_take, HZ.out]; omega
      have HCC := Lib.hid (show chkL n l = if wrongN n (inOp (l.take k) x.t) x = 0 then chkF n (l.take (k + 1)) (l.drop (k + 1)) else ((k : Int), wrongN n (inOp (l.take k) x.t) x) by rw [HC.out, hd, chkF, hln, ht1])
      have hN2 := HN.out.only HO.out
      obtain ⟨b, q, rfl, hb, hat⟩ := hN2 (by rw [HZ.out]; omega)
      obtain ⟨f0, f1, f2, f3⟩ := hat k x hx
      have HLT := Lib.hid (show k + 1 ≤ m by omega)
      have z5 : (k : Int) < m := by omega
      have z6 : (0 : Int) ≤ k := by omega
      have z7 : (k : Int).toNat = k := rfl
      have HK := Lib.hid hk
      have HX := Lib.hid hx
      clear hd ht1 hln hat hb hlt hk HC
      go_wp2_with fail
      refine (right_ref x.t x.w x.o x.a wr).mono ?_
      rintro e w1 ⟨rfl, hO⟩
      have HO1 := Lib.hid (HO.out.trans hO)
      obtain ⟨b2, q2, hb2, hbl, hat2⟩ := (HN.out.only HO1.out) (by rw [HZ.out]; have := HLT.out; omega)
      injection hb2 with hb2
      injection hb2 with h1 h2
      subst h1 h2
      clear f0 f1 f2 f3
      obtain ⟨f0, f1, f2, f3⟩ := hat2 k x hx
      clear hat2 hbl hO HO
      generalize hop : inOp (l.take k) x.t = op at *
      have HOP := Lib.hid hop
      unfold wrongN at HCC
      by_cases hr : rightN x.t x.w x.o x.a = false
      · rw [hr]
        have HE := Lib.hid (show chkL n l = ((k : Int), 4) by rw [HCC.out, if_pos hr, if_neg (by decide)])
        have HO2 := HO1
        clear hr hop hx
        go_wp2
        go_ret2
        exact ⟨by rw [HE.out]; rfl, HO2.out⟩
      · have hr' : rightN x.t x.w x.o x.a = true := by simpa using hr
        rw [hr']
        by_cases hn : n ≤ x.t
        · have HE := Lib.hid (show chkL n l = ((k : Int), 2) by rw [HCC.out, if_neg hr, if_pos hn, if_neg (by decide)])
          have HO2 := HO1
          have hn1 : decide (x.t ≥ n) = true := by simpa using hn
          clear hr hr' hop hx
          go_wp2
          go_ret2
          exact ⟨by rw [HE.out]; rfl, HO2.out⟩
        · have hn1 : decide (x.t ≥ n) = false := by simpa using hn
          have HCD := Lib.hid (show chkL n l = if (if (x.w = 1 ∧ op ≠ 0) ∨ (x.w ≠ 1 ∧ op = 0) ∨ (x.w = 11 ∧ x.o ≠ op) then (8 : Int) else 0) = 0 then chkF n (l.take (k + 1)) (l.drop (k + 1)) else ((k : Int), if (x.w = 1 ∧ op ≠ 0) ∨ (x.w ≠ 1 ∧ op = 0) ∨ (x.w = 11 ∧ x.o ≠ op) then (8 : Int) else 0) by rw [HCC.out, if_neg hr, if_neg hn])
          clear hr hr' hop hx HCC
          go_wp2_with fail
          clear f0 f1 f2 f3
          refine (within_any _ m cap l w1 HZ.out (HN.out.only HO1.out) x.t k HK.out (by omega)).mono ?_
          rw [HOP.out]
          rintro e w2 ⟨rfl, hO⟩
          have HO2 := Lib.hid (HO1.out.trans hO)
          obtain ⟨b3, q3, hb3, hbl, hat3⟩ := (HN.out.only HO2.out) (by rw [HZ.out]; have := HLT.out; omega)
          injection hb3 with hb3
          injection hb3 with h1 h2
          subst h1 h2
          obtain ⟨f0, f1, f2, f3⟩ := hat3 k x HX.out
          clear hat3 hbl hO HO1
          by_cases h1 : x.w = 1
          · have b1 : (x.w == 1) = true := by simpa using h1
            have b2 : (x.w != 1) = false := by simpa using h1
            have b3 : (x.w == 11) = false := by simp [h1]
            by_cases h0 : op = 0
            · have b4 : (op != 0) = false := by simpa using h0
              have HCI := Lib.hid (show chkL n l = chkF n (l.take (k + 1)) (l.drop (k + 1)) by rw [HCD.out, if_neg (show ¬ ((x.w = 1 ∧ op ≠ 0) ∨ (x.w ≠ 1 ∧ op = 0) ∨ (x.w = 11 ∧ x.o ≠ op)) by omega), if_pos rfl])
              clear h1 h0 HCD
              go_wp2
              exact ⟨⟨k + 1, HLT.out, by go_num, HCI, HO2⟩, by have := HLT.out; simp [intOf]; omega⟩
            · have b4 : (op != 0) = true := by simpa using h0
              have HE := Lib.hid (show chkL n l = ((k : Int), 8) by rw [HCD.out, if_pos (show (x.w = 1 ∧ op ≠ 0) ∨ (x.w ≠ 1 ∧ op = 0) ∨ (x.w = 11 ∧ x.o ≠ op) by omega), if_neg (by decide)])
              clear h1 h0 HCD
              go_wp2
              go_ret2
              exact ⟨by rw [HE.out]; rfl, HO2.out⟩
          · have b1 : (x.w == 1) = false := by simpa using h1
            have b2 : (x.w != 1) = true := by simpa using h1
            by_cases h0 : op = 0
            · have b4 : (op == 0) = true := by simpa using h0
              have HE := Lib.hid (show chkL n l = ((k : Int), 8) by rw [HCD.out, if_pos (show (x.w = 1 ∧ op ≠ 0) ∨ (x.w ≠ 1 ∧ op = 0) ∨ (x.w = 11 ∧ x.o ≠ op) by omega), if_neg (by decide)])
              clear h1 h0 HCD
              go_wp2
              go_ret2
              exact ⟨by rw [HE.out]; rfl, HO2.out⟩
            · have b4 : (op == 0) = false := by simpa using h0
              by_cases h11 : x.w = 11
              · have b5 : (x.w == 11) = true := by simpa using h11
                by_cases ho : x.o = op
                · have b6 : (x.o != op) = false := by simpa using ho
                  have HCI := Lib.hid (show chkL n l = chkF n (l.take (k + 1)) (l.drop (k + 1)) by rw [HCD.out, if_neg (show ¬ ((x.w = 1 ∧ op ≠ 0) ∨ (x.w ≠ 1 ∧ op = 0) ∨ (x.w = 11 ∧ x.o ≠ op)) by omega), if_pos rfl])
                  clear h1 h0 HCD h11 ho
                  go_wp2
                  exact ⟨⟨k + 1, HLT.out, by go_num, HCI, HO2⟩, by have := HLT.out; simp [intOf]; omega⟩
                · have b6 : (x.o != op) = true := by simpa using ho
                  have HE := Lib.hid (show chkL n l = ((k : Int), 8) by rw [HCD.out, if_pos (show (x.w = 1 ∧ op ≠ 0) ∨ (x.w ≠ 1 ∧ op = 0) ∨ (x.w = 11 ∧ x.o ≠ op) by omega), if_neg (by decide)])
                  clear h1 h0 HCD h11 ho
                  go_wp2
                  go_ret2
                  exact ⟨by rw [HE.out]; rfl, HO2.out⟩
              · have b5 : (x.w == 11) = false := by simpa using h11
                have HCI := Lib.hid (show chkL n l = chkF n (l.take (k + 1)) (l.drop (k + 1)) by rw [HCD.out, if_neg (show ¬ ((x.w = 1 ∧ op ≠ 0) ∨ (x.w ≠ 1 ∧ op = 0) ∨ (x.w = 11 ∧ x.o ≠ op)) by omega), if_pos rfl])
                clear h1 h0 HCD h11
                go_wp2
                exact ⟨⟨k + 1, HLT.out, by go_num, HCI, HO2⟩, by have := HLT.out; simp [intOf]; omega⟩
    · obtain rfl : k = m := by omega
      have HE := Lib.hid (show chkL n l = (0, 0) by rw [HC.out, List.drop_of_length_le (by rw [HZ.out]; exact Nat.le_refl _)]; rfl)
      have HO2 := HO
      clear hlt hk HO
      go_wp2
      go_ret2
      exact ⟨by rw [HE.out]; rfl, HO2.out⟩
end Go.Proofs.Ytigdbokfapedcaa
set_option linter.unusedVariables false
set_option linter.unusedSimpArgs false
namespace Go.Proofs.Ytigdbokfapedcaa
open Go.RowKit
set_option maxRecDepth 100000 in
theorem walk_recChecks (a0 : Int) (a1 : Option Addr) (len1 cap1 : Nat) (W : World) (w0 : (Lit.int .i64 a0).wf = true) (w1 : IsNotesW W a1 len1) :
    Calls Try.prog 4 #[.int .i64 a0, .slice a1 len1 cap1] W fun e w' => e = .returned (.bool true) ∧ Only Nil W w' := by
  obtain ⟨l, hl, hN, hwf⟩ := w1
  by_cases h200 : 200 < len1
  · have q1 : (200 : Int) < len1 := by omega
    clear h200 hN hl hwf w0
    go_enter Try.func4, Try.ntmps4
    go_wp2_with fail
    refine (awake_any _).mono ?_
    rintro e w2 ⟨rfl, hO⟩
    go_wp2
    go_ret
    exact ⟨rfl, hO⟩
  · have q1 : ¬ (200 : Int) < len1 := by omega
    have H1 := Lib.hid (rcheck_any a0 a1 len1 cap1 l W hl hN hwf (by omega))
    have H2 := Lib.hid (fun W2 (ho : Only Nil W W2) => rfcheck_any a0 a1 len1 cap1 l W2 hl (hN.only ho) (by omega))
    generalize (chkL a0 l).1 = x at *
    generalize (chkL a0 l).2 = y at *
    clear h200 hN hl hwf w0
    go_enter Try.func4, Try.ntmps4
    go_wp2_with fail
    refine H1.out.mono ?_
    rintro e w2 ⟨rfl, hO⟩
    have HO2 := Lib.hid hO
    clear hO
    go_wp2_with fail
    refine (H2.out _ HO2.out).mono ?_
    rintro e w3 ⟨rfl, hO⟩
    have HO3 := Lib.hid (HO2.out.trans hO)
    clear hO
    go_wp2_with fail
    refine (awake_any _).mono ?_
    rintro e w4 ⟨rfl, hO⟩
    have HO4 := Lib.hid (HO3.out.trans hO)
    go_wp2
    go_ret
    exact ⟨rfl, HO4.out⟩
end Go.Proofs.Ytigdbokfapedcaa
set_option linter.unusedVariables false
set_option linter.unusedSimpArgs false
namespace Go.Proofs.Ytigdbokfapedcaa
open Go.RowKit Go.ChangeShapes Go.WideShapes Go.Deep
section
variable {H : Type} {enc : TypeId × Value → H} {w : World} {base : Nat} {spare : Nat → Bool} {held : Bool}
set_option maxRecDepth 100000 in
theorem open_acall {r : Reach} {b0 : Nat} {v : Value} {d : DataW H} {p : List MemPlace} (hv : Value.okWide Try.prog w r b0 38 v) (h : DataW.Trod enc Try.prog w base spare held 38 v d p) :
    ∃ (f0 f1 f2 f3 f4 : Int) (f5 : Value), v = .agg #[.int .i64 f0, .int .i64 f1, .int .i64 f2, .int .i64 f3, .int .i64 f4, f5] ∧ True := by
  obtain ⟨cs, rfl, hsz⟩ := okWide_struct Try.underlying38 hv
  have hC : Try.prog.cellsOf 38 = 6 := by kernel_rfl
  obtain ⟨l⟩ := cs
  match l, hsz.trans hC with
  | [v0, v1, v2, v3, v4, v5], _ =>
    obtain ⟨fuel, hf⟩ := h
    obtain ⟨xs, n, _, _, _, hl, hg⟩ := DataW.trod_struct Try.underlying38 hf
    have c1 : Try.prog.cellsOf 3 = 1 := by kernel_rfl
    have hx : ∀ i, i < 6 → ∃ y, xs[i]? = some y := fun i hi => ⟨_, List.getElem?_eq_getElem (by rw [hl]; exact hi)⟩
    obtain ⟨y0, e0⟩ := hx 0 (by decide)
    obtain ⟨y1, e1⟩ := hx 1 (by decide)
    obtain ⟨y2, e2⟩ := hx 2 (by decide)
    obtain ⟨y3, e3⟩ := hx 3 (by decide)
    obtain ⟨y4, e4⟩ := hx 4 (by decide)
    obtain ⟨a0, rfl, _⟩ := field_int (v := v0) Try.underlying3 (by show List.take (Try.prog.cellsOf 3) _ = _; rw [c1]; rfl) e0 (hg 0 _ rfl)
    obtain ⟨a1, rfl, _⟩ := field_int (v := v1) Try.underlying3 (by show List.take (Try.prog.cellsOf 3) _ = _; rw [c1]; rfl) e1 (hg 1 _ rfl)
    obtain ⟨a2, rfl, _⟩ := field_int (v := v2) Try.underlying3 (by show List.take (Try.prog.cellsOf 3) _ = _; rw [c1]; rfl) e2 (hg 2 _ rfl)
    obtain ⟨a3, rfl, _⟩ := field_int (v := v3) Try.underlying3 (by show List.take (Try.prog.cellsOf 3) _ = _; rw [c1]; rfl) e3 (hg 3 _ rfl)
    obtain ⟨a4, rfl, _⟩ := field_int (v := v4) Try.underlying3 (by show List.take (Try.prog.cellsOf 3) _ = _; rw [c1]; rfl) e4 (hg 4 _ rfl)
    exact ⟨a0, a1, a2, a3, a4, v5, rfl, trivial⟩
end
end Go.Proofs.Ytigdbokfapedcaa
