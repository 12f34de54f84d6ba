import Derived.Test.YtigdbokfapedcaaChecked
import Derived.Deep.Cut
import Derived.Test.YtigdbokfapedcaaG1
import Derived.Test.YtigdbokfapedcaaG9
import Derived.Test.YtigdbokfapedcaaG6
set_option linter.unusedVariables false
set_option linter.unusedSimpArgs false
namespace Go.Proofs.Ytigdbokfapedcaa
open Go.RowKit
def aheadB (c d : Cal) : Bool := decide (0 ≤ c.g) && decide (c.g < d.f)
def overB (c d : Cal) : Bool := !aheadB c d && !aheadB d c
set_option maxRecDepth 100000 in
theorem ahead_any (c d : Cal) (p q : Value) (w : World) : Calls Try.prog 25 #[.agg #[.int .i64 c.t, .int .i64 c.o, .int .i64 c.f, .int .i64 c.g, .int .i64 c.r, p], .agg #[.int .i64 d.t, .int .i64 d.o, .int .i64 d.f, .int .i64 d.g, .int .i64 d.r, q]] w fun e w' => e = .returned (.bool (aheadB c d)) ∧ Only Nil w w' := by
  unfold aheadB
  by_cases h : 0 ≤ c.g
  · have hd : decide (c.g ≥ 0) = true := by simpa using h
    rw [decide_eq_true h, Bool.true_and]
    have e1 := (Only.refl Nil w).alloc (.cells #[.int .i64 c.t, .int .i64 c.o, .int .i64 c.f, .int .i64 c.g, .int .i64 c.r, p] 38)
    have HO := Lib.hid (e1.alloc (.cells #[.int .i64 d.t, .int .i64 d.o, .int .i64 d.f, .int .i64 d.g, .int .i64 d.r, q] 38))
    have HA := Lib.hid ((Row.new w 38 #[.int .i64 c.t, .int .i64 c.o, .int .i64 c.f, .int .i64 c.g, .int .i64 c.r, p]).alloc (.cells #[.int .i64 d.t, .int .i64 d.o, .int .i64 d.f, .int .i64 d.g, .int .i64 d.r, q] 38))
    have HB := Lib.hid (Row.new2 w (.cells #[.int .i64 c.t, .int .i64 c.o, .int .i64 c.f, .int .i64 c.g, .int .i64 c.r, p] 38) 38 #[.int .i64 d.t, .int .i64 d.o, .int .i64 d.f, .int .i64 d.g, .int .i64 d.r, q])
    clear e1
    go_enter Try.func25, Try.ntmps25
    go_upto_region 1 with (fail)
    generalize (w.alloc (.cells #[.int .i64 c.t, .int .i64 c.o, .int .i64 c.f, .int .i64 c.g, .int .i64 c.r, p] 38)).alloc (.cells #[.int .i64 d.t, .int .i64 d.o, .int .i64 d.f, .int .i64 d.g, .int .i64 d.r, q] 38) = w1 at *
    generalize w.heap.size = B at *
    have a3 : w1.cell? ⟨B, 3, none⟩ = some (.int .i64 c.g) := HA.out.cell_ (i := 3) rfl
    have b2 : w1.cell? ⟨B + 1, 2, none⟩ = some (.int .i64 d.f) := HB.out.cell_ (i := 2) rfl
    go_wp2
    go_ret
    exact ⟨rfl, HO.out⟩
  · have hd : decide (c.g ≥ 0) = false := by simpa using h
    rw [decide_eq_false h, Bool.false_and]
    have e1 := (Only.refl Nil w).alloc (.cells #[.int .i64 c.t, .int .i64 c.o, .int .i64 c.f, .int .i64 c.g, .int .i64 c.r, p] 38)
    have HO := Lib.hid (e1.alloc (.cells #[.int .i64 d.t, .int .i64 d.o, .int .i64 d.f, .int .i64 d.g, .int .i64 d.r, q] 38))
    have HA := Lib.hid ((Row.new w 38 #[.int .i64 c.t, .int .i64 c.o, .int .i64 c.f, .int .i64 c.g, .int .i64 c.r, p]).alloc (.cells #[.int .i64 d.t, .int .i64 d.o, .int .i64 d.f, .int .i64 d.g, .int .i64 d.r, q] 38))
    have HB := Lib.hid (Row.new2 w (.cells #[.int .i64 c.t, .int .i64 c.o, .int .i64 c.f, .int .i64 c.g, .int .i64 c.r, p] 38) 38 #[.int .i64 d.t, .int .i64 d.o, .int .i64 d.f, .int .i64 d.g, .int .i64 d.r, q])
    clear e1
    go_enter Try.func25, Try.ntmps25
    go_upto_region 1 with (fail)
    generalize (w.alloc (.cells #[.int .i64 c.t, .int .i64 c.o, .int .i64 c.f, .int .i64 c.g, .int .i64 c.r, p] 38)).alloc (.cells #[.int .i64 d.t, .int .i64 d.o, .int .i64 d.f, .int .i64 d.g, .int .i64 d.r, q] 38) = w1 at *
    generalize w.heap.size = B at *
    have a3 : w1.cell? ⟨B, 3, none⟩ = some (.int .i64 c.g) := HA.out.cell_ (i := 3) rfl
    go_wp2
    go_ret
    exact ⟨rfl, HO.out⟩
set_option maxRecDepth 100000 in
set_option maxHeartbeats 1000000 in
theorem overlap_any (c d : Cal) (p q : Value) (w : World) : Calls Try.prog 15 #[.agg #[.int .i64 c.t, .int .i64 c.o, .int .i64 c.f, .int .i64 c.g, .int .i64 c.r, p], .agg #[.int .i64 d.t, .int .i64 d.o, .int .i64 d.f, .int .i64 d.g, .int .i64 d.r, q]] w fun e w' => e = .returned (.bool (overB c d)) ∧ Only Nil w w' := by
  unfold overB
  have H1 := Lib.hid (fun W => ahead_any c d p q W)
  have H2 := Lib.hid (fun W => ahead_any d c q p W)
  generalize aheadB c d = x at *
  generalize aheadB d c = y at *
  have e1 := (Only.refl Nil w).alloc (.cells #[.int .i64 c.t, .int .i64 c.o, .int .i64 c.f, .int .i64 c.g, .int .i64 c.r, p] 38)
  have HO := Lib.hid (e1.alloc (.cells #[.int .i64 d.t, .int .i64 d.o, .int .i64 d.f, .int .i64 d.g, .int .i64 d.r, q] 38))
  have HA := Lib.hid ((Row.new w 38 #[.int .i64 c.t, .int .i64 c.o, .int .i64 c.f, .int .i64 c.g, .int .i64 c.r, p]).alloc (.cells #[.int .i64 d.t, .int .i64 d.o, .int .i64 d.f, .int .i64 d.g, .int .i64 d.r, q] 38))
  have HB := Lib.hid (Row.new2 w (.cells #[.int .i64 c.t, .int .i64 c.o, .int .i64 c.f, .int .i64 c.g, .int .i64 c.r, p] 38) 38 #[.int .i64 d.t, .int .i64 d.o, .int .i64 d.f, .int .i64 d.g, .int .i64 d.r, q])
  clear e1
  go_enter Try.func15, Try.ntmps15
  go_upto_region 1 with (fail)
  generalize (w.alloc (.cells #[.int .i64 c.t, .int .i64 c.o, .int .i64 c.f, .int .i64 c.g, .int .i64 c.r, p] 38)).alloc (.cells #[.int .i64 d.t, .int .i64 d.o, .int .i64 d.f, .int .i64 d.g, .int .i64 d.r, q] 38) = w1 at *
  generalize w.heap.size = B at *
  have a0 : w1.cell? ⟨B, 0, none⟩ = some (.int .i64 c.t) := HA.out.cell_ (i := 0) rfl
  have a1 : w1.cell? ⟨B, 1, none⟩ = some (.int .i64 c.o) := HA.out.cell_ (i := 1) rfl
  have a2 : w1.cell? ⟨B, 2, none⟩ = some (.int .i64 c.f) := HA.out.cell_ (i := 2) rfl
  have a3 : w1.cell? ⟨B, 3, none⟩ = some (.int .i64 c.g) := HA.out.cell_ (i := 3) rfl
  have a4 : w1.cell? ⟨B, 4, none⟩ = some (.int .i64 c.r) := HA.out.cell_ (i := 4) rfl
  have a5 : w1.cell? ⟨B, 5, none⟩ = some p := HA.out.cell_ (i := 5) rfl
  have b0 : w1.cell? ⟨B + 1, 0, none⟩ = some (.int .i64 d.t) := HB.out.cell_ (i := 0) rfl
  have b1 : w1.cell? ⟨B + 1, 1, none⟩ = some (.int .i64 d.o) := HB.out.cell_ (i := 1) rfl
  have b2 : w1.cell? ⟨B + 1, 2, none⟩ = some (.int .i64 d.f) := HB.out.cell_ (i := 2) rfl
  have b3 : w1.cell? ⟨B + 1, 3, none⟩ = some (.int .i64 d.g) := HB.out.cell_ (i := 3) rfl
  have b4 : w1.cell? ⟨B + 1, 4, none⟩ = some (.int .i64 d.r) := HB.out.cell_ (i := 4) rfl
  have b5 : w1.cell? ⟨B + 1, 5, none⟩ = some q := HB.out.cell_ (i := 5) rfl
  go_wp2_with fail
  clear a0 a1 a2 a3 a4 a5 b0 b1 b2 b3 b4 b5
  refine (H1.out w1).mono ?_
  rintro e w2 ⟨rfl, hO⟩
  have HO2 := Lib.hid (HO.out.trans hO)
  have HA2 := Lib.hid (HA.out.only hO id)
  have HB2 := Lib.hid (HB.out.only hO id)
  clear hO HA HB HO
  cases x
  · skip
    have a0 : w2.cell? ⟨B, 0, none⟩ = some (.int .i64 c.t) := HA2.out.cell_ (i := 0) rfl
    have a1 : w2.cell? ⟨B, 1, none⟩ = some (.int .i64 c.o) := HA2.out.cell_ (i := 1) rfl
    have a2 : w2.cell? ⟨B, 2, none⟩ = some (.int .i64 c.f) := HA2.out.cell_ (i := 2) rfl
    have a3 : w2.cell? ⟨B, 3, none⟩ = some (.int .i64 c.g) := HA2.out.cell_ (i := 3) rfl
    have a4 : w2.cell? ⟨B, 4, none⟩ = some (.int .i64 c.r) := HA2.out.cell_ (i := 4) rfl
    have a5 : w2.cell? ⟨B, 5, none⟩ = some p := HA2.out.cell_ (i := 5) rfl
    have b0 : w2.cell? ⟨B + 1, 0, none⟩ = some (.int .i64 d.t) := HB2.out.cell_ (i := 0) rfl
    have b1 : w2.cell? ⟨B + 1, 1, none⟩ = some (.int .i64 d.o) := HB2.out.cell_ (i := 1) rfl
    have b2 : w2.cell? ⟨B + 1, 2, none⟩ = some (.int .i64 d.f) := HB2.out.cell_ (i := 2) rfl
    have b3 : w2.cell? ⟨B + 1, 3, none⟩ = some (.int .i64 d.g) := HB2.out.cell_ (i := 3) rfl
    have b4 : w2.cell? ⟨B + 1, 4, none⟩ = some (.int .i64 d.r) := HB2.out.cell_ (i := 4) rfl
    have b5 : w2.cell? ⟨B + 1, 5, none⟩ = some q := HB2.out.cell_ (i := 5) rfl
    go_wp2_with fail
    clear a0 a1 a2 a3 a4 a5 b0 b1 b2 b3 b4 b5
    refine (H2.out w2).mono ?_
    rintro e w3 ⟨rfl, hO⟩
    have HO3 := Lib.hid (HO2.out.trans hO)
    go_wp2
    go_ret
    exact ⟨rfl, HO3.out⟩
  · go_wp2
    go_ret
    exact ⟨rfl, HO2.out⟩
end Go.Proofs.Ytigdbokfapedcaa
set_option linter.unusedVariables false
set_option linter.unusedSimpArgs false
namespace Go.Proofs.Ytigdbokfapedcaa
open Go.RowKit
theorem roverlap_any (c d : Cal) (p q : Value) (w : World) : Calls Try.prog 16 #[.agg #[.int .i64 c.t, .int .i64 c.o, .int .i64 c.f, .int .i64 c.g, .int .i64 c.r, p], .agg #[.int .i64 d.t, .int .i64 d.o, .int .i64 d.f, .int .i64 d.g, .int .i64 d.r, q]] w fun e w' => e = .returned (.bool (overB c d)) ∧ Only Nil w w' := by
  unfold overB aheadB
  by_cases h1 : 0 ≤ c.g
  · have k1 : decide (c.g ≥ 0) = true := by simpa using h1
    by_cases h2 : c.g < d.f
    · have k2 : decide (c.g < d.f) = true := by simpa using h2
      rw [decide_eq_true h1, k2]
      simp only [Bool.and_self, Bool.not_true, Bool.false_and]
      have e1 := (Only.refl Nil w).alloc (.cells #[.int .i64 c.t, .int .i64 c.o, .int .i64 c.f, .int .i64 c.g, .int .i64 c.r, p] 38)
      have HO := Lib.hid (e1.alloc (.cells #[.int .i64 d.t, .int .i64 d.o, .int .i64 d.f, .int .i64 d.g, .int .i64 d.r, q] 38))
      have HA := Lib.hid ((Row.new w 38 #[.int .i64 c.t, .int .i64 c.o, .int .i64 c.f, .int .i64 c.g, .int .i64 c.r, p]).alloc (.cells #[.int .i64 d.t, .int .i64 d.o, .int .i64 d.f, .int .i64 d.g, .int .i64 d.r, q] 38))
      have HB := Lib.hid (Row.new2 w (.cells #[.int .i64 c.t, .int .i64 c.o, .int .i64 c.f, .int .i64 c.g, .int .i64 c.r, p] 38) 38 #[.int .i64 d.t, .int .i64 d.o, .int .i64 d.f, .int .i64 d.g, .int .i64 d.r, q])
      clear e1
      go_enter Try.func16, Try.ntmps16
      go_upto_region 1 with (fail)
      generalize (w.alloc (.cells #[.int .i64 c.t, .int .i64 c.o, .int .i64 c.f, .int .i64 c.g, .int .i64 c.r, p] 38)).alloc (.cells #[.int .i64 d.t, .int .i64 d.o, .int .i64 d.f, .int .i64 d.g, .int .i64 d.r, q] 38) = w1 at *
      generalize w.heap.size = B at *
      have a3 : w1.cell? ⟨B, 3, none⟩ = some (.int .i64 c.g) := HA.out.cell_ (i := 3) rfl
      have a2 : w1.cell? ⟨B, 2, none⟩ = some (.int .i64 c.f) := HA.out.cell_ (i := 2) rfl
      have b2 : w1.cell? ⟨B + 1, 2, none⟩ = some (.int .i64 d.f) := HB.out.cell_ (i := 2) rfl
      have b3 : w1.cell? ⟨B + 1, 3, none⟩ = some (.int .i64 d.g) := HB.out.cell_ (i := 3) rfl
      go_wp2
      go_ret
      exact ⟨rfl, HO.out⟩
    · have k2 : decide (c.g < d.f) = false := by simpa using h2
      rw [k2, Bool.and_false, Bool.not_false, Bool.true_and]
      by_cases h3 : d.g < 0
      · have k3 : decide (d.g < 0) = true := by simpa using h3
        rw [decide_eq_false (show ¬ 0 ≤ d.g by omega), Bool.false_and, Bool.not_false]
        have e1 := (Only.refl Nil w).alloc (.cells #[.int .i64 c.t, .int .i64 c.o, .int .i64 c.f, .int .i64 c.g, .int .i64 c.r, p] 38)
        have HO := Lib.hid (e1.alloc (.cells #[.int .i64 d.t, .int .i64 d.o, .int .i64 d.f, .int .i64 d.g, .int .i64 d.r, q] 38))
        have HA := Lib.hid ((Row.new w 38 #[.int .i64 c.t, .int .i64 c.o, .int .i64 c.f, .int .i64 c.g, .int .i64 c.r, p]).alloc (.cells #[.int .i64 d.t, .int .i64 d.o, .int .i64 d.f, .int .i64 d.g, .int .i64 d.r, q] 38))
        have HB := Lib.hid (Row.new2 w (.cells #[.int .i64 c.t, .int .i64 c.o, .int .i64 c.f, .int .i64 c.g, .int .i64 c.r, p] 38) 38 #[.int .i64 d.t, .int .i64 d.o, .int .i64 d.f, .int .i64 d.g, .int .i64 d.r, q])
        clear e1
        go_enter Try.func16, Try.ntmps16
        go_upto_region 1 with (fail)
        generalize (w.alloc (.cells #[.int .i64 c.t, .int .i64 c.o, .int .i64 c.f, .int .i64 c.g, .int .i64 c.r, p] 38)).alloc (.cells #[.int .i64 d.t, .int .i64 d.o, .int .i64 d.f, .int .i64 d.g, .int .i64 d.r, q] 38) = w1 at *
        generalize w.heap.size = B at *
        have a3 : w1.cell? ⟨B, 3, none⟩ = some (.int .i64 c.g) := HA.out.cell_ (i := 3) rfl
        have a2 : w1.cell? ⟨B, 2, none⟩ = some (.int .i64 c.f) := HA.out.cell_ (i := 2) rfl
        have b2 : w1.cell? ⟨B + 1, 2, none⟩ = some (.int .i64 d.f) := HB.out.cell_ (i := 2) rfl
        have b3 : w1.cell? ⟨B + 1, 3, none⟩ = some (.int .i64 d.g) := HB.out.cell_ (i := 3) rfl
        go_wp2
        go_ret
        exact ⟨rfl, HO.out⟩
      · have k3 : decide (d.g < 0) = false := by simpa using h3
        rw [decide_eq_true (show 0 ≤ d.g by omega), Bool.true_and, show (!decide (d.g < c.f)) = decide (d.g ≥ c.f) by rw [← decide_not]; exact decide_eq_decide.2 (by omega)]
        have e1 := (Only.refl Nil w).alloc (.cells #[.int .i64 c.t, .int .i64 c.o, .int .i64 c.f, .int .i64 c.g, .int .i64 c.r, p] 38)
        have HO := Lib.hid (e1.alloc (.cells #[.int .i64 d.t, .int .i64 d.o, .int .i64 d.f, .int .i64 d.g, .int .i64 d.r, q] 38))
        have HA := Lib.hid ((Row.new w 38 #[.int .i64 c.t, .int .i64 c.o, .int .i64 c.f, .int .i64 c.g, .int .i64 c.r, p]).alloc (.cells #[.int .i64 d.t, .int .i64 d.o, .int .i64 d.f, .int .i64 d.g, .int .i64 d.r, q] 38))
        have HB := Lib.hid (Row.new2 w (.cells #[.int .i64 c.t, .int .i64 c.o, .int .i64 c.f, .int .i64 c.g, .int .i64 c.r, p] 38) 38 #[.int .i64 d.t, .int .i64 d.o, .int .i64 d.f, .int .i64 d.g, .int .i64 d.r, q])
        clear e1
        go_enter Try.func16, Try.ntmps16
        go_upto_region 1 with (fail)
        generalize (w.alloc (.cells #[.int .i64 c.t, .int .i64 c.o, .int .i64 c.f, .int .i64 c.g, .int .i64 c.r, p] 38)).alloc (.cells #[.int .i64 d.t, .int .i64 d.o, .int .i64 d.f, .int .i64 d.g, .int .i64 d.r, q] 38) = w1 at *
        generalize w.heap.size = B at *
        have a3 : w1.cell? ⟨B, 3, none⟩ = some (.int .i64 c.g) := HA.out.cell_ (i := 3) rfl
        have a2 : w1.cell? ⟨B, 2, none⟩ = some (.int .i64 c.f) := HA.out.cell_ (i := 2) rfl
        have b2 : w1.cell? ⟨B + 1, 2, none⟩ = some (.int .i64 d.f) := HB.out.cell_ (i := 2) rfl
        have b3 : w1.cell? ⟨B + 1, 3, none⟩ = some (.int .i64 d.g) := HB.out.cell_ (i := 3) rfl
        go_wp2
        go_ret
        exact ⟨rfl, HO.out⟩
  · have k1 : decide (c.g ≥ 0) = false := by simpa using h1
    rw [decide_eq_false h1, Bool.false_and, Bool.not_false, Bool.true_and]
    by_cases h3 : d.g < 0
    · have k3 : decide (d.g < 0) = true := by simpa using h3
      rw [decide_eq_false (show ¬ 0 ≤ d.g by omega), Bool.false_and, Bool.not_false]
      have e1 := (Only.refl Nil w).alloc (.cells #[.int .i64 c.t, .int .i64 c.o, .int .i64 c.f, .int .i64 c.g, .int .i64 c.r, p] 38)
      have HO := Lib.hid (e1.alloc (.cells #[.int .i64 d.t, .int .i64 d.o, .int .i64 d.f, .int .i64 d.g, .int .i64 d.r, q] 38))
      have HA := Lib.hid ((Row.new w 38 #[.int .i64 c.t, .int .i64 c.o, .int .i64 c.f, .int .i64 c.g, .int .i64 c.r, p]).alloc (.cells #[.int .i64 d.t, .int .i64 d.o, .int .i64 d.f, .int .i64 d.g, .int .i64 d.r, q] 38))
      have HB := Lib.hid (Row.new2 w (.cells #[.int .i64 c.t, .int .i64 c.o, .int .i64 c.f, .int .i64 c.g, .int .i64 c.r, p] 38) 38 #[.int .i64 d.t, .int .i64 d.o, .int .i64 d.f, .int .i64 d.g, .int .i64 d.r, q])
      clear e1
      go_enter Try.func16, Try.ntmps16
      go_upto_region 1 with (fail)
      generalize (w.alloc (.cells #[.int .i64 c.t, .int .i64 c.o, .int .i64 c.f, .int .i64 c.g, .int .i64 c.r, p] 38)).alloc (.cells #[.int .i64 d.t, .int .i64 d.o, .int .i64 d.f, .int .i64 d.g, .int .i64 d.r, q] 38) = w1 at *
      generalize w.heap.size = B at *
      have a3 : w1.cell? ⟨B, 3, none⟩ = some (.int .i64 c.g) := HA.out.cell_ (i := 3) rfl
      have a2 : w1.cell? ⟨B, 2, none⟩ = some (.int .i64 c.f) := HA.out.cell_ (i := 2) rfl
      have b2 : w1.cell? ⟨B + 1, 2, none⟩ = some (.int .i64 d.f) := HB.out.cell_ (i := 2) rfl
      have b3 : w1.cell? ⟨B + 1, 3, none⟩ = some (.int .i64 d.g) := HB.out.cell_ (i := 3) rfl
      go_wp2
      go_ret
      exact ⟨rfl, HO.out⟩
    · have k3 : decide (d.g < 0) = false := by simpa using h3
      rw [decide_eq_true (show 0 ≤ d.g by omega), Bool.true_and, show (!decide (d.g < c.f)) = decide (d.g ≥ c.f) by rw [← decide_not]; exact decide_eq_decide.2 (by omega)]
      have e1 := (Only.refl Nil w).alloc (.cells #[.int .i64 c.t, .int .i64 c.o, .int .i64 c.f, .int .i64 c.g, .int .i64 c.r, p] 38)
      have HO := Lib.hid (e1.alloc (.cells #[.int .i64 d.t, .int .i64 d.o, .int .i64 d.f, .int .i64 d.g, .int .i64 d.r, q] 38))
      have HA := Lib.hid ((Row.new w 38 #[.int .i64 c.t, .int .i64 c.o, .int .i64 c.f, .int .i64 c.g, .int .i64 c.r, p]).alloc (.cells #[.int .i64 d.t, .int .i64 d.o, .int .i64 d.f, .int .i64 d.g, .int .i64 d.r, q] 38))
      have HB := Lib.hid (Row.new2 w (.cells #[.int .i64 c.t, .int .i64 c.o, .int .i64 c.f, .int .i64 c.g, .int .i64 c.r, p] 38) 38 #[.int .i64 d.t, .int .i64 d.o, .int .i64 d.f, .int .i64 d.g, .int .i64 d.r, q])
      clear e1
      go_enter Try.func16, Try.ntmps16
      go_upto_region 1 with (fail)
      generalize (w.alloc (.cells #[.int .i64 c.t, .int .i64 c.o, .int .i64 c.f, .int .i64 c.g, .int .i64 c.r, p] 38)).alloc (.cells #[.int .i64 d.t, .int .i64 d.o, .int .i64 d.f, .int .i64 d.g, .int .i64 d.r, q] 38) = w1 at *
      generalize w.heap.size = B at *
      have a3 : w1.cell? ⟨B, 3, none⟩ = some (.int .i64 c.g) := HA.out.cell_ (i := 3) rfl
      have a2 : w1.cell? ⟨B, 2, none⟩ = some (.int .i64 c.f) := HA.out.cell_ (i := 2) rfl
      have b2 : w1.cell? ⟨B + 1, 2, none⟩ = some (.int .i64 d.f) := HB.out.cell_ (i := 2) rfl
      have b3 : w1.cell? ⟨B + 1, 3, none⟩ = some (.int .i64 d.g) := HB.out.cell_ (i := 3) rfl
      go_wp2
      go_ret
      exact ⟨rfl, HO.out⟩
theorem over_sym (c d : Cal) : overB d c = overB c d := by unfold overB; exact Bool.and_comm _ _
set_option maxRecDepth 100000 in
set_option maxHeartbeats 4000000 in
theorem walk_recOverlaps (f0 f1 f2 f3 f4 : Int) (p : Value) (g0 g1 g2 g3 g4 : Int) (q : Value) (w : World) (_ : True) (_ : True) :
    Calls Try.prog 5 #[.agg #[.int .i64 f0, .int .i64 f1, .int .i64 f2, .int .i64 f3, .int .i64 f4, p], .agg #[.int .i64 g0, .int .i64 g1, .int .i64 g2, .int .i64 g3, .int .i64 g4, q]] w fun e w' => e = .returned (.bool true) ∧ Only Nil w w' := by
  obtain ⟨c, hc⟩ : ∃ c : Cal, c = ⟨f0, f1, f2, f3, f4, []⟩ := ⟨_, rfl⟩
  obtain ⟨d, hd⟩ : ∃ d : Cal, d = ⟨g0, g1, g2, g3, g4, []⟩ := ⟨_, rfl⟩
  rw [show (#[.agg #[.int .i64 f0, .int .i64 f1, .int .i64 f2, .int .i64 f3, .int .i64 f4, p], .agg #[.int .i64 g0, .int .i64 g1, .int .i64 g2, .int .i64 g3, .int .i64 g4, q]] : Array Value) = #[.agg #[.int .i64 c.t, .int .i64 c.o, .int .i64 c.f, .int .i64 c.g, .int .i64 c.r, p], .agg #[.int .i64 d.t, .int .i64 d.o, .int .i64 d.f, .int .i64 d.g, .int .i64 d.r, q]] by rw [hc, hd]]
  clear hc hd
  have H1 := Lib.hid (fun W => overlap_any c d p q W)
  have H2 := Lib.hid (fun W => roverlap_any c d p q W)
  have H3 := Lib.hid (fun W => overlap_any d c q p W)
  rw [over_sym] at H3
  have H4 := Lib.hid (fun W => overlap_any c c p p W)
  have HAW := Lib.hid (fun W => awake_any W)
  generalize overB c d = x at *
  have e1 := (Only.refl Nil w).alloc (.cells #[.int .i64 c.t, .int .i64 c.o, .int .i64 c.f, .int .i64 c.g, .int .i64 c.r, p] 38)
  have HO := Lib.hid (e1.alloc (.cells #[.int .i64 d.t, .int .i64 d.o, .int .i64 d.f, .int .i64 d.g, .int .i64 d.r, q] 38))
  have HA := Lib.hid ((Row.new w 38 #[.int .i64 c.t, .int .i64 c.o, .int .i64 c.f, .int .i64 c.g, .int .i64 c.r, p]).alloc (.cells #[.int .i64 d.t, .int .i64 d.o, .int .i64 d.f, .int .i64 d.g, .int .i64 d.r, q] 38))
  have HB := Lib.hid (Row.new2 w (.cells #[.int .i64 c.t, .int .i64 c.o, .int .i64 c.f, .int .i64 c.g, .int .i64 c.r, p] 38) 38 #[.int .i64 d.t, .int .i64 d.o, .int .i64 d.f, .int .i64 d.g, .int .i64 d.r, q])
  clear e1
  go_enter Try.func5, Try.ntmps5
  go_upto_region 1 with (fail)
  generalize (w.alloc (.cells #[.int .i64 c.t, .int .i64 c.o, .int .i64 c.f, .int .i64 c.g, .int .i64 c.r, p] 38)).alloc (.cells #[.int .i64 d.t, .int .i64 d.o, .int .i64 d.f, .int .i64 d.g, .int .i64 d.r, q] 38) = w1 at *
  generalize w.heap.size = B at *
  have hS := Lib.hid (fun (W : World) (ho : Only Nil w1 W) => (⟨(HA.out.only ho id).cell_ (i := 0) rfl, (HA.out.only ho id).cell_ (i := 1) rfl, (HA.out.only ho id).cell_ (i := 2) rfl, (HA.out.only ho id).cell_ (i := 3) rfl, (HA.out.only ho id).cell_ (i := 4) rfl, (HA.out.only ho id).cell_ (i := 5) rfl, (HB.out.only ho id).cell_ (i := 0) rfl, (HB.out.only ho id).cell_ (i := 1) rfl, (HB.out.only ho id).cell_ (i := 2) rfl, (HB.out.only ho id).cell_ (i := 3) rfl, (HB.out.only ho id).cell_ (i := 4) rfl, (HB.out.only ho id).cell_ (i := 5) rfl⟩ :
    W.cell? ⟨B, 0, none⟩ = some (.int .i64 c.t) ∧ W.cell? ⟨B, 1, none⟩ = some (.int .i64 c.o) ∧ W.cell? ⟨B, 2, none⟩ = some (.int .i64 c.f) ∧ W.cell? ⟨B, 3, none⟩ = some (.int .i64 c.g) ∧ W.cell? ⟨B, 4, none⟩ = some (.int .i64 c.r) ∧ W.cell? ⟨B, 5, none⟩ = some p ∧ W.cell? ⟨B + 1, 0, none⟩ = some (.int .i64 d.t) ∧ W.cell? ⟨B + 1, 1, none⟩ = some (.int .i64 d.o) ∧ W.cell? ⟨B + 1, 2, none⟩ = some (.int .i64 d.f) ∧ W.cell? ⟨B + 1, 3, none⟩ = some (.int .i64 d.g) ∧ W.cell? ⟨B + 1, 4, none⟩ = some (.int .i64 d.r) ∧ W.cell? ⟨B + 1, 5, none⟩ = some q))
  have HE0 := Lib.hid ((Only.refl Nil w1).drew)
  by_cases z1 : 0 ≤ c.g
  · have k1' : decide (c.g ≥ 0) = true := by simpa using z1
    by_cases z2 : c.g < c.f
    · have k2' : decide (c.g < c.f) = true := by simpa using z2
      clear H4 z1 z2
      refine wp_region_held_drew (S := fun w' => w'.cell? ⟨B, 0, none⟩ = some (.int .i64 c.t) ∧ w'.cell? ⟨B, 1, none⟩ = some (.int .i64 c.o) ∧ w'.cell? ⟨B, 2, none⟩ = some (.int .i64 c.f) ∧ w'.cell? ⟨B, 3, none⟩ = some (.int .i64 c.g) ∧ w'.cell? ⟨B, 4, none⟩ = some (.int .i64 c.r) ∧ w'.cell? ⟨B, 5, none⟩ = some p ∧ w'.cell? ⟨B + 1, 0, none⟩ = some (.int .i64 d.t) ∧ w'.cell? ⟨B + 1, 1, none⟩ = some (.int .i64 d.o) ∧ w'.cell? ⟨B + 1, 2, none⟩ = some (.int .i64 d.f) ∧ w'.cell? ⟨B + 1, 3, none⟩ = some (.int .i64 d.g) ∧ w'.cell? ⟨B + 1, 4, none⟩ = some (.int .i64 d.r) ∧ w'.cell? ⟨B + 1, 5, none⟩ = some q) (by kernel_rfl) (hS.out _ HE0.out) (fun hHeld => ?_)
      refine zk 0 rfl (hw := by kernel_rfl) ?_
      refine zk 1 rfl (hw := by kernel_rfl) ?_
      refine zk 3 rfl (hw := by kernel_rfl) ?_
      refine zk 4 rfl (hw := by kernel_rfl) ?_
      refine mcl 2 rfl (by kernel_rfl) (by kernel_rfl) (fun K hK => ?_)
      go_simp
      refine (H1.out _).mono ?_
      rintro e v2 ⟨rfl, hO⟩
      have HE2 := Lib.hid (HE0.out.trans hO)
      refine hK.out _ _ (hS.out _ HE2.out) (fun hHeld2 => ?_)
      clear hK K hO
      try simp only [Act.put, k1, k2, k3]
      refine mcl 5 rfl (by kernel_rfl) (by kernel_rfl) (fun K hK => ?_)
      go_simp
      refine (H2.out _).mono ?_
      rintro e v5 ⟨rfl, hO⟩
      have HE5 := Lib.hid (HE2.out.trans hO)
      refine hK.out _ _ (hS.out _ HE5.out) (fun hHeld5 => ?_)
      clear hK K hO
      try simp only [Act.put, k1, k2, k3]
      refine zk 6 rfl (hw := by kernel_rfl) ?_
      refine zk 7 rfl (hw := by kernel_rfl) ?_
      refine zk 8 rfl (hw := by kernel_rfl) ?_
      refine zk 9 rfl (hw := by kernel_rfl) ?_
      refine zk 11 rfl (hw := by kernel_rfl) ?_
      refine zk 12 rfl (hw := by kernel_rfl) ?_
      refine mcl 10 rfl (by kernel_rfl) (by kernel_rfl) (fun K hK => ?_)
      go_simp
      refine (H1.out _).mono ?_
      rintro e v10 ⟨rfl, hO⟩
      have HE10 := Lib.hid (HE5.out.trans hO)
      refine hK.out _ _ (hS.out _ HE10.out) (fun hHeld10 => ?_)
      clear hK K hO
      try simp only [Act.put, k1, k2, k3]
      refine mcl 13 rfl (by kernel_rfl) (by kernel_rfl) (fun K hK => ?_)
      go_simp
      refine (H3.out _).mono ?_
      rintro e v13 ⟨rfl, hO⟩
      have HE13 := Lib.hid (HE10.out.trans hO)
      refine hK.out _ _ (hS.out _ HE13.out) (fun hHeld13 => ?_)
      clear hK K hO
      try simp only [Act.put, k1, k2, k3]
      refine zk 14 rfl (hw := by kernel_rfl) ?_
      refine zk 15 rfl (hw := by kernel_rfl) ?_
      refine zk 16 rfl (hw := by kernel_rfl) ?_
      refine zk 17 rfl (hw := by kernel_rfl) ?_
      refine zk 18 rfl (hw := by kernel_rfl) ?_
      refine zk 19 rfl (hw := by kernel_rfl) ?_
      refine zk 20 rfl (hw := by kernel_rfl) ?_
      refine zk 21 rfl (hw := by kernel_rfl) ?_
      refine zk 22 rfl (hw := by kernel_rfl) ?_
      refine zk 23 rfl (hw := by kernel_rfl) ?_
      refine zk 24 rfl (hw := by kernel_rfl) ?_
      refine zk 25 rfl (hw := by kernel_rfl) ?_
      refine zk 26 rfl (hw := by kernel_rfl) ?_
      refine zk 27 rfl (hw := by kernel_rfl) ?_
      refine mps 28 rfl (hw := by kernel_rfl) ?_
      try simp only [Act.put, k1, k2, k3]
      refine mps 29 rfl (hw := by kernel_rfl) ?_
      try simp only [Act.put, k1, k2, k3]
      refine mps 30 rfl (hw := by kernel_rfl) ?_
      try simp only [Act.put, k1, k2, k3]
      refine zk 31 rfl (hw := by kernel_rfl) ?_
      refine zk 32 rfl (hw := by kernel_rfl) ?_
      refine zk 33 rfl (hw := by kernel_rfl) ?_
      refine mcl 34 rfl (by kernel_rfl) (by kernel_rfl) (fun K hK => ?_)
      go_simp
      refine (HAW.out _).mono ?_
      rintro e v34 ⟨rfl, hO⟩
      have HE34 := Lib.hid (HE13.out.trans hO)
      refine hK.out _ _ (hS.out _ HE34.out) (fun hHeld34 => ?_)
      clear hK K hO
      try simp only [Act.put, k1, k2, k3]
      refine zk 35 rfl (hw := by kernel_rfl) ?_
      refine zk 36 rfl (hw := by kernel_rfl) ?_
      refine wpAnyH_done (by kernel_rfl) ?_ _
      go_wp2
      go_ret
      exact ⟨rfl, HO.out.trans HE34.out⟩
    · have k2' : decide (c.g < c.f) = false := by simpa using z2
      rw [show overB c c = true by unfold overB aheadB; rw [k2', Bool.and_false]; rfl] at H4
      clear z1 z2
      refine wp_region_held_drew (S := fun w' => w'.cell? ⟨B, 0, none⟩ = some (.int .i64 c.t) ∧ w'.cell? ⟨B, 1, none⟩ = some (.int .i64 c.o) ∧ w'.cell? ⟨B, 2, none⟩ = some (.int .i64 c.f) ∧ w'.cell? ⟨B, 3, none⟩ = some (.int .i64 c.g) ∧ w'.cell? ⟨B, 4, none⟩ = some (.int .i64 c.r) ∧ w'.cell? ⟨B, 5, none⟩ = some p ∧ w'.cell? ⟨B + 1, 0, none⟩ = some (.int .i64 d.t) ∧ w'.cell? ⟨B + 1, 1, none⟩ = some (.int .i64 d.o) ∧ w'.cell? ⟨B + 1, 2, none⟩ = some (.int .i64 d.f) ∧ w'.cell? ⟨B + 1, 3, none⟩ = some (.int .i64 d.g) ∧ w'.cell? ⟨B + 1, 4, none⟩ = some (.int .i64 d.r) ∧ w'.cell? ⟨B + 1, 5, none⟩ = some q) (by kernel_rfl) (hS.out _ HE0.out) (fun hHeld => ?_)
      refine zk 0 rfl (hw := by kernel_rfl) ?_
      refine zk 1 rfl (hw := by kernel_rfl) ?_
      refine zk 3 rfl (hw := by kernel_rfl) ?_
      refine zk 4 rfl (hw := by kernel_rfl) ?_
      refine mcl 2 rfl (by kernel_rfl) (by kernel_rfl) (fun K hK => ?_)
      go_simp
      refine (H1.out _).mono ?_
      rintro e v2 ⟨rfl, hO⟩
      have HE2 := Lib.hid (HE0.out.trans hO)
      refine hK.out _ _ (hS.out _ HE2.out) (fun hHeld2 => ?_)
      clear hK K hO
      try simp only [Act.put, k1, k2, k3]
      refine mcl 5 rfl (by kernel_rfl) (by kernel_rfl) (fun K hK => ?_)
      go_simp
      refine (H2.out _).mono ?_
      rintro e v5 ⟨rfl, hO⟩
      have HE5 := Lib.hid (HE2.out.trans hO)
      refine hK.out _ _ (hS.out _ HE5.out) (fun hHeld5 => ?_)
      clear hK K hO
      try simp only [Act.put, k1, k2, k3]
      refine zk 6 rfl (hw := by kernel_rfl) ?_
      refine zk 7 rfl (hw := by kernel_rfl) ?_
      refine zk 8 rfl (hw := by kernel_rfl) ?_
      refine zk 9 rfl (hw := by kernel_rfl) ?_
      refine zk 11 rfl (hw := by kernel_rfl) ?_
      refine zk 12 rfl (hw := by kernel_rfl) ?_
      refine mcl 10 rfl (by kernel_rfl) (by kernel_rfl) (fun K hK => ?_)
      go_simp
      refine (H1.out _).mono ?_
      rintro e v10 ⟨rfl, hO⟩
      have HE10 := Lib.hid (HE5.out.trans hO)
      refine hK.out _ _ (hS.out _ HE10.out) (fun hHeld10 => ?_)
      clear hK K hO
      try simp only [Act.put, k1, k2, k3]
      refine mcl 13 rfl (by kernel_rfl) (by kernel_rfl) (fun K hK => ?_)
      go_simp
      refine (H3.out _).mono ?_
      rintro e v13 ⟨rfl, hO⟩
      have HE13 := Lib.hid (HE10.out.trans hO)
      refine hK.out _ _ (hS.out _ HE13.out) (fun hHeld13 => ?_)
      clear hK K hO
      try simp only [Act.put, k1, k2, k3]
      refine zk 14 rfl (hw := by kernel_rfl) ?_
      refine zk 15 rfl (hw := by kernel_rfl) ?_
      refine zk 16 rfl (hw := by kernel_rfl) ?_
      refine zk 17 rfl (hw := by kernel_rfl) ?_
      refine zk 18 rfl (hw := by kernel_rfl) ?_
      refine zk 19 rfl (hw := by kernel_rfl) ?_
      refine zk 20 rfl (hw := by kernel_rfl) ?_
      refine zk 21 rfl (hw := by kernel_rfl) ?_
      refine zk 22 rfl (hw := by kernel_rfl) ?_
      refine zk 23 rfl (hw := by kernel_rfl) ?_
      refine zk 24 rfl (hw := by kernel_rfl) ?_
      refine zk 25 rfl (hw := by kernel_rfl) ?_
      refine zk 26 rfl (hw := by kernel_rfl) ?_
      refine zk 27 rfl (hw := by kernel_rfl) ?_
      refine zk 28 rfl (hw := by kernel_rfl) ?_
      refine zk 29 rfl (hw := by kernel_rfl) ?_
      refine mcl 30 rfl (by kernel_rfl) (by kernel_rfl) (fun K hK => ?_)
      go_simp
      refine (H4.out _).mono ?_
      rintro e v30 ⟨rfl, hO⟩
      have HE30 := Lib.hid (HE13.out.trans hO)
      refine hK.out _ _ (hS.out _ HE30.out) (fun hHeld30 => ?_)
      clear hK K hO
      try simp only [Act.put, k1, k2, k3]
      refine zk 31 rfl (hw := by kernel_rfl) ?_
      refine zk 32 rfl (hw := by kernel_rfl) ?_
      refine zk 33 rfl (hw := by kernel_rfl) ?_
      refine mcl 34 rfl (by kernel_rfl) (by kernel_rfl) (fun K hK => ?_)
      go_simp
      refine (HAW.out _).mono ?_
      rintro e v34 ⟨rfl, hO⟩
      have HE34 := Lib.hid (HE30.out.trans hO)
      refine hK.out _ _ (hS.out _ HE34.out) (fun hHeld34 => ?_)
      clear hK K hO
      try simp only [Act.put, k1, k2, k3]
      refine zk 35 rfl (hw := by kernel_rfl) ?_
      refine zk 36 rfl (hw := by kernel_rfl) ?_
      refine wpAnyH_done (by kernel_rfl) ?_ _
      go_wp2
      go_ret
      exact ⟨rfl, HO.out.trans HE34.out⟩
  · have k1' : decide (c.g ≥ 0) = false := by simpa using z1
    rw [show overB c c = true by unfold overB aheadB; rw [decide_eq_false z1, Bool.false_and]; rfl] at H4
    clear z1
    refine wp_region_held_drew (S := fun w' => w'.cell? ⟨B, 0, none⟩ = some (.int .i64 c.t) ∧ w'.cell? ⟨B, 1, none⟩ = some (.int .i64 c.o) ∧ w'.cell? ⟨B, 2, none⟩ = some (.int .i64 c.f) ∧ w'.cell? ⟨B, 3, none⟩ = some (.int .i64 c.g) ∧ w'.cell? ⟨B, 4, none⟩ = some (.int .i64 c.r) ∧ w'.cell? ⟨B, 5, none⟩ = some p ∧ w'.cell? ⟨B + 1, 0, none⟩ = some (.int .i64 d.t) ∧ w'.cell? ⟨B + 1, 1, none⟩ = some (.int .i64 d.o) ∧ w'.cell? ⟨B + 1, 2, none⟩ = some (.int .i64 d.f) ∧ w'.cell? ⟨B + 1, 3, none⟩ = some (.int .i64 d.g) ∧ w'.cell? ⟨B + 1, 4, none⟩ = some (.int .i64 d.r) ∧ w'.cell? ⟨B + 1, 5, none⟩ = some q) (by kernel_rfl) (hS.out _ HE0.out) (fun hHeld => ?_)
    refine zk 0 rfl (hw := by kernel_rfl) ?_
    refine zk 1 rfl (hw := by kernel_rfl) ?_
    refine zk 3 rfl (hw := by kernel_rfl) ?_
    refine zk 4 rfl (hw := by kernel_rfl) ?_
    refine mcl 2 rfl (by kernel_rfl) (by kernel_rfl) (fun K hK => ?_)
    go_simp
    refine (H1.out _).mono ?_
    rintro e v2 ⟨rfl, hO⟩
    have HE2 := Lib.hid (HE0.out.trans hO)
    refine hK.out _ _ (hS.out _ HE2.out) (fun hHeld2 => ?_)
    clear hK K hO
    try simp only [Act.put, k1, k2, k3]
    refine mcl 5 rfl (by kernel_rfl) (by kernel_rfl) (fun K hK => ?_)
    go_simp
    refine (H2.out _).mono ?_
    rintro e v5 ⟨rfl, hO⟩
    have HE5 := Lib.hid (HE2.out.trans hO)
    refine hK.out _ _ (hS.out _ HE5.out) (fun hHeld5 => ?_)
    clear hK K hO
    try simp only [Act.put, k1, k2, k3]
    refine zk 6 rfl (hw := by kernel_rfl) ?_
    refine zk 7 rfl (hw := by kernel_rfl) ?_
    refine zk 8 rfl (hw := by kernel_rfl) ?_
    refine zk 9 rfl (hw := by kernel_rfl) ?_
    refine zk 11 rfl (hw := by kernel_rfl) ?_
    refine zk 12 rfl (hw := by kernel_rfl) ?_
    refine mcl 10 rfl (by kernel_rfl) (by kernel_rfl) (fun K hK => ?_)
    go_simp
    refine (H1.out _).mono ?_
    rintro e v10 ⟨rfl, hO⟩
    have HE10 := Lib.hid (HE5.out.trans hO)
    refine hK.out _ _ (hS.out _ HE10.out) (fun hHeld10 => ?_)
    clear hK K hO
    try simp only [Act.put, k1, k2, k3]
    refine mcl 13 rfl (by kernel_rfl) (by kernel_rfl) (fun K hK => ?_)
    go_simp
    refine (H3.out _).mono ?_
    rintro e v13 ⟨rfl, hO⟩
    have HE13 := Lib.hid (HE10.out.trans hO)
    refine hK.out _ _ (hS.out _ HE13.out) (fun hHeld13 => ?_)
    clear hK K hO
    try simp only [Act.put, k1, k2, k3]
    refine zk 14 rfl (hw := by kernel_rfl) ?_
    refine zk 15 rfl (hw := by kernel_rfl) ?_
    refine zk 16 rfl (hw := by kernel_rfl) ?_
    refine zk 17 rfl (hw := by kernel_rfl) ?_
    refine zk 18 rfl (hw := by kernel_rfl) ?_
    refine zk 19 rfl (hw := by kernel_rfl) ?_
    refine zk 20 rfl (hw := by kernel_rfl) ?_
    refine mps 21 rfl (hw := by kernel_rfl) ?_
    try simp only [Act.put, k1, k2, k3]
    refine mps 22 rfl (hw := by kernel_rfl) ?_
    try simp only [Act.put, k1, k2, k3]
    refine mps 23 rfl (hw := by kernel_rfl) ?_
    try simp only [Act.put, k1, k2, k3]
    refine mps 24 rfl (hw := by kernel_rfl) ?_
    try simp only [Act.put, k1, k2, k3]
    refine mps 25 rfl (hw := by kernel_rfl) ?_
    try simp only [Act.put, k1, k2, k3]
    refine zk 26 rfl (hw := by kernel_rfl) ?_
    refine zk 27 rfl (hw := by kernel_rfl) ?_
    refine zk 28 rfl (hw := by kernel_rfl) ?_
    refine zk 29 rfl (hw := by kernel_rfl) ?_
    refine mcl 30 rfl (by kernel_rfl) (by kernel_rfl) (fun K hK => ?_)
    go_simp
    refine (H4.out _).mono ?_
    rintro e v30 ⟨rfl, hO⟩
    have HE30 := Lib.hid (HE13.out.trans hO)
    refine hK.out _ _ (hS.out _ HE30.out) (fun hHeld30 => ?_)
    clear hK K hO
    try simp only [Act.put, k1, k2, k3]
    refine zk 31 rfl (hw := by kernel_rfl) ?_
    refine zk 32 rfl (hw := by kernel_rfl) ?_
    refine zk 33 rfl (hw := by kernel_rfl) ?_
    refine mcl 34 rfl (by kernel_rfl) (by kernel_rfl) (fun K hK => ?_)
    go_simp
    refine (HAW.out _).mono ?_
    rintro e v34 ⟨rfl, hO⟩
    have HE34 := Lib.hid (HE30.out.trans hO)
    refine hK.out _ _ (hS.out _ HE34.out) (fun hHeld34 => ?_)
    clear hK K hO
    try simp only [Act.put, k1, k2, k3]
    refine zk 35 rfl (hw := by kernel_rfl) ?_
    refine zk 36 rfl (hw := by kernel_rfl) ?_
    refine wpAnyH_done (by kernel_rfl) ?_ _
    go_wp2
    go_ret
    exact ⟨rfl, HO.out.trans HE34.out⟩
end Go.Proofs.Ytigdbokfapedcaa
