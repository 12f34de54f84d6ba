/- The cells of a lock's tasks: place's calls and the reference's, awake. -/
import Derived.Test.YtkflcjnjiiikoaaDoorKit
import Derived.Test.YtkflcjnjiiikoaaDoorChecked
namespace Go.Proofs.YtkflcjnjiiikoaaDoor
open Go.RowKit

def okN (n : Int) : Bool := decide (1 ≤ n) && decide (n ≤ 64)
theorem okN_yes {n : Int} (h : 1 ≤ n ∧ n ≤ 64) : okN n = true := by simp [okN, h.1, h.2]
theorem okN_no {n : Int} (h : ¬ (1 ≤ n ∧ n ≤ 64)) : okN n = false := by
  simp only [okN, Bool.and_eq_false_iff, decide_eq_false_iff_not]; omega
/-- The cell of a task in a row, or -1. -/
def cellI (n row i : Int) : Int := if 1 ≤ n ∧ n ≤ 64 ∧ 0 ≤ i ∧ i < n then 8 + row * n + i else -1
def sizeI (n : Int) : Int := if 1 ≤ n ∧ n ≤ 64 then 8 + 4 * n else 0

theorem ret_int {k : IntKind} {a b : Int} (h : a = b) : Ending.returned (.int k a) = .returned (.int k b) := by rw [h]

theorem isCount_any (n : Int) (w : World) :
    Calls Tryd.prog 21 #[.int .i64 n] w fun e w' => e = .returned (.bool (okN n)) ∧ w = w' := by
  by_cases h1 : 1 ≤ n
  · by_cases h2 : n ≤ 64
    · rw [okN_yes ⟨h1, h2⟩]
      go_enter Tryd.func21, Tryd.ntmps21
      go_wp2
      go_ret
      exact ⟨rfl, rfl⟩
    · rw [okN_no (fun h => h2 h.2)]
      go_enter Tryd.func21, Tryd.ntmps21
      go_wp2
      go_ret
      exact ⟨rfl, rfl⟩
  · rw [okN_no (fun h => h1 h.1)]
    go_enter Tryd.func21, Tryd.ntmps21
    go_wp2
    go_ret
    exact ⟨rfl, rfl⟩

theorem cell_row (n row i : Int) (w : World) (hr : row = 0 ∨ row = 1 ∨ row = 2 ∨ row = 3) :
    Calls Tryd.prog 22 #[.agg #[.int .i64 n], .int .i64 row, .int .i64 i] w fun e w' => e = .returned (.int .i64 (cellI n row i)) ∧ Only Nil w w' := by
  by_cases hn : 1 ≤ n ∧ n ≤ 64
  · by_cases h0 : 0 ≤ i
    · by_cases h1 : i < n
      · have hc : cellI n row i = 8 + row * n + i := if_pos ⟨hn.1, hn.2, h0, h1⟩
        rw [hc]
        clear hc
        have HK := Lib.hid (okN_yes hn)
        obtain ⟨n1, n2⟩ := hn
        rcases hr with rfl | rfl | rfl | rfl
        all_goals
          go_enter Tryd.func22, Tryd.ntmps22
          go_wp2_with fail
          refine (isCount_any n _).mono ?_
          rw [HK.out]
          rintro e w1 ⟨rfl, rfl⟩
          go_wp2
          go_ret
          exact ⟨ret_int (by omega), by (repeat' (first | (with_reducible exact Only.refl _ _) | (with_reducible assumption) | (with_reducible refine Only.setCell ?_ ?_ _) | (with_reducible refine Only.drewN ?_ _) | (with_reducible refine Only.drew ?_) | (with_reducible refine Only.alloc ?_ _) | (left; simp; done) | (left; simp; omega) | (right; rfl)))⟩
      · have hc : cellI n row i = -1 := if_neg (fun h => h1 h.2.2.2)
        rw [hc]
        clear hc hr
        have HK := Lib.hid (okN_yes hn)
        clear hn
        go_enter Tryd.func22, Tryd.ntmps22
        go_wp2_with fail
        refine (isCount_any n _).mono ?_
        rw [HK.out]
        rintro e w1 ⟨rfl, rfl⟩
        go_wp2
        go_ret
        exact ⟨rfl, by (repeat' (first | (with_reducible exact Only.refl _ _) | (with_reducible assumption) | (with_reducible refine Only.setCell ?_ ?_ _) | (with_reducible refine Only.drewN ?_ _) | (with_reducible refine Only.drew ?_) | (with_reducible refine Only.alloc ?_ _) | (left; simp; done) | (left; simp; omega) | (right; rfl)))⟩
    · have hc : cellI n row i = -1 := if_neg (fun h => h0 h.2.2.1)
      rw [hc]
      clear hc hr
      have HK := Lib.hid (okN_yes hn)
      clear hn
      go_enter Tryd.func22, Tryd.ntmps22
      go_wp2_with fail
      refine (isCount_any n _).mono ?_
      rw [HK.out]
      rintro e w1 ⟨rfl, rfl⟩
      go_wp2
      go_ret
      exact ⟨rfl, by (repeat' (first | (with_reducible exact Only.refl _ _) | (with_reducible assumption) | (with_reducible refine Only.setCell ?_ ?_ _) | (with_reducible refine Only.drewN ?_ _) | (with_reducible refine Only.drew ?_) | (with_reducible refine Only.alloc ?_ _) | (left; simp; done) | (left; simp; omega) | (right; rfl)))⟩
  · have hc : cellI n row i = -1 := if_neg (fun h => hn ⟨h.1, h.2.1⟩)
    rw [hc]
    clear hc hr
    have HK := Lib.hid (okN_no hn)
    clear hn
    go_enter Tryd.func22, Tryd.ntmps22
    go_wp2_with fail
    refine (isCount_any n _).mono ?_
    rw [HK.out]
    rintro e w1 ⟨rfl, rfl⟩
    go_wp2
    go_ret
    exact ⟨rfl, by (repeat' (first | (with_reducible exact Only.refl _ _) | (with_reducible assumption) | (with_reducible refine Only.setCell ?_ ?_ _) | (with_reducible refine Only.drewN ?_ _) | (with_reducible refine Only.drew ?_) | (with_reducible refine Only.alloc ?_ _) | (left; simp; done) | (left; simp; omega) | (right; rfl)))⟩

theorem next_any (n i : Int) (w : World) :
    Calls Tryd.prog 9 #[.agg #[.int .i64 n], .int .i64 i] w fun e w' => e = .returned (.int .i64 (cellI n 0 i)) ∧ Only Nil w w' := by
  go_enter Tryd.func9, Tryd.ntmps9
  go_wp2_with fail
  refine (cell_row n 0 i _ (by omega)).mono ?_
  rintro e w1 ⟨rfl, hO⟩
  have HO := Lib.hid hO
  clear hO
  go_wp2
  go_ret
  exact ⟨rfl, (Only.alloc (Only.refl _ _) _).trans HO.out⟩

theorem blocked_any (n i : Int) (w : World) :
    Calls Tryd.prog 10 #[.agg #[.int .i64 n], .int .i64 i] w fun e w' => e = .returned (.int .i64 (cellI n 1 i)) ∧ Only Nil w w' := by
  go_enter Tryd.func10, Tryd.ntmps10
  go_wp2_with fail
  refine (cell_row n 1 i _ (by omega)).mono ?_
  rintro e w1 ⟨rfl, hO⟩
  have HO := Lib.hid hO
  clear hO
  go_wp2
  go_ret
  exact ⟨rfl, (Only.alloc (Only.refl _ _) _).trans HO.out⟩

theorem watch_any (n i : Int) (w : World) :
    Calls Tryd.prog 11 #[.agg #[.int .i64 n], .int .i64 i] w fun e w' => e = .returned (.int .i64 (cellI n 2 i)) ∧ Only Nil w w' := by
  go_enter Tryd.func11, Tryd.ntmps11
  go_wp2_with fail
  refine (cell_row n 2 i _ (by omega)).mono ?_
  rintro e w1 ⟨rfl, hO⟩
  have HO := Lib.hid hO
  clear hO
  go_wp2
  go_ret
  exact ⟨rfl, (Only.alloc (Only.refl _ _) _).trans HO.out⟩

theorem permit_any (n i : Int) (w : World) :
    Calls Tryd.prog 12 #[.agg #[.int .i64 n], .int .i64 i] w fun e w' => e = .returned (.int .i64 (cellI n 3 i)) ∧ Only Nil w w' := by
  go_enter Tryd.func12, Tryd.ntmps12
  go_wp2_with fail
  refine (cell_row n 3 i _ (by omega)).mono ?_
  rintro e w1 ⟨rfl, hO⟩
  have HO := Lib.hid hO
  clear hO
  go_wp2
  go_ret
  exact ⟨rfl, (Only.alloc (Only.refl _ _) _).trans HO.out⟩

theorem size_any (n : Int) (w : World) :
    Calls Tryd.prog 13 #[.agg #[.int .i64 n]] w fun e w' => e = .returned (.int .i64 (sizeI n)) ∧ Only Nil w w' := by
  by_cases hn : 1 ≤ n ∧ n ≤ 64
  · have hc : sizeI n = 8 + 4 * n := if_pos hn
    rw [hc]
    clear hc
    have HK := Lib.hid (okN_yes hn)
    obtain ⟨n1, n2⟩ := hn
    go_enter Tryd.func13, Tryd.ntmps13
    go_wp2_with fail
    refine (isCount_any n _).mono ?_
    rw [HK.out]
    rintro e w1 ⟨rfl, rfl⟩
    go_wp2
    go_ret
    exact ⟨rfl, by (repeat' (first | (with_reducible exact Only.refl _ _) | (with_reducible assumption) | (with_reducible refine Only.setCell ?_ ?_ _) | (with_reducible refine Only.drewN ?_ _) | (with_reducible refine Only.drew ?_) | (with_reducible refine Only.alloc ?_ _) | (left; simp; done) | (left; simp; omega) | (right; rfl)))⟩
  · have hc : sizeI n = 0 := if_neg hn
    rw [hc]
    clear hc
    have HK := Lib.hid (okN_no hn)
    clear hn
    go_enter Tryd.func13, Tryd.ntmps13
    go_wp2_with fail
    refine (isCount_any n _).mono ?_
    rw [HK.out]
    rintro e w1 ⟨rfl, rfl⟩
    go_wp2
    go_ret
    exact ⟨rfl, by (repeat' (first | (with_reducible exact Only.refl _ _) | (with_reducible assumption) | (with_reducible refine Only.setCell ?_ ?_ _) | (with_reducible refine Only.drewN ?_ _) | (with_reducible refine Only.drew ?_) | (with_reducible refine Only.alloc ?_ _) | (left; simp; done) | (left; simp; omega) | (right; rfl)))⟩

theorem new_yes (n : Int) (w : World) (hn : 1 ≤ n ∧ n ≤ 64) :
    Calls Tryd.prog 8 #[.int .i64 n] w fun e w' => e = .returned (.tuple #[.agg #[.int .i64 n], .int .i64 0]) ∧ Only Nil w w' := by
  have HK := Lib.hid (okN_yes hn)
  clear hn
  go_enter Tryd.func8, Tryd.ntmps8
  go_wp2_with fail
  refine (isCount_any n _).mono ?_
  rw [HK.out]
  rintro e w1 ⟨rfl, rfl⟩
  go_wp2
  exact bodyPost_ret (v := .tuple #[.agg #[.int .i64 n], .int .i64 0]) (by simp [results, Tryd.results8, go_sem]) rfl ⟨rfl, by (repeat' (first | (with_reducible exact Only.refl _ _) | (with_reducible assumption) | (with_reducible refine Only.setCell ?_ ?_ _) | (with_reducible refine Only.drewN ?_ _) | (with_reducible refine Only.drew ?_) | (with_reducible refine Only.alloc ?_ _) | (left; simp; done) | (left; simp; omega) | (right; rfl)))⟩

theorem new_no (n : Int) (w : World) (hn : ¬ (1 ≤ n ∧ n ≤ 64)) :
    Calls Tryd.prog 8 #[.int .i64 n] w fun e w' => e = .returned (.tuple #[.agg #[.int .i64 0], .int .i64 2]) ∧ Only Nil w w' := by
  have HK := Lib.hid (okN_no hn)
  clear hn
  go_enter Tryd.func8, Tryd.ntmps8
  go_wp2_with fail
  refine (isCount_any n _).mono ?_
  rw [HK.out]
  rintro e w1 ⟨rfl, rfl⟩
  go_wp2
  exact bodyPost_ret (v := .tuple #[.agg #[.int .i64 0], .int .i64 2]) (by simp [results, Tryd.results8, go_sem]) rfl ⟨rfl, by (repeat' (first | (with_reducible exact Only.refl _ _) | (with_reducible assumption) | (with_reducible refine Only.setCell ?_ ?_ _) | (with_reducible refine Only.drewN ?_ _) | (with_reducible refine Only.drew ?_) | (with_reducible refine Only.alloc ?_ _) | (left; simp; done) | (left; simp; omega) | (right; rfl)))⟩

theorem awake_any (w : World) :
    Calls Tryd.prog 7 #[] w fun e w' => e = .returned (.bool true) ∧ Only Nil w w' := by
  have E1 := Lib.hid (show cellI 2 3 1 = 15 by decide)
  have E2 := Lib.hid (show sizeI 2 = 16 by decide)
  go_enter Tryd.func7, Tryd.ntmps7
  go_wp2_with fail
  refine (new_yes 2 _ (by omega)).mono ?_
  rintro e w1 ⟨rfl, hO⟩
  have HO := Lib.hid hO
  clear hO
  go_wp2_with fail
  refine (permit_any 2 1 _).mono ?_
  rw [E1.out]
  rintro e w2 ⟨rfl, hO⟩
  have HO2 := Lib.hid hO
  have hz : w1.heap.size < w2.heap.size := by have := hO.size; simp at this; omega
  have hc := hO.cell (p := ⟨w1.heap.size, 0, none⟩) (by simp) id
  rw [show (w1.alloc (.cells #[.int .i64 2] 23)).cell? ⟨w1.heap.size, 0, none⟩ = some (.int .i64 2) from (Row.new _ _ _).cell_ (i := 0) rfl] at hc
  clear hO
  go_wp2_with fail
  refine (size_any 2 _).mono ?_
  rw [E2.out]
  rintro e w3 ⟨rfl, hO⟩
  have HO3 := Lib.hid hO
  clear hO
  go_wp2
  go_ret
  exact ⟨rfl, ((HO.out.alloc _).trans HO2.out).trans HO3.out⟩

theorem refSize_any (n : Int) (w : World) :
    Calls Tryd.prog 18 #[.int .i64 n] w fun e w' => e = .returned (.int .i64 (sizeI n)) ∧ w = w' := by
  by_cases h1 : 1 ≤ n
  · by_cases h2 : n ≤ 64
    · have hc : sizeI n = 8 + 4 * n := if_pos ⟨h1, h2⟩
      rw [hc]
      clear hc
      go_enter Tryd.func18, Tryd.ntmps18
      go_wp2
      go_ret
      exact ⟨rfl, rfl⟩
    · have hc : sizeI n = 0 := if_neg (fun h => h2 h.2)
      rw [hc]
      clear hc
      go_enter Tryd.func18, Tryd.ntmps18
      go_wp2
      go_ret
      exact ⟨rfl, rfl⟩
  · have hc : sizeI n = 0 := if_neg (fun h => h1 h.1)
    rw [hc]
    clear hc
    go_enter Tryd.func18, Tryd.ntmps18
    go_wp2
    go_ret
    exact ⟨rfl, rfl⟩
theorem refCell_any (n row i : Int) (w : World) (hr : row = 0 ∨ row = 1 ∨ row = 2 ∨ row = 3) :
    Calls Tryd.prog 19 #[.int .i64 n, .int .i64 row, .int .i64 i] w fun e w' => e = .returned (.int .i64 (cellI n row i)) ∧ w = w' := by
  by_cases h1 : 1 ≤ n
  · by_cases h2 : n ≤ 64
    · by_cases h3 : 0 ≤ i
      · by_cases h4 : i < n
        · have hc : cellI n row i = 8 + row * n + i := if_pos ⟨h1, h2, h3, h4⟩
          rw [hc]
          clear hc
          rcases hr with rfl | rfl | rfl | rfl
          all_goals
            go_enter Tryd.func19, Tryd.ntmps19
            go_wp2
            go_ret
            exact ⟨ret_int (by omega), rfl⟩
        · have hc : cellI n row i = -1 := if_neg (fun h => h4 h.2.2.2)
          rw [hc]
          clear hc hr
          go_enter Tryd.func19, Tryd.ntmps19
          go_wp2
          go_ret
          exact ⟨rfl, rfl⟩
      · have hc : cellI n row i = -1 := if_neg (fun h => h3 h.2.2.1)
        rw [hc]
        clear hc hr
        go_enter Tryd.func19, Tryd.ntmps19
        go_wp2
        go_ret
        exact ⟨rfl, rfl⟩
    · have hc : cellI n row i = -1 := if_neg (fun h => h2 h.2.1)
      rw [hc]
      clear hc hr
      go_enter Tryd.func19, Tryd.ntmps19
      go_wp2
      go_ret
      exact ⟨rfl, rfl⟩
  · have hc : cellI n row i = -1 := if_neg (fun h => h1 h.1)
    rw [hc]
    clear hc hr
    go_enter Tryd.func19, Tryd.ntmps19
    go_wp2
    go_ret
    exact ⟨rfl, rfl⟩

end Go.Proofs.YtkflcjnjiiikoaaDoor
